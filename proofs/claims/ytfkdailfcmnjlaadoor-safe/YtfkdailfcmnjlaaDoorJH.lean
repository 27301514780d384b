/-
  Looking a code through: what stands between the rounds. The program looks a code through. The program's reading of bytes: how many follow, which number they are.
-/
import Derived.Test.YtfkdailfcmnjlaaDoorJA
import Derived.Test.YtfkdailfcmnjlaaDoorJB
import Derived.Test.YtfkdailfcmnjlaaDoorJC
import Derived.Test.YtfkdailfcmnjlaaDoorJD
import Derived.Test.YtfkdailfcmnjlaaDoorJE
import Derived.Test.YtfkdailfcmnjlaaDoorJF
import Derived.Test.YtfkdailfcmnjlaaDoorJG
set_option linter.unusedVariables false
set_option linter.unusedSimpArgs false
namespace Go.Proofs.YtfkdailfcmnjlaaDoor
open Go Go.RowKit
set_option maxRecDepth 100000

/-- Where a jump comes to, as the program keeps it. -/
def toOf (ins : List Ins) (x : Ins) : Int := if x.op = 15 ∨ x.op = 16 then (((jumpTo ins x).getD 0 : Nat) : Int) else 0
/-- A code in memory. -/
structure CodeAt (w : World) (cp gi cap cells depth : Nat) (ins : List Ins) : Prop where
  blk : w.heap[cp]? = some (.cells #[.int .i64 cells, .slice (some ⟨gi, 0, none⟩) ins.length cap, .int .i64 depth] 96 (0, 0))
  op : ∀ i, i < ins.length → w.cell? ⟨gi, i * 4, none⟩ = some (.int .i64 ((ins.getD i noIns).op : Nat))
  num : ∀ i, i < ins.length → w.cell? ⟨gi, i * 4 + 1, none⟩ = some (.int .i64 (ins.getD i noIns).n)
  tos : ∀ i, i < ins.length → w.cell? ⟨gi, i * 4 + 2, none⟩ = some (.int .i64 (toOf ins (ins.getD i noIns)))
  pls : ∀ i, i < ins.length → w.cell? ⟨gi, i * 4 + 3, none⟩ = some (.int .i64 ((ins.getD i noIns).pl : Nat))
theorem CodeAt.below {w w' : World} {cp gi cap cells depth : Nat} {ins : List Ins} (h : CodeAt w cp gi cap cells depth ins) (hb : Below w.heap.size w w') : CodeAt w' cp gi cap cells depth ins := by
  have hc : ∀ {o : Nat} {v : Value}, w.cell? ⟨gi, o, none⟩ = some v → w'.cell? ⟨gi, o, none⟩ = some v := fun {o v} e => by
    rw [hb.cell (World.block_lt_of_cell? w _ e)]; exact e
  exact ⟨(hb.block cp (lt_of_get h.blk)).trans h.blk, fun i hi => hc (h.op i hi), fun i hi => hc (h.num i hi), fun i hi => hc (h.tos i hi), fun i hi => hc (h.pls i hi)⟩
/-- A way and the number that the program keeps for it. -/
def LeadIs (n i : Nat) (o : Option Nat) (v : Int) : Prop := (o = none → v = 0 ∨ v = n) ∧ ∀ j, o = some j → v = j ∧ i + 1 ≤ j ∧ j < n
theorem lead_next {n i : Nat} (hi : i < n) : LeadIs n i (if i + 1 < n then some (i + 1) else none) ((i : Int) + 1) := by
  by_cases h : i + 1 < n
  · rw [if_pos h]; exact ⟨fun e => (by cases e), fun j e => by simp at e; omega⟩
  · rw [if_neg h]; exact ⟨fun _ => .inr (by omega), fun j e => by cases e⟩
theorem lead_jump {b : List UInt8} {ins : List Ins} (h : CodeOK b ins) {i : Nat} (hi : i < ins.length) (ho : (ins.getD i noIns).op = 15 ∨ (ins.getD i noIns).op = 16) : LeadIs ins.length i (jumpTo ins (ins.getD i noIns)) (toOf ins (ins.getD i noIns)) := by
  unfold toOf
  rw [if_pos ho]
  cases e : jumpTo ins (ins.getD i noIns) with
  | none => exact ⟨fun _ => .inl rfl, fun j e => by cases e⟩
  | some j =>
    obtain ⟨h1, h2, _⟩ := jump_fwd h hi e
    exact ⟨fun e => (by cases e), fun j' e' => by obtain rfl := Option.some.inj e'; exact ⟨rfl, by omega, h2⟩⟩
theorem leads_go {b : List UInt8} {ins : List Ins} (h : CodeOK b ins) {i : Nat} (hi : i < ins.length) : (goL (ins.getD i noIns).op (toOf ins (ins.getD i noIns)) i).length = (leadsK ins i (ins.getD i noIns)).length ∧ ∀ m, m < (leadsK ins i (ins.getD i noIns)).length → LeadIs ins.length i ((leadsK ins i (ins.getD i noIns)).getD m none) ((goL (ins.getD i noIns).op (toOf ins (ins.getD i noIns)) i).getD m 0) := by
  have hj := lead_jump h hi
  have hx := lead_next hi
  generalize ins.getD i noIns = x at *
  generalize toOf ins x = v at *
  unfold goL leadsK
  by_cases h15 : x.op = 15
  · rw [if_neg (by omega), if_neg (by omega), if_pos h15, if_pos h15]
    refine ⟨rfl, fun m hm => ?_⟩
    have hm' : m < 2 := hm
    match m, hm' with
    | 0, _ => exact hx
    | 1, _ => exact hj (.inl h15)
  · by_cases h16 : x.op = 16
    · rw [if_neg (by omega), if_pos h16, if_neg h15, if_pos h16]
      refine ⟨rfl, fun m hm => ?_⟩
      have hm' : m < 1 := hm
      match m, hm' with
      | 0, _ => exact hj (.inr h16)
    · by_cases h17 : x.op = 17 ∨ x.op = 18
      · rw [if_pos h17, if_neg h15, if_neg h16, if_pos h17]
        exact ⟨rfl, fun m hm => absurd hm (Nat.not_lt_zero m)⟩
      · rw [if_neg h17, if_neg h16, if_neg h15, if_neg h15, if_neg h16, if_neg h17]
        refine ⟨rfl, fun m hm => ?_⟩
        have hm' : m < 1 := hm
        match m, hm' with
        | 0, _ => exact hx
/-- What is known is of types. -/
def ComeTy (cells : Nat) (come : List (Option Kn)) : Prop := ∀ j k, come.getD j none = some k → Tys1 k.st ∧ Tys k.cl ∧ k.cl.length = cells ∧ k.st.length ≤ 24
theorem ComeTy.set {cells : Nat} {come : List (Option Kn)} (h : ComeTy cells come) {j : Nat} {k : Kn} (hk : Tys1 k.st ∧ Tys k.cl ∧ k.cl.length = cells ∧ k.st.length ≤ 24) : ComeTy cells (come.set j (some k)) := fun i k' e => by
  by_cases hij : j = i
  · subst hij
    by_cases hl : j < come.length
    · rw [getD_set_eq hl] at e; obtain rfl := Option.some.inj e; exact hk
    · rw [List.set_eq_of_length_le (by omega)] at e; exact h j k' e
  · rw [getD_set_ne hij] at e; exact h i k' e
theorem meet_tys {a b : List Nat} (h : Tys a) : Tys (meetC a b) := fun t ht => by
  unfold meetC at ht
  obtain ⟨i, hi, e⟩ := List.mem_iff_getElem.1 ht
  have h2 : (meetC a b).getD i 0 = t := by unfold meetC; rw [List.getD_eq_getElem?_getD, List.getElem?_eq_getElem hi, e]; rfl
  rw [meet_at] at h2
  split at h2
  · split at h2
    · rw [← h2, List.getD_eq_getElem?_getD, List.getElem?_eq_getElem (by omega)]
      exact h _ (List.getElem_mem _)
    · omega
  · omega
theorem come0_ty (cells n : Nat) : ComeTy cells (come0 cells n) := fun j k e => by
  unfold come0 at e
  cases j with
  | zero =>
    simp at e
    subst e
    exact ⟨fun t ht => by simp at ht, fun t ht => by simp at ht; omega, by simp, by simp⟩
  | succ j =>
    rw [List.getD_cons_succ, List.getD_eq_getElem?_getD, List.getElem?_replicate] at e
    split at e <;> cases e
/-- Blocks that aren't there yet are nobody's. -/
def ownC (O : Nat → Nat) (s : Nat) (b : Nat) : Nat := if s ≤ b then 0 else O b
theorem ComeAt.below' {w w' : World} {B g lo : Nat} {O : Nat → Nat} {come : List (Option Kn)} (h : ComeAt w B g lo O come) (hb : Below w.heap.size w w') : ComeAt w' B g lo O come := by
  obtain ⟨cs, hc, hsz⟩ := h.blk
  have hg := h.lt
  refine ⟨⟨cs, (hb.block g hg).trans hc, hsz⟩, fun j h1 h2 h3 => ?_, fun j h1 h2 k h3 => ?_, h.own, h.low, h.lowg, Nat.le_trans h.siz hb.size⟩
  · rw [hb.cell (p := ⟨g, j, none⟩) hg]; exact h.non j h1 h2 h3
  · obtain ⟨p, vs, vc, st, c, e1, e2, e3, e4⟩ := h.som j h1 h2 k h3
    exact ⟨p, vs, vc, st, c, by rw [hb.cell (p := ⟨g, j, none⟩) hg]; exact e1, e2.only (Only.of_below (F := fun _ => False) hb) (fun _ _ h => h), e3, e4⟩
theorem ComeAt.norm {w : World} {B g lo : Nat} {O : Nat → Nat} {come : List (Option Kn)} (h : ComeAt w B g lo O come) : ComeAt w B g lo (ownC O w.heap.size) come := by
  have hg := h.lt
  refine ⟨h.blk, h.non, fun j h1 h2 k h3 => ?_, by unfold ownC; rw [if_neg (by omega)]; exact h.own, fun b hb => ?_, h.lowg, h.siz⟩
  · obtain ⟨p, vs, vc, st, c, e1, e2, e3, e4⟩ := h.som j h1 h2 k h3
    exact ⟨p, vs, vc, st, c, e1, e2, e3, fun b hb => by unfold ownC; rw [if_neg (by have := e2.lt hb; omega)]; exact e4 b hb⟩
  · unfold ownC at hb
    split at hb
    · exact absurd rfl hb
    · exact h.low b hb
theorem ComeAt.from {w : World} {B g lo lo' : Nat} {O : Nat → Nat} {come : List (Option Kn)} (h : ComeAt w B g lo O come) (hl : lo ≤ lo') : ComeAt w B g lo' O come :=
  ⟨h.blk, fun j h1 => h.non j (by omega), fun j h1 => h.som j (by omega), h.own, h.low, h.lowg, h.siz⟩
/-- Behind a change at a place: its set has other blocks, those of later places are as they were. -/
theorem ComeAt.change {w w' : World} {B g i p : Nat} {O : Nat → Nat} {come : List (Option Kn)} {vs vc : Value} {st' c' : List Int} (h : ComeAt w B g i O come) (hO : ∀ b, Foot p vs vc b → O b = i + 1) (ho : SetOut w w' p vs vc st' c') :
    ∃ O' vs' vc', ComeAt w' B g (i + 1) O' come ∧ SetAt w' p vs' vc' st' c' ∧ (∀ b, Foot p vs' vc' b → O' b = i + 1) ∧ (∀ b, w'.heap.size ≤ b → O' b = 0) ∧ Below B w w' := by
  obtain ⟨vs', vc', h1, h2, h3⟩ := ho
  have hg := h.lt
  have hgf : ¬ Foot p vs vc g := fun e => by have := hO g e; rw [h.own] at this; omega
  have hbg := h2.block g hg hgf
  obtain ⟨cs, hc, hsz⟩ := h.blk
  have hce : ∀ j, w'.cell? ⟨g, j, none⟩ = w.cell? ⟨g, j, none⟩ := fun j => World.cell?_of_block (w := w) (a := ⟨g, j, none⟩) hbg
  refine ⟨ownC (ownN O w.heap.size i) w'.heap.size, vs', vc', ?_, h1, fun b hb => ?_, fun b hb => by unfold ownC; rw [if_pos hb], h2.below h.siz (fun b _ hb => h.low b (by have := hO b hb; omega))⟩
  · refine ⟨⟨cs, hbg.trans hc, hsz⟩, fun j q1 q2 q3 => ?_, fun j q1 q2 k q3 => ?_, ?_, fun b hb => ?_, h.lowg, Nat.le_trans h.siz h2.size⟩
    · rw [hce]; exact h.non j (by omega) q2 q3
    · obtain ⟨p2, us, uc, st, c, e1, e2, e3, e4⟩ := h.som j (by omega) q2 k q3
      refine ⟨p2, us, uc, st, c, by rw [hce]; exact e1, e2.only h2 (fun b hb hn => ?_), e3, fun b hb => ?_⟩
      · have := e4 b hb; have := hO b hn; omega
      · have hlt := e2.lt hb
        have := h2.size
        unfold ownC ownN
        rw [if_neg (by omega), if_neg (by omega)]; exact e4 b hb
    · have := h2.size
      unfold ownC ownN
      rw [if_neg (by omega), if_neg (by omega)]; exact h.own
    · unfold ownC ownN at hb
      split at hb
      · exact absurd rfl hb
      · split at hb
        · have := h.siz; omega
        · exact h.low b hb
  · have hlt := h1.lt hb
    unfold ownC ownN
    rw [if_neg (by omega)]
    rcases h3 b hb with h4 | h4
    · split
      · rfl
      · exact hO b h4
    · rw [if_pos h4]
/-- Between the ways of an instruction. -/
structure InI (w wi : World) (cells : Nat) (ins : List Ins) (i p : Nat) (vs vc : Value) (st c : List Int) (v : Value) (L : List Int) (k : Kn) (come : List (Option Kn)) (leads : List (Option Nat)) (m : Nat) (O : Nat → Nat) (come' : List (Option Kn)) : Prop where
  at_ : ComeAt wi w.heap.size w.heap.size (i + 1) O come'
  len : come'.length = ins.length
  set : SetAt wi p vs vc st c
  own : ∀ b, Foot p vs vc b → O b = i + 1
  row : IR wi 3 v L
  rowO : ∀ b, v.ownBlock = some b → O b = 0
  bel : Below w.heap.size w wi
  bri : bringK come k leads = bringK come' k (leads.drop m)
  typ : ComeTy cells come'
theorem drop_cons {α : Type} {l : List α} {m : Nat} {d : α} (h : m < l.length) : l.drop m = l.getD m d :: l.drop (m + 1) := by
  rw [List.drop_eq_getElem_cons h, List.getD_eq_getElem?_getD, List.getElem?_eq_getElem h]; rfl
theorem InI.next {w wi w' : World} {cells : Nat} {ins : List Ins} {i p : Nat} {vs vc : Value} {st c : List Int} {v : Value} {L : List Int} {k : Kn} {come : List (Option Kn)} {leads : List (Option Nat)} {m : Nat} {O : Nat → Nat} {come' : List (Option Kn)} (h : InI w wi cells ins i p vs vc st c v L k come leads m O come') {j : Nat} {kk : Kn}
    (hout : ComeOut O wi w' w.heap.size w.heap.size (i + 1) (come'.set j (some kk)) i p vs vc st c) (hb : bringK come' k (leads.drop m) = bringK (come'.set j (some kk)) k (leads.drop (m + 1))) (hk : Tys1 kk.st ∧ Tys kk.cl ∧ kk.cl.length = cells ∧ kk.st.length ≤ 24) : ∃ O', InI w w' cells ins i p vs vc st c v L k come leads (m + 1) O' (come'.set j (some kk)) := by
  obtain ⟨O', h1, h2, h3, h4, h5⟩ := hout
  obtain ⟨cs, hc, _⟩ := h.at_.blk
  have hg : v.ownBlock ≠ some w.heap.size := h.row.ne hc (by decide)
  have hr : ∀ b, v.ownBlock = some b → O' b = 0 ∧ w'.heap[b]? = wi.heap[b]? := fun b hb => h5 b (h.row.lt b hb).2 (fun e => hg (by rw [← e]; exact hb)) (h.rowO b hb)
  exact ⟨O', h1, by simpa using h.len, h2, h3, ownsRow_of_block h.row (fun b hb => (hr b hb).2), fun b hb => (hr b hb).1, h.bel.trans h4, h.bri.trans hb, h.typ.set hk⟩
theorem InI.come {w wi : World} {cells : Nat} {ins : List Ins} {i p cap : Nat} {vs vc : Value} {st c : List Int} {v : Value} {L : List Int} {k : Kn} {come : List (Option Kn)} {leads : List (Option Nat)} {m : Nat} {O : Nat → Nat} {come' : List (Option Kn)} (h : InI w wi cells ins i p vs vc st c v L k come leads m O come') (hkn : KnIs k st c) (hkt : Tys1 k.st ∧ Tys k.cl ∧ k.cl.length = cells ∧ k.st.length ≤ 24) (hcells : cells ≤ 256) (hm : m < leads.length) (hn : ins.length ≤ 4000) (hv : LeadIs ins.length i (leads.getD m none) (L.getD m 0)) :
    Calls Tryd.prog 44 #[.slice (some ⟨w.heap.size, 0, none⟩) ins.length cap, .int .i64 (L.getD m 0), .pointer (some ⟨p, 0, none⟩)] wi fun e w' => ∃ r : Bool, e = .returned (.bool r) ∧ Below w.heap.size w w' ∧ (r = true → ∃ O' come2, InI w w' cells ins i p vs vc st c v L k come leads (m + 1) O' come2) ∧ (r = false → bringK come k leads = none) := by
  have hd := drop_cons (d := none) hm
  have hlen := h.len
  cases ho : leads.getD m none with
  | none =>
    refine (comeTo_fail (by omega) (hv.1 ho) wi).mono ?_
    rintro e w' ⟨rfl, rfl⟩
    refine ⟨false, rfl, h.bel, fun e => (by cases e), fun _ => ?_⟩
    rw [h.bri, hd, ho]; rfl
  | some j =>
    obtain ⟨hj, hj1, hj2⟩ := hv.2 j ho
    rw [hj, ← hlen]
    have hl : st.length ≤ 5000 := by rw [hkn.st]; simp [stI]; omega
    have hc : c.length ≤ 5000 := by have := hkn.len; omega
    cases hc' : come'.getD j none with
    | none =>
      refine (comeTo_new h.at_ h.set hkn h.own (by omega) hj1 (by omega) (by omega) (by omega) hl hc hc').mono ?_
      rintro e w' ⟨rfl, hout⟩
      have hb : bringK come' k (leads.drop m) = bringK (come'.set j (some k)) k (leads.drop (m + 1)) := by rw [hd, ho, bringK, hc']
      obtain ⟨O', h'⟩ := h.next hout hb hkt
      exact ⟨true, rfl, h'.bel, fun _ => ⟨O', _, h'⟩, fun e => by cases e⟩
    | some a =>
      obtain ⟨ta, tb, tc, td⟩ := h.typ j a hc'
      refine (comeTo_old h.at_ h.set hkn h.own (by omega) hj1 (by omega) (by omega) (by omega) hl (by omega) (by omega) (by omega) hc').mono ?_
      rintro e w' ⟨rfl, hout⟩
      by_cases hs : a.st = k.st
      · have hb : bringK come' k (leads.drop m) = bringK (come'.set j (some ⟨a.st, meetC a.cl k.cl⟩)) k (leads.drop (m + 1)) := by
          rw [hd, ho, bringK, hc']; simp only []; rw [if_pos hs]
        obtain ⟨O', h'⟩ := h.next hout hb ⟨ta, meet_tys tb, by simp [meetC]; omega, td⟩
        exact ⟨true, by rw [decide_eq_true hs], h'.bel, fun _ => ⟨O', _, h'⟩, fun e => by cases e⟩
      · obtain ⟨_, _, _, _, hbw, _⟩ := hout
        refine ⟨false, by rw [decide_eq_false hs], h.bel.trans hbw, fun e => (by cases e), fun _ => ?_⟩
        rw [h.bri, hd, ho, bringK, hc']; simp only []; rw [if_neg hs]
end Go.Proofs.YtfkdailfcmnjlaaDoor

namespace Go.Proofs.YtfkdailfcmnjlaaDoor
open Go Go.RowKit
set_option maxRecDepth 100000
attribute [local go_sem ↓] Go.wp_at_zero Go.wp_at_succ

theorem info_ptr : (Tryd.prog.info? 114).map (fun i => (i.zero, i.size, i.bytes)) = some (some (.pointer none), 1, 8) := by kernel_rfl
/-- Between the rounds. -/
def SndI (w wr : World) (cells : Nat) (ins : List Ins) (depth i : Nat) (r : Bool) : Prop :=
  ∃ O come, ComeAt wr w.heap.size w.heap.size i O come ∧ come.length = ins.length ∧ Below w.heap.size w wr ∧ r = flowK ins depth (ins.drop i) i come ∧ ComeTy cells come
theorem snd_start {w : World} {cells n : Nat} (h0 : 0 < n) :
    ComeAt ((w.alloc (.cells ((madeCells #[.pointer none] n).setIfInBounds 0 (.pointer (some ⟨w.heap.size + 1, 0, none⟩))) 114)).alloc (.cells #[.slice none 0 0, .slice none 0 0] 119)) w.heap.size w.heap.size 0 (fun b => if b = w.heap.size + 1 then 1 else 0) (come0 cells n) := by
  have e1 : (w.alloc (.cells ((madeCells #[.pointer none] n).setIfInBounds 0 (.pointer (some ⟨w.heap.size + 1, 0, none⟩))) 114)).heap.size = w.heap.size + 1 := World.size_alloc _ _
  have hb := (Below.heap_alloc (w.alloc (.cells ((madeCells #[.pointer none] n).setIfInBounds 0 (.pointer (some ⟨w.heap.size + 1, 0, none⟩))) 114)) (.cells #[.slice none 0 0, .slice none 0 0] 119) w.heap.size (by omega)).trans (heap_alloc_new w _)
  have hs := heap_alloc_new (w.alloc (.cells ((madeCells #[.pointer none] n).setIfInBounds 0 (.pointer (some ⟨w.heap.size + 1, 0, none⟩))) 114)) (.cells #[.slice none 0 0, .slice none 0 0] 119)
  rw [e1] at hs
  have hlen : (come0 cells n).length = n := come0_len cells n h0
  have hsz : (madeCells #[Value.pointer none] n).size = n := size_madeCells _ _
  have hcell : ∀ j, j < n → ((w.alloc (.cells ((madeCells #[.pointer none] n).setIfInBounds 0 (.pointer (some ⟨w.heap.size + 1, 0, none⟩))) 114)).alloc (.cells #[.slice none 0 0, .slice none 0 0] 119)).cell? ⟨w.heap.size, j, none⟩ = if j = 0 then some (.pointer (some ⟨w.heap.size + 1, 0, none⟩)) else some (.pointer none) := fun j hj => by
    rw [cell_of_row _ _ j _ _ _ hb]
    by_cases e : j = 0
    · subst e
      rw [if_pos rfl, Array.getElem?_setIfInBounds, if_pos rfl, if_pos (by omega)]
    · rw [if_neg e, Array.getElem?_setIfInBounds_ne (by omega)]
      unfold madeCells
      simp [hj, Nat.mod_one]
  refine ⟨⟨_, hb, by rw [Array.size_setIfInBounds, hsz, hlen]⟩, fun j _ hj hn => ?_, fun j _ hj k hk => ?_, by simp, fun b hb => ?_, Nat.le_refl _, by rw [World.size_alloc, e1]; omega⟩
  · rw [hlen] at hj
    rw [hcell j hj, if_neg]
    intro e
    subst e
    simp [come0] at hn
  · rw [hlen] at hj
    cases j with
    | zero =>
      simp [come0] at hk
      subst hk
      refine ⟨w.heap.size + 1, .slice none 0 0, .slice none 0 0, [], [], by rw [hcell 0 hj]; rfl, ⟨hs, IR.nil _ _, IR.nil _ _, fun b hb => by simp [Value.ownBlock] at hb⟩, ⟨rfl, by simp, fun i => ?_⟩, fun b hb => ?_⟩
      · rw [List.getD_eq_getElem?_getD, List.getD_eq_getElem?_getD, List.getElem?_replicate]
        split <;> rfl
      · rcases hb with rfl | hb | hb
        · exact if_pos rfl
        · simp [Value.ownBlock] at hb
        · simp [Value.ownBlock] at hb
    | succ j =>
      unfold come0 at hk
      rw [List.getD_cons_succ, List.getD_eq_getElem?_getD, List.getElem?_replicate] at hk
      split at hk <;> cases hk
  · by_cases e : b = w.heap.size + 1
    · omega
    · exact absurd (if_neg e) hb
set_option maxHeartbeats 8000000 in
theorem sound_any {b : List UInt8} {ins : List Ins} {cp gi cap depth : Nat} {w : World} (hE : Ef w) (h : CodeOK b ins) (hm : CodeAt w cp gi cap (byteAt b 2) depth ins) (h0 : 0 < ins.length) (hn : ins.length ≤ 4000) (hd : depth ≤ 24) :
    Calls Tryd.prog 24 #[.pointer (some ⟨cp, 0, none⟩)] w fun e w' => e = .returned (.bool (flowK ins depth ins 0 (come0 (byteAt b 2) ins.length))) ∧ Below w.heap.size w w' := by
  have hmk := run_make_row' (P := Tryd.prog) 113 114 (.pointer none) 8 Tryd.underlying113 info_ptr rfl .i64 .i64 ins.length (by omega) (by omega)
  have p0 : w.cell? ⟨cp, 0, none⟩ = some (.int .i64 (byteAt b 2 : Nat)) := by rw [cell_of_row w cp 0 _ _ _ hm.blk]; rfl
  have p1 : w.cell? ⟨cp, 1, none⟩ = some (.slice (some ⟨gi, 0, none⟩) ins.length cap) := by rw [cell_of_row w cp 1 _ _ _ hm.blk]; rfl
  have p2 : w.cell? ⟨cp, 2, none⟩ = some (.int .i64 depth) := by rw [cell_of_row w cp 2 _ _ _ hm.blk]; rfl
  have hlt := lt_of_get hm.blk
  have p1' : ∀ o o', ((w.alloc o).alloc o').cell? ⟨cp, 1, none⟩ = some (.slice (some ⟨gi, 0, none⟩) ins.length cap) := fun o o' => by
    have hb : Below w.heap.size w ((w.alloc o).alloc o') := ((Below.refl _ _).alloc (Nat.le_refl _) _).alloc (by simp) _
    rw [hb.cell (p := ⟨cp, 1, none⟩) hlt]; exact p1
  have hmc : (madeCells #[.pointer none] ins.length)[0]? = some (.pointer none) := by unfold madeCells; simp [h0]
  have HM : Hid _ := hm
  have H : Hid _ := h
  have HEf : Hid _ := hE
  clear hm h hE
  generalize hR : flowK ins depth ins 0 (come0 (byteAt b 2) ins.length) = R
  have HI0 : Hid (SndI w ((w.alloc (.cells ((madeCells #[.pointer none] ins.length).setIfInBounds 0 (.pointer (some ⟨w.heap.size + 1, 0, none⟩))) 114)).alloc (.cells #[.slice none 0 0, .slice none 0 0] 119)) (byteAt b 2) ins depth 0 R) :=
    ⟨_, _, snd_start h0, come0_len _ _ h0, ((Below.refl _ _).alloc (Nat.le_refl _) _).alloc (by simp) _, hR.symm, come0_ty _ _⟩
  clear hR
  have HN : Hid (ins.length = ins.length) := rfl
  generalize hlen : ins.length = n at h0 hn hmk p1 p1' hmc HI0
  have HL : Hid _ := hlen
  clear hlen
  go_enter Tryd.func24, Tryd.ntmps24
  go_wp2_with fail
  generalize ((w.alloc (.cells ((madeCells #[.pointer none] n).setIfInBounds 0 (.pointer (some ⟨w.heap.size + 1, 0, none⟩))) 114)).alloc (.cells #[.slice none 0 0, .slice none 0 0] 119)) = W0 at *
  go_loopw [24] (fun iv wr => ∃ i : Nat, i ≤ n ∧ iv = .int .i64 i ∧ Hid (SndI w wr (byteAt b 2) ins depth i R)) (fun iv _ => n - (intOf iv).toNat)
  case atStart => exact ⟨0, Nat.zero_le _, rfl, HI0.out⟩
  case round =>
    obtain ⟨i, hi, rfl, HI⟩ := hrel
    obtain ⟨O, come, hca, hcl, hbw, hr, hty⟩ := HI.out
    by_cases hlt : i < n
    · have hmr := HM.out.below hbw
      have hil : i < ins.length := by rw [HL.out]; exact hlt
      have q0 := hmr.op i hil
      have q1 := hmr.num i hil
      have q2 := hmr.tos i hil
      have q3 := hmr.pls i hil
      have hib : (0 : Int) ≤ (i : Int) ∧ (i : Int) < (n : Int) := by omega
      have hdrop : ins.drop i = ins.getD i noIns :: ins.drop (i + 1) := by
        rw [List.drop_eq_getElem_cons hil, List.getD_eq_getElem?_getD, List.getElem?_eq_getElem hil]; rfl
      rw [hdrop] at hr
      have hXO := H.out.1 _ (getD_ins hil)
      have HLG : Hid _ := leads_go H.out hil
      generalize ins.getD i noIns = x at *
      cases hk : come.getD i none with
      | none =>
        have hcell := hca.non i (Nat.le_refl _) (by omega) hk
        have HNX : Hid (∀ o, SndI w (wr.alloc o) (byteAt b 2) ins depth (i + 1) R) := fun o => by
          have hb1 : Below wr.heap.size wr (wr.alloc o) := (Below.refl _ _).alloc (Nat.le_refl _) _
          refine ⟨O, come, (hca.from (by omega)).below' hb1, hcl, hbw.trans (hb1.mono hbw.size), ?_, hty⟩
          rw [hr, flowK, hk]
        have hcell2 : ∀ o, (wr.alloc o).cell? ⟨w.heap.size, i, none⟩ = some (.pointer none) := fun o => by
          rw [World.cell?_of_block (w := wr) (a := ⟨w.heap.size, i, none⟩) (Below.heap_alloc wr o w.heap.size hca.lt)]; exact hcell
        clear hca hcl hbw hr hty hmr hdrop hXO HLG HI hk
        go_wp2
        go_roundw
        case rel => exact ⟨i + 1, by omega, by go_num, HNX.out _⟩
        case measure => simp [intOf]; omega
      | some k =>
        obtain ⟨p, vs, vc, st, c, hcell, hset, hkn, hO⟩ := hca.som i (Nat.le_refl _) (by omega) k hk
        have hcell2 : ∀ o, (wr.alloc o).cell? ⟨w.heap.size, i, none⟩ = some (.pointer (some ⟨p, 0, none⟩)) := fun o => by
          rw [World.cell?_of_block (w := wr) (a := ⟨w.heap.size, i, none⟩) (Below.heap_alloc wr o w.heap.size hca.lt)]; exact hcell
        obtain ⟨t1, t2, t3, t4⟩ := hty i k hk
        have hno := num_ok hXO
        have hcells := byte_lt b 2
        have hn4 : x.op = 4 ∨ x.op = 5 ∨ x.op = 6 → 0 ≤ x.n ∧ x.n ≤ 255 := fun e => by
          obtain ⟨a1, _, a2⟩ := hno.two (by unfold sizeOp; rw [if_neg (by omega), if_pos (by omega)])
          exact ⟨a1, a2⟩
        have hn5 : x.op = 5 → x.n.toNat < k.cl.length := fun e => by
          obtain ⟨a1, a2, _⟩ := hno.two (by unfold sizeOp; rw [if_neg (by omega), if_pos (by omega)])
          unfold boundOp at a2
          rw [if_neg (by omega), if_neg (by omega), if_neg (by omega), if_pos (by omega)] at a2
          omega
        have hch := change_does hkn t1 x.op x.n.toNat hno.op hn5
        obtain ⟨w1, hw1⟩ : ∃ w1, wr.alloc (.cells #[.int .i64 (x.op : Nat), .int .i64 x.n, .int .i64 (toOf ins x), .int .i64 (x.pl : Nat)] 105) = w1 := ⟨_, rfl⟩
        have hb1 : Below wr.heap.size wr w1 := by rw [← hw1]; exact (Below.refl _ _).alloc (Nat.le_refl _) _
        have hbk1 : w1.heap[wr.heap.size]? = some (insO x.op x.n (toOf ins x) (x.pl : Nat)) := by rw [← hw1]; exact heap_alloc_new wr _
        have hca1 := hca.below' hb1
        have hset1 := hset.only (Only.of_below (F := fun _ => False) hb1) (fun _ _ h => h)
        have hbw1 : Below w.heap.size w w1 := hbw.trans (hb1.mono hbw.size)
        have hEp : Ef w := HEf.out
        have hE1 : Ef w1 := hEp.below hEp.pos hbw1
        have hlst : st.length ≤ 24 := by rw [hkn.st]; simpa [stI] using t4
        have hlc : c.length ≤ 256 := by have := hkn.len; omega
        have W1 := change_any (w := w1.drew) x.op x.n (toOf ins x) (x.pl : Nat) hE1 hset1.drew (by omega) hlc (by have := hno.op; omega) hn4
        have hS0 : w1.cell? ⟨cp, 2, none⟩ = some (.int .i64 depth) ∧ w1.cell? ⟨wr.heap.size, 0, none⟩ = some (.int .i64 (x.op : Nat)) ∧ w1.cell? ⟨wr.heap.size, 1, none⟩ = some (.int .i64 x.n) ∧ w1.cell? ⟨wr.heap.size, 2, none⟩ = some (.int .i64 (toOf ins x)) ∧ w1.cell? ⟨wr.heap.size, 3, none⟩ = some (.int .i64 (x.pl : Nat)) := by
          have hcc := fun j => cell_of_row w1 _ j _ _ _ hbk1
          exact ⟨by rw [hbw1.cell (p := ⟨cp, 2, none⟩) (lt_of_get HM.out.blk)]; exact p2, hcc 0, hcc 1, hcc 2, hcc 3⟩
        have hHW : Hid _ := hw1
        have hcw1 : w1.cell? ⟨w.heap.size, i, none⟩ = some (.pointer (some ⟨p, 0, none⟩)) := by rw [← hw1]; exact hcell2 _
        unfold insV at W1
        rw [flowK, hk] at hr
        simp only [] at hr
        cases hdk : doesK x.op x.n.toNat k with
        | none =>
          rw [hdk] at hch hr
          have hch' : changeR x.op x.n.toNat st c = none := hch
          rw [hch'] at W1
          have HRf : Hid (R = false) := hr
          have HBl : Hid (∀ w2, Only (Foot p vs vc) w1 w2 → Below w.heap.size w w2) := fun w2 h2 => hbw1.trans (h2.below hbw1.size (fun b _ hb => hca1.low b (by rw [hO b hb]; omega)))
          have KP : Hid (∀ w2, Only (Foot p vs vc) w1 w2 → (w2.cell? ⟨cp, 2, none⟩ = some (.int .i64 depth) ∧ w2.cell? ⟨wr.heap.size, 0, none⟩ = some (.int .i64 (x.op : Nat)) ∧ w2.cell? ⟨wr.heap.size, 1, none⟩ = some (.int .i64 x.n) ∧ w2.cell? ⟨wr.heap.size, 2, none⟩ = some (.int .i64 (toOf ins x)) ∧ w2.cell? ⟨wr.heap.size, 3, none⟩ = some (.int .i64 (x.pl : Nat)))) := fun w2 h2 => by
            have hbk2 : w2.heap[wr.heap.size]? = _ := (h2.block _ (lt_of_get hbk1) (fun hf => by have := hset.lt hf; omega)).trans hbk1
            have hcc := fun j => cell_of_row w2 _ j _ _ _ hbk2
            exact ⟨by rw [(HBl.out w2 h2).cell (p := ⟨cp, 2, none⟩) (lt_of_get HM.out.blk)]; exact p2, hcc 0, hcc 1, hcc 2, hcc 3⟩
          clear hca hcl hbw hr hty hmr hdrop hXO HLG HI hk hset hkn hO t1 t2 t3 t4 hno hn4 hn5 hch hch' hb1 hbk1 hca1 hset1 hbw1 hEp hE1 hdk
          clear hw1
          go_wp2_with fail
          rw [hHW.out]
          refine wp_region_held_drew (S := fun w2 => w2.cell? ⟨cp, 2, none⟩ = some (.int .i64 depth) ∧ w2.cell? ⟨wr.heap.size, 0, none⟩ = some (.int .i64 (x.op : Nat)) ∧ w2.cell? ⟨wr.heap.size, 1, none⟩ = some (.int .i64 x.n) ∧ w2.cell? ⟨wr.heap.size, 2, none⟩ = some (.int .i64 (toOf ins x)) ∧ w2.cell? ⟨wr.heap.size, 3, none⟩ = some (.int .i64 (x.pl : Nat))) (by kernel_rfl) hS0 (fun hHeld => ?_)
          refine wpAnyH_take (i := 0) (v := .agg #[.int .i64 (x.op : Nat), .int .i64 x.n, .int .i64 (toOf ins x), .int .i64 (x.pl : Nat)]) rfl (by kernel_rfl) (by kernel_rfl) (by kernel_rfl) (fun _ _ _ h => h) (Or.inl ⟨by rfl, fun w hSw => ?_⟩) hHeld ?_
          · dsimp only at hSw; obtain ⟨s0, s1, s2, s3, s4⟩ := hSw; go_simp
          simp only [List.getElem_toArray, List.getElem_cons_zero, List.getElem_cons_succ, Act.put, List.setIfInBounds_toArray, List.set_cons_zero, List.set_cons_succ]
          refine wpAnyH_take (i := 1) (v := .pointer (some ⟨p, 0, none⟩)) rfl (by kernel_rfl) (by kernel_rfl) (by kernel_rfl) (fun _ _ _ h => h) (Or.inl ⟨by rfl, fun w hSw => ?_⟩) hHeld ?_
          · dsimp only at hSw; obtain ⟨s0, s1, s2, s3, s4⟩ := hSw; go_simp
          simp only [List.getElem_toArray, List.getElem_cons_zero, List.getElem_cons_succ, Act.put, List.setIfInBounds_toArray, List.set_cons_zero, List.set_cons_succ]
          refine wpAnyH_ready (rs := [2]) (by kernel_rfl) (by simp) ?_
          refine AllReadyH.cons rfl (fun K hK => ?_) AllReadyH.nil
          go_simp
          refine W1.mono ?_
          rintro e w2 ⟨rfl, ho2⟩
          dsimp only
          clear hHeld
          refine hK.out _ _ (KP.out _ ho2.of_drew) (fun hHeld => ?_)
          have HU : Hid _ := HBl.out w2 ho2.of_drew
          clear ho2 KP hK
          refine wpAnyH_take (i := 3) (v := .bool true) rfl (by kernel_rfl) (by kernel_rfl) (by kernel_rfl) (fun _ _ _ h => h) (Or.inl ⟨by rfl, fun w hSw => ?_⟩) hHeld ?_
          · dsimp only at hSw; obtain ⟨s0, s1, s2, s3, s4⟩ := hSw; go_simp
          simp only [List.getElem_toArray, List.getElem_cons_zero, List.getElem_cons_succ, Act.put, List.setIfInBounds_toArray, List.set_cons_zero, List.set_cons_succ]
          refine wpAnyH_take (i := 4) (v := .bool true) rfl (by kernel_rfl) (by kernel_rfl) (by kernel_rfl) (fun _ _ _ h => h) (Or.inl ⟨by rfl, fun w hSw => ?_⟩) hHeld ?_
          · dsimp only at hSw; obtain ⟨s0, s1, s2, s3, s4⟩ := hSw; go_simp
          simp only [List.getElem_toArray, List.getElem_cons_zero, List.getElem_cons_succ, Act.put, List.setIfInBounds_toArray, List.set_cons_zero, List.set_cons_succ]
          refine wpAnyH_take (i := 5) (v := undef) rfl (by kernel_rfl) (by kernel_rfl) (by kernel_rfl) (fun _ _ _ h => h) (Or.inr ⟨by rfl, rfl⟩) hHeld ?_
          simp only [List.getElem_toArray, List.getElem_cons_zero, List.getElem_cons_succ, Act.put, List.setIfInBounds_toArray, List.set_cons_zero, List.set_cons_succ]
          refine wpAnyH_take (i := 6) (v := undef) rfl (by kernel_rfl) (by kernel_rfl) (by kernel_rfl) (fun _ _ _ h => h) (Or.inr ⟨by rfl, rfl⟩) hHeld ?_
          simp only [List.getElem_toArray, List.getElem_cons_zero, List.getElem_cons_succ, Act.put, List.setIfInBounds_toArray, List.set_cons_zero, List.set_cons_succ]
          refine wpAnyH_take (i := 7) (v := undef) rfl (by kernel_rfl) (by kernel_rfl) (by kernel_rfl) (fun _ _ _ h => h) (Or.inr ⟨by rfl, rfl⟩) hHeld ?_
          simp only [List.getElem_toArray, List.getElem_cons_zero, List.getElem_cons_succ, Act.put, List.setIfInBounds_toArray, List.set_cons_zero, List.set_cons_succ]
          refine wpAnyH_take (i := 8) (v := undef) rfl (by kernel_rfl) (by kernel_rfl) (by kernel_rfl) (fun _ _ _ h => h) (Or.inr ⟨by rfl, rfl⟩) hHeld ?_
          simp only [List.getElem_toArray, List.getElem_cons_zero, List.getElem_cons_succ, Act.put, List.setIfInBounds_toArray, List.set_cons_zero, List.set_cons_succ]
          refine wpAnyH_take (i := 9) (v := undef) rfl (by kernel_rfl) (by kernel_rfl) (by kernel_rfl) (fun _ _ _ h => h) (Or.inr ⟨by rfl, rfl⟩) hHeld ?_
          simp only [List.getElem_toArray, List.getElem_cons_zero, List.getElem_cons_succ, Act.put, List.setIfInBounds_toArray, List.set_cons_zero, List.set_cons_succ]
          refine wpAnyH_take (i := 10) (v := undef) rfl (by kernel_rfl) (by kernel_rfl) (by kernel_rfl) (fun _ _ _ h => h) (Or.inr ⟨by rfl, rfl⟩) hHeld ?_
          simp only [List.getElem_toArray, List.getElem_cons_zero, List.getElem_cons_succ, Act.put, List.setIfInBounds_toArray, List.set_cons_zero, List.set_cons_succ]
          refine wpAnyH_take (i := 11) (v := undef) rfl (by kernel_rfl) (by kernel_rfl) (by kernel_rfl) (fun _ _ _ h => h) (Or.inr ⟨by rfl, rfl⟩) hHeld ?_
          simp only [List.getElem_toArray, List.getElem_cons_zero, List.getElem_cons_succ, Act.put, List.setIfInBounds_toArray, List.set_cons_zero, List.set_cons_succ]
          refine wpAnyH_take (i := 12) (v := undef) rfl (by kernel_rfl) (by kernel_rfl) (by kernel_rfl) (fun _ _ _ h => h) (Or.inr ⟨by rfl, rfl⟩) hHeld ?_
          simp only [List.getElem_toArray, List.getElem_cons_zero, List.getElem_cons_succ, Act.put, List.setIfInBounds_toArray, List.set_cons_zero, List.set_cons_succ]
          refine wpAnyH_take (i := 13) (v := undef) rfl (by kernel_rfl) (by kernel_rfl) (by kernel_rfl) (fun _ _ _ h => h) (Or.inr ⟨by rfl, rfl⟩) hHeld ?_
          simp only [List.getElem_toArray, List.getElem_cons_zero, List.getElem_cons_succ, Act.put, List.setIfInBounds_toArray, List.set_cons_zero, List.set_cons_succ]
          refine wpAnyH_take (i := 14) (v := .bool true) rfl (by kernel_rfl) (by kernel_rfl) (by kernel_rfl) (fun _ _ _ h => h) (Or.inl ⟨by rfl, fun w hSw => ?_⟩) hHeld ?_
          · dsimp only at hSw; obtain ⟨s0, s1, s2, s3, s4⟩ := hSw; go_simp
          simp only [List.getElem_toArray, List.getElem_cons_zero, List.getElem_cons_succ, Act.put, List.setIfInBounds_toArray, List.set_cons_zero, List.set_cons_succ]
          refine wpAnyH_done (by kernel_rfl) ?_ _
          go_wp2
          go_ret
          exact ⟨by rw [HRf.out]; rfl, HU.out⟩
        | some k' =>
          rw [hdk] at hch hr
          obtain ⟨st', c', hch', hkn'⟩ := hch
          rw [hch'] at W1
          simp only [] at hr
          obtain ⟨y1, y2, y3⟩ := does_tys hno.op t1 t2 hdk
          have HCH : Hid (∀ w2, SetOut w1 w2 p vs vc st' c' → ∃ O' vs' vc', ComeAt w2 w.heap.size w.heap.size (i + 1) O' come ∧ SetAt w2 p vs' vc' st' c' ∧ (∀ b, Foot p vs' vc' b → O' b = i + 1) ∧ (∀ b, w2.heap.size ≤ b → O' b = 0) ∧ Below w.heap.size w w2 ∧ w2.heap[wr.heap.size]? = some (insO x.op x.n (toOf ins x) (x.pl : Nat)) ∧ w2.cell? ⟨cp, 2, none⟩ = some (.int .i64 depth)) := fun w2 h2 => by
            obtain ⟨O', vs', vc', z1, z2, z3, z4, z5⟩ := hca1.change hO h2
            have hbl := hbw1.trans z5
            exact ⟨O', vs', vc', z1, z2, z3, z4, hbl, (h2.only.block _ (lt_of_get hbk1) (fun hf => by have := hset.lt hf; omega)).trans hbk1, by rw [hbl.cell (p := ⟨cp, 2, none⟩) (lt_of_get HM.out.blk)]; exact p2⟩
          have hkl : st'.length = k'.st.length := by rw [hkn'.st]; simp [stI]
          have KP : Hid (∀ w2, SetOut w1 w2 p vs vc st' c' → (w2.cell? ⟨cp, 2, none⟩ = some (.int .i64 depth) ∧ w2.cell? ⟨wr.heap.size, 0, none⟩ = some (.int .i64 (x.op : Nat)) ∧ w2.cell? ⟨wr.heap.size, 1, none⟩ = some (.int .i64 x.n) ∧ w2.cell? ⟨wr.heap.size, 2, none⟩ = some (.int .i64 (toOf ins x)) ∧ w2.cell? ⟨wr.heap.size, 3, none⟩ = some (.int .i64 (x.pl : Nat)))) := fun w2 h2 => by
            obtain ⟨O', vs', vc', z1, z2, z3, z4, z5, z6, z7⟩ := HCH.out w2 h2
            have hcc := fun j => cell_of_row w2 _ j _ _ _ z6
            exact ⟨z7, hcc 0, hcc 1, hcc 2, hcc 3⟩
          have W2 : ∀ W, SetOut w1 W p vs vc st' c' → Calls Tryd.prog 42 #[.pointer (some ⟨p, 0, none⟩)] W fun e w' => e = .returned (.int .i64 (k'.st.length : Nat)) ∧ w' = W := fun W h => by
            obtain ⟨vs', vc', z2, _, _⟩ := h
            rw [← hkl]
            exact theight_any (v := vs') z2.blk rfl z2.st
          clear hca hbw hmr hdrop hXO HI hk hset hkn hO t1 t2 t4 hno hn4 hn5 hch' hb1 hbk1 hca1 hset1 hbw1 hEp hE1 hdk
          clear hw1
          have HR : Hid _ := hr
          clear hr
          by_cases hdep : depth < k'.st.length
          · have hd1 : (depth : Int) < (k'.st.length : Int) := by omega
            have HRf : Hid (R = false) := HR.out.trans (if_pos hdep)
            go_wp2_with fail
            rw [hHW.out]
            go_region_held3 (fun w2 => w2.cell? ⟨cp, 2, none⟩ = some (.int .i64 depth) ∧ w2.cell? ⟨wr.heap.size, 0, none⟩ = some (.int .i64 (x.op : Nat)) ∧ w2.cell? ⟨wr.heap.size, 1, none⟩ = some (.int .i64 x.n) ∧ w2.cell? ⟨wr.heap.size, 2, none⟩ = some (.int .i64 (toOf ins x)) ∧ w2.cell? ⟨wr.heap.size, 3, none⟩ = some (.int .i64 (x.pl : Nat))) (first | with_reducible exact KP.out _ (by assumption) | with_reducible assumption | go_keep)
              (first
                | (go_at_call 41; refine W1.mono ?_; rintro e w2 ⟨rfl, ho2⟩; replace ho2 := ho2.of_drew)
                | (go_at_call 42; refine (W2 _ (by assumption)).mono ?_; rintro e w3 ⟨rfl, rfl⟩))
            rename_i hHeld
            obtain ⟨O', vs', vc', z1, z2, z3, z4, z5, z6, z7⟩ := HCH.out w3 ho2
            have HU : Hid _ := z5
            clear hHeld ho2 KP HCH W1 W2 z1 z2 z3 z4 z5 z6 z7
            go_wp2
            go_ret
            exact ⟨by rw [HRf.out]; rfl, HU.out⟩
          · have hd1 : ¬ ((depth : Int) < (k'.st.length : Int)) := by omega
            have HR2 : Hid _ := HR.out.trans (if_neg hdep)
            have HKT : Hid (Tys1 k'.st ∧ Tys k'.cl ∧ k'.cl.length = byteAt b 2 ∧ k'.st.length ≤ 24) := ⟨y1, y2, by omega, by omega⟩
            go_wp2_with fail
            rw [hHW.out]
            go_region_held3 (fun w2 => w2.cell? ⟨cp, 2, none⟩ = some (.int .i64 depth) ∧ w2.cell? ⟨wr.heap.size, 0, none⟩ = some (.int .i64 (x.op : Nat)) ∧ w2.cell? ⟨wr.heap.size, 1, none⟩ = some (.int .i64 x.n) ∧ w2.cell? ⟨wr.heap.size, 2, none⟩ = some (.int .i64 (toOf ins x)) ∧ w2.cell? ⟨wr.heap.size, 3, none⟩ = some (.int .i64 (x.pl : Nat))) (first | with_reducible exact KP.out _ (by assumption) | with_reducible assumption | go_keep)
              (first
                | (go_at_call 41; refine W1.mono ?_; rintro e w2 ⟨rfl, ho2⟩; replace ho2 := ho2.of_drew)
                | (go_at_call 42; refine (W2 _ (by assumption)).mono ?_; rintro e w3 ⟨rfl, rfl⟩))
            rename_i hHeld
            obtain ⟨O', vs', vc', z1, z2, z3, z4, z5, z6, z7⟩ := HCH.out w3 ho2
            obtain ⟨s0, s1, s2, s3, s4⟩ := hHeld
            have W3 := goesOn_any x.op x.n (toOf ins x) (x.pl : Nat) i (by omega) w3
            unfold insV at W3
            have HI3 : Hid (∀ w4 v, IR w4 3 v (goL x.op (toOf ins x) i) → Below w3.heap.size w3 w4 → (∀ b, v.ownBlock = some b → w3.heap.size ≤ b) → InI w w4 (byteAt b 2) ins i p vs' vc' st' c' v (goL x.op (toOf ins x) i) k' come (leadsK ins i x) 0 O' come) := fun w4 v h1 h2 h3 =>
              ⟨z1.below' h2, hcl, z2.only (Only.of_below (F := fun _ => False) h2) (fun _ _ h => h), z3, h1, fun b hb => z4 b (h3 b hb), z5.trans (h2.mono z5.size), rfl, hty⟩
            have HKN : Hid _ := hkn'
            clear ho2 KP HCH W1 W2 z1 z2 z3 z4 z5 z6 z7 hkn' hty hcl y1 y2 y3 hcell hcell2 hcw1 hS0 hdep hkl
            have hL2 : (goL x.op (toOf ins x) i).length ≤ 2 := by unfold goL; (repeat' split) <;> simp
            generalize goL x.op (toOf ins x) i = L at *
            go_wp2_with (
              go_at_call 43
              refine W3.mono ?_
              rintro e w4 ⟨⟨v, rfl, hrow, hfr⟩, hb4⟩
              obtain ⟨la, lcap, rfl⟩ := hrow.sl
              have HJ : Hid _ := HI3.out w4 _ hrow hb4 hfr
              clear hrow hfr hb4 W3 HI3 s0 s1 s2 s3 s4)
            go_loopw [54] (fun mv wi => ∃ m : Nat, m ≤ L.length ∧ mv = .int .i64 m ∧ Hid (∃ O2 come2, InI w wi (byteAt b 2) ins i p vs' vc' st' c' (.slice la L.length lcap) L k' come (leadsK ins i x) m O2 come2)) (fun mv _ => L.length - (intOf mv).toNat)
            case atStart => exact ⟨0, Nat.zero_le _, rfl, _, _, HJ.out⟩
            case round =>
              obtain ⟨m, hm, rfl, HK⟩ := hrel
              obtain ⟨O2, come2, hI⟩ := HK.out
              obtain ⟨g1, g2⟩ := HLG.out
              by_cases hml : m < L.length
              · obtain ⟨lb, lc2, e1, _⟩ := hI.row.form (by omega)
                simp at e1
                obtain ⟨rfl, rfl⟩ := e1
                have hrc := hI.row.cell hml
                have W4 := hI.come (cap := n) HKN.out HKT.out (by omega) (by omega) (by have := HL.out; omega) (g2 m (by omega))
                rw [HL.out] at W4
                have hmb : (0 : Int) ≤ (m : Int) ∧ (m : Int) < (L.length : Int) := by omega
                clear hI g1 g2 HK HJ
                generalize L.getD m 0 = y at *
                have HMB : Hid (m + 1 ≤ L.length) := by show _ ≤ _; omega
                go_wp2_with fail
                refine W4.mono ?_
                rintro e w5 ⟨r, rfl, hb5, ht5, hf5⟩
                clear W4 hrc
                cases r with
                | false =>
                  have HRf : Hid (R = false) := by
                    show R = false
                    rw [HR2.out, hf5 rfl]
                  have HB5 : Hid _ := hb5
                  clear hb5 ht5 hf5
                  go_wp2
                  go_ret
                  exact ⟨by rw [HRf.out]; rfl, HB5.out⟩
                | true =>
                  have HN5 : Hid _ := ht5 rfl
                  clear hb5 ht5 hf5
                  go_wp2
                  go_roundw
                  case rel => exact ⟨m + 1, HMB.out, by go_num, HN5.out⟩
                  case measure => have := HMB.out; simp [intOf]; omega
              · have hml2 : m = L.length := by omega
                have HS5 : Hid (SndI w wr (byteAt b 2) ins depth (i + 1) R) := by
                  refine ⟨O2, come2, hI.at_, hI.len, hI.bel, ?_, hI.typ⟩
                  have hbr := hI.bri
                  rw [List.drop_of_length_le (by omega)] at hbr
                  rw [HR2.out, hbr]; rfl
                clear hI g1 g2 HK HJ
                go_wp2
                exact ⟨⟨i + 1, by omega, by go_num, HS5.out⟩, by simp [intOf]; omega⟩
    · have HE : Hid (R = true) := by
        show _ = _
        rw [hr, List.drop_of_length_le (by rw [HL.out]; omega)]; rfl
      have HB : Hid _ := hbw
      clear hca hcl hbw hr hty HI
      go_wp2
      go_ret
      exact ⟨by rw [HE.out]; rfl, HB.out⟩
end Go.Proofs.YtfkdailfcmnjlaaDoor

namespace Go.Proofs.YtfkdailfcmnjlaaDoor
open Go Go.RowKit
set_option maxRecDepth 100000
attribute [local go_sem ↓] Go.wp_at_zero Go.wp_at_succ

def followP (op : Nat) : Nat := if op = 1 then 8 else if op = 15 ∨ op = 16 then 2 else if 2 ≤ op ∧ op ≤ 6 ∨ op = 17 ∨ op = 18 then 1 else 0
theorem size_follow {op : Nat} (h : sizeOp op ≠ 0) : sizeOp op = 1 + followP op := by
  obtain ⟨h1, h2⟩ := size_op h
  have e : op = 1 ∨ op = 2 ∨ op = 3 ∨ op = 4 ∨ op = 5 ∨ op = 6 ∨ op = 7 ∨ op = 8 ∨ op = 9 ∨ op = 10 ∨ op = 11 ∨ op = 12 ∨ op = 13 ∨ op = 14 ∨ op = 15 ∨ op = 16 ∨ op = 17 ∨ op = 18 := by omega
  rcases e with rfl | rfl | rfl | rfl | rfl | rfl | rfl | rfl | rfl | rfl | rfl | rfl | rfl | rfl | rfl | rfl | rfl | rfl <;> rfl
theorem follow_le (op : Nat) : followP op ≤ 8 := by unfold followP; (repeat' split) <;> omega
set_option maxHeartbeats 2000000 in
theorem following_any (op : Nat) (w : World) : Calls Tryd.prog 67 #[.int .i64 op] w fun e w' => e = .returned (.int .i64 (followP op : Nat)) ∧ w' = w := by
  go_enter Tryd.func67, Tryd.ntmps67
  go_wp2
  all_goals go_ret
  all_goals refine ⟨ret_int ?_, rfl⟩
  all_goals (simp only [beq_iff_eq, beq_eq_false_iff_ne, ne_eq] at *; unfold followP; repeat' split) <;> first | rfl | omega
set_option maxHeartbeats 2000000 in
theorem psize_any (op : Nat) (n tj pl : Int) (w : World) : Calls Tryd.prog 37 #[insV op n tj pl] w fun e w' => e = .returned (.int .i64 ((1 + followP op : Nat) : Int)) ∧ Below w.heap.size w w' := by
  have W1 := fun w => following_any op w
  have hf := follow_le op
  generalize followP op = f at *
  unfold insV
  have HB : Hid (∀ o, Below w.heap.size w (w.alloc o)) := fun o => (Below.refl _ _).alloc (Nat.le_refl _) _
  go_enter Tryd.func37, Tryd.ntmps37
  go_wp2_with (
    go_at_call 67
    refine (W1 _).mono ?_
    rintro e w' ⟨rfl, rfl⟩)
  go_ret
  refine ⟨ret_int ?_, HB.out _⟩
  go_num
set_option maxHeartbeats 2000000 in
theorem jumps_any (op : Nat) (n tj pl : Int) (w : World) : Calls Tryd.prog 68 #[insV op n tj pl] w fun e w' => e = .returned (.bool (decide (op = 15 ∨ op = 16))) ∧ Below w.heap.size w w' := by
  unfold insV
  have HB : Hid (∀ o, Below w.heap.size w (w.alloc o)) := fun o => (Below.refl _ _).alloc (Nat.le_refl _) _
  by_cases h16 : op = 16
  · subst h16
    go_enter Tryd.func68, Tryd.ntmps68
    go_wp2
    go_ret
    exact ⟨rfl, HB.out _⟩
  · by_cases h15 : op = 15
    · subst h15
      go_enter Tryd.func68, Tryd.ntmps68
      go_wp2
      go_ret
      exact ⟨rfl, HB.out _⟩
    · have hR : decide (op = 15 ∨ op = 16) = false := by simp [h15, h16]
      rw [hR]
      have b16 : ((op : Int) == 16) = false := by simp; omega
      have b15 : ((op : Int) == 15) = false := by simp; omega
      clear hR h15 h16
      go_enter Tryd.func68, Tryd.ntmps68
      go_wp2
      go_ret
      exact ⟨rfl, HB.out _⟩
theorem pba_at (l : List UInt8) (i : Nat) (h : i < (ByteArray.mk l.toArray).size) : ((ByteArray.mk l.toArray)[i]).toNat = byteAt l i := by
  have h' : i < l.length := h
  show (l.toArray[i]).toNat = _
  unfold byteAt
  rw [List.getD_eq_getElem?_getD, List.getElem?_eq_getElem h']; rfl
/-- What two ways of writing a number in eight bits more give. -/
theorem or_byte {V c : Nat} (hV : V < 72057594037927936) (hc : c < 256) : bits .or .i64 (IntKind.i64.wrap ((V : Int) * 2 ^ 8)) (c : Int) = signed64 (V * 256 + c) := by
  unfold bits
  simp only []
  have e1 : (BitVec.ofInt IntKind.i64.bits (IntKind.i64.wrap ((V : Int) * 2 ^ 8))).toNat = V * 256 := by
    rw [BitVec.toNat_ofInt, IntKind.wrap_i64]; simp only [IntKind.bits]; omega
  have e2 : (BitVec.ofInt IntKind.i64.bits (c : Int)).toNat = c := by rw [BitVec.toNat_ofInt]; simp only [IntKind.bits]; omega
  have e3 : V * 256 ||| c = V * 256 + c := by
    have := Nat.shiftLeft_add_eq_or_of_lt (i := 8) (b := c) (by omega) V
    rw [Nat.shiftLeft_eq] at this
    exact this.symm
  rw [BitVec.toNat_or, e1, e2, e3, IntKind.wrap_i64]
  unfold signed64
  split <;> omega
set_option maxHeartbeats 2000000 in
theorem number_any (l : List UInt8) (hl : l.length ≤ 8) (w : World) : Calls Tryd.prog 38 #[S l] w fun e w' => e = .returned (.int .i64 (signed64 (beVal l 0 l.length))) ∧ w' = w := by
  have HV : Hid (∀ k, k < l.length → beVal l 0 k < 72057594037927936 ∧ beVal l 0 (k + 1) = beVal l 0 k * 256 + byteAt l k) := fun k hk => by
    refine ⟨?_, by rw [beVal, Nat.zero_add]⟩
    have h1 := beVal_lt l 0 k
    have h2 : 256 ^ k ≤ 256 ^ 7 := Nat.pow_le_pow_right (by decide) (by omega)
    have h3 : (256 : Nat) ^ 7 = 72057594037927936 := by decide
    omega
  go_enter Tryd.func38, Tryd.ntmps38
  go_wp2_with fail
  go_loop [3, 7] (fun nv kv => ∃ k : Nat, k ≤ l.length ∧ kv = .int .i64 k ∧ nv = .int .i64 (signed64 (beVal l 0 k))) (fun _ kv => l.length - (intOf kv).toNat)
  case atStart => exact ⟨0, Nat.zero_le _, rfl, rfl⟩
  case round =>
    obtain ⟨k, hk, rfl, rfl⟩ := hrel
    by_cases hlt : k < l.length
    · obtain ⟨h1, h2⟩ := HV.out k hlt
      have hs : signed64 (beVal l 0 k) = (beVal l 0 k : Nat) := by unfold signed64; rw [if_pos (by omega)]
      have hsz : k < (ByteArray.mk l.toArray).size := hlt
      have hba := pba_at l k hsz
      have hc : byteAt l k < 256 := byte_lt l k
      have HOB : Hid _ := or_byte h1 hc
      have hba2 : ((ByteArray.mk l.toArray)[k]).toNat = byteAt l k := hba
      have HN : Hid (signed64 (beVal l 0 (k + 1)) = signed64 (beVal l 0 k * 256 + byteAt l k)) := by show _ = _; rw [h2]
      rw [hs]
      generalize beVal l 0 k = V at *
      generalize byteAt l k = q at *
      clear hba h2 hs
      go_wp2
      refine ⟨⟨k + 1, by omega, by go_num, ?_⟩, by simp [intOf]; omega⟩
      rw [HN.out, ← HOB.out]
      congr 2
      all_goals first | rfl | (simp [IntKind.wrap_i64, RowKit.wrap64])
    · have hkl : k = l.length := by omega
      subst hkl
      go_wp2
      go_ret
      exact ⟨rfl, rfl⟩
end Go.Proofs.YtfkdailfcmnjlaaDoor
