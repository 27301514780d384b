/-
  The program finds where jumps come tw. The program reads a code's instructions. The compiler's layer: instructions in memory; one more; jumps that come here. The compiler's layer: jumps come here.
-/
import Derived.Test.YtfkdailfcmnjlaaGreatDoorCompiles01
import Derived.Test.YtfkdailfcmnjlaaGreatDoorCompiles02
import Derived.Test.YtfkdailfcmnjlaaGreatDoorCompiles04
import Derived.Test.YtfkdailfcmnjlaaGreatDoorCompiles05
import Derived.Test.YtfkdailfcmnjlaaGreatDoorCompiles06
import Derived.Test.YtfkdailfcmnjlaaGreatDoorCompiles07
import Derived.Test.YtfkdailfcmnjlaaGreatDoorCompiles08
import Derived.Test.YtfkdailfcmnjlaaGreatDoorCompiles09
import Derived.Test.YtfkdailfcmnjlaaGreatDoorCompiles10
import Derived.Test.YtfkdailfcmnjlaaGreatDoorCompiles11
import Derived.Test.YtfkdailfcmnjlaaGreatDoorCompiles12
import Derived.Test.YtfkdailfcmnjlaaGreatDoorCompiles13
import Derived.Test.YtfkdailfcmnjlaaGreatDoorCompiles14
import Derived.Test.YtfkdailfcmnjlaaGreatDoorCompiles15
import Derived.Test.YtfkdailfcmnjlaaGreatDoorCompiles16
import Derived.Test.YtfkdailfcmnjlaaGreatDoorCompiles17
import Derived.Test.YtfkdailfcmnjlaaGreatDoorCompiles18
import Derived.Test.YtfkdailfcmnjlaaGreatDoorCompiles19
import Derived.Test.YtfkdailfcmnjlaaGreatDoorCompiles20
import Derived.Test.YtfkdailfcmnjlaaGreatDoorCompiles21
import Derived.Test.YtfkdailfcmnjlaaGreatDoorCompiles22
import Derived.Test.YtfkdailfcmnjlaaGreatDoorCompiles23
import Derived.Test.YtfkdailfcmnjlaaGreatDoorCompiles24
import Derived.Test.YtfkdailfcmnjlaaGreatDoorCompiles25
import Derived.Test.YtfkdailfcmnjlaaGreatDoorCompiles26
import Derived.Test.YtfkdailfcmnjlaaGreatDoorCompiles27
import Derived.Test.YtfkdailfcmnjlaaGreatDoorCompiles28
import Derived.Test.YtfkdailfcmnjlaaGreatDoorCompiles29
import Derived.Test.YtfkdailfcmnjlaaGreatDoorCompiles30
import Derived.Test.YtfkdailfcmnjlaaGreatDoorCompiles31
import Derived.Test.YtfkdailfcmnjlaaGreatDoorCompiles32
import Derived.Test.YtfkdailfcmnjlaaGreatDoorCompiles34
import Derived.Test.YtfkdailfcmnjlaaGreatDoorCompiles35
import Derived.Test.YtfkdailfcmnjlaaGreatDoorCompiles37
import Derived.Test.YtfkdailfcmnjlaaGreatDoorCompiles38
import Derived.Test.YtfkdailfcmnjlaaGreatDoorCompiles39
import Derived.Test.YtfkdailfcmnjlaaGreatDoorCompiles40
import Derived.Test.YtfkdailfcmnjlaaGreatDoorLays
import Derived.Test.YtfkdailfcmnjlaaGreatDoorLays2
import Derived.WalkKit
import Derived.Deep.QuietTactic
import Derived.BigQuiet
import Derived.WalkSpells
import GoSem.Op.String
import Derived.Deep.AppendLies
import Derived.Deep.RegionHeld3
import Derived.Deep.DrawnRows
import Derived.Deep.RegionHeldLaw
import Derived.Deep.RegionLaw
import Derived.Lib.ParseIntBCases
import Derived.Deep.OwnRows
import Derived.Lib.LaidTab
import Derived.Lib.AppendIntMem
import Derived.Shelf.Strings.Builder1
import Derived.Laws.CopyOwn
import Derived.Deep.DeepCutAuto
import Derived.WalkSmall
import Derived.Lib.AppendZerosOnto
set_option linter.unusedVariables false
set_option linter.unusedSimpArgs false
namespace Go.Proofs.YtfkdailfcmnjlaaGreatDoor
open Go Go.RowKit
set_option maxRecDepth 100000
attribute [local go_sem ↓] Go.wp_at_zero Go.wp_at_succ

def insF (ins : List Ins) : (Nat → Int) × (Nat → Int) × (Nat → Int) := (fun i => ((ins.getD i noIns).op : Nat), fun i => (ins.getD i noIns).n, fun i => ((ins.getD i noIns).pl : Nat))
/-- The row, as far as jumps were looked for. -/
def RowJ (w : World) (gi : Nat) (ins : List Ins) (k : Nat) : Prop := RowQ w gi ins.length (insF ins).1 (insF ins).2.1 (fun i => if i < k then toOf ins (ins.getD i noIns) else 0) (insF ins).2.2
theorem RowQ.put {w : World} {gi n : Nat} {fo fn ft ft' fp : Nat → Int} (h : RowQ w gi n fo fn ft fp) {k : Nat} {x : Int} (hk : k < n) (hx : ft' k = x) (ho : ∀ i, i < n → i ≠ k → ft' i = ft i) : RowQ (w.setCell ⟨gi, k * 4 + 2, none⟩ (.int .i64 x)) gi n fo fn ft' fp := by
  refine ⟨fun i hi => ?_, fun i hi => ?_, fun i hi => ?_, fun i hi => ?_⟩
  · rw [cell_set_off _ _ _ _ _ (by omega)]; exact h.op i hi
  · rw [cell_set_off _ _ _ _ _ (by omega)]; exact h.num i hi
  · by_cases e : i = k
    · subst e; rw [cell_set_same _ _ _ _ (by rw [h.tos i hi]; rfl), hx]
    · rw [cell_set_off _ _ _ _ _ (by omega), ho i hi e]; exact h.tos i hi
  · rw [cell_set_off _ _ _ _ _ (by omega)]; exact h.pls i hi
theorem RowQ.weak {w : World} {gi n : Nat} {fo fn ft ft' fp : Nat → Int} (h : RowQ w gi n fo fn ft fp) (ho : ∀ i, i < n → ft' i = ft i) : RowQ w gi n fo fn ft' fp :=
  ⟨h.op, h.num, fun i hi => by rw [ho i hi]; exact h.tos i hi, h.pls⟩
/-- What the search finds is where a jump comes tw. -/
theorem search_to {b : List UInt8} {ins : List Ins} (h : CodeOK b ins) {x : Ins} (hx : 0 ≤ x.n) {i : Nat} (h0 : i ≤ ins.length) (h1 : ∀ j, j < i → (insF ins).2.2 j < (x.pl : Int) + 3 + x.n) (h2 : ∀ j, i ≤ j → j < ins.length → (x.pl : Int) + 3 + x.n ≤ (insF ins).2.2 j) :
    jumpTo ins x = if i < ins.length ∧ (insF ins).2.2 i = (x.pl : Int) + 3 + x.n then some i else none := by
  have hp : ∀ j, (insF ins).2.2 j = ((ins.getD j noIns).pl : Nat) := fun _ => rfl
  by_cases hc : i < ins.length ∧ (insF ins).2.2 i = (x.pl : Int) + 3 + x.n
  · rw [if_pos hc]
    unfold jumpTo
    rw [List.findIdx?_eq_some_iff_getElem]
    refine ⟨hc.1, ?_, fun j hj => ?_⟩
    · have e := hc.2
      rw [hp, List.getD_eq_getElem?_getD, List.getElem?_eq_getElem hc.1] at e
      simp only [Option.getD_some] at e
      simp; omega
    · have e := h1 j hj
      have hjl : j < ins.length := by omega
      rw [hp, List.getD_eq_getElem?_getD, List.getElem?_eq_getElem hjl] at e
      simp only [Option.getD_some] at e
      simp; omega
  · rw [if_neg hc]
    unfold jumpTo
    rw [List.findIdx?_eq_none_iff]
    intro y hy
    obtain ⟨j, hj, rfl⟩ := List.mem_iff_getElem.1 hy
    have hpj : (insF ins).2.2 j = ((ins[j]).pl : Nat) := by rw [hp, List.getD_eq_getElem?_getD, List.getElem?_eq_getElem hj]; rfl
    simp only [beq_eq_false_iff_ne, ne_eq]
    intro e
    by_cases hji : j < i
    · have := h1 j hji; rw [hpj] at this; omega
    · by_cases hji2 : j = i
      · subst hji2; exact hc ⟨hj, by rw [hpj]; omega⟩
      · have hii : i < ins.length := by omega
        have q1 := h2 i (Nat.le_refl _) hii
        have q2 := behind_inc (fun x hx => (h.1 x hx).size) h.2 i j (by omega) hj
        rw [hp] at q1
        have q3 : (ins.getD j noIns).pl = (ins[j]).pl := by rw [List.getD_eq_getElem?_getD, List.getElem?_eq_getElem hj]; rfl
        have q4 : sizeOp (ins.getD i noIns).op ≠ 0 := (h.1 _ (getD_ins hii)).size
        omega
theorem pls_inc {b : List UInt8} {ins : List Ins} (h : CodeOK b ins) : ∀ i j, i < j → j < ins.length → (insF ins).2.2 i < (insF ins).2.2 j := fun i j hij hj => by
  have q2 := behind_inc (fun x hx => (h.1 x hx).size) h.2 i j hij hj
  have q4 : sizeOp (ins.getD i noIns).op ≠ 0 := (h.1 _ (getD_ins (by omega))).size
  show (((ins.getD i noIns).pl : Nat) : Int) < ((ins.getD j noIns).pl : Nat)
  omega
set_option maxHeartbeats 8000000 in
theorem findJumps_any {b : List UInt8} {ins : List Ins} {cp gi cap : Nat} {v0 v2 : Value} {w : World} (h : CodeOK b ins) (hb : b.length ≤ 4000) (hn : ins.length ≤ 4000) (hc : w.heap[cp]? = some (.cells #[v0, .slice (some ⟨gi, 0, none⟩) ins.length cap, v2] 253 (0, 0))) (hg : ∃ cs, w.heap[gi]? = some (.cells cs 247 (0, 0))) (hr : RowJ w gi ins 0) :
    Calls Tryz.prog 187 #[.pointer (some ⟨cp, 0, none⟩)] w fun e w' => e = .returned (.tuple #[]) ∧ RowJ w' gi ins ins.length ∧ Only (fun b => b = gi) w w' := by
  have p1 : w.cell? ⟨cp, 1, none⟩ = some (.slice (some ⟨gi, 0, none⟩) ins.length cap) := by rw [cell_of_row w cp 1 _ _ _ hc]; rfl
  have hgc : gi ≠ cp := fun e => by obtain ⟨cs, hg⟩ := hg; rw [e, hc] at hg; simp at hg
  have H : Hid _ := h
  have HC : Hid _ := hc
  have HG : Hid _ := hg
  have HR : Hid _ := hr
  clear h hc hg hr
  generalize hlen : ins.length = n at p1 hn
  have HL : Hid _ := hlen
  clear hlen
  go_enter Tryz.func187, Tryz.ntmps187
  go_wp2_with fail
  go_loopw [11] (fun kv wr => ∃ k : Nat, k ≤ n ∧ kv = .int .i64 k ∧ Hid (Only (fun b => b = gi) w wr) ∧ Hid (RowJ wr gi ins k) ∧ Hid (∀ o, wr.frozen? ⟨gi, o, none⟩ = false)) (fun kv _ => n - (intOf kv).toNat)
  case atStart => exact ⟨0, Nat.zero_le _, rfl, Only.refl _ _, HR.out, fun o => by obtain ⟨cs, hg⟩ := HG.out; simp [World.frozen?, hg]⟩
  case round =>
    obtain ⟨k, hk, rfl, HO, HJ, HFR⟩ := hrel
    have FR : Hid _ := HFR.out
    have hcp : wr.cell? ⟨cp, 1, none⟩ = some (.slice (some ⟨gi, 0, none⟩) n cap) := by
      rw [World.cell?_of_block (w := w) (a := ⟨cp, 1, none⟩) (HO.out.block cp (lt_of_get HC.out) (fun e => hgc e.symm))]; exact p1
    by_cases hlt : k < n
    · have hkl : k < ins.length := by rw [HL.out]; exact hlt
      have c0 := HJ.out.op k hkl
      have c1 := HJ.out.num k hkl
      have c2 := HJ.out.tos k hkl
      have c3 := HJ.out.pls k hkl
      rw [if_neg (Nat.lt_irrefl k)] at c2
      have hkb : (0 : Int) ≤ (k : Int) ∧ (k : Int) < (n : Int) := by omega
      have hxo := H.out.1 _ (getD_ins hkl)
      have hxn := num_ok hxo
      have hfits := hxo.fits
      have HX : Hid (∀ x, ins.getD k noIns = x → ins.getD k noIns = x) := fun _ h => h
      have e0 : (insF ins).1 k = ((ins.getD k noIns).op : Nat) := rfl
      have e1 : (insF ins).2.1 k = (ins.getD k noIns).n := rfl
      have e3 : (insF ins).2.2 k = ((ins.getD k noIns).pl : Nat) := rfl
      rw [e0] at c0
      rw [e1] at c1
      rw [e3] at c3
      have HST : Hid (∀ (W : World) (t : Int), (∀ i, i < ins.length → (if i < k + 1 then toOf ins (ins.getD i noIns) else 0) = if i = k then t else (if i < k then toOf ins (ins.getD i noIns) else 0)) ↔ toOf ins (ins.getD k noIns) = t) := fun W t => by
        constructor
        · intro h; have := h k hkl; rw [if_pos (by omega), if_pos rfl] at this; exact this
        · intro h i hi
          by_cases e : i = k
          · subst e; rw [if_pos (by omega), if_pos rfl, h]
          · rw [if_neg e]
            by_cases e2 : i < k
            · rw [if_pos (by omega), if_pos e2]
            · rw [if_neg (by omega), if_neg e2]
      have HTO : Hid (∃ t, toOf ins (ins.getD k noIns) = t) := ⟨_, rfl⟩
      generalize hx : ins.getD k noIns = x at *
      have W1 := fun w => jumps_any x.op x.n 0 (x.pl : Nat) w
      unfold insV at W1
      by_cases hj : x.op = 15 ∨ x.op = 16
      · have hdj : decide (x.op = 15 ∨ x.op = 16) = true := decide_eq_true hj
        rw [hdj] at W1
        have hf : followP x.op = 2 := by rcases hj with e | e <;> rw [e] <;> rfl
        have hsz3 : sizeOp x.op = 3 := by rcases hj with e | e <;> rw [e] <;> rfl
        obtain ⟨hn0, hn1⟩ := hxn.jump hsz3
        rw [hsz3] at hfits
        have W2 : ∀ w, Calls Tryz.prog 139 #[.agg #[.int .i64 (x.op : Nat), .int .i64 x.n, .int .i64 0, .int .i64 (x.pl : Nat)]] w fun e w' => e = .returned (.int .i64 3) ∧ Below w.heap.size w w' := fun w => by
          have := psize_any x.op x.n 0 (x.pl : Nat) w
          rw [hf] at this
          exact this
        have W3 : ∀ W, Below wr.heap.size wr W → Calls Tryz.prog 230 #[.pointer (some ⟨cp, 0, none⟩), .int .i64 ((x.pl : Int) + 3 + x.n)] W fun e w' => SearchAns n (insF ins).2.2 ((x.pl : Int) + 3 + x.n) e ∧ Below W.heap.size W w' := fun W hb => by
          rw [← HL.out]
          exact beginning_any (cap := cap) (by rw [hb.cell (World.block_lt_of_cell? wr _ hcp), HL.out]; exact hcp) (HJ.out.below hb) (by rw [HL.out]; omega) (pls_inc H.out)
        have HN : Hid (∀ (w' : World) (i : Nat), Below wr.heap.size wr w' → i ≤ n → (∀ j, j < i → (insF ins).2.2 j < (x.pl : Int) + 3 + x.n) → (∀ j, i ≤ j → j < n → (x.pl : Int) + 3 + x.n ≤ (insF ins).2.2 j) →
            ((i < n ∧ (insF ins).2.2 i = (x.pl : Int) + 3 + x.n) → w'.frozen? ⟨gi, k * 4 + 2, none⟩ = false ∧ w'.cell? ⟨gi, k * 4 + 2, none⟩ = some (.int .i64 0) ∧ Only (fun b => b = gi) w (w'.setCell ⟨gi, k * 4 + 2, none⟩ (.int .i64 i)) ∧ RowJ (w'.setCell ⟨gi, k * 4 + 2, none⟩ (.int .i64 i)) gi ins (k + 1)) ∧
            (¬ (i < n ∧ (insF ins).2.2 i = (x.pl : Int) + 3 + x.n) → Only (fun b => b = gi) w w' ∧ RowJ w' gi ins (k + 1))) := fun w' i hb hi h1 h2 => by
          have hjt := search_to H.out hn0 (x := x) (i := i) (by rw [HL.out]; exact hi) h1 (by rw [HL.out]; exact h2)
          rw [HL.out] at hjt
          have hto : toOf ins x = ((jumpTo ins x).getD 0 : Nat) := by unfold toOf; rw [if_pos hj]
          have ho' : Only (fun b => b = gi) w w' := HO.out.trans (Only.of_below (F := fun _ => False) hb) (fun _ _ h => h) (fun _ _ h => h.elim)
          have hg' : gi < wr.heap.size := World.block_lt_of_cell? wr _ c0
          refine ⟨fun hc => ?_, fun hc => ?_⟩
          · rw [if_pos hc] at hjt
            rw [hjt] at hto
            have hto' : toOf ins x = (i : Int) := hto
            obtain ⟨cs, hgc0⟩ := HG.out
            have hfr : w'.frozen? ⟨gi, k * 4 + 2, none⟩ = false := by
              have hfw : wr.frozen? ⟨gi, k * 4 + 2, none⟩ = false := FR.out _
              rw [hb.frozen (p := ⟨gi, k * 4 + 2, none⟩) hg']; exact hfw
            refine ⟨hfr, by rw [hb.cell (p := ⟨gi, k * 4 + 2, none⟩) hg']; exact c2, ho'.setCell (.inl rfl) _, ?_⟩
            refine (HJ.out.below hb).put hkl (by rw [if_pos (by omega), hx]; exact hto') (fun i' hi' hne => ?_)
            by_cases e2 : i' < k
            · rw [if_pos (by omega), if_pos e2]
            · rw [if_neg (by omega), if_neg e2]
          · rw [if_neg hc] at hjt
            rw [hjt] at hto
            refine ⟨ho', (HJ.out.below hb).weak (fun i' hi' => ?_)⟩
            by_cases e : i' = k
            · subst e; rw [if_pos (by omega), if_neg (by omega), hx, hto]; rfl
            · by_cases e2 : i' < k
              · rw [if_pos (by omega), if_pos e2]
              · rw [if_neg (by omega), if_neg e2]
        have hgl : gi < wr.heap.size := World.block_lt_of_cell? wr ⟨gi, k * 4, none⟩ c0
        have HFZ : Hid (∀ (w' : World) (v : Value), Below wr.heap.size wr w' → (∀ o, w'.frozen? ⟨gi, o, none⟩ = false) ∧ ∀ o, (w'.setCell ⟨gi, k * 4 + 2, none⟩ v).frozen? ⟨gi, o, none⟩ = false) := fun w' v hb => by
          have h1 : ∀ o, w'.frozen? ⟨gi, o, none⟩ = false := fun o => by rw [hb.frozen (p := ⟨gi, o, none⟩) hgl]; exact FR.out o
          exact ⟨h1, fun o => by simpa using h1 o⟩
        have KP : Hid (∀ W W', (Below wr.heap.size wr W ∧ W.cell? ⟨gi, k * 4, none⟩ = some (.int .i64 (x.op : Nat)) ∧ W.cell? ⟨gi, k * 4 + 1, none⟩ = some (.int .i64 x.n) ∧ W.cell? ⟨gi, k * 4 + 2, none⟩ = some (.int .i64 0) ∧ W.cell? ⟨gi, k * 4 + 3, none⟩ = some (.int .i64 (x.pl : Nat))) → Below W.heap.size W W' → (Below wr.heap.size wr W' ∧ W'.cell? ⟨gi, k * 4, none⟩ = some (.int .i64 (x.op : Nat)) ∧ W'.cell? ⟨gi, k * 4 + 1, none⟩ = some (.int .i64 x.n) ∧ W'.cell? ⟨gi, k * 4 + 2, none⟩ = some (.int .i64 0) ∧ W'.cell? ⟨gi, k * 4 + 3, none⟩ = some (.int .i64 (x.pl : Nat)))) := fun W W' hS hb => by
          obtain ⟨s0, s1, s2, s3, s4⟩ := hS
          have hgW : gi < W.heap.size := World.block_lt_of_cell? W ⟨gi, k * 4, none⟩ s1
          exact ⟨s0.trans (hb.mono s0.size), by rw [hb.cell (p := ⟨gi, k * 4, none⟩) hgW]; exact s1, by rw [hb.cell (p := ⟨gi, k * 4 + 1, none⟩) hgW]; exact s2, by rw [hb.cell (p := ⟨gi, k * 4 + 2, none⟩) hgW]; exact s3, by rw [hb.cell (p := ⟨gi, k * 4 + 3, none⟩) hgW]; exact s4⟩
        have KD : Hid (∀ W : World, (Below wr.heap.size wr W ∧ W.cell? ⟨gi, k * 4, none⟩ = some (.int .i64 (x.op : Nat)) ∧ W.cell? ⟨gi, k * 4 + 1, none⟩ = some (.int .i64 x.n) ∧ W.cell? ⟨gi, k * 4 + 2, none⟩ = some (.int .i64 0) ∧ W.cell? ⟨gi, k * 4 + 3, none⟩ = some (.int .i64 (x.pl : Nat))) → (Below wr.heap.size wr W.drew ∧ W.drew.cell? ⟨gi, k * 4, none⟩ = some (.int .i64 (x.op : Nat)) ∧ W.drew.cell? ⟨gi, k * 4 + 1, none⟩ = some (.int .i64 x.n) ∧ W.drew.cell? ⟨gi, k * 4 + 2, none⟩ = some (.int .i64 0) ∧ W.drew.cell? ⟨gi, k * 4 + 3, none⟩ = some (.int .i64 (x.pl : Nat)))) := fun W hS => ⟨hS.1.drew, hS.2⟩
        have hS0 : Below wr.heap.size wr wr ∧ wr.cell? ⟨gi, k * 4, none⟩ = some (.int .i64 (x.op : Nat)) ∧ wr.cell? ⟨gi, k * 4 + 1, none⟩ = some (.int .i64 x.n) ∧ wr.cell? ⟨gi, k * 4 + 2, none⟩ = some (.int .i64 0) ∧ wr.cell? ⟨gi, k * 4 + 3, none⟩ = some (.int .i64 (x.pl : Nat)) := ⟨Below.refl _ _, c0, c1, c2, c3⟩
        have hpl : x.pl ≤ 4000 := by omega
        have hw1 : IntKind.i64.wrap ((x.pl : Int) + 3) = (x.pl : Int) + 3 := by rw [IntKind.wrap_i64]; omega
        have hw2 : IntKind.i64.wrap ((x.pl : Int) + 3 + x.n) = (x.pl : Int) + 3 + x.n := by rw [IntKind.wrap_i64]; omega
        clear hxo hxn hfits hx hdj hj e0 e1 e3 HST HTO HX hf hsz3
        go_wp2_with (
          go_at_call 138
          refine (W1 _).mono ?_
          rintro e w2 ⟨rfl, hb2⟩
          have hS2 := KP.out _ _ hS0 hb2
          clear hb2)
        clear hS0 c0 c1 c2 c3 W1
        go_region_held3 (fun W => Below wr.heap.size wr W ∧ W.cell? ⟨gi, k * 4, none⟩ = some (.int .i64 (x.op : Nat)) ∧ W.cell? ⟨gi, k * 4 + 1, none⟩ = some (.int .i64 x.n) ∧ W.cell? ⟨gi, k * 4 + 2, none⟩ = some (.int .i64 0) ∧ W.cell? ⟨gi, k * 4 + 3, none⟩ = some (.int .i64 (x.pl : Nat))) (first | with_reducible exact KD.out _ (by assumption) | with_reducible exact KP.out _ _ (by assumption) (by assumption) | with_reducible assumption | go_keep)
          (first
            | (go_at_call 139; refine (W2 _).mono ?_; rintro e w3 ⟨rfl, hb3⟩)
            | (go_at_call 230; refine (W3 _ (by exact And.left (by assumption))).mono ?_; rintro e w4 ⟨⟨j, hj0, rfl, hj1, hj2⟩, hb4⟩; generalize hrr : decide (j < n ∧ (insF ins).2.2 j = (x.pl : Int) + 3 + x.n) = r; have HRR : Hid _ := hrr; clear hrr))
        rename_i hHeld
        obtain ⟨a1, a2⟩ := HN.out w4 j hHeld.1 hj0 hj1 hj2
        obtain ⟨z1, z2⟩ := HFZ.out w4 (.int .i64 j) hHeld.1
        have HZ1 : Hid _ := z1
        have HZ2 : Hid _ := z2
        clear hHeld hb3 hb4 KP KD W2 W3 HN HFZ z1 z2 hS2
        by_cases hc : j < n ∧ (insF ins).2.2 j = (x.pl : Int) + 3 + x.n
        · have hcd : decide (j < n ∧ (insF ins).2.2 j = (x.pl : Int) + 3 + x.n) = true := decide_eq_true hc
          obtain ⟨b1, b2, b3, b4⟩ := a1 hc
          have HB3 : Hid _ := b3
          have HB4 : Hid _ := b4
          obtain rfl : r = _ := HRR.out.symm.trans hcd
          clear hc hcd HRR a1 a2 hj1 hj2 b3 b4
          go_wp2
          go_roundw
          case rel => exact ⟨k + 1, by omega, by go_num, HB3.out, HB4.out, HZ2.out⟩
          case measure => simp [intOf]; omega
        · have hcd : decide (j < n ∧ (insF ins).2.2 j = (x.pl : Int) + 3 + x.n) = false := decide_eq_false hc
          obtain ⟨b3, b4⟩ := a2 hc
          have HB3 : Hid _ := b3
          have HB4 : Hid _ := b4
          obtain rfl : r = _ := HRR.out.symm.trans hcd
          clear hc hcd HRR a1 a2 hj1 hj2 b3 b4
          go_wp2
          go_roundw
          case rel => exact ⟨k + 1, by omega, by go_num, HB3.out, HB4.out, HZ1.out⟩
          case measure => simp [intOf]; omega
      · have hdj : decide (x.op = 15 ∨ x.op = 16) = false := decide_eq_false hj
        rw [hdj] at W1
        have HN : Hid (∀ w', Below wr.heap.size wr w' → Only (fun b => b = gi) w w' ∧ RowJ w' gi ins (k + 1) ∧ ∀ o, w'.frozen? ⟨gi, o, none⟩ = false) := fun w' hb => by
          refine ⟨HO.out.trans (Only.of_below (F := fun _ => False) hb) (fun _ _ h => h) (fun _ _ h => h.elim), ?_, fun o => by rw [hb.frozen (p := ⟨gi, o, none⟩) (show gi < wr.heap.size from World.block_lt_of_cell? wr ⟨gi, k * 4, none⟩ c0)]; exact FR.out o⟩
          refine (HJ.out.below hb).weak (fun i hi => ?_)
          by_cases e : i = k
          · subst e; rw [if_pos (by omega), if_neg (by omega), hx]; unfold toOf; rw [if_neg hj]
          · by_cases e2 : i < k
            · rw [if_pos (by omega), if_pos e2]
            · rw [if_neg (by omega), if_neg e2]
        clear hxo hxn hfits hx hdj hj e0 e1 e3
        go_wp2_with (
          go_at_call 138
          refine (W1 _).mono ?_
          rintro e w2 ⟨rfl, hb2⟩
          have HU : Hid _ := HN.out w2 hb2
          clear hb2)
        exact ⟨⟨k + 1, by omega, by go_num, HU.out.1, HU.out.2.1, HU.out.2.2⟩, by simp [intOf]; omega⟩
    · obtain rfl : k = n := by omega
      go_wp2
      go_end0
      exact ⟨rfl, HJ.out, HO.out⟩
end Go.Proofs.YtfkdailfcmnjlaaGreatDoor

namespace Go.Proofs.YtfkdailfcmnjlaaGreatDoor
open Go Go.RowKit
set_option maxRecDepth 100000
attribute [local go_sem ↓] Go.wp_at_zero Go.wp_at_succ

def hdBad (b : List UInt8) : Prop := b.length < 4 ∨ 4000 < b.length ∨ byteAt b 0 ≠ 71 ∨ 24 < byteAt b 1
def decP (b : List UInt8) : Option (List Ins) := if hdBad b then none else dec (b.length + 1) b 3
def CodeAns (b : List UInt8) (r : Option (List Ins)) (w : World) (e : Ending) (w' : World) : Prop :=
  (match r with
    | none => ∃ v, e = .returned (.tuple #[v, .bool false])
    | some ins => ∃ cp gi cap, e = .returned (.tuple #[.pointer (some ⟨cp, 0, none⟩), .bool true]) ∧ CodeAt w' cp gi cap (byteAt b 2) (byteAt b 1) ins) ∧ Below w.heap.size w w'
/-- Instructions whose jumps weren't looked for, in memory. -/
def ic0 (l : List Ins) : List Value := l.flatMap fun x => [.int .i64 (x.op : Nat), .int .i64 x.n, .int .i64 0, .int .i64 (x.pl : Nat)]
theorem ic0_at (l : List Ins) : ∀ i, i < l.length → (ic0 l)[i * 4]? = some (.int .i64 ((l.getD i noIns).op : Nat)) ∧ (ic0 l)[i * 4 + 1]? = some (.int .i64 (l.getD i noIns).n) ∧ (ic0 l)[i * 4 + 2]? = some (.int .i64 0) ∧ (ic0 l)[i * 4 + 3]? = some (.int .i64 ((l.getD i noIns).pl : Nat)) := by
  induction l with
  | nil => intro i hi; simp at hi
  | cons x r ih =>
    intro i hi
    have e : ic0 (x :: r) = Value.int .i64 (x.op : Nat) :: .int .i64 x.n :: .int .i64 0 :: .int .i64 (x.pl : Nat) :: ic0 r := rfl
    cases i with
    | zero => rw [e]; exact ⟨rfl, rfl, rfl, rfl⟩
    | succ i =>
      obtain ⟨a, b, c, d⟩ := ih i (by simpa using hi)
      rw [e, show (i + 1) * 4 = i * 4 + 1 + 1 + 1 + 1 by omega, show i * 4 + 1 + 1 + 1 + 1 + 1 = i * 4 + 1 + 1 + 1 + 1 + 1 by rfl, show i * 4 + 1 + 1 + 1 + 1 + 2 = i * 4 + 2 + 1 + 1 + 1 + 1 by omega, show i * 4 + 1 + 1 + 1 + 1 + 3 = i * 4 + 3 + 1 + 1 + 1 + 1 by omega]
      simp only [List.getElem?_cons_succ, List.getD_cons_succ]
      exact ⟨a, b, c, d⟩
theorem ic0_snoc (l : List Ins) (x : Ins) : ic0 (l ++ [x]) = ic0 l ++ [.int .i64 (x.op : Nat), .int .i64 x.n, .int .i64 0, .int .i64 (x.pl : Nat)] := by simp [ic0]
theorem row_j {w : World} {base gi cap : Nat} {ins : List Ins} (h : w.ownsRow base 247 4 (.slice (some ⟨gi, 0, none⟩) ins.length cap) ins.length (ic0 ins)) : RowJ w gi ins 0 := by
  have hc : ∀ j, j < ins.length * 4 → w.cell? ⟨gi, j, none⟩ = (ic0 ins)[j]? := fun j hj => h.cellAt j hj
  refine ⟨fun i hi => ?_, fun i hi => ?_, fun i hi => ?_, fun i hi => ?_⟩
  · rw [hc _ (by omega)]; exact (ic0_at ins i hi).1
  · rw [hc _ (by omega)]; exact (ic0_at ins i hi).2.1
  · rw [hc _ (by omega), if_neg (by omega)]; exact (ic0_at ins i hi).2.2.1
  · rw [hc _ (by omega)]; exact (ic0_at ins i hi).2.2.2
/-- Between the rounds of reading. -/
structure RdI (w wr : World) (b : List UInt8) (a : Nat) (D : Option (List Ins)) (pre : List Ins) (v : Value) : Prop where
  bel : Below w.heap.size w wr
  blk : wr.heap[w.heap.size]? = some (.cells #[.int .i64 (byteAt b 2 : Nat), v, .int .i64 (byteAt b 1 : Nat)] 253 (0, 0))
  row : wr.ownsRow w.heap.size 247 4 v pre.length (ic0 pre)
  dcd : ∃ f, b.length < a + f ∧ D = (dec f b a).map (pre ++ ·)
  len : pre.length + 3 ≤ a
  lo : a ≤ b.length
theorem RdI.at_ {w wr w3 : World} {b : List UInt8} {a : Nat} {D : Option (List Ins)} {pre : List Ins} {v : Value} (h : RdI w wr b a D pre v) (h3 : Below wr.heap.size wr w3) : w3.heap[w.heap.size]? = some (.cells #[.int .i64 (byteAt b 2 : Nat), v, .int .i64 (byteAt b 1 : Nat)] 253 (0, 0)) ∧ w3.ownsRow w.heap.size 247 4 v pre.length (ic0 pre) ∧ Below w.heap.size w w3 ∧ w.heap.size < wr.heap.size :=
  ⟨(h3.block _ (lt_of_get h.blk)).trans h.blk, ownsRow_below h.row h3, h.bel.trans (h3.mono h.bel.size), lt_of_get h.blk⟩
theorem row_apart {w : World} {base cp : Nat} {v : Value} {n : Nat} {xs cs : List Value} (h : w.ownsRow base 247 4 v n xs) (hc : w.heap[cp]? = some (.cells cs.toArray 253 (0, 0))) : some cp ≠ v.ownBlock := fun e => by
  obtain ⟨cs', h'⟩ := ownsRow_type h e.symm
  rw [hc] at h'; simp at h'
theorem RdI.next {w wr w3 w4 : World} {b : List UInt8} {a a' : Nat} {D : Option (List Ins)} {pre : List Ins} {v v' : Value} {x : Ins} {o' : Obj} (h : RdI w wr b a D pre v) (h3 : Below wr.heap.size wr w3) (hgrow : (w3.alloc o').grownBy w4 v.ownBlock) (hown : w4.ownsRow w.heap.size 247 4 v' (pre.length + 1) (ic0 pre ++ [.int .i64 (x.op : Nat), .int .i64 x.n, .int .i64 0, .int .i64 (x.pl : Nat)]))
    (hd : ∃ f, b.length < a' + f ∧ D = (dec f b a').map ((pre ++ [x]) ++ ·)) (ha : a + 1 ≤ a') (ha2 : a' ≤ b.length) : RdI w (w4.setCell ⟨w.heap.size, 1, none⟩ v') b a' D (pre ++ [x]) v' := by
  obtain ⟨q1, q2, q3, q4⟩ := h.at_ h3
  have hs := h3.size
  have hne := row_apart (cs := [_, _, _]) q2 q1
  have hblk : w4.heap[w.heap.size]? = _ := (hgrow.block _ (by rw [World.size_alloc]; omega) hne).trans ((Below.heap_alloc w3 o' _ (by omega)).trans q1)
  have hne2 := row_apart (cs := [_, _, _]) hown hblk
  refine ⟨?_, ?_, ?_, hd, by have := h.len; simp; omega, ha2⟩
  · have hb3 : Below w.heap.size w (w3.alloc o') := q3.alloc q3.size _
    exact (Below.grown hb3 hgrow hb3.size (fun k hk => (q2.lt k hk).1)).setCell (by simp) _
  · rw [heap_setCell_same w4 _ 1 _ _ _ hblk]; rfl
  · rw [List.length_append, ic0_snoc]
    exact ownsRow_setCell_other hown (a := ⟨w.heap.size, 1, none⟩) (fun e => hne2 e.symm) _
theorem info_ins : (Tryz.prog.info? 247).map (fun i => (i.zero, i.size, i.bytes)) = some (some (.agg #[.int .i64 0, .int .i64 0, .int .i64 0, .int .i64 0]), 4, 32) := by kernel_rfl
set_option maxHeartbeats 4000000 in
theorem pread_bad {b : List UInt8} (hb : hdBad b) (w : World) : Calls Tryz.prog 142 #[S b] w fun e w' => CodeAns b none w e w' := by
  have HB : Hid (∀ (v : Value), CodeAns b none w (.returned (.tuple #[v, .bool false])) w) := fun v => ⟨⟨v, rfl⟩, Below.refl _ _⟩
  have HBd : Hid (∀ (v : Value), CodeAns b none w (.returned (.tuple #[v, .bool false])) w.drew) := fun v => ⟨⟨v, rfl⟩, (Below.refl _ _).drew⟩
  by_cases h1 : 4000 < b.length
  · have h1' : (4000 : Int) < (b.length : Int) := by omega
    clear hb
    go_enter Tryz.func142, Tryz.ntmps142
    go_wp2
    go_ret2
    exact HB.out _
  by_cases h2 : b.length < 4
  · have h2' : (b.length : Int) ≤ 3 := by omega
    clear hb
    go_enter Tryz.func142, Tryz.ntmps142
    go_wp2
    go_ret2
    exact HB.out _
  have hs0 : 0 < (ByteArray.mk b.toArray).size := by show 0 < b.length; omega
  have hs1 : 1 < (ByteArray.mk b.toArray).size := by show 1 < b.length; omega
  have b0 := pba_at b 0 hs0
  have b1 := pba_at b 1 hs1
  have hl1 : (3 : Int) < (b.length : Int) := by omega
  have hl2 : ¬ ((4000 : Int) < (b.length : Int)) := by omega
  by_cases h3 : byteAt b 0 = 71
  · have h4 : 24 < byteAt b 1 := by
      unfold hdBad at hb; omega
    have h4' : (24 : Int) < (byteAt b 1 : Int) := by omega
    rw [h3] at b0
    generalize byteAt b 1 = y at *
    clear hb h3
    go_enter Tryz.func142, Tryz.ntmps142
    go_wp2
    go_ret2
    exact HB.out _
  · have h3' : ((byteAt b 0 : Int) != 71) = true := by simp; omega
    generalize byteAt b 0 = x at *
    clear hb h3
    go_enter Tryz.func142, Tryz.ntmps142
    go_wp2
    go_ret2
    exact HB.out _
set_option maxHeartbeats 8000000 in
theorem pread_good {b : List UInt8} (hb : ¬ hdBad b) (w : World) : Calls Tryz.prog 142 #[S b] w fun e w' => CodeAns b (dec (b.length + 1) b 3) w e w' := by
  have hb1 : 4 ≤ b.length ∧ b.length ≤ 4000 ∧ byteAt b 0 = 71 ∧ byteAt b 1 ≤ 24 := by unfold hdBad at hb; omega
  obtain ⟨hl0, hl9, h71, h24⟩ := hb1
  have hs0 : 0 < (ByteArray.mk b.toArray).size := by show 0 < b.length; omega
  have hs1 : 1 < (ByteArray.mk b.toArray).size := by show 1 < b.length; omega
  have hs2 : 2 < (ByteArray.mk b.toArray).size := by show 2 < b.length; omega
  have b0 := pba_at b 0 hs0
  have b1 := pba_at b 1 hs1
  have b2 := pba_at b 2 hs2
  rw [h71] at b0
  have hc2 := byte_lt b 2
  have hl1 : (3 : Int) < (b.length : Int) := by omega
  have hl2 : ¬ ((4000 : Int) < (b.length : Int)) := by omega
  generalize hD : dec (b.length + 1) b 3 = D
  have HI0 : Hid (RdI w (w.alloc (.cells #[.int .i64 (byteAt b 2 : Nat), .slice none 0 0, .int .i64 (byteAt b 1 : Nat)] 253)).drew b 3 D [] (.slice none 0 0)) :=
    ⟨((Below.refl _ _).alloc (Nat.le_refl _) _).drew, heap_alloc_new w _, World.ownsRow_nil _ _ _ _, ⟨b.length + 1, by omega, by rw [hD]; cases D <;> rfl⟩, by simp, by omega⟩
  have HD0 : Hid _ := hD
  clear hb hD h71
  go_enter Tryz.func142, Tryz.ntmps142
  go_wp2_with fail
  go_region
  go_wp2_with fail
  generalize (w.alloc (.cells #[.int .i64 (byteAt b 2 : Nat), .slice none 0 0, .int .i64 (byteAt b 1 : Nat)] 253)).drew = W0 at *
  go_loopw [5] (fun av wr => ∃ a : Nat, a ≤ b.length ∧ av = .int .i64 a ∧ Hid (∃ pre v, RdI w wr b a D pre v)) (fun av _ => b.length - (intOf av).toNat)
  case atStart => exact ⟨3, by omega, rfl, _, _, HI0.out⟩
  case round =>
    obtain ⟨a, ha, rfl, HI⟩ := hrel
    obtain ⟨pre, v, hI⟩ := HI.out
    by_cases hlt : a < b.length
    · have hsa : a < (ByteArray.mk b.toArray).size := hlt
      have ba := pba_at b a hsa
      have ho := byte_lt b a
      have hf := follow_le (byteAt b a)
      have W1 := fun w => psize_any (byteAt b a) 0 0 (a : Nat) w
      unfold insV at W1
      have HSH : Hid (b.length < a + 1 + followP (byteAt b a) → ¬ okD b a) := fun h => read_short h
      have HMA : Hid (a + 1 + followP (byteAt b a) ≤ b.length → (mayP (byteAt b a) (numP b a) (byteAt b 2) = true ↔ okD b a)) := fun h => may_iff h
      have HIN : Hid (okD b a → insAt b a = ⟨byteAt b a, numP b a, a⟩ ∧ sizeOp (byteAt b a) = 1 + followP (byteAt b a)) := fun h => ins_read h
      have HDN : Hid (¬ okD b a → D = none) := fun hno => by
        obtain ⟨f, h1, h2⟩ := hI.dcd
        obtain ⟨f', rfl⟩ : ∃ f', f = f' + 1 := ⟨f - 1, by omega⟩
        rw [h2, dec_succ hlt, if_neg hno]; rfl
      have HDS : Hid (okD b a → ∃ f, b.length < (a + (1 + followP (byteAt b a))) + f ∧ D = (dec f b (a + (1 + followP (byteAt b a)))).map ((pre ++ [⟨byteAt b a, numP b a, a⟩]) ++ ·)) := fun hok => by
        obtain ⟨f, h1, h2⟩ := hI.dcd
        obtain ⟨f', rfl⟩ : ∃ f', f = f' + 1 := ⟨f - 1, by omega⟩
        obtain ⟨q1, q2⟩ := ins_read hok
        refine ⟨f', by omega, ?_⟩
        rw [h2, dec_succ hlt, if_pos hok, q1, q2]
        cases dec f' b (a + (1 + followP (byteAt b a))) <;> simp
      have hnumb : numP b a = signed64 (beVal (cut b (a + 1) (a + 1 + followP (byteAt b a))) 0 (followP (byteAt b a))) := by rw [be_cut _ _ _ _ (by omega)]; rfl
      have W2 := fun w => cnumber_any (cut b (a + 1) (a + 1 + followP (byteAt b a))) (by unfold cut; simp; omega) w
      have hBl : Hid (∀ w', Below wr.heap.size wr w' → Below w.heap.size w w') := fun w' h => hI.bel.trans (h.mono hI.bel.size)
      clear HI
      generalize hok : byteAt b a = o at *
      generalize followP o = f at *
      by_cases hsh : b.length < a + 1 + f
      · have HDf : Hid (D = none) := HDN.out (HSH.out hsh)
        have hsh' : ((b.length : Int)) < (a : Int) + ((1 + f : Nat) : Int) := by omega
        clear HSH HMA HIN HDN HDS W2 hnumb hI
        go_wp2_with fail
        refine (W1 _).mono ?_
        rintro e w2 ⟨rfl, hb2⟩
        have HU : Hid (Below w.heap.size w w2) := hBl.out w2 (((Below.refl wr.heap.size wr).alloc (Nat.le_refl _) _).trans (hb2.mono (by simp)))
        clear hb2 W1
        go_wp2
        go_ret2
        rw [HDf.out]
        exact ⟨⟨_, rfl⟩, HU.out⟩
      · obtain ⟨w1, hw1⟩ : ∃ w1, wr.alloc (.cells #[.int .i64 (o : Nat), .int .i64 0, .int .i64 0, .int .i64 (a : Nat)] 247) = w1 := ⟨_, rfl⟩
        have hb1 : Below wr.heap.size wr w1 := by rw [← hw1]; exact (Below.refl _ _).alloc (Nat.le_refl _) _
        have hk1 : w1.heap[wr.heap.size]? = some (.cells #[.int .i64 (o : Nat), .int .i64 0, .int .i64 0, .int .i64 (a : Nat)] 247 (0, 0)) := by rw [← hw1]; exact heap_alloc_new wr _
        have HW1 : Hid _ := hw1
        have HI2 : Hid _ := hI
        have hcut : ({ data := b.toArray } : ByteArray).extract (a + 1) (a + 1 + f) = ⟨(cut b (a + 1) (a + 1 + f)).toArray⟩ := cut_ex _ _ _
        have hclen : (cut b (a + 1) (a + 1 + f)).length = f := by rw [cut_len _ _ _ (by omega)]; omega
        rw [hclen] at W2
        rw [← hnumb] at W2
        have hsl : (0 : Int) ≤ (a : Int) + 1 ∧ (a : Int) + 1 ≤ (a : Int) + 1 + f ∧ (a : Int) + 1 + f ≤ (b.length : Int) := by omega
        have hnsh : ¬ ((b.length : Int)) < (a : Int) + ((1 + f : Nat) : Int) := by omega
        generalize numP b a = m at *
        clear hnumb hI hw1
        go_wp2_with fail
        rw [HW1.out]
        refine (W1 _).mono ?_
        rintro e w2 ⟨rfl, hb2⟩
        have hk2 : w2.heap[wr.heap.size]? = _ := (hb2.block _ (lt_of_get hk1)).trans hk1
        have hcc := fun j => cell_of_row w2 _ j _ _ _ hk2
        have d0 : w2.cell? ⟨wr.heap.size, 0, none⟩ = some (.int .i64 (o : Nat)) := hcc 0
        have d1 : w2.cell? ⟨wr.heap.size, 1, none⟩ = some (.int .i64 0) := hcc 1
        have d2 : w2.cell? ⟨wr.heap.size, 2, none⟩ = some (.int .i64 0) := hcc 2
        have d3 : w2.cell? ⟨wr.heap.size, 3, none⟩ = some (.int .i64 (a : Nat)) := hcc 3
        have df : w2.frozen? ⟨wr.heap.size, 1, none⟩ = false := by simp [World.frozen?, hk2]
        have HB2 : Hid _ := hb1.trans (hb2.mono hb1.size)
        have HK2 : Hid _ := hk2
        clear hcc hb2 hk2 hb1 hk1 W1
        go_wp2_with fail
        rw [show a + (1 + f) = a + 1 + f by omega, hcut]
        refine (W2 _).mono ?_
        rintro e w2' ⟨rfl, rfl⟩
        clear W2
        have hS3 : (w2'.setCell ⟨wr.heap.size, 1, none⟩ (.int .i64 m)).heap[wr.heap.size]? = some (.cells #[.int .i64 (o : Nat), .int .i64 m, .int .i64 0, .int .i64 (a : Nat)] 247 (0, 0)) := by rw [heap_setCell_same w2' _ 1 _ _ _ HK2.out]; rfl
        have hB3 : Below wr.heap.size wr (w2'.setCell ⟨wr.heap.size, 1, none⟩ (.int .i64 m)) := HB2.out.setCell (by simp) _
        have hC3 : (w2'.setCell ⟨wr.heap.size, 1, none⟩ (.int .i64 m)).cell? ⟨w.heap.size, 0, none⟩ = some (.int .i64 (byteAt b 2 : Nat)) := by rw [cell_of_row _ _ 0 _ _ _ (HI2.out.at_ hB3).1]; rfl
        have hE3 := fun j => cell_of_row _ _ j _ _ _ hS3
        have e0 : (w2'.setCell ⟨wr.heap.size, 1, none⟩ (.int .i64 m)).cell? ⟨wr.heap.size, 0, none⟩ = some (.int .i64 (o : Nat)) := hE3 0
        have e1 : (w2'.setCell ⟨wr.heap.size, 1, none⟩ (.int .i64 m)).cell? ⟨wr.heap.size, 1, none⟩ = some (.int .i64 m) := hE3 1
        have e2 : (w2'.setCell ⟨wr.heap.size, 1, none⟩ (.int .i64 m)).cell? ⟨wr.heap.size, 2, none⟩ = some (.int .i64 0) := hE3 2
        have e3 : (w2'.setCell ⟨wr.heap.size, 1, none⟩ (.int .i64 m)).cell? ⟨wr.heap.size, 3, none⟩ = some (.int .i64 (a : Nat)) := hE3 3
        have W3 := mayBe_any o m 0 (a : Nat) hC3
        unfold insV at W3
        have HS3 : Hid _ := hS3
        have HB3 : Hid _ := hB3
        clear hS3 hB3 hE3 hC3
        go_wp2_with fail
        refine W3.mono ?_
        rintro e w3 ⟨rfl, hb3⟩
        have hk3 : w3.heap[wr.heap.size]? = _ := (hb3.block _ (lt_of_get HS3.out)).trans HS3.out
        have hB3 : Below wr.heap.size wr w3 := HB3.out.trans (hb3.mono HB3.out.size)
        clear W3 e0 e1 e2 e3 d0 d1 d2 d3 df hb3
        have hma := HMA.out (by omega)
        generalize hmm : mayP o m (byteAt b 2) = r at *
        clear hmm
        cases r with
        | false =>
          have HDf : Hid (D = none) := HDN.out (fun h => by have := hma.2 h; cases this)
          have HU : Hid (Below w.heap.size w w3) := hBl.out w3 hB3
          clear hk3 hB3 hma HSH HMA HIN HDN HDS
          go_wp2
          go_ret2
          rw [HDf.out]
          exact ⟨⟨_, rfl⟩, HU.out⟩
        | true =>
          obtain ⟨q1, q2, q3, q4⟩ := HI2.out.at_ hB3
          obtain ⟨va, vcap, rfl⟩ : ∃ va vcap, v = .slice va pre.length vcap := by
            rcases q2.2 with ⟨h, h0⟩ | ⟨g, c, _, h, _⟩
            · exact ⟨none, 0, by rw [h, h0]⟩
            · exact ⟨_, _, h⟩
          have hcc := fun j => cell_of_row w3 _ j _ _ _ hk3
          have d0 : w3.cell? ⟨wr.heap.size, 0, none⟩ = some (.int .i64 (o : Nat)) := hcc 0
          have d1 : w3.cell? ⟨wr.heap.size, 1, none⟩ = some (.int .i64 m) := hcc 1
          have d2 : w3.cell? ⟨wr.heap.size, 2, none⟩ = some (.int .i64 0) := hcc 2
          have d3 : w3.cell? ⟨wr.heap.size, 3, none⟩ = some (.int .i64 (a : Nat)) := hcc 3
          have c1 : w3.cell? ⟨w.heap.size, 1, none⟩ = some (.slice va pre.length vcap) := by rw [cell_of_row w3 _ 1 _ _ _ q1]; rfl
          have cf : w3.frozen? ⟨w.heap.size, 1, none⟩ = false := by simp [World.frozen?, q1]
          have hne := row_apart (cs := [_, _, _]) q2 q1
          obtain ⟨i0, hi, hz⟩ := Option.map_eq_some_iff.1 info_ins
          simp only [Prod.mk.injEq] at hz
          obtain ⟨hz0, hz1, hz2⟩ := hz
          have hplen : pre.length ≤ 4000 := by have := HI2.out.len; omega
          have hcp3 : w.heap.size < w3.heap.size := by have := hB3.size; omega
          have hnews : ∀ j u, [Value.int .i64 (o : Nat), .int .i64 m, .int .i64 0, .int .i64 (a : Nat)][j]? = some u → ((w3.alloc (.cells #[.int .i64 (o : Nat), .int .i64 m, .int .i64 0, .int .i64 (a : Nat)] 247)).drew).cell? ((⟨w3.heap.size, 0, none⟩ : Addr).add j) = some u := World.news_of_block (w := (w3.alloc (.cells #[.int .i64 (o : Nat), .int .i64 m, .int .i64 0, .int .i64 (a : Nat)] 247)).drew) (heap_alloc_new w3 _)
          have hone : ∀ u ∈ [Value.int .i64 (o : Nat), .int .i64 m, .int .i64 0, .int .i64 (a : Nat)], u.oneCell' = true := by
            intro u hu
            simp at hu
            rcases hu with rfl | rfl | rfl | rfl <;> rfl
          have hown3 : ((w3.alloc (.cells #[.int .i64 (o : Nat), .int .i64 m, .int .i64 0, .int .i64 (a : Nat)] 247)).drew).ownsRow w.heap.size 247 4 (.slice va pre.length vcap) pre.length (ic0 pre) := q2.alloc _
          have hfar : ∀ w4, ((w3.alloc (.cells #[.int .i64 (o : Nat), .int .i64 m, .int .i64 0, .int .i64 (a : Nat)] 247)).drew).grownBy w4 (Value.slice va pre.length vcap).ownBlock → w4.cell? ⟨w.heap.size, 1, none⟩ = some (.slice va pre.length vcap) ∧ w4.frozen? ⟨w.heap.size, 1, none⟩ = false := fun w4 hg => by
            have e : w4.heap[w.heap.size]? = w3.heap[w.heap.size]? := (hg.block _ (by show w.heap.size < (w3.alloc _).heap.size; rw [World.size_alloc]; omega) hne).trans (Below.heap_alloc w3 _ _ hcp3)
            exact ⟨by rw [World.cell?_of_block (a := ⟨w.heap.size, 1, none⟩) e]; exact c1, by rw [World.frozen?_of_block (a := ⟨w.heap.size, 1, none⟩) e]; exact cf⟩
          have HB3b : Hid _ := hB3
          have hd' := HDS.out (hma.1 rfl)
          have HD' : Hid _ := hd'
          clear q1 q2 q3 hcc hk3 hB3 hma HSH HMA HIN HDN HDS hd'
          go_wp2_with fail
          go_region_law
            ((refine step_append_lies _ (by rfl) _ _ _ (by rfl) w.heap.size 247 i0 _ 4 32 Tryz.underlying192 hi hz0 hz1 hz2 (by rfl) (by decide) (.slice va pre.length vcap) pre.length (ic0 pre) (by rfl) hown3
                ⟨w3.heap.size, 0, none⟩ 1 1 [.int .i64 (o : Nat), .int .i64 m, .int .i64 0, .int .i64 (a : Nat)] (by rfl) (by rfl) hnews hone
                (by decide) (by unfold maxLen; omega) (by omega) (by simp; omega) (w3.heap.size + 1) (by simp) ?_; intro gg cap4 w4 hown4 hgrow4 hat4 hlt4; obtain ⟨g1, g2⟩ := hfar w4 hgrow4))
          all_goals
            have HN : Hid (∃ pre' v', RdI w (w4.setCell ⟨w.heap.size, 1, none⟩ (.slice (some ⟨gg, 0, none⟩) (pre.length + 1) cap4)) b (a + (1 + f)) D pre' v') := ⟨_, _, HI2.out.next HB3b.out (x := ⟨o, m, a⟩) ⟨hgrow4.os, hgrow4.tape, hgrow4.output, hgrow4.size, hgrow4.block⟩ hown4 HD'.out (by omega) (by omega)⟩
            clear hown4 hgrow4 hat4 hlt4 g1 g2 hfar hown3 hone hnews d0 d1 d2 d3 c1 cf
            go_wp2
            go_roundw
            case rel => exact ⟨a + (1 + f), by omega, by go_num, HN.out⟩
            case measure => simp [intOf]; omega
    · obtain rfl : a = b.length := by omega
      have hDp : D = some pre := by
        obtain ⟨f, h1, h2⟩ := hI.dcd
        obtain ⟨f', rfl⟩ : ∃ f', f = f' + 1 := ⟨f - 1, by omega⟩
        rw [h2, dec, if_pos (Nat.le_refl _)]; simp
      have hcok0 := dec_ok _ (HD0.out.trans hDp) (by omega)
      have hcok : CodeOK b pre := ⟨hcok0.1, hcok0.2⟩
      have hp0 : 0 < pre.length := by
        rcases Nat.eq_zero_or_pos pre.length with h | h
        · have e : pre = [] := List.eq_nil_of_length_eq_zero h
          have hbh := hcok.2
          rw [e] at hbh
          have : 3 = b.length := hbh
          omega
        · exact h
      have hplen : pre.length ≤ 4000 := by have := hI.len; omega
      obtain ⟨gi, cap, rfl, _, _⟩ := hI.row.form hp0
      have hgb : ∃ cs, wr.heap[gi]? = some (.cells cs 247 (0, 0)) := ownsRow_type hI.row (k := gi) rfl
      have W4 := findJumps_any hcok hl9 hplen hI.blk hgb (row_j hI.row)
      have HA : Hid (∀ w', RowJ w' gi pre pre.length → Only (fun b => b = gi) wr w' → CodeAns b D w (.returned (.tuple #[.pointer (some ⟨w.heap.size, 0, none⟩), .bool true])) w') := fun w' h1 h2 => by
        have hgi : w.heap.size ≤ gi := (hI.row.lt gi rfl).1
        have hbl : Below w.heap.size w w' := hI.bel.trans (h2.below hI.bel.size (fun k _ hk => by omega))
        have hgc : w.heap.size ≠ gi := fun e => by
          obtain ⟨cs, hgb⟩ := hgb
          rw [← e, hI.blk] at hgb; simp at hgb
        rw [hDp]
        refine ⟨⟨w.heap.size, gi, cap, rfl, ⟨(h2.block _ (lt_of_get hI.blk) hgc).trans hI.blk, h1.op, h1.num, fun i hi => ?_, h1.pls⟩⟩, hbl⟩
        have := h1.tos i hi
        rw [if_pos hi] at this; exact this
      clear hI HI hcok hcok0 hp0 hDp hgb
      go_wp2_with fail
      refine W4.mono ?_
      rintro e w2 ⟨rfl, hj, ho⟩
      have HU : Hid _ := HA.out w2 hj ho
      clear hj ho W4 HA
      go_wp2
      go_ret2
      exact HU.out
theorem cpread_any (b : List UInt8) (w : World) : Calls Tryz.prog 142 #[S b] w fun e w' => CodeAns b (decP b) w e w' := by
  unfold decP
  by_cases h : hdBad b
  · rw [if_pos h]; exact pread_bad h w
  · rw [if_neg h]; exact pread_good h w
end Go.Proofs.YtfkdailfcmnjlaaGreatDoor

namespace Go.Proofs.YtfkdailfcmnjlaaGreatDoor
open Go Go.RowKit
set_option maxRecDepth 100000
attribute [local go_sem ↓] Go.wp_at_zero Go.wp_at_succ

/-- An instruction as it lies: its byte, its number, where it jumps to. -/
structure L3 where
  op : Nat
  n : Int
  tj : Nat
def noL3 : L3 := ⟨0, 0, 0⟩
def er (x : In4) : L3 := ⟨x.op, x.n, x.to⟩
def l3c (l : List L3) : List Value := l.flatMap fun x => [.int .i64 (x.op : Nat), .int .i64 x.n, .int .i64 (x.tj : Nat), .int .i64 0]
theorem l3c_len (l : List L3) : (l3c l).length = l.length * 4 := by
  induction l with
  | nil => rfl
  | cons x r ih => simp [l3c] at ih ⊢; omega
theorem l3c_snoc (l : List L3) (x : L3) : l3c (l ++ [x]) = l3c l ++ [.int .i64 (x.op : Nat), .int .i64 x.n, .int .i64 (x.tj : Nat), .int .i64 0] := by simp [l3c]
theorem l3c_at (l : List L3) : ∀ i, i < l.length → (l3c l)[i * 4]? = some (.int .i64 ((l.getD i noL3).op : Nat)) ∧ (l3c l)[i * 4 + 1]? = some (.int .i64 (l.getD i noL3).n) ∧ (l3c l)[i * 4 + 2]? = some (.int .i64 ((l.getD i noL3).tj : Nat)) ∧ (l3c l)[i * 4 + 3]? = some (.int .i64 0) := by
  induction l with
  | nil => intro i hi; simp at hi
  | cons x r ih =>
    intro i hi
    have e : l3c (x :: r) = .int .i64 (x.op : Nat) :: .int .i64 x.n :: .int .i64 (x.tj : Nat) :: .int .i64 0 :: l3c r := rfl
    cases i with
    | zero => rw [e]; exact ⟨rfl, rfl, rfl, rfl⟩
    | succ i =>
      obtain ⟨a, b, c, d⟩ := ih i (by simpa using hi)
      have e4 : (i + 1) * 4 = i * 4 + 4 := by omega
      rw [e, e4]
      simp only [List.getD_cons_succ]
      exact ⟨a, b, c, d⟩
/-- A jump's end set. -/
def setTo (l : List L3) (j T : Nat) : List L3 := l.set j ⟨(l.getD j noL3).op, (l.getD j noL3).n, T⟩
theorem setTo_len (l : List L3) (j T : Nat) : (setTo l j T).length = l.length := by simp [setTo]
theorem l3c_set {l : List L3} {j : Nat} (h : j < l.length) (T : Nat) : (l3c l).set (j * 4 + 2) (.int .i64 (T : Nat)) = l3c (setTo l j T) := by
  induction l generalizing j with
  | nil => simp at h
  | cons x r ih =>
    have e : ∀ x r, l3c (x :: r) = .int .i64 (x.op : Nat) :: .int .i64 x.n :: .int .i64 (x.tj : Nat) :: .int .i64 0 :: l3c r := fun _ _ => rfl
    cases j with
    | zero => rfl
    | succ j =>
      have e4 : (j + 1) * 4 + 2 = (j * 4 + 2) + 4 := by omega
      have es : setTo (x :: r) (j + 1) T = x :: setTo r j T := rfl
      rw [es, e, e, ← ih (by simpa using h), e4]
      rfl
/-- The layer in memory. -/
structure LyAt (w : World) (lp : Nat) (jmp : Bool) (v : Value) (l : List L3) (dep cells : Nat) : Prop where
  blk : w.heap[lp]? = some (.cells #[.bool jmp, v, .int .i64 (dep : Nat), .int .i64 (cells : Nat)] 194 (0, 0))
  row : w.ownsRow 0 247 4 v l.length (l3c l)
theorem LyAt.ne {w : World} {lp : Nat} {jmp : Bool} {v : Value} {l : List L3} {dep cells : Nat} (h : LyAt w lp jmp v l dep cells) : v.ownBlock ≠ some lp := fun hb => by
  obtain ⟨cs', h'⟩ := ownsRow_type h.row hb
  have h1 := h.blk
  rw [h'] at h1; simp at h1
theorem LyAt.only {w w' : World} {lp : Nat} {jmp : Bool} {v : Value} {l : List L3} {dep cells : Nat} (h : LyAt w lp jmp v l dep cells) {F : Nat → Prop} (ho : Only F w w') (hn : ∀ b, (b = lp ∨ v.ownBlock = some b) → ¬ F b) : LyAt w' lp jmp v l dep cells :=
  ⟨(ho.block lp (lt_of_get h.blk) (hn lp (.inl rfl))).trans h.blk, ownsRow_of_block h.row (fun k hk => ho.block k (h.row.lt k hk).2 (hn k (.inr hk)))⟩
/-- What the layer's doings leave. -/
def LyOut (w w' : World) (lp : Nat) (jmp : Bool) (v : Value) (l : List L3) (dep cells : Nat) : Prop :=
  ∃ v', LyAt w' lp jmp v' l dep cells ∧ Only (fun b => b = lp ∨ v.ownBlock = some b) w w' ∧ ∀ b, v'.ownBlock = some b → v.ownBlock = some b ∨ w.heap.size ≤ b
set_option maxHeartbeats 4000000 in
theorem add_any {lp : Nat} {jmp : Bool} {v : Value} {l : List L3} {dep cells : Nat} (op : Nat) (n : Int) {w : World} (h : LyAt w lp jmp v l dep cells) (hl : l.length ≤ 5000) :
    Calls Tryz.prog 93 #[.pointer (some ⟨lp, 0, none⟩), .int .i64 op, .int .i64 n] w fun e w' => e = .returned (.int .i64 (l.length : Nat)) ∧ LyOut w w' lp jmp v (l ++ [⟨op, n, 0⟩]) dep cells := by
  have hpc : w.cell? ⟨lp, 1, none⟩ = some v := by rw [cell_of_row w lp 1 _ _ _ h.blk]; rfl
  have hpf : w.frozen? ⟨lp, 1, none⟩ = false := by simp [World.frozen?, h.blk]
  have hlt := lt_of_get h.blk
  have hne := h.ne
  obtain ⟨a, cap, rfl⟩ : ∃ a cap, v = .slice a l.length cap := by
    obtain ⟨hl, h⟩ := h.row
    rcases h with ⟨rfl, h0⟩ | ⟨g, cap, cur, rfl, hb, hg, h1, h2, h3, h4⟩
    · exact ⟨none, 0, by rw [h0]⟩
    · exact ⟨_, _, rfl⟩
  obtain ⟨i0, hi, hz⟩ := Option.map_eq_some_iff.1 info_ins
  simp only [Prod.mk.injEq] at hz
  obtain ⟨hz0, hz1, hz2⟩ := hz
  have HR : Hid (w.ownsRow 0 247 4 (.slice a l.length cap) l.length (l3c l)) := h.row
  have HP : Hid (w.heap[lp]? = some (.cells #[.bool jmp, .slice a l.length cap, .int .i64 (dep : Nat), .int .i64 (cells : Nat)] 194 (0, 0))) := h.blk
  have HN : Hid ((Value.slice a l.length cap).ownBlock ≠ some lp) := hne
  clear h hne
  go_enter Tryz.func93, Tryz.ntmps93
  go_wp2_with (
    at_builtin
    go_must (refine wpList_append_lies _ (by rfl) _ _ 192 (by rfl) 0 247 i0 (.agg #[.int .i64 0, .int .i64 0, .int .i64 0, .int .i64 0]) 4 32 Tryz.underlying192 hi hz0 hz1 hz2 (by rfl) (by decide) _ _ _ (by rfl) (HR.out.alloc _) ⟨w.heap.size, 0, none⟩ 1 1 [.int .i64 op, .int .i64 n, .int .i64 0, .int .i64 0] (by rfl) (by rfl) (World.news_of_block (heap_alloc_new w _)) (fun x hx => by simp at hx; rcases hx with rfl | rfl | rfl <;> rfl) (by decide) (by unfold maxLen; omega) (by omega) (by simp) _ rfl ?_)
    intro gg cap' w3 hown3 hgrow hat hlt3
    have e0 : w3.heap[lp]? = w.heap[lp]? := (hgrow.block _ (by simp; omega) (fun e => HN.out e.symm)).trans (Below.heap_alloc w _ _ hlt)
    have e1 := (World.cell?_of_block (a := ⟨lp, 1, none⟩) e0).trans hpc
    have e2 := (World.frozen?_of_block (a := ⟨lp, 1, none⟩) e0).trans hpf
    have HE0 : Hid _ := e0
    have HO3 : Hid _ := hown3
    have HG3 : Hid _ := hgrow
    clear e0 hown3 hgrow)
  have HL : Hid (LyOut w (w3.setCell ⟨lp, 1, none⟩ (.slice (some ⟨gg, 0, none⟩) (l.length + 1) cap')) lp jmp (.slice a l.length cap) (l ++ [⟨op, n, 0⟩]) dep cells) := by
    refine ⟨.slice (some ⟨gg, 0, none⟩) (l.length + 1) cap', ⟨?_, ?_⟩, ?_, ?_⟩
    · rw [heap_setCell_same w3 lp 1 _ _ _ (HE0.out.trans HP.out)]
      rfl
    · have h1 : w3.ownsRow 0 247 4 (.slice (some ⟨gg, 0, none⟩) (l.length + 1) cap') (l.length + 1) (l3c l ++ [.int .i64 op, .int .i64 n, .int .i64 0, .int .i64 0]) := HO3.out
      have h2 := ownsRow_setCell_other h1 (a := ⟨lp, 1, none⟩) (by
        intro e
        simp [Value.ownBlock] at e
        rcases hat with h | h
        · exact HN.out (by rw [h, e])
        · rw [World.size_alloc] at h; omega) (.slice (some ⟨gg, 0, none⟩) (l.length + 1) cap')
      rw [l3c_snoc, List.length_append]
      exact h2
    · exact (((Only.refl _ w).alloc _).grown HG3.out (fun k hk => .inl (.inr hk))).setCell (.inl (.inl rfl)) _
    · intro b hb
      simp [Value.ownBlock] at hb
      subst hb
      rcases hat with h | h
      · exact .inl h
      · right; rw [h, World.size_alloc]; omega
  clear HO3 HG3 HE0 hat hlt3
  go_ret
  exact ⟨rfl, HL.out⟩
theorem LyOut.refl {w : World} {lp : Nat} {jmp : Bool} {v : Value} {l : List L3} {dep cells : Nat} (h : LyAt w lp jmp v l dep cells) : LyOut w w lp jmp v l dep cells := ⟨v, h, Only.refl _ _, fun _ hb => .inl hb⟩
/-- Jumps that come to an end, one behind the other. -/
def setAll (l : List L3) (js : List Nat) (T : Nat) : List L3 := js.foldl (fun l j => setTo l j T) l
theorem setAll_len (js : List Nat) : ∀ (l : List L3) (T : Nat), (setAll l js T).length = l.length := by
  induction js with
  | nil => intro l T; rfl
  | cons j r ih => intro l T; show (setAll (setTo l j T) r T).length = _; rw [ih, setTo_len]
theorem setAll_take {js : List Nat} {k : Nat} (l : List L3) (T : Nat) (h : k < js.length) : setAll l (js.take (k + 1)) T = setTo (setAll l (js.take k) T) (js.getD k 0) T := by
  unfold setAll
  rw [List.take_add_one, List.getElem?_eq_getElem h, Option.toList_some, List.foldl_append]
  simp [List.getD_eq_getElem?_getD, List.getElem?_eq_getElem h]
/-- A jump's end set, in memory. -/
theorem LyAt.setTo {w : World} {lp g cap : Nat} {jmp : Bool} {l : List L3} {dep cells : Nat} (h : LyAt w lp jmp (.slice (some ⟨g, 0, none⟩) l.length cap) l dep cells) {j : Nat} (hj : j < l.length) (T : Nat) : LyAt (w.setCell ⟨g, j * 4 + 2, none⟩ (.int .i64 (T : Nat))) lp jmp (.slice (some ⟨g, 0, none⟩) (setTo l j T).length cap) (Proofs.YtfkdailfcmnjlaaGreatDoor.setTo l j T) dep cells := by
  have hne := h.ne
  have hg : g ≠ lp := fun e => hne (by rw [e]; rfl)
  refine ⟨?_, ?_⟩
  · rw [Below.heap_setCell _ _ _ _ (by simpa using fun e => hg e.symm), setTo_len]; exact h.blk
  · obtain ⟨hl, hr⟩ := h.row
    refine ⟨by rw [l3c_len], ?_⟩
    rcases hr with ⟨e, _⟩ | ⟨g', cap', cur, e, b1, b2, b3, b4, b5, b6⟩
    · simp at e
    · simp only [Value.slice.injEq, Option.some.injEq, Addr.mk.injEq, and_true, true_and] at e
      obtain ⟨rfl, rfl⟩ := e
      refine .inr ⟨g, cap, cur.setIfInBounds (j * 4 + 2) (.int .i64 (T : Nat)), rfl, b1, heap_setCell_same w g (j * 4 + 2) _ _ _ b2, by rw [setTo_len]; exact b3, b4, by simpa using b5, ?_⟩
      rw [setTo_len, ← l3c_set hj, ← b6]
      simp [List.take_set]
end Go.Proofs.YtfkdailfcmnjlaaGreatDoor

namespace Go.Proofs.YtfkdailfcmnjlaaGreatDoor
open Go Go.RowKit
set_option maxRecDepth 100000
attribute [local go_sem ↓] Go.wp_at_zero Go.wp_at_succ

theorem LyAt.slice {w : World} {lp : Nat} {jmp : Bool} {v : Value} {l : List L3} {dep cells : Nat} (h : LyAt w lp jmp v l dep cells) (h0 : 0 < l.length) : ∃ g cap, v = .slice (some ⟨g, 0, none⟩) l.length cap ∧ g < w.heap.size ∧ (∀ j, w.frozen? ⟨g, j, none⟩ = false) ∧ ∀ j, j < l.length → w.cell? ⟨g, j * 4 + 2, none⟩ = some (.int .i64 ((l.getD j noL3).tj : Nat)) := by
  obtain ⟨g, cap, e, _, hlt⟩ := World.ownsRow.form h.row h0
  subst e
  refine ⟨g, cap, rfl, hlt, fun j => World.ownsRow.frozenAt h.row j, fun j hj => ?_⟩
  have := (l3c_at l j hj).2.2.1
  have hc := World.ownsRow.cellAt h.row (j * 4 + 2) (by omega)
  rw [hc]; exact this
set_option maxHeartbeats 4000000 in
theorem comeHere_any {lp : Nat} {jmp : Bool} {v : Value} {l : List L3} {dep cells : Nat} {jv : Value} {js : List Nat} {w : World} (h : LyAt w lp jmp v l dep cells) (hl : l.length ≤ 5000) (hj5 : js.length ≤ 5000) (hjs : IR w 3 jv (js.map fun j => ((j : Nat) : Int))) (hin : ∀ j ∈ js, j < l.length) :
    Calls Tryz.prog 136 #[.pointer (some ⟨lp, 0, none⟩), jv] w fun e w' => e = .returned (.tuple #[]) ∧ LyOut w w' lp jmp v (setAll l js l.length) dep cells := by
  by_cases hj0 : js = []
  · subst hj0
    obtain ⟨ja, jcap, rfl⟩ := hjs.sl
    have HL : Hid (LyOut w w lp jmp v (setAll l [] l.length) dep cells) := LyOut.refl h
    clear h hjs hin
    go_enter Tryz.func136, Tryz.ntmps136
    go_wp2_with fail
    go_loopw [8] (fun kv wr => kv = .int .i64 0 ∧ wr = w) (fun _ _ => 0)
    case atStart => exact ⟨rfl, rfl⟩
    case round =>
      obtain ⟨rfl, rfl⟩ := hrel
      go_wp2
      go_end0
      exact ⟨rfl, HL.out⟩
  have hl0 : 0 < l.length := by
    cases js with
    | nil => exact absurd rfl hj0
    | cons j r => have := hin j (by simp); omega
  obtain ⟨g, cap, rfl, hg, _, _⟩ := h.slice hl0
  obtain ⟨jg, jcap, rfl, hjg⟩ := hjs.form (by
    cases js with
    | nil => exact absurd rfl hj0
    | cons j r => simp)
  rw [List.length_map] at *
  have HI0 : Hid (LyAt w lp jmp (.slice (some ⟨g, 0, none⟩) l.length cap) (setAll l (js.take 0) l.length) dep cells ∧ Only (fun b => b = lp ∨ (Value.slice (some ⟨g, 0, none⟩) l.length cap).ownBlock = some b) w w ∧ IR w 3 (.slice (some ⟨jg, 0, none⟩) js.length jcap) (js.map fun j => ((j : Nat) : Int))) := ⟨h, Only.refl _ _, hjs⟩
  have HIn : Hid _ := hin
  clear h hjs hin hj0
  go_enter Tryz.func136, Tryz.ntmps136
  go_wp2_with fail
  go_loopw [8] (fun kv wr => ∃ k : Nat, k ≤ js.length ∧ kv = .int .i64 k ∧ Hid (LyAt wr lp jmp (.slice (some ⟨g, 0, none⟩) l.length cap) (setAll l (js.take k) l.length) dep cells ∧ Only (fun b => b = lp ∨ (Value.slice (some ⟨g, 0, none⟩) l.length cap).ownBlock = some b) w wr ∧ IR wr 3 (.slice (some ⟨jg, 0, none⟩) js.length jcap) (js.map fun j => ((j : Nat) : Int)))) (fun kv _ => js.length - (intOf kv).toNat)
  case atStart => exact ⟨0, Nat.zero_le _, rfl, HI0.out⟩
  case round =>
    obtain ⟨k, hk, rfl, HI⟩ := hrel
    obtain ⟨hA, hO, hR⟩ := HI.out
    by_cases hlt : k < js.length
    · have hkb : (0 : Int) ≤ (k : Int) ∧ (k : Int) < (js.length : Int) := by omega
      have hjc := hR.cell (k := k) (by simpa using hlt)
      have hgd : (js.map fun j => ((j : Nat) : Int)).getD k 0 = ((js.getD k 0 : Nat) : Int) := by
        rw [List.getD_eq_getElem?_getD, List.getD_eq_getElem?_getD, List.getElem?_map]
        cases js[k]? <;> rfl
      rw [hgd] at hjc
      have hjl : js.getD k 0 < l.length := HIn.out _ (by rw [List.getD_eq_getElem?_getD, List.getElem?_eq_getElem hlt]; exact List.getElem_mem hlt)
      have hsl := setAll_len (js.take k) l l.length
      obtain ⟨g', cap', e', _, hfz, hcl⟩ := hA.slice (by rw [hsl]; exact hl0)
      simp only [Value.slice.injEq, Option.some.injEq, Addr.mk.injEq, and_true] at e'
      obtain ⟨rfl, -, rfl⟩ := e'
      have hc2 := hcl (js.getD k 0) (by rw [hsl]; exact hjl)
      have hf2 := hfz (js.getD k 0 * 4 + 2)
      have hlc : wr.cell? ⟨lp, 1, none⟩ = some (.slice (some ⟨g, 0, none⟩) l.length cap) := cell_of_row wr lp 1 _ _ _ hA.blk
      have hjb : (0 : Int) ≤ ((js.getD k 0 : Nat) : Int) ∧ ((js.getD k 0 : Nat) : Int) < (l.length : Int) := by omega
      have HN : Hid (LyAt (wr.setCell ⟨g, js.getD k 0 * 4 + 2, none⟩ (.int .i64 (l.length : Nat))) lp jmp (.slice (some ⟨g, 0, none⟩) l.length cap) (setAll l (js.take (k + 1)) l.length) dep cells ∧ Only (fun b => b = lp ∨ (Value.slice (some ⟨g, 0, none⟩) l.length cap).ownBlock = some b) w (wr.setCell ⟨g, js.getD k 0 * 4 + 2, none⟩ (.int .i64 (l.length : Nat))) ∧ IR (wr.setCell ⟨g, js.getD k 0 * 4 + 2, none⟩ (.int .i64 (l.length : Nat))) 3 (.slice (some ⟨jg, 0, none⟩) js.length jcap) (js.map fun j => ((j : Nat) : Int))) := by
        have hA2 : LyAt wr lp jmp (.slice (some ⟨g, 0, none⟩) (setAll l (js.take k) l.length).length cap) (setAll l (js.take k) l.length) dep cells := by rw [hsl]; exact hA
        have h1 := hA2.setTo (j := js.getD k 0) (by rw [hsl]; exact hjl) l.length
        rw [setTo_len, hsl] at h1
        obtain ⟨cs', hcs⟩ := ownsRow_type hA.row (k := g) rfl
        refine ⟨by rw [setAll_take l l.length hlt]; exact h1, hO.setCell (.inl (.inr rfl)) _, ?_⟩
        refine hR.only ((Only.refl (fun q => q = g) wr).setCell (.inl rfl) _) (fun q hq f => ?_)
        subst f
        exact hR.ne hcs (by decide) hq
      clear hA hO hR HI HI0 hcl hfz hgd
      generalize (setAll l (js.take k) l.length) = l2 at *
      generalize js.getD k 0 = jj at *
      clear hsl
      go_wp2_with fail
      go_region
      go_wp2
      exact ⟨⟨k + 1, by omega, by go_num, ⟨⟨HN.out.1.blk, HN.out.1.row⟩, HN.out.2.1.drew, HN.out.2.2⟩⟩, by simp [intOf]; omega⟩
    · obtain rfl : k = js.length := by omega
      have HL : Hid (LyOut w wr lp jmp (.slice (some ⟨g, 0, none⟩) l.length cap) (setAll l js l.length) dep cells) := by
        rw [List.take_length] at hA
        exact ⟨_, hA, hO, fun _ hb => .inl hb⟩
      clear hA hO hR HI HI0
      go_wp2
      go_end0
      exact ⟨rfl, HL.out⟩
end Go.Proofs.YtfkdailfcmnjlaaGreatDoor
