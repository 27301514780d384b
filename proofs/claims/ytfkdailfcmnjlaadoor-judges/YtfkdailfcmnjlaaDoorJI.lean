/-
  The document's leads: the places tw which an instruction leads. The document's begins: where instructions begin. Where an instruction goes on. What is known is brought tw the next places. Looking a code through: what stands between the rounds.
-/
import Derived.Test.YtfkdailfcmnjlaaDoorJA
import Derived.Test.YtfkdailfcmnjlaaDoorJB
import Derived.Test.YtfkdailfcmnjlaaDoorJC
import Derived.Test.YtfkdailfcmnjlaaDoorJD
import Derived.Test.YtfkdailfcmnjlaaDoorJE
import Derived.Test.YtfkdailfcmnjlaaDoorJF
import Derived.Test.YtfkdailfcmnjlaaDoorJG
import Derived.Test.YtfkdailfcmnjlaaDoorJH
import Derived.Deep.QuietTactic
import Derived.BigQuiet
set_option linter.unusedVariables false
set_option linter.unusedSimpArgs false
namespace Go.Proofs.YtfkdailfcmnjlaaDoor
open Go Go.RowKit
set_option maxRecDepth 100000
attribute [local go_sem ↓] Go.wp_at_zero Go.wp_at_succ

def leadsI (x : Ins) : List Int := (leadsP x).map fun (p : Nat) => (p : Int)
theorem ir_new {w : World} {l : List Int} {n cap : Nat} (hn : n = l.length) (hc : cap = l.length) (h0 : 0 < l.length) (hl : l.length ≤ 10) : IR (w.alloc (.cells (l.map (Value.int .i64)).toArray 3)) 3 (.slice (some ⟨w.heap.size, 0, none⟩) n cap) l := by
  subst hn; subst hc
  refine ⟨by simp, .inr ⟨w.heap.size, l.length, (l.map (Value.int .i64)).toArray, by simp, ?_, heap_alloc_new w _, ?_, ?_, ?_, ?_⟩⟩
  · exact Nat.zero_le _
  · exact Nat.le_refl _
  · unfold maxLen; omega
  · simp
  · rw [Nat.mul_one, List.take_of_length_le (by simp)]
set_option maxHeartbeats 4000000 in
theorem leads_any {b : List UInt8} {x : Ins} (hx : InsOK b x) (hb : b.length ≤ 4000) (w : World) :
    Calls Tryd.prog 15 #[S b, .int .i64 (x.pl : Nat)] w fun e w' => (∃ v, e = .returned v ∧ IR w' 3 v (leadsI x)) ∧ Below w.heap.size w w' := by
  have hop0 := ins_op hx
  have hf := hx.fits
  have hsz : 0 < sizeOp x.op := Nat.pos_of_ne_zero hx.size
  have hN := num_ok hx
  obtain ⟨o1, o2⟩ := hN.op
  have ha : x.pl < (ByteArray.mk b.toArray).size := by show x.pl < b.length; omega
  have hop : ((ByteArray.mk b.toArray)[x.pl]).toNat = x.op := (ba_at b x.pl ha).trans hop0
  have W1 := fun w => size_any x.op (by omega) w
  have HB : Hid (∀ o, Below w.heap.size w (w.alloc o)) := fun o => (Below.refl _ _).alloc (Nat.le_refl _) _
  have hpl : x.pl < b.length := by omega
  have hq : (0 : Int) ≤ (x.pl : Int) ∧ (x.pl : Int) < (b.length : Int) := by omega
  by_cases h15 : x.op = 15
  · have h3 : sizeOp x.op = 3 := by rw [h15]; rfl
    have hn := ins_three hx h3
    have ha1 : x.pl + 1 < (ByteArray.mk b.toArray).size := by show x.pl + 1 < b.length; omega
    have ha2 : x.pl + 2 < (ByteArray.mk b.toArray).size := by show x.pl + 2 < b.length; omega
    have b1 : ((ByteArray.mk b.toArray)[x.pl + 1]).toNat = byteAt b (x.pl + 1) := ba_at b _ ha1
    have b2 : ((ByteArray.mk b.toArray)[x.pl + 2]).toNat = byteAt b (x.pl + 2) := ba_at b _ ha2
    have l1 := byte_lt b (x.pl + 1)
    have l2 := byte_lt b (x.pl + 2)
    have q1 : (0 : Int) ≤ (x.pl : Int) + 1 ∧ (x.pl : Int) + 1 < (b.length : Int) := by omega
    have q2 : (0 : Int) ≤ (x.pl : Int) + 2 ∧ (x.pl : Int) + 2 < (b.length : Int) := by omega
    have HL : Hid (leadsI x = [((x.pl : Int) + 3), ((x.pl : Int) + 3 + (byteAt b (x.pl + 1) : Int) * 256 + (byteAt b (x.pl + 2) : Int))]) := by
      show leadsI x = _
      unfold leadsI leadsP
      rw [if_pos h15, hn]
      simp; omega
    rw [h3] at W1
    rw [h15] at hop W1
    generalize byteAt b (x.pl + 1) = u1 at *
    generalize byteAt b (x.pl + 2) = u2 at *
    generalize x.pl = pl at *
    clear hN hx hn hop0 o1 o2 hsz hf h15 h3
    go_enter Tryd.func15, Tryd.ntmps15
    go_wp2_with (
      go_at_call 25
      refine (W1 _).mono ?_
      rintro e w' ⟨rfl, rfl⟩)
    go_region
    go_wp2
    refine bodyPost_ret (v := .slice (some ⟨w'.heap.size, 0, none⟩) 2 2) (by simp [results, Tryd.results15, go_sem]) rfl ?_
    refine ⟨⟨_, rfl, ?_⟩, (HB.out _).drew⟩
    rw [HL.out]
    exact ir_new (l := [((pl : Int) + 3), ((pl : Int) + 3 + (u1 : Int) * 256 + (u2 : Int))]) rfl rfl (by simp) (by simp)
  by_cases h16 : x.op = 16
  · have h3 : sizeOp x.op = 3 := by rw [h16]; rfl
    have hn := ins_three hx h3
    have ha1 : x.pl + 1 < (ByteArray.mk b.toArray).size := by show x.pl + 1 < b.length; omega
    have ha2 : x.pl + 2 < (ByteArray.mk b.toArray).size := by show x.pl + 2 < b.length; omega
    have b1 : ((ByteArray.mk b.toArray)[x.pl + 1]).toNat = byteAt b (x.pl + 1) := ba_at b _ ha1
    have b2 : ((ByteArray.mk b.toArray)[x.pl + 2]).toNat = byteAt b (x.pl + 2) := ba_at b _ ha2
    have l1 := byte_lt b (x.pl + 1)
    have l2 := byte_lt b (x.pl + 2)
    have q1 : (0 : Int) ≤ (x.pl : Int) + 1 ∧ (x.pl : Int) + 1 < (b.length : Int) := by omega
    have q2 : (0 : Int) ≤ (x.pl : Int) + 2 ∧ (x.pl : Int) + 2 < (b.length : Int) := by omega
    have HL : Hid (leadsI x = [((x.pl : Int) + 3 + (byteAt b (x.pl + 1) : Int) * 256 + (byteAt b (x.pl + 2) : Int))]) := by
      show leadsI x = _
      unfold leadsI leadsP
      rw [if_neg h15, if_pos h16, hn]
      simp; omega
    rw [h3] at W1
    rw [h16] at hop W1
    generalize byteAt b (x.pl + 1) = u1 at *
    generalize byteAt b (x.pl + 2) = u2 at *
    generalize x.pl = pl at *
    clear hN hx hn hop0 o1 o2 hsz hf h15 h16 h3
    go_enter Tryd.func15, Tryd.ntmps15
    go_wp2_with (
      go_at_call 25
      refine (W1 _).mono ?_
      rintro e w' ⟨rfl, rfl⟩)
    go_region
    go_wp2
    refine bodyPost_ret (v := .slice (some ⟨w'.heap.size, 0, none⟩) 1 1) (by simp [results, Tryd.results15, go_sem]) rfl ?_
    refine ⟨⟨_, rfl, ?_⟩, (HB.out _).drew⟩
    rw [HL.out]
    exact ir_new (l := [((pl : Int) + 3 + (u1 : Int) * 256 + (u2 : Int))]) rfl rfl (by simp) (by simp)
  by_cases h17 : x.op = 17 ∨ x.op = 18
  · have HL : Hid (leadsI x = []) := by
      show leadsI x = _
      unfold leadsI leadsP
      rw [if_neg h15, if_neg h16, if_pos h17]; rfl
    have h2 : sizeOp x.op = 2 := by rcases h17 with e | e <;> rw [e] <;> rfl
    rw [h2] at W1
    generalize x.op = op at *
    generalize x.pl = pl at *
    clear hN hx hop0 o1 o2 hsz hf h15 h16 h2
    rcases h17 with rfl | rfl
    · go_enter Tryd.func15, Tryd.ntmps15
      go_wp2_with (
        go_at_call 25
        refine (W1 _).mono ?_
        rintro e w' ⟨rfl, rfl⟩)
      refine bodyPost_ret (v := .slice none 0 0) (by simp [results, Tryd.results15, go_sem]) rfl ?_
      exact ⟨⟨_, rfl, by rw [HL.out]; exact IR.nil _ _⟩, Below.refl _ _⟩
    · go_enter Tryd.func15, Tryd.ntmps15
      go_wp2_with (
        go_at_call 25
        refine (W1 _).mono ?_
        rintro e w' ⟨rfl, rfl⟩)
      refine bodyPost_ret (v := .slice none 0 0) (by simp [results, Tryd.results15, go_sem]) rfl ?_
      exact ⟨⟨_, rfl, by rw [HL.out]; exact IR.nil _ _⟩, Below.refl _ _⟩
  · have HL : Hid (leadsI x = [(x.pl : Int) + (sizeOp x.op : Int)]) := by
      show leadsI x = _
      unfold leadsI leadsP
      rw [if_neg h15, if_neg h16, if_neg h17]; simp
    have h9 := size_le x.op
    have n15 : ((x.op : Int) == 15) = false := by simp; omega
    have n16 : ((x.op : Int) == 16) = false := by simp; omega
    have n17 : ((x.op : Int) == 17) = false := by simp; omega
    have n18 : ((x.op : Int) == 18) = false := by simp; omega
    generalize sizeOp x.op = sz at *
    generalize x.op = op at *
    generalize x.pl = pl at *
    clear hN hx hop0 o1 o2 hsz hf h15 h16 h17
    go_enter Tryd.func15, Tryd.ntmps15
    go_wp2_with (
      go_at_call 25
      refine (W1 _).mono ?_
      rintro e w' ⟨rfl, rfl⟩)
    refine bodyPost_ret (v := .slice (some ⟨w'.heap.size, 0, none⟩) 1 1) (by simp [results, Tryd.results15, go_sem]) rfl ?_
    refine ⟨⟨_, rfl, ?_⟩, HB.out _⟩
    rw [HL.out]
    exact ir_new (l := [((pl : Int) + (sz : Int))]) rfl rfl (by simp) (by simp)
end Go.Proofs.YtfkdailfcmnjlaaDoor

namespace Go.Proofs.YtfkdailfcmnjlaaDoor
open Go Go.RowKit
set_option maxRecDepth 100000
attribute [local go_sem ↓] Go.wp_at_zero Go.wp_at_succ

theorem info_bool : (Tryd.prog.info? 4).map (fun i => (i.zero, i.size, i.bytes)) = some (some (.bool false), 1, 1) := by kernel_rfl
/-- A row that tells where instructions begin. -/
def begO (n : Nat) (ins : List Ins) : Array Value := ((begL n ins).map Value.bool).toArray
theorem begO_size (n : Nat) (ins : List Ins) : (begO n ins).size = n := by simp [begO, begL_len]
theorem begO_at {n p : Nat} (ins : List Ins) (h : p < n) : (begO n ins)[p]? = some (.bool (beg ins p)) := by
  unfold begO
  rw [List.getElem?_toArray, List.getElem?_map, begL_at ins h]; rfl
theorem begO_more (n : Nat) (ins : List Ins) (x : Ins) : (begO n ins).setIfInBounds x.pl (.bool true) = begO n (ins ++ [x]) := by
  unfold begO
  rw [← begL_more, List.map_set]
  simp
theorem begO_made (n : Nat) : madeCells #[.bool false] n = begO n [] := by
  apply Array.ext
  · rw [size_madeCells, begO_size]
  · intro i h1 h2
    rw [size_madeCells] at h1
    have e := begO_at [] h1
    rw [Array.getElem?_eq_getElem h2] at e
    injection e with e
    rw [e]
    simp [madeCells, beg, Nat.mod_one]
def BegAns (n lo : Nat) (r : Option (List Ins)) (e : Ending) (w' : World) : Prop := match r with
  | none => e = .returned (.slice none 0 0)
  | some ins => ∃ g, lo ≤ g ∧ e = .returned (.slice (some ⟨g, 0, none⟩) n n) ∧ w'.heap[g]? = some (.cells (begO n ins) 4 (0, 0))
def BegI (b : List UInt8) (w wr : World) (R : Option (List Ins)) (a : Nat) : Prop := ∃ pre, DecI b a pre R ∧ wr.heap[w.heap.size]? = some (.cells (begO b.length pre) 4 (0, 0)) ∧ Below w.heap.size w wr
set_option maxHeartbeats 1000000 in
theorem begins_any {b : List UInt8} (h4 : 4 ≤ b.length) (hb : b.length ≤ 4000) (w : World) :
    Calls Tryd.prog 13 #[S b] w fun e w' => BegAns b.length w.heap.size (dec (b.length + 1) b 3) e w' ∧ Below w.heap.size w w' := by
  have hmk := run_make_row' (P := Tryd.prog) 54 4 (.bool false) 1 Tryd.underlying54 info_bool rfl .i64 .i64 b.length (by omega) (by omega)
  have HI0 : Hid (BegI b w (w.alloc (.cells (madeCells #[.bool false] b.length) 4)) (dec (b.length + 1) b 3) 3) := ⟨[], DecI.first (by omega), by rw [← begO_made]; exact heap_alloc_new w _, (Below.refl _ _).alloc (Nat.le_refl _) _⟩
  generalize dec (b.length + 1) b 3 = R at *
  have W1 := fun op (h : op < 256) w => size_any op h w
  have W2 := fun op cells (h : op < 256) (hc : cells < 256) w => bound_any op cells h hc w
  go_enter Tryd.func13, Tryd.ntmps13
  go_wp2_with fail
  generalize hw0 : w.alloc (.cells (madeCells #[.bool false] b.length) 4) = W0 at *
  go_loopw [4, 5] (fun av _ wr => ∃ a : Nat, a ≤ b.length ∧ av = .int .i64 a ∧ Hid (BegI b w wr R a)) (fun av _ _ => b.length - (intOf av).toNat)
  case atStart => exact ⟨3, by omega, rfl, HI0.out⟩
  case round =>
    obtain ⟨a, hal, rfl, HI⟩ := hrel
    obtain ⟨pre, hdi, hblk, hbel⟩ := HI.out
    by_cases hlt : a < b.length
    · have ha : a < (ByteArray.mk b.toArray).size := hlt
      have hba : ((ByteArray.mk b.toArray)[a]).toNat = byteAt b a := ba_at b a ha
      have h2s : 2 < (ByteArray.mk b.toArray).size := by show 2 < b.length; omega
      have hb2 : ((ByteArray.mk b.toArray)[2]).toNat = byteAt b 2 := ba_at b 2 h2s
      have hop := byte_lt b a
      have hc := byte_lt b 2
      have W1 := fun w => W1 (byteAt b a) hop w
      have W2 := fun w => W2 (byteAt b a) (byteAt b 2) hop hc w
      have hs9 := size_le (byteAt b a)
      have q0 : (0 : Int) ≤ (a : Int) ∧ (a : Int) < (b.length : Int) := by omega
      have HBad : Hid (¬ (sizeOp (byteAt b a) ≠ 0 ∧ a + sizeOp (byteAt b a) ≤ b.length ∧ (sizeOp (byteAt b a) = 2 → (byteAt b (a + 1) : Int) ≤ boundOp (byteAt b a) (byteAt b 2))) → R = none) := hdi.bad hlt
      have hc0 : wr.cell? ⟨w.heap.size, a, none⟩ = some (.bool (beg pre a)) := by rw [cell_of_row wr _ a _ _ _ hblk, begO_at pre hlt]
      have hfz : wr.frozen? ⟨w.heap.size, a, none⟩ = false := by simp [World.frozen?, hblk]
      have HGo : Hid (sizeOp (byteAt b a) ≠ 0 ∧ a + sizeOp (byteAt b a) ≤ b.length ∧ (sizeOp (byteAt b a) = 2 → (byteAt b (a + 1) : Int) ≤ boundOp (byteAt b a) (byteAt b 2)) → ∀ n, BegI b w ((wr.drewN n).setCell ⟨w.heap.size, a, none⟩ (.bool true)) R (a + sizeOp (byteAt b a))) := fun hg n => by
        refine ⟨_, hdi.step hlt hg, ?_, (below_drewN hbel n).setCell (Nat.le_refl _) _⟩
        rw [← begO_more]
        exact heap_setCell_same (wr.drewN n) _ a _ _ _ hblk
      have HBel : Hid _ := hbel
      clear hdi hblk hbel HI HI0 hw0 hmk
      by_cases hA : sizeOp (byteAt b a) = 0
      · have HR : Hid (R = none) := HBad.out (fun h => h.1 hA)
        rw [hA] at W1
        clear HBad HGo
        generalize byteAt b a = op at *
        go_wp2_with (
          go_at_call 25
          refine (W1 _).mono ?_
          rintro e w' ⟨rfl, rfl⟩)
        go_quiet (fail)
        go_wp2
        go_ret
        exact ⟨by rw [HR.out]; rfl, below_drewN HBel.out _⟩
      by_cases hB : a + sizeOp (byteAt b a) ≤ b.length
      · by_cases hC : sizeOp (byteAt b a) = 2
        · have ha1 : a + 1 < (ByteArray.mk b.toArray).size := by show a + 1 < b.length; omega
          have hb1 : ((ByteArray.mk b.toArray)[a + 1]).toNat = byteAt b (a + 1) := ba_at b _ ha1
          have q1 : (0 : Int) ≤ (a : Int) + 1 ∧ (a : Int) + 1 < (b.length : Int) := by omega
          have hu := byte_lt b (a + 1)
          by_cases hD : (byteAt b (a + 1) : Int) ≤ boundOp (byteAt b a) (byteAt b 2)
          · have HG : Hid _ := HGo.out ⟨hA, hB, fun _ => hD⟩
            rw [hC] at HG W1
            have n5 : decide (boundOp (byteAt b a) (byteAt b 2) < (byteAt b (a + 1) : Int)) = false := by simp; omega
            have n1 : decide ((b.length : Int) < (a : Int) + 2) = false := by simp; omega
            clear HBad HGo hs9 hA
            generalize boundOp (byteAt b a) (byteAt b 2) = bd at *
            generalize byteAt b (a + 1) = u at *
            generalize byteAt b 2 = c2 at *
            generalize byteAt b a = op at *
            go_wp2_with (
              go_at_call 25
              refine (W1 _).mono ?_
              rintro e w' ⟨rfl, rfl⟩)
            go_quiet (first | (go_at_call 26; refine Calls.quiet_of_same (W2 _)))
            go_wp2
            exact ⟨⟨a + 2, by omega, by go_num, HG.out _⟩, by simp [intOf]; omega⟩
          · have HR : Hid (R = none) := HBad.out (fun h => hD (h.2.2 hC))
            rw [hC] at W1
            have n5 : boundOp (byteAt b a) (byteAt b 2) < (byteAt b (a + 1) : Int) := by omega
            have n1 : decide ((b.length : Int) < (a : Int) + 2) = false := by simp; omega
            clear HBad HGo hs9 hA
            generalize boundOp (byteAt b a) (byteAt b 2) = bd at *
            generalize byteAt b (a + 1) = u at *
            generalize byteAt b 2 = c2 at *
            generalize byteAt b a = op at *
            go_wp2_with (
              go_at_call 25
              refine (W1 _).mono ?_
              rintro e w' ⟨rfl, rfl⟩)
            go_quiet (first | (go_at_call 26; refine Calls.quiet_of_same (W2 _)))
            go_wp2
            go_ret
            exact ⟨by rw [HR.out]; rfl, below_drewN HBel.out _⟩
        · have HG : Hid _ := HGo.out ⟨hA, hB, fun h => absurd h hC⟩
          clear HBad HGo
          generalize sizeOp (byteAt b a) = sz at *
          generalize byteAt b a = op at *
          have n0 : ((sz : Int) == 0) = false := by simp; omega
          have n2 : ((sz : Int) == 2) = false := by simp; omega
          have n1 : decide ((b.length : Int) < (a : Int) + (sz : Int)) = false := by simp; omega
          have n3 : decide ((sz : Int) = 2) = false := by simp; omega
          have n4 : decide ((sz : Int) = 0) = false := by simp; omega
          go_wp2_with (
            go_at_call 25
            refine (W1 _).mono ?_
            rintro e w' ⟨rfl, rfl⟩)
          go_quiet (fail)
          go_wp2
          exact ⟨⟨a + sz, by omega, by go_num, HG.out _⟩, by simp [intOf]; omega⟩
      · have HR : Hid (R = none) := HBad.out (fun h => hB h.2.1)
        clear HBad HGo
        generalize sizeOp (byteAt b a) = sz at *
        generalize byteAt b a = op at *
        have n0 : ((sz : Int) == 0) = false := by simp; omega
        have n1 : (b.length : Int) < (a : Int) + (sz : Int) := by omega
        have hwr : IntKind.i64.wrap ((a : Int) + (sz : Int)) = (a : Int) + (sz : Int) := by rw [IntKind.wrap_i64]; omega
        go_wp2_with (
          go_at_call 25
          refine (W1 _).mono ?_
          rintro e w' ⟨rfl, rfl⟩)
        go_quiet (fail)
        go_wp2
        go_ret
        exact ⟨by rw [HR.out]; rfl, below_drewN HBel.out _⟩
    · have HR : Hid (R = some pre) := hdi.last (by omega)
      have HX : Hid _ := And.intro hblk hbel
      clear hdi hblk hbel HI HI0
      go_wp2
      go_ret
      exact ⟨by rw [HR.out]; exact ⟨_, Nat.le_refl _, rfl, HX.out.1⟩, HX.out.2⟩
end Go.Proofs.YtfkdailfcmnjlaaDoor

namespace Go.Proofs.YtfkdailfcmnjlaaDoor
open Go Go.RowKit
set_option maxRecDepth 100000
attribute [local go_sem ↓] Go.wp_at_zero Go.wp_at_succ

def goL (op : Nat) (tj : Int) (i : Nat) : List Int := if op = 17 ∨ op = 18 then [] else if op = 16 then [tj] else if op = 15 then [(i : Int) + 1, tj] else [(i : Int) + 1]
theorem newRow (w : World) (e : TypeId) (l : List Int) (hl : l.length ≤ 100) : IR (w.alloc (.cells (l.map (Value.int .i64)).toArray e)) e (.slice (some ⟨w.heap.size, 0, none⟩) l.length l.length) l := by
  have h := World.ownsRow_lit (base := 0) (e := e) (size := 1) w (l.map (Value.int .i64)).toArray l.length (Nat.zero_le _) (by unfold maxLen; omega) (by simp)
  simpa [IR] using h
set_option maxHeartbeats 4000000 in
theorem goesOn_any (op : Nat) (n tj pl : Int) (i : Nat) (hi : i ≤ 5000) (w : World) :
    Calls Tryd.prog 43 #[insV op n tj pl, .int .i64 i] w fun e w' => (∃ v, e = .returned v ∧ IR w' 3 v (goL op tj i) ∧ ∀ b, v.ownBlock = some b → w.heap.size ≤ b) ∧ Below w.heap.size w w' := by
  have H1 : Hid (∀ l : List Int, l.length ≤ 100 → ∀ w : World, IR (w.alloc (.cells (l.map (Value.int .i64)).toArray 3)) 3 (.slice (some ⟨w.heap.size, 0, none⟩) l.length l.length) l) := fun l hl w => newRow w _ l hl
  have HB : Hid (∀ o o', Below w.heap.size w ((w.alloc o).alloc o')) := fun o o' => ((Below.refl _ _).alloc (Nat.le_refl _) _).alloc (by simp) _
  have HB1 : Hid (∀ o, Below w.heap.size w (w.alloc o)) := fun o => ((Below.refl _ _).alloc (Nat.le_refl _) _)
  unfold insV
  by_cases h17 : op = 17
  · subst h17
    have HL : Hid (goL 17 tj i = []) := rfl
    generalize goL 17 tj i = L at *
    go_enter Tryd.func43, Tryd.ntmps43
    go_wp2
    go_ret
    exact ⟨⟨_, rfl, by rw [HL.out]; exact IR.nil _ _, fun b hb => by simp [Value.ownBlock] at hb⟩, HB1.out _⟩
  by_cases h18 : op = 18
  · subst h18
    have HL : Hid (goL 18 tj i = []) := rfl
    generalize goL 18 tj i = L at *
    go_enter Tryd.func43, Tryd.ntmps43
    go_wp2
    go_ret
    exact ⟨⟨_, rfl, by rw [HL.out]; exact IR.nil _ _, fun b hb => by simp [Value.ownBlock] at hb⟩, HB1.out _⟩
  by_cases h16 : op = 16
  · subst h16
    have HL : Hid (goL 16 tj i = [tj]) := rfl
    generalize goL 16 tj i = L at *
    go_enter Tryd.func43, Tryd.ntmps43
    go_wp2
    go_ret
    refine ⟨⟨_, rfl, ?_, fun b hb => by simp [Value.ownBlock] at hb; omega⟩, HB.out _ _⟩
    rw [HL.out]; have := H1.out [tj] (by simp) (w.alloc (.cells #[.int .i64 16, .int .i64 n, .int .i64 tj, .int .i64 pl] 105)); simpa using this
  by_cases h15 : op = 15
  · subst h15
    have HL : Hid (goL 15 tj i = [(i : Int) + 1, tj]) := rfl
    generalize goL 15 tj i = L at *
    go_enter Tryd.func43, Tryd.ntmps43
    go_wp2
    go_ret
    refine ⟨⟨_, rfl, ?_, fun b hb => by simp [Value.ownBlock] at hb; omega⟩, HB.out _ _⟩
    rw [HL.out]; have := H1.out [(i : Int) + 1, tj] (by simp) (w.alloc (.cells #[.int .i64 15, .int .i64 n, .int .i64 tj, .int .i64 pl] 105)); simpa using this
  · have HL : Hid (goL op tj i = [(i : Int) + 1]) := by show _ = _; unfold goL; rw [if_neg (by omega), if_neg h16, if_neg h15]
    have b17 : ((op : Int) == 17) = false := by simp; omega
    have b18 : ((op : Int) == 18) = false := by simp; omega
    have b16 : ((op : Int) == 16) = false := by simp; omega
    have b15 : ((op : Int) == 15) = false := by simp; omega
    clear h17 h18 h16 h15
    generalize goL op tj i = L at *
    go_enter Tryd.func43, Tryd.ntmps43
    go_wp2
    go_ret
    refine ⟨⟨_, rfl, ?_, fun b hb => by simp [Value.ownBlock] at hb; omega⟩, HB.out _ _⟩
    rw [HL.out]; have := H1.out [(i : Int) + 1] (by simp) (w.alloc (.cells #[.int .i64 op, .int .i64 n, .int .i64 tj, .int .i64 pl] 105)); simpa using this
/-- What is known at the places that may still be come tj, in memory; whose each block is. -/
structure ComeAt (w : World) (B g lo : Nat) (O : Nat → Nat) (come : List (Option Kn)) : Prop where
  blk : ∃ cs, w.heap[g]? = some (.cells cs 114 (0, 0)) ∧ cs.size = come.length
  non : ∀ j, lo ≤ j → j < come.length → come.getD j none = none → w.cell? ⟨g, j, none⟩ = some (.pointer none)
  som : ∀ j, lo ≤ j → j < come.length → ∀ k, come.getD j none = some k → ∃ p vs vc st c, w.cell? ⟨g, j, none⟩ = some (.pointer (some ⟨p, 0, none⟩)) ∧ SetAt w p vs vc st c ∧ KnIs k st c ∧ ∀ b, Foot p vs vc b → O b = j + 1
  own : O g = 0
  low : ∀ b, O b ≠ 0 → B ≤ b
  lowg : B ≤ g
  siz : B ≤ w.heap.size
end Go.Proofs.YtfkdailfcmnjlaaDoor

namespace Go.Proofs.YtfkdailfcmnjlaaDoor
open Go Go.RowKit
set_option maxRecDepth 100000
attribute [local go_sem ↓] Go.wp_at_zero Go.wp_at_succ

/-- Whose a block is, once one place more has its blocks. -/
def ownN (O : Nat → Nat) (s j : Nat) (b : Nat) : Nat := if s ≤ b then j + 1 else O b
theorem ComeAt.lt {w : World} {B g lo : Nat} {O : Nat → Nat} {come : List (Option Kn)} (h : ComeAt w B g lo O come) : g < w.heap.size := by
  obtain ⟨cs, hc, _⟩ := h.blk; exact lt_of_get hc
theorem ComeAt.upd {w w' : World} {B g lo j : Nat} {O : Nat → Nat} {come : List (Option Kn)} {k' : Kn} (h : ComeAt w B g lo O come) (hj : lo ≤ j) (hjn : j < come.length) (ho : Only (fun b => b = g ∨ O b = j + 1) w w')
    (hblk : ∃ cs, w'.heap[g]? = some (.cells cs 114 (0, 0)) ∧ cs.size = come.length) (hcell : ∀ j', j' ≠ j → w'.cell? ⟨g, j', none⟩ = w.cell? ⟨g, j', none⟩)
    (hnew : ∃ p vs vc st c, w'.cell? ⟨g, j, none⟩ = some (.pointer (some ⟨p, 0, none⟩)) ∧ SetAt w' p vs vc st c ∧ KnIs k' st c ∧ ∀ b, Foot p vs vc b → O b = j + 1 ∨ w.heap.size ≤ b) : ComeAt w' B g lo (ownN O w.heap.size j) (come.set j (some k')) := by
  have hg := h.lt
  have hlen : (come.set j (some k')).length = come.length := by simp
  refine ⟨by rw [hlen]; exact hblk, fun i hi hin hn => ?_, fun i hi hin k hk => ?_, ?_, fun b hb => ?_, h.lowg, Nat.le_trans h.siz ho.size⟩
  · rw [hlen] at hin
    by_cases e : i = j
    · subst e; rw [getD_set_eq hjn] at hn; cases hn
    · rw [getD_set_ne (fun a => e a.symm)] at hn
      rw [hcell i e]; exact h.non i hi hin hn
  · rw [hlen] at hin
    by_cases e : i = j
    · subst e
      rw [getD_set_eq hjn] at hk
      obtain rfl := Option.some.inj hk
      obtain ⟨p, vs, vc, st, c, h1, h2, h3, h4⟩ := hnew
      refine ⟨p, vs, vc, st, c, h1, h2, h3, fun b hb => ?_⟩
      unfold ownN
      rcases h4 b hb with h5 | h5
      · split
        · rfl
        · exact h5
      · rw [if_pos h5]
    · rw [getD_set_ne (fun a => e a.symm)] at hk
      obtain ⟨p, vs, vc, st, c, h1, h2, h3, h4⟩ := h.som i hi hin k hk
      refine ⟨p, vs, vc, st, c, by rw [hcell i e]; exact h1, h2.only ho (fun b hb hn => ?_), h3, fun b hb => ?_⟩
      · have h5 := h4 b hb
        rcases hn with rfl | hn
        · rw [h.own] at h5; omega
        · omega
      · unfold ownN
        rw [if_neg (by have := h2.lt hb; omega)]; exact h4 b hb
  · unfold ownN; rw [if_neg (by omega)]; exact h.own
  · unfold ownN at hb
    by_cases e : w.heap.size ≤ b
    · have := h.siz; omega
    · rw [if_neg e] at hb; exact h.low b hb
/-- What bringing leaves. -/
def ComeOut (O : Nat → Nat) (w w' : World) (B g lo : Nat) (come : List (Option Kn)) (i p : Nat) (vs vc : Value) (st c : List Int) : Prop :=
  ∃ O', ComeAt w' B g lo O' come ∧ SetAt w' p vs vc st c ∧ (∀ b, Foot p vs vc b → O' b = i + 1) ∧ Below B w w' ∧ ∀ b, b < w.heap.size → b ≠ g → O b = 0 → O' b = 0 ∧ w'.heap[b]? = w.heap[b]?
theorem ComeAt.rest {w w' : World} {g j : Nat} {O : Nat → Nat} (ho : Only (fun b => b = g ∨ O b = j + 1) w w') : ∀ b, b < w.heap.size → b ≠ g → O b = 0 → ownN O w.heap.size j b = 0 ∧ w'.heap[b]? = w.heap[b]? := fun b hb hg h0 => by
  refine ⟨by unfold ownN; rw [if_neg (by omega)]; exact h0, ho.block b hb (fun h => ?_)⟩
  rcases h with h | h
  · exact hg h
  · omega
theorem ComeAt.below {w w' : World} {B g lo j : Nat} {O : Nat → Nat} {come : List (Option Kn)} (h : ComeAt w B g lo O come) (ho : Only (fun b => b = g ∨ O b = j + 1) w w') : Below B w w' :=
  ho.below h.siz (fun b _ hb => by
    rcases hb with rfl | hb
    · exact h.lowg
    · exact h.low b (by omega))
theorem ComeAt.here {w w' : World} {B g lo i j p : Nat} {O : Nat → Nat} {come : List (Option Kn)} {vs vc : Value} {st c : List Int} (h : ComeAt w B g lo O come) (hs : SetAt w p vs vc st c) (hO : ∀ b, Foot p vs vc b → O b = i + 1) (hij : i ≠ j) (ho : Only (fun b => b = g ∨ O b = j + 1) w w') : SetAt w' p vs vc st c ∧ ∀ b, Foot p vs vc b → ownN O w.heap.size j b = i + 1 := by
  refine ⟨hs.only ho (fun b hb hn => ?_), fun b hb => ?_⟩
  · have h5 := hO b hb
    rcases hn with rfl | hn
    · rw [h.own] at h5; omega
    · omega
  · unfold ownN; rw [if_neg (by have := hs.lt hb; omega)]; exact hO b hb
theorem stI_inj {a b : List Nat} : stI a = stI b ↔ a = b := by
  refine ⟨fun h => ?_, fun h => by rw [h]⟩
  have h1 : a.reverse = b.reverse := by
    unfold stI at h
    exact (List.map_inj_right (fun x y e => by omega)).1 h
  simpa using h1
set_option maxHeartbeats 4000000 in
theorem comeTo_fail {tj : Int} {g n cap p : Nat} (hn : n ≤ 5000) (ht : tj = 0 ∨ tj = n) (w : World) :
    Calls Tryd.prog 44 #[.slice (some ⟨g, 0, none⟩) n cap, .int .i64 tj, .pointer (some ⟨p, 0, none⟩)] w fun e w' => e = .returned (.bool false) ∧ w' = w := by
  by_cases h0 : tj = 0
  · subst h0
    clear ht
    go_enter Tryd.func44, Tryd.ntmps44
    go_wp2
    go_ret
    exact ⟨rfl, rfl⟩
  · obtain rfl : tj = n := by omega
    have b0 : ((n : Int) == 0) = false := by simp; omega
    clear ht h0
    go_enter Tryd.func44, Tryd.ntmps44
    go_wp2
    go_ret
    exact ⟨rfl, rfl⟩
set_option maxHeartbeats 4000000 in
theorem comeTo_new {w : World} {B g lo i j p cap : Nat} {O : Nat → Nat} {come : List (Option Kn)} {vs vc : Value} {st c : List Int} {k : Kn} (h : ComeAt w B g lo O come) (hs : SetAt w p vs vc st c) (hk : KnIs k st c) (hO : ∀ b, Foot p vs vc b → O b = i + 1) (hij : i ≠ j) (hj : lo ≤ j) (hj0 : 0 < j) (hjn : j < come.length) (hn : come.length ≤ 5000) (hl : st.length ≤ 5000) (hc : c.length ≤ 5000) (hno : come.getD j none = none) :
    Calls Tryd.prog 44 #[.slice (some ⟨g, 0, none⟩) come.length cap, .int .i64 j, .pointer (some ⟨p, 0, none⟩)] w fun e w' => e = .returned (.bool true) ∧ ComeOut O w w' B g lo (come.set j (some k)) i p vs vc st c := by
  have hcell := h.non j hj hjn hno
  have hfr : w.frozen? ⟨g, j, none⟩ = false := by obtain ⟨cs, hc, _⟩ := h.blk; simp [World.frozen?, hc]
  have b0 : ((j : Int) == 0) = false := by simp; omega
  have bn : ((j : Int) == (come.length : Int)) = false := by simp; omega
  have W1 : ∀ W, Below w.heap.size w W → Calls Tryd.prog 76 #[.pointer (some ⟨p, 0, none⟩)] W fun e w' => ∃ p' vs' vc', e = .returned (.pointer (some ⟨p', 0, none⟩)) ∧ SetAt w' p' vs' vc' st c ∧ Below W.heap.size W w' ∧ ∀ b, Foot p' vs' vc' b → W.heap.size ≤ b := fun W hb => sclone_any (hs.only (Only.of_below (F := fun _ => False) hb) (fun _ _ h => h)) hl hc
  have HA : Hid (∀ w1 p' vs' vc', SetAt w1 p' vs' vc' st c → Below w.heap.size w w1 → (∀ b, Foot p' vs' vc' b → w.heap.size ≤ b) → ComeOut O w (w1.setCell ⟨g, j, none⟩ (.pointer (some ⟨p', 0, none⟩))) B g lo (come.set j (some k)) i p vs vc st c) := fun w1 p' vs' vc' h1 h2 h3 => by
    have hg := h.lt
    obtain ⟨cs, hcs, hsz⟩ := h.blk
    have hb1 : w1.heap[g]? = _ := (h2.block g hg).trans hcs
    have ho : Only (fun b => b = g ∨ O b = j + 1) w (w1.setCell ⟨g, j, none⟩ (.pointer (some ⟨p', 0, none⟩))) := (Only.of_below h2).setCell (.inl (.inl rfl)) _
    obtain ⟨q1, q2⟩ := h.here hs hO hij ho
    refine ⟨ownN O w.heap.size j, h.upd hj hjn ho ⟨_, heap_setCell_same w1 g j _ _ _ hb1, by simpa using hsz⟩ (fun j' e => ?_) ⟨p', vs', vc', st, c, ?_, ?_, hk, fun b hb => .inr (h3 b hb)⟩, q1, q2, h.below ho, ComeAt.rest ho⟩
    · rw [cell_set_off _ _ _ _ _ (fun a => e a.symm)]
      exact h2.cell (p := ⟨g, j', none⟩) hg
    · exact cell_set_same _ _ _ _ (by rw [h2.cell (p := ⟨g, j, none⟩) hg, hcell]; rfl)
    · exact h1.only ((Only.refl (fun b => b = g) w1).setCell (.inl rfl) _) (fun b hb e => by have := h3 b hb; omega)
  have hcell2 : ∀ W, Below w.heap.size w W → W.cell? ⟨g, j, none⟩ = some (.pointer none) ∧ W.frozen? ⟨g, j, none⟩ = false := fun W hb => ⟨by rw [hb.cell (p := ⟨g, j, none⟩) h.lt]; exact hcell, by rw [hb.frozen (p := ⟨g, j, none⟩) h.lt]; exact hfr⟩
  have HC2 : Hid _ := hcell2
  clear h hs hk hO hno hcell2
  generalize come.length = n at *
  go_enter Tryd.func44, Tryd.ntmps44
  go_wp2_with fail
  refine (W1 w (Below.refl _ _)).mono ?_
  rintro e w1 ⟨p', vs', vc', rfl, h1, h2, h3⟩
  obtain ⟨d1, d2⟩ := HC2.out w1 h2
  have HU : Hid _ := HA.out w1 p' vs' vc' h1 h2 h3
  clear h1 h2 h3 W1 HA HC2
  go_wp2
  go_ret
  exact ⟨rfl, HU.out⟩
set_option maxHeartbeats 4000000 in
theorem comeTo_old {w : World} {B g lo i j p cap : Nat} {O : Nat → Nat} {come : List (Option Kn)} {vs vc : Value} {st c : List Int} {k a : Kn} (h : ComeAt w B g lo O come) (hs : SetAt w p vs vc st c) (hk : KnIs k st c) (hO : ∀ b, Foot p vs vc b → O b = i + 1) (hij : i ≠ j) (hj : lo ≤ j) (hj0 : 0 < j) (hjn : j < come.length) (hn : come.length ≤ 5000) (hl : st.length ≤ 5000) (ha1 : a.st.length ≤ 5000) (ha2 : a.cl.length ≤ 5000) (hlen : a.cl.length = k.cl.length) (hso : come.getD j none = some a) :
    Calls Tryd.prog 44 #[.slice (some ⟨g, 0, none⟩) come.length cap, .int .i64 j, .pointer (some ⟨p, 0, none⟩)] w fun e w' => e = .returned (.bool (decide (a.st = k.st))) ∧ ComeOut O w w' B g lo (come.set j (some ⟨a.st, meetC a.cl k.cl⟩)) i p vs vc st c := by
  obtain ⟨q, us, uc, st2, c2, hcell, hs2, hk2, hO2⟩ := h.som j hj hjn a hso
  have b0 : ((j : Int) == 0) = false := by simp; omega
  have bn : ((j : Int) == (come.length : Int)) = false := by simp; omega
  have hl2 : st2.length ≤ 5000 := by rw [hk2.st]; simpa [stI] using ha1
  have hdis : ∀ b, Foot q us uc b → ¬ Foot p vs vc b := fun b h1 h2 => by have := hO2 b h1; have := hO b h2; omega
  have hl3 : c2.length ≤ 5000 := by have := hk2.len; omega
  have W1 := smeet_any hs2 hs hdis hl2 hl hl3
  have he : decide (st2 = st) = decide (a.st = k.st) := by
    rw [hk2.st, hk.st]
    exact decide_eq_decide.2 stI_inj
  rw [he] at W1
  have HA : Hid (∀ w1, SetOut w w1 q us uc st2 (metL c2 c c2.length) → ComeOut O w w1 B g lo (come.set j (some ⟨a.st, meetC a.cl k.cl⟩)) i p vs vc st c) := fun w1 ho1 => by
    obtain ⟨us', uc', h1, h2, h3⟩ := ho1
    have hg := h.lt
    obtain ⟨cs, hcs, hsz⟩ := h.blk
    have ho : Only (fun b => b = g ∨ O b = j + 1) w w1 := h2.weak (fun b _ hb => .inr (hO2 b hb))
    have hgq : ¬ Foot q us uc g := fun e => by have := hO2 g e; rw [h.own] at this; omega
    have hb1 : w1.heap[g]? = _ := (h2.block g hg hgq).trans hcs
    obtain ⟨q1, q2⟩ := h.here hs hO hij ho
    have hce : ∀ j', w1.cell? ⟨g, j', none⟩ = w.cell? ⟨g, j', none⟩ := fun j' => World.cell?_of_block (w := w) (a := ⟨g, j', none⟩) (h2.block g hg hgq)
    refine ⟨ownN O w.heap.size j, h.upd hj hjn ho ⟨_, hb1, hsz⟩ (fun j' _ => hce j') ⟨q, us', uc', st2, _, by rw [hce]; exact hcell, h1, met_is hk2 hk hlen, fun b hb => ?_⟩, q1, q2, h.below ho, ComeAt.rest ho⟩
    rcases h3 b hb with h4 | h4
    · exact .inl (hO2 b h4)
    · exact .inr h4
  clear h hs hk hO hso hs2 hk2 hO2 he hdis
  generalize come.length = n at *
  generalize hr : decide (a.st = k.st) = r at W1
  have HR : Hid _ := hr
  clear hr
  go_enter Tryd.func44, Tryd.ntmps44
  go_wp2_with (
    go_at_call 77
    refine W1.mono ?_
    rintro e w1 ⟨rfl, ho⟩
    have HU : Hid _ := HA.out _ ho
    clear ho)
  go_ret
  exact ⟨rfl, HU.out⟩
end Go.Proofs.YtfkdailfcmnjlaaDoor

namespace Go.Proofs.YtfkdailfcmnjlaaDoor
open Go Go.RowKit
set_option maxRecDepth 100000

/-- Where a jump comes tw, as the program keeps it. -/
def toOf (ins : List Ins) (x : Ins) : Int := if x.op = 15 ∨ x.op = 16 then (((jumpTo ins x).getD 0 : Nat) : Int) else 0
/-- A code in memory. -/
structure CodeAt (w : World) (cp gi cap cells depth : Nat) (ins : List Ins) : Prop where
  blk : w.heap[cp]? = some (.cells #[.int .i64 cells, .slice (some ⟨gi, 0, none⟩) ins.length cap, .int .i64 depth] 96 (0, 0))
  op : ∀ i, i < ins.length → w.cell? ⟨gi, i * 4, none⟩ = some (.int .i64 ((ins.getD i noIns).op : Nat))
  num : ∀ i, i < ins.length → w.cell? ⟨gi, i * 4 + 1, none⟩ = some (.int .i64 (ins.getD i noIns).n)
  tos : ∀ i, i < ins.length → w.cell? ⟨gi, i * 4 + 2, none⟩ = some (.int .i64 (toOf ins (ins.getD i noIns)))
  pls : ∀ i, i < ins.length → w.cell? ⟨gi, i * 4 + 3, none⟩ = some (.int .i64 ((ins.getD i noIns).pl : Nat))
theorem CodeAt.below {w w' : World} {cp gi cap cells depth : Nat} {ins : List Ins} (h : CodeAt w cp gi cap cells depth ins) (hb : Below w.heap.size w w') : CodeAt w' cp gi cap cells depth ins := by
  have hc : ∀ {o : Nat} {v : Value}, w.cell? ⟨gi, o, none⟩ = some v → w'.cell? ⟨gi, o, none⟩ = some v := fun {o v} e => by
    rw [hb.cell (World.block_lt_of_cell? w _ e)]; exact e
  exact ⟨(hb.block cp (lt_of_get h.blk)).trans h.blk, fun i hi => hc (h.op i hi), fun i hi => hc (h.num i hi), fun i hi => hc (h.tos i hi), fun i hi => hc (h.pls i hi)⟩
/-- A way and the number that the program keeps for it. -/
def LeadIs (n i : Nat) (o : Option Nat) (v : Int) : Prop := (o = none → v = 0 ∨ v = n) ∧ ∀ j, o = some j → v = j ∧ i + 1 ≤ j ∧ j < n
theorem lead_next {n i : Nat} (hi : i < n) : LeadIs n i (if i + 1 < n then some (i + 1) else none) ((i : Int) + 1) := by
  by_cases h : i + 1 < n
  · rw [if_pos h]; exact ⟨fun e => (by cases e), fun j e => by simp at e; omega⟩
  · rw [if_neg h]; exact ⟨fun _ => .inr (by omega), fun j e => by cases e⟩
theorem lead_jump {b : List UInt8} {ins : List Ins} (h : CodeOK b ins) {i : Nat} (hi : i < ins.length) (ho : (ins.getD i noIns).op = 15 ∨ (ins.getD i noIns).op = 16) : LeadIs ins.length i (jumpTo ins (ins.getD i noIns)) (toOf ins (ins.getD i noIns)) := by
  unfold toOf
  rw [if_pos ho]
  cases e : jumpTo ins (ins.getD i noIns) with
  | none => exact ⟨fun _ => .inl rfl, fun j e => by cases e⟩
  | some j =>
    obtain ⟨h1, h2, _⟩ := jump_fwd h hi e
    exact ⟨fun e => (by cases e), fun j' e' => by obtain rfl := Option.some.inj e'; exact ⟨rfl, by omega, h2⟩⟩
theorem leads_go {b : List UInt8} {ins : List Ins} (h : CodeOK b ins) {i : Nat} (hi : i < ins.length) : (goL (ins.getD i noIns).op (toOf ins (ins.getD i noIns)) i).length = (leadsK ins i (ins.getD i noIns)).length ∧ ∀ m, m < (leadsK ins i (ins.getD i noIns)).length → LeadIs ins.length i ((leadsK ins i (ins.getD i noIns)).getD m none) ((goL (ins.getD i noIns).op (toOf ins (ins.getD i noIns)) i).getD m 0) := by
  have hj := lead_jump h hi
  have hx := lead_next hi
  generalize ins.getD i noIns = x at *
  generalize toOf ins x = v at *
  unfold goL leadsK
  by_cases h15 : x.op = 15
  · rw [if_neg (by omega), if_neg (by omega), if_pos h15, if_pos h15]
    refine ⟨rfl, fun m hm => ?_⟩
    have hm' : m < 2 := hm
    match m, hm' with
    | 0, _ => exact hx
    | 1, _ => exact hj (.inl h15)
  · by_cases h16 : x.op = 16
    · rw [if_neg (by omega), if_pos h16, if_neg h15, if_pos h16]
      refine ⟨rfl, fun m hm => ?_⟩
      have hm' : m < 1 := hm
      match m, hm' with
      | 0, _ => exact hj (.inr h16)
    · by_cases h17 : x.op = 17 ∨ x.op = 18
      · rw [if_pos h17, if_neg h15, if_neg h16, if_pos h17]
        exact ⟨rfl, fun m hm => absurd hm (Nat.not_lt_zero m)⟩
      · rw [if_neg h17, if_neg h16, if_neg h15, if_neg h15, if_neg h16, if_neg h17]
        refine ⟨rfl, fun m hm => ?_⟩
        have hm' : m < 1 := hm
        match m, hm' with
        | 0, _ => exact hx
/-- What is known is of types. -/
def ComeTy (cells : Nat) (come : List (Option Kn)) : Prop := ∀ j k, come.getD j none = some k → Tys1 k.st ∧ Tys k.cl ∧ k.cl.length = cells ∧ k.st.length ≤ 24
theorem ComeTy.set {cells : Nat} {come : List (Option Kn)} (h : ComeTy cells come) {j : Nat} {k : Kn} (hk : Tys1 k.st ∧ Tys k.cl ∧ k.cl.length = cells ∧ k.st.length ≤ 24) : ComeTy cells (come.set j (some k)) := fun i k' e => by
  by_cases hij : j = i
  · subst hij
    by_cases hl : j < come.length
    · rw [getD_set_eq hl] at e; obtain rfl := Option.some.inj e; exact hk
    · rw [List.set_eq_of_length_le (by omega)] at e; exact h j k' e
  · rw [getD_set_ne hij] at e; exact h i k' e
theorem meet_tys {a b : List Nat} (h : Tys a) : Tys (meetC a b) := fun t ht => by
  unfold meetC at ht
  obtain ⟨i, hi, e⟩ := List.mem_iff_getElem.1 ht
  have h2 : (meetC a b).getD i 0 = t := by unfold meetC; rw [List.getD_eq_getElem?_getD, List.getElem?_eq_getElem hi, e]; rfl
  rw [meet_at] at h2
  split at h2
  · split at h2
    · rw [← h2, List.getD_eq_getElem?_getD, List.getElem?_eq_getElem (by omega)]
      exact h _ (List.getElem_mem _)
    · omega
  · omega
theorem come0_ty (cells n : Nat) : ComeTy cells (come0 cells n) := fun j k e => by
  unfold come0 at e
  cases j with
  | zero =>
    simp at e
    subst e
    exact ⟨fun t ht => by simp at ht, fun t ht => by simp at ht; omega, by simp, by simp⟩
  | succ j =>
    rw [List.getD_cons_succ, List.getD_eq_getElem?_getD, List.getElem?_replicate] at e
    split at e <;> cases e
/-- Blocks that aren't there yet are nobody's. -/
def ownC (O : Nat → Nat) (s : Nat) (b : Nat) : Nat := if s ≤ b then 0 else O b
theorem ComeAt.below' {w w' : World} {B g lo : Nat} {O : Nat → Nat} {come : List (Option Kn)} (h : ComeAt w B g lo O come) (hb : Below w.heap.size w w') : ComeAt w' B g lo O come := by
  obtain ⟨cs, hc, hsz⟩ := h.blk
  have hg := h.lt
  refine ⟨⟨cs, (hb.block g hg).trans hc, hsz⟩, fun j h1 h2 h3 => ?_, fun j h1 h2 k h3 => ?_, h.own, h.low, h.lowg, Nat.le_trans h.siz hb.size⟩
  · rw [hb.cell (p := ⟨g, j, none⟩) hg]; exact h.non j h1 h2 h3
  · obtain ⟨p, vs, vc, st, c, e1, e2, e3, e4⟩ := h.som j h1 h2 k h3
    exact ⟨p, vs, vc, st, c, by rw [hb.cell (p := ⟨g, j, none⟩) hg]; exact e1, e2.only (Only.of_below (F := fun _ => False) hb) (fun _ _ h => h), e3, e4⟩
theorem ComeAt.norm {w : World} {B g lo : Nat} {O : Nat → Nat} {come : List (Option Kn)} (h : ComeAt w B g lo O come) : ComeAt w B g lo (ownC O w.heap.size) come := by
  have hg := h.lt
  refine ⟨h.blk, h.non, fun j h1 h2 k h3 => ?_, by unfold ownC; rw [if_neg (by omega)]; exact h.own, fun b hb => ?_, h.lowg, h.siz⟩
  · obtain ⟨p, vs, vc, st, c, e1, e2, e3, e4⟩ := h.som j h1 h2 k h3
    exact ⟨p, vs, vc, st, c, e1, e2, e3, fun b hb => by unfold ownC; rw [if_neg (by have := e2.lt hb; omega)]; exact e4 b hb⟩
  · unfold ownC at hb
    split at hb
    · exact absurd rfl hb
    · exact h.low b hb
theorem ComeAt.from {w : World} {B g lo lo' : Nat} {O : Nat → Nat} {come : List (Option Kn)} (h : ComeAt w B g lo O come) (hl : lo ≤ lo') : ComeAt w B g lo' O come :=
  ⟨h.blk, fun j h1 => h.non j (by omega), fun j h1 => h.som j (by omega), h.own, h.low, h.lowg, h.siz⟩
/-- Behind a change at a place: its set has other blocks, those of later places are as they were. -/
theorem ComeAt.change {w w' : World} {B g i p : Nat} {O : Nat → Nat} {come : List (Option Kn)} {vs vc : Value} {st' c' : List Int} (h : ComeAt w B g i O come) (hO : ∀ b, Foot p vs vc b → O b = i + 1) (ho : SetOut w w' p vs vc st' c') :
    ∃ O' vs' vc', ComeAt w' B g (i + 1) O' come ∧ SetAt w' p vs' vc' st' c' ∧ (∀ b, Foot p vs' vc' b → O' b = i + 1) ∧ (∀ b, w'.heap.size ≤ b → O' b = 0) ∧ Below B w w' := by
  obtain ⟨vs', vc', h1, h2, h3⟩ := ho
  have hg := h.lt
  have hgf : ¬ Foot p vs vc g := fun e => by have := hO g e; rw [h.own] at this; omega
  have hbg := h2.block g hg hgf
  obtain ⟨cs, hc, hsz⟩ := h.blk
  have hce : ∀ j, w'.cell? ⟨g, j, none⟩ = w.cell? ⟨g, j, none⟩ := fun j => World.cell?_of_block (w := w) (a := ⟨g, j, none⟩) hbg
  refine ⟨ownC (ownN O w.heap.size i) w'.heap.size, vs', vc', ?_, h1, fun b hb => ?_, fun b hb => by unfold ownC; rw [if_pos hb], h2.below h.siz (fun b _ hb => h.low b (by have := hO b hb; omega))⟩
  · refine ⟨⟨cs, hbg.trans hc, hsz⟩, fun j q1 q2 q3 => ?_, fun j q1 q2 k q3 => ?_, ?_, fun b hb => ?_, h.lowg, Nat.le_trans h.siz h2.size⟩
    · rw [hce]; exact h.non j (by omega) q2 q3
    · obtain ⟨p2, us, uc, st, c, e1, e2, e3, e4⟩ := h.som j (by omega) q2 k q3
      refine ⟨p2, us, uc, st, c, by rw [hce]; exact e1, e2.only h2 (fun b hb hn => ?_), e3, fun b hb => ?_⟩
      · have := e4 b hb; have := hO b hn; omega
      · have hlt := e2.lt hb
        have := h2.size
        unfold ownC ownN
        rw [if_neg (by omega), if_neg (by omega)]; exact e4 b hb
    · have := h2.size
      unfold ownC ownN
      rw [if_neg (by omega), if_neg (by omega)]; exact h.own
    · unfold ownC ownN at hb
      split at hb
      · exact absurd rfl hb
      · split at hb
        · have := h.siz; omega
        · exact h.low b hb
  · have hlt := h1.lt hb
    unfold ownC ownN
    rw [if_neg (by omega)]
    rcases h3 b hb with h4 | h4
    · split
      · rfl
      · exact hO b h4
    · rw [if_pos h4]
/-- Between the ways of an instruction. -/
structure InI (w wi : World) (cells : Nat) (ins : List Ins) (i p : Nat) (vs vc : Value) (st c : List Int) (v : Value) (L : List Int) (k : Kn) (come : List (Option Kn)) (leads : List (Option Nat)) (m : Nat) (O : Nat → Nat) (come' : List (Option Kn)) : Prop where
  at_ : ComeAt wi w.heap.size w.heap.size (i + 1) O come'
  len : come'.length = ins.length
  set : SetAt wi p vs vc st c
  own : ∀ b, Foot p vs vc b → O b = i + 1
  row : IR wi 3 v L
  rowO : ∀ b, v.ownBlock = some b → O b = 0
  bel : Below w.heap.size w wi
  bri : bringK come k leads = bringK come' k (leads.drop m)
  typ : ComeTy cells come'
theorem drop_cons {α : Type} {l : List α} {m : Nat} {d : α} (h : m < l.length) : l.drop m = l.getD m d :: l.drop (m + 1) := by
  rw [List.drop_eq_getElem_cons h, List.getD_eq_getElem?_getD, List.getElem?_eq_getElem h]; rfl
theorem InI.next {w wi w' : World} {cells : Nat} {ins : List Ins} {i p : Nat} {vs vc : Value} {st c : List Int} {v : Value} {L : List Int} {k : Kn} {come : List (Option Kn)} {leads : List (Option Nat)} {m : Nat} {O : Nat → Nat} {come' : List (Option Kn)} (h : InI w wi cells ins i p vs vc st c v L k come leads m O come') {j : Nat} {kk : Kn}
    (hout : ComeOut O wi w' w.heap.size w.heap.size (i + 1) (come'.set j (some kk)) i p vs vc st c) (hb : bringK come' k (leads.drop m) = bringK (come'.set j (some kk)) k (leads.drop (m + 1))) (hk : Tys1 kk.st ∧ Tys kk.cl ∧ kk.cl.length = cells ∧ kk.st.length ≤ 24) : ∃ O', InI w w' cells ins i p vs vc st c v L k come leads (m + 1) O' (come'.set j (some kk)) := by
  obtain ⟨O', h1, h2, h3, h4, h5⟩ := hout
  obtain ⟨cs, hc, _⟩ := h.at_.blk
  have hg : v.ownBlock ≠ some w.heap.size := h.row.ne hc (by decide)
  have hr : ∀ b, v.ownBlock = some b → O' b = 0 ∧ w'.heap[b]? = wi.heap[b]? := fun b hb => h5 b (h.row.lt b hb).2 (fun e => hg (by rw [← e]; exact hb)) (h.rowO b hb)
  exact ⟨O', h1, by simpa using h.len, h2, h3, ownsRow_of_block h.row (fun b hb => (hr b hb).2), fun b hb => (hr b hb).1, h.bel.trans h4, h.bri.trans hb, h.typ.set hk⟩
theorem InI.come {w wi : World} {cells : Nat} {ins : List Ins} {i p cap : Nat} {vs vc : Value} {st c : List Int} {v : Value} {L : List Int} {k : Kn} {come : List (Option Kn)} {leads : List (Option Nat)} {m : Nat} {O : Nat → Nat} {come' : List (Option Kn)} (h : InI w wi cells ins i p vs vc st c v L k come leads m O come') (hkn : KnIs k st c) (hkt : Tys1 k.st ∧ Tys k.cl ∧ k.cl.length = cells ∧ k.st.length ≤ 24) (hcells : cells ≤ 256) (hm : m < leads.length) (hn : ins.length ≤ 4000) (hv : LeadIs ins.length i (leads.getD m none) (L.getD m 0)) :
    Calls Tryd.prog 44 #[.slice (some ⟨w.heap.size, 0, none⟩) ins.length cap, .int .i64 (L.getD m 0), .pointer (some ⟨p, 0, none⟩)] wi fun e w' => ∃ r : Bool, e = .returned (.bool r) ∧ Below w.heap.size w w' ∧ (r = true → ∃ O' come2, InI w w' cells ins i p vs vc st c v L k come leads (m + 1) O' come2) ∧ (r = false → bringK come k leads = none) := by
  have hd := drop_cons (d := none) hm
  have hlen := h.len
  cases ho : leads.getD m none with
  | none =>
    refine (comeTo_fail (by omega) (hv.1 ho) wi).mono ?_
    rintro e w' ⟨rfl, rfl⟩
    refine ⟨false, rfl, h.bel, fun e => (by cases e), fun _ => ?_⟩
    rw [h.bri, hd, ho]; rfl
  | some j =>
    obtain ⟨hj, hj1, hj2⟩ := hv.2 j ho
    rw [hj, ← hlen]
    have hl : st.length ≤ 5000 := by rw [hkn.st]; simp [stI]; omega
    have hc : c.length ≤ 5000 := by have := hkn.len; omega
    cases hc' : come'.getD j none with
    | none =>
      refine (comeTo_new h.at_ h.set hkn h.own (by omega) hj1 (by omega) (by omega) (by omega) hl hc hc').mono ?_
      rintro e w' ⟨rfl, hout⟩
      have hb : bringK come' k (leads.drop m) = bringK (come'.set j (some k)) k (leads.drop (m + 1)) := by rw [hd, ho, bringK, hc']
      obtain ⟨O', h'⟩ := h.next hout hb hkt
      exact ⟨true, rfl, h'.bel, fun _ => ⟨O', _, h'⟩, fun e => by cases e⟩
    | some a =>
      obtain ⟨ta, tb, tc, td⟩ := h.typ j a hc'
      refine (comeTo_old h.at_ h.set hkn h.own (by omega) hj1 (by omega) (by omega) (by omega) hl (by omega) (by omega) (by omega) hc').mono ?_
      rintro e w' ⟨rfl, hout⟩
      by_cases hs : a.st = k.st
      · have hb : bringK come' k (leads.drop m) = bringK (come'.set j (some ⟨a.st, meetC a.cl k.cl⟩)) k (leads.drop (m + 1)) := by
          rw [hd, ho, bringK, hc']; simp only []; rw [if_pos hs]
        obtain ⟨O', h'⟩ := h.next hout hb ⟨ta, meet_tys tb, by simp [meetC]; omega, td⟩
        exact ⟨true, by rw [decide_eq_true hs], h'.bel, fun _ => ⟨O', _, h'⟩, fun e => by cases e⟩
      · obtain ⟨_, _, _, _, hbw, _⟩ := hout
        refine ⟨false, by rw [decide_eq_false hs], h.bel.trans hbw, fun e => (by cases e), fun _ => ?_⟩
        rw [h.bri, hd, ho, bringK, hc']; simp only []; rw [if_neg hs]
end Go.Proofs.YtfkdailfcmnjlaaDoor
