/-
  The document's begins: where instructions begin. The document's Load: what is known by places, in memory. The program loads a code. A stack of values: Push, Pop. What the machine does for each instruction: the table. The machine in memory. The machine puts, makes one of two, jumps, ends.
-/
import Derived.Test.YtfkdailfcmnjlaaGreatDoorCompiles01
import Derived.Test.YtfkdailfcmnjlaaGreatDoorCompiles02
import Derived.Test.YtfkdailfcmnjlaaGreatDoorCompiles04
import Derived.Test.YtfkdailfcmnjlaaGreatDoorCompiles05
import Derived.Test.YtfkdailfcmnjlaaGreatDoorCompiles06
import Derived.Test.YtfkdailfcmnjlaaGreatDoorCompiles07
import Derived.Test.YtfkdailfcmnjlaaGreatDoorCompiles08
import Derived.Test.YtfkdailfcmnjlaaGreatDoorCompiles09
import Derived.Test.YtfkdailfcmnjlaaGreatDoorCompiles10
import Derived.Test.YtfkdailfcmnjlaaGreatDoorCompiles11
import Derived.Test.YtfkdailfcmnjlaaGreatDoorCompiles12
import Derived.Test.YtfkdailfcmnjlaaGreatDoorCompiles13
import Derived.Test.YtfkdailfcmnjlaaGreatDoorCompiles14
import Derived.Test.YtfkdailfcmnjlaaGreatDoorCompiles15
import Derived.Test.YtfkdailfcmnjlaaGreatDoorCompiles16
import Derived.Test.YtfkdailfcmnjlaaGreatDoorCompiles17
import Derived.Test.YtfkdailfcmnjlaaGreatDoorCompiles18
import Derived.Test.YtfkdailfcmnjlaaGreatDoorCompiles19
import Derived.Test.YtfkdailfcmnjlaaGreatDoorCompiles20
import Derived.Test.YtfkdailfcmnjlaaGreatDoorCompiles21
import Derived.Test.YtfkdailfcmnjlaaGreatDoorCompiles22
import Derived.Test.YtfkdailfcmnjlaaGreatDoorCompiles23
import Derived.Test.YtfkdailfcmnjlaaGreatDoorCompiles24
import Derived.Test.YtfkdailfcmnjlaaGreatDoorCompiles27
import Derived.Test.YtfkdailfcmnjlaaGreatDoorCompiles28
import Derived.Test.YtfkdailfcmnjlaaGreatDoorCompiles29
import Derived.Test.YtfkdailfcmnjlaaGreatDoorCompiles30
import Derived.Test.YtfkdailfcmnjlaaGreatDoorCompiles31
import Derived.Test.YtfkdailfcmnjlaaGreatDoorCompiles32
import Derived.Test.YtfkdailfcmnjlaaGreatDoorCompiles34
import Derived.Test.YtfkdailfcmnjlaaGreatDoorCompiles35
import Derived.Test.YtfkdailfcmnjlaaGreatDoorCompiles36
import Derived.Test.YtfkdailfcmnjlaaGreatDoorCompiles37
import Derived.Test.YtfkdailfcmnjlaaGreatDoorCompiles38
import Derived.Test.YtfkdailfcmnjlaaGreatDoorCompiles39
import Derived.Test.YtfkdailfcmnjlaaGreatDoorCompiles40
import Derived.Test.YtfkdailfcmnjlaaGreatDoorCompiles41
import Derived.Test.YtfkdailfcmnjlaaGreatDoorCompiles43
import Derived.Test.YtfkdailfcmnjlaaGreatDoorLays
import Derived.Test.YtfkdailfcmnjlaaGreatDoorLays2
import Derived.Deep.QuietTactic
import Derived.BigQuiet
import Derived.WalkKit
import Derived.WalkSpells
import GoSem.Op.String
import Derived.Deep.AppendLies
import Derived.Deep.RegionHeld3
import Derived.Deep.DrawnRows
import Derived.Deep.RegionHeldLaw
import Derived.Deep.RegionLaw
import Derived.Lib.ParseIntBCases
import Derived.Deep.OwnRows
import Derived.Lib.LaidTab
import Derived.Lib.AppendIntMem
import Derived.Shelf.Strings.Builder1
import Derived.Laws.CopyOwn
import Derived.Deep.DeepCutAuto
import Derived.WalkSmall
import Derived.Lib.AppendZerosOnto
set_option linter.unusedVariables false
set_option linter.unusedSimpArgs false
namespace Go.Proofs.YtfkdailfcmnjlaaGreatDoor
open Go Go.RowKit
set_option maxRecDepth 100000
attribute [local go_sem ↓] Go.wp_at_zero Go.wp_at_succ

theorem info_bool : (Tryz.prog.info? 4).map (fun i => (i.zero, i.size, i.bytes)) = some (some (.bool false), 1, 1) := by kernel_rfl
/-- A row that tells where instructions begin. -/
def begO (n : Nat) (ins : List Ins) : Array Value := ((begL n ins).map Value.bool).toArray
theorem begO_size (n : Nat) (ins : List Ins) : (begO n ins).size = n := by simp [begO, begL_len]
theorem begO_at {n p : Nat} (ins : List Ins) (h : p < n) : (begO n ins)[p]? = some (.bool (beg ins p)) := by
  unfold begO
  rw [List.getElem?_toArray, List.getElem?_map, begL_at ins h]; rfl
theorem begO_more (n : Nat) (ins : List Ins) (x : Ins) : (begO n ins).setIfInBounds x.pl (.bool true) = begO n (ins ++ [x]) := by
  unfold begO
  rw [← begL_more, List.map_set]
  simp
theorem begO_made (n : Nat) : madeCells #[.bool false] n = begO n [] := by
  apply Array.ext
  · rw [size_madeCells, begO_size]
  · intro i h1 h2
    rw [size_madeCells] at h1
    have e := begO_at [] h1
    rw [Array.getElem?_eq_getElem h2] at e
    injection e with e
    rw [e]
    simp [madeCells, beg, Nat.mod_one]
def BegAns (n lo : Nat) (r : Option (List Ins)) (e : Ending) (w' : World) : Prop := match r with
  | none => e = .returned (.slice none 0 0)
  | some ins => ∃ g, lo ≤ g ∧ e = .returned (.slice (some ⟨g, 0, none⟩) n n) ∧ w'.heap[g]? = some (.cells (begO n ins) 4 (0, 0))
def BegI (b : List UInt8) (w wr : World) (R : Option (List Ins)) (a : Nat) : Prop := ∃ pre, DecI b a pre R ∧ wr.heap[w.heap.size]? = some (.cells (begO b.length pre) 4 (0, 0)) ∧ Below w.heap.size w wr
set_option maxHeartbeats 1000000 in
theorem begins_any {b : List UInt8} (h4 : 4 ≤ b.length) (hb : b.length ≤ 4000) (w : World) :
    Calls Tryz.prog 45 #[S b] w fun e w' => BegAns b.length w.heap.size (dec (b.length + 1) b 3) e w' ∧ Below w.heap.size w w' := by
  have hmk := run_make_row' (P := Tryz.prog) 120 4 (.bool false) 1 Tryz.underlying120 info_bool rfl .i64 .i64 b.length (by omega) (by omega)
  have HI0 : Hid (BegI b w (w.alloc (.cells (madeCells #[.bool false] b.length) 4)) (dec (b.length + 1) b 3) 3) := ⟨[], DecI.first (by omega), by rw [← begO_made]; exact heap_alloc_new w _, (Below.refl _ _).alloc (Nat.le_refl _) _⟩
  generalize dec (b.length + 1) b 3 = R at *
  have W1 := fun op (h : op < 256) w => size_any op h w
  have W2 := fun op cells (h : op < 256) (hc : cells < 256) w => bound_any op cells h hc w
  go_enter Tryz.func45, Tryz.ntmps45
  go_wp2_with fail
  generalize hw0 : w.alloc (.cells (madeCells #[.bool false] b.length) 4) = W0 at *
  go_loopw [4, 5] (fun av _ wr => ∃ a : Nat, a ≤ b.length ∧ av = .int .i64 a ∧ Hid (BegI b w wr R a)) (fun av _ _ => b.length - (intOf av).toNat)
  case atStart => exact ⟨3, by omega, rfl, HI0.out⟩
  case round =>
    obtain ⟨a, hal, rfl, HI⟩ := hrel
    obtain ⟨pre, hdi, hblk, hbel⟩ := HI.out
    by_cases hlt : a < b.length
    · have ha : a < (ByteArray.mk b.toArray).size := hlt
      have hba : ((ByteArray.mk b.toArray)[a]).toNat = byteAt b a := ba_at b a ha
      have h2s : 2 < (ByteArray.mk b.toArray).size := by show 2 < b.length; omega
      have hb2 : ((ByteArray.mk b.toArray)[2]).toNat = byteAt b 2 := ba_at b 2 h2s
      have hop := byte_lt b a
      have hc := byte_lt b 2
      have W1 := fun w => W1 (byteAt b a) hop w
      have W2 := fun w => W2 (byteAt b a) (byteAt b 2) hop hc w
      have hs9 := size_le (byteAt b a)
      have q0 : (0 : Int) ≤ (a : Int) ∧ (a : Int) < (b.length : Int) := by omega
      have HBad : Hid (¬ (sizeOp (byteAt b a) ≠ 0 ∧ a + sizeOp (byteAt b a) ≤ b.length ∧ (sizeOp (byteAt b a) = 2 → (byteAt b (a + 1) : Int) ≤ boundOp (byteAt b a) (byteAt b 2))) → R = none) := hdi.bad hlt
      have hc0 : wr.cell? ⟨w.heap.size, a, none⟩ = some (.bool (beg pre a)) := by rw [cell_of_row wr _ a _ _ _ hblk, begO_at pre hlt]
      have hfz : wr.frozen? ⟨w.heap.size, a, none⟩ = false := by simp [World.frozen?, hblk]
      have HGo : Hid (sizeOp (byteAt b a) ≠ 0 ∧ a + sizeOp (byteAt b a) ≤ b.length ∧ (sizeOp (byteAt b a) = 2 → (byteAt b (a + 1) : Int) ≤ boundOp (byteAt b a) (byteAt b 2)) → ∀ n, BegI b w ((wr.drewN n).setCell ⟨w.heap.size, a, none⟩ (.bool true)) R (a + sizeOp (byteAt b a))) := fun hg n => by
        refine ⟨_, hdi.step hlt hg, ?_, (below_drewN hbel n).setCell (Nat.le_refl _) _⟩
        rw [← begO_more]
        exact heap_setCell_same (wr.drewN n) _ a _ _ _ hblk
      have HBel : Hid _ := hbel
      clear hdi hblk hbel HI HI0 hw0 hmk
      by_cases hA : sizeOp (byteAt b a) = 0
      · have HR : Hid (R = none) := HBad.out (fun h => h.1 hA)
        rw [hA] at W1
        clear HBad HGo
        generalize byteAt b a = op at *
        go_wp2_with (
          go_at_call 49
          refine (W1 _).mono ?_
          rintro e w' ⟨rfl, rfl⟩)
        go_quiet (fail)
        go_wp2
        go_ret
        exact ⟨by rw [HR.out]; rfl, below_drewN HBel.out _⟩
      by_cases hB : a + sizeOp (byteAt b a) ≤ b.length
      · by_cases hC : sizeOp (byteAt b a) = 2
        · have ha1 : a + 1 < (ByteArray.mk b.toArray).size := by show a + 1 < b.length; omega
          have hb1 : ((ByteArray.mk b.toArray)[a + 1]).toNat = byteAt b (a + 1) := ba_at b _ ha1
          have q1 : (0 : Int) ≤ (a : Int) + 1 ∧ (a : Int) + 1 < (b.length : Int) := by omega
          have hu := byte_lt b (a + 1)
          by_cases hD : (byteAt b (a + 1) : Int) ≤ boundOp (byteAt b a) (byteAt b 2)
          · have HG : Hid _ := HGo.out ⟨hA, hB, fun _ => hD⟩
            rw [hC] at HG W1
            have n5 : decide (boundOp (byteAt b a) (byteAt b 2) < (byteAt b (a + 1) : Int)) = false := by simp; omega
            have n1 : decide ((b.length : Int) < (a : Int) + 2) = false := by simp; omega
            clear HBad HGo hs9 hA
            generalize boundOp (byteAt b a) (byteAt b 2) = bd at *
            generalize byteAt b (a + 1) = u at *
            generalize byteAt b 2 = c2 at *
            generalize byteAt b a = op at *
            go_wp2_with (
              go_at_call 49
              refine (W1 _).mono ?_
              rintro e w' ⟨rfl, rfl⟩)
            go_quiet (first | (go_at_call 95; refine Calls.quiet_of_same (W2 _)))
            go_wp2
            exact ⟨⟨a + 2, by omega, by go_num, HG.out _⟩, by simp [intOf]; omega⟩
          · have HR : Hid (R = none) := HBad.out (fun h => hD (h.2.2 hC))
            rw [hC] at W1
            have n5 : boundOp (byteAt b a) (byteAt b 2) < (byteAt b (a + 1) : Int) := by omega
            have n1 : decide ((b.length : Int) < (a : Int) + 2) = false := by simp; omega
            clear HBad HGo hs9 hA
            generalize boundOp (byteAt b a) (byteAt b 2) = bd at *
            generalize byteAt b (a + 1) = u at *
            generalize byteAt b 2 = c2 at *
            generalize byteAt b a = op at *
            go_wp2_with (
              go_at_call 49
              refine (W1 _).mono ?_
              rintro e w' ⟨rfl, rfl⟩)
            go_quiet (first | (go_at_call 95; refine Calls.quiet_of_same (W2 _)))
            go_wp2
            go_ret
            exact ⟨by rw [HR.out]; rfl, below_drewN HBel.out _⟩
        · have HG : Hid _ := HGo.out ⟨hA, hB, fun h => absurd h hC⟩
          clear HBad HGo
          generalize sizeOp (byteAt b a) = sz at *
          generalize byteAt b a = op at *
          have n0 : ((sz : Int) == 0) = false := by simp; omega
          have n2 : ((sz : Int) == 2) = false := by simp; omega
          have n1 : decide ((b.length : Int) < (a : Int) + (sz : Int)) = false := by simp; omega
          have n3 : decide ((sz : Int) = 2) = false := by simp; omega
          have n4 : decide ((sz : Int) = 0) = false := by simp; omega
          go_wp2_with (
            go_at_call 49
            refine (W1 _).mono ?_
            rintro e w' ⟨rfl, rfl⟩)
          go_quiet (fail)
          go_wp2
          exact ⟨⟨a + sz, by omega, by go_num, HG.out _⟩, by simp [intOf]; omega⟩
      · have HR : Hid (R = none) := HBad.out (fun h => hB h.2.1)
        clear HBad HGo
        generalize sizeOp (byteAt b a) = sz at *
        generalize byteAt b a = op at *
        have n0 : ((sz : Int) == 0) = false := by simp; omega
        have n1 : (b.length : Int) < (a : Int) + (sz : Int) := by omega
        have hwr : IntKind.i64.wrap ((a : Int) + (sz : Int)) = (a : Int) + (sz : Int) := by rw [IntKind.wrap_i64]; omega
        go_wp2_with (
          go_at_call 49
          refine (W1 _).mono ?_
          rintro e w' ⟨rfl, rfl⟩)
        go_quiet (fail)
        go_wp2
        go_ret
        exact ⟨by rw [HR.out]; rfl, below_drewN HBel.out _⟩
    · have HR : Hid (R = some pre) := hdi.last (by omega)
      have HX : Hid _ := And.intro hblk hbel
      clear hdi hblk hbel HI HI0
      go_wp2
      go_ret
      exact ⟨by rw [HR.out]; exact ⟨_, Nat.le_refl _, rfl, HX.out.1⟩, HX.out.2⟩
end Go.Proofs.YtfkdailfcmnjlaaGreatDoor

namespace Go.Proofs.YtfkdailfcmnjlaaGreatDoor
open Go Go.RowKit
set_option maxRecDepth 100000
attribute [local go_sem ↓] Go.wp_at_zero Go.wp_at_succ

def kv0 (o : Option Kn) : Value := .bool o.isSome
def kv1 (o : Option Kn) : Value := match o with
  | none => S []
  | some k => S (stS k.st)
def kv2 (o : Option Kn) : Value := match o with
  | none => S []
  | some k => S (clS k.cl)
/-- What is known by places, in memory. -/
structure KnAt (w : World) (g : Nat) (kl : List (Option Kn)) : Prop where
  blk : ∃ cs, w.heap[g]? = some (.cells cs 124 (0, 0)) ∧ cs.size = kl.length * 3
  c0 : ∀ j, j < kl.length → w.cell? ⟨g, j * 3, none⟩ = some (kv0 (kl.getD j none))
  c1 : ∀ j, j < kl.length → w.cell? ⟨g, j * 3 + 1, none⟩ = some (kv1 (kl.getD j none))
  c2 : ∀ j, j < kl.length → w.cell? ⟨g, j * 3 + 2, none⟩ = some (kv2 (kl.getD j none))
theorem KnAt.frz {w : World} {g : Nat} {kl : List (Option Kn)} (h : KnAt w g kl) (j : Nat) : w.frozen? ⟨g, j, none⟩ = false := by
  obtain ⟨cs, hc, _⟩ := h.blk
  simp [World.frozen?, hc]
theorem KnAt.of_block {w w' : World} {g : Nat} {kl : List (Option Kn)} (h : KnAt w g kl) (hb : w'.heap[g]? = w.heap[g]?) : KnAt w' g kl :=
  ⟨by rw [hb]; exact h.blk, fun j hj => by rw [World.cell?_of_block (w := w) (a := ⟨g, j * 3, none⟩) hb]; exact h.c0 j hj, fun j hj => by rw [World.cell?_of_block (w := w) (a := ⟨g, j * 3 + 1, none⟩) hb]; exact h.c1 j hj, fun j hj => by rw [World.cell?_of_block (w := w) (a := ⟨g, j * 3 + 2, none⟩) hb]; exact h.c2 j hj⟩
theorem KnAt.lt {w : World} {g : Nat} {kl : List (Option Kn)} (h : KnAt w g kl) : g < w.heap.size := by
  obtain ⟨cs, hc, _⟩ := h.blk
  exact lt_of_get hc
theorem KnAt.set {w : World} {g : Nat} {kl : List (Option Kn)} (h : KnAt w g kl) {j : Nat} (hj : j < kl.length) (o : Option Kn) : KnAt (((w.setCell ⟨g, j * 3, none⟩ (kv0 o)).setCell ⟨g, j * 3 + 1, none⟩ (kv1 o)).setCell ⟨g, j * 3 + 2, none⟩ (kv2 o)) g (kl.set j o) := by
  obtain ⟨cs, hc, hs⟩ := h.blk
  have e1 := heap_setCell_same w g (j * 3) cs 124 (kv0 o) hc
  have e2 := heap_setCell_same _ g (j * 3 + 1) _ 124 (kv1 o) e1
  have e3 := heap_setCell_same _ g (j * 3 + 2) _ 124 (kv2 o) e2
  have hcell : ∀ q, (((w.setCell ⟨g, j * 3, none⟩ (kv0 o)).setCell ⟨g, j * 3 + 1, none⟩ (kv1 o)).setCell ⟨g, j * 3 + 2, none⟩ (kv2 o)).cell? ⟨g, q, none⟩ = if q = j * 3 + 2 then some (kv2 o) else if q = j * 3 + 1 then some (kv1 o) else if q = j * 3 then some (kv0 o) else w.cell? ⟨g, q, none⟩ := fun q => by
    rw [cell_of_row _ g q _ _ _ e3, cell_of_row w g q _ _ _ hc]
    by_cases a : q = j * 3 + 2
    · subst a; rw [if_pos rfl, Array.getElem?_setIfInBounds, if_pos rfl, if_pos (by simp; omega)]
    · rw [if_neg a, Array.getElem?_setIfInBounds_ne (by omega)]
      by_cases b : q = j * 3 + 1
      · subst b; rw [if_pos rfl, Array.getElem?_setIfInBounds, if_pos rfl, if_pos (by simp; omega)]
      · rw [if_neg b, Array.getElem?_setIfInBounds_ne (by omega)]
        by_cases c : q = j * 3
        · subst c; rw [if_pos rfl, Array.getElem?_setIfInBounds, if_pos rfl, if_pos (by omega)]
        · rw [if_neg c, Array.getElem?_setIfInBounds_ne (by omega)]
  refine ⟨⟨_, e3, by simpa using hs⟩, fun i hi => ?_, fun i hi => ?_, fun i hi => ?_⟩
  · rw [List.length_set] at hi
    rw [hcell, if_neg (by omega), if_neg (by omega)]
    by_cases e : j = i
    · subst e; rw [if_pos rfl, getD_set_eq hj]
    · rw [if_neg (by omega), getD_set_ne e]; exact h.c0 i hi
  · rw [List.length_set] at hi
    rw [hcell, if_neg (by omega)]
    by_cases e : j = i
    · subst e; rw [if_pos rfl, getD_set_eq hj]
    · rw [if_neg (by omega), if_neg (by omega), getD_set_ne e]; exact h.c1 i hi
  · rw [List.length_set] at hi
    rw [hcell]
    by_cases e : j = i
    · subst e; rw [if_pos rfl, getD_set_eq hj]
    · rw [if_neg (by omega), if_neg (by omega), if_neg (by omega), getD_set_ne e]; exact h.c2 i hi
theorem info_Known : (Tryz.prog.info? 124).map (fun i => (i.zero, i.size, i.bytes)) = some (some (.agg #[.bool false, .string ⟨#[]⟩, .string ⟨#[]⟩]), 3, 40) := by kernel_rfl
theorem made_known {w : World} {g n : Nat} (h : w.heap[g]? = some (.cells (madeCells #[.bool false, .string ⟨#[]⟩, .string ⟨#[]⟩] (n * 3)) 124 (0, 0))) : KnAt w g (List.replicate n none) := by
  have hc := fun j => cell_of_row w g j _ _ _ h
  have hg : ∀ j, (List.replicate n (none : Option Kn)).getD j none = none := fun j => by
    rw [List.getD_eq_getElem?_getD, List.getElem?_replicate]; split <;> rfl
  refine ⟨⟨_, h, by rw [size_madeCells, List.length_replicate]⟩, fun j hj => ?_, fun j hj => ?_, fun j hj => ?_⟩ <;> rw [List.length_replicate] at hj
  · have e : j * 3 % 3 = 0 := by omega
    have hl : j * 3 < n * 3 := by omega
    rw [hc, hg]; unfold madeCells; simp [e, hl, kv0]
  · have e : (j * 3 + 1) % 3 = 1 := by omega
    have hl : j * 3 + 1 < n * 3 := by omega
    rw [hc, hg]; unfold madeCells; simp [e, hl, kv1]
  · have e : (j * 3 + 2) % 3 = 2 := by omega
    have hl : j * 3 + 2 < n * 3 := by omega
    rw [hc, hg]; unfold madeCells; simp [e, hl, kv2]
/-- What is known at all places, and what the rest answers. -/
structure LdI (b : List UInt8) (ins : List Ins) (w wr : World) (sg lg at_ : Nat) (R : Bool) (i : Nat) (kl come : List (Option Kn)) : Prop where
  fl : FlI b ins (byteAt b 1) at_ i kl come R
  ty : ComeTy (byteAt b 2) come
  kn : KnAt wr lg kl
  st : wr.heap[sg]? = some (.cells (begO b.length ins) 4 (0, 0))
  bel : Below w.heap.size w wr
  lo : w.heap.size ≤ sg ∧ w.heap.size ≤ lg
theorem LdI.below {b : List UInt8} {ins : List Ins} {w wr w2 : World} {sg lg at_ : Nat} {R : Bool} {i : Nat} {kl come : List (Option Kn)} (h : LdI b ins w wr sg lg at_ R i kl come) (hb : Below wr.heap.size wr w2) : LdI b ins w w2 sg lg at_ R i kl come :=
  ⟨h.fl, h.ty, h.kn.of_block (hb.block _ h.kn.lt), (hb.block _ (lt_of_get h.st)).trans h.st, h.bel.trans (hb.mono h.bel.size), h.lo⟩
end Go.Proofs.YtfkdailfcmnjlaaGreatDoor

namespace Go.Proofs.YtfkdailfcmnjlaaGreatDoor
open Go Go.RowKit
set_option maxRecDepth 100000
attribute [local go_sem ↓] Go.wp_at_zero Go.wp_at_succ

theorem load_dec (b : List UInt8) : loadOf b = match decP b with
    | none => none
    | some ins => if flowK ins (byteAt b 1) ins 0 (come0 (byteAt b 2) ins.length) then some ins else none := by
  by_cases h : hdBad b
  · rw [show decP b = none from if_pos h]
    exact if_pos h
  · rw [show decP b = dec (b.length + 1) b 3 from if_neg h]
    exact if_neg h
theorem decP_ok {b : List UInt8} {ins : List Ins} (h : decP b = some ins) : CodeOK b ins ∧ 0 < ins.length ∧ ins.length ≤ 4000 ∧ byteAt b 1 ≤ 24 := by
  unfold decP at h
  by_cases hb : hdBad b
  · rw [if_pos hb] at h; cases h
  · rw [if_neg hb] at h
    unfold hdBad at hb
    obtain ⟨h1, h2⟩ := dec_ok _ h (by omega)
    have hle := (behind_le (fun x hx => (h1 x hx).size) h2).1
    refine ⟨⟨h1, h2⟩, ?_, by omega, by omega⟩
    cases ins with
    | nil => have : 3 = b.length := h2; omega
    | cons x r => simp
/-- What loading answers. -/
def PLoadAns (b : List UInt8) (w : World) (e : Ending) (w' : World) : Prop :=
  (match loadOf b with
    | none => e = .returned (.tuple #[.pointer none, .bool false])
    | some ins => ∃ cp gi cap, e = .returned (.tuple #[.pointer (some ⟨cp, 0, none⟩), .bool true]) ∧ CodeAt w' cp gi cap (byteAt b 2) (byteAt b 1) ins) ∧ Below w.heap.size w w'
set_option maxHeartbeats 4000000 in
theorem codeLoad_any (b : List UInt8) {w : World} (hE : Ef w) : Calls Tryz.prog 99 #[S b] w fun e w' => PLoadAns b w e w' := by
  have W1 := cpread_any b w
  have hld := load_dec b
  cases hd : decP b with
  | none =>
    rw [hd] at W1 hld
    have HA : Hid (∀ w', Below w.heap.size w w' → PLoadAns b w (.returned (.tuple #[.pointer none, .bool false])) w') := fun w' hb => by
      unfold PLoadAns; rw [hld]; exact ⟨rfl, hb⟩
    clear hld hd
    go_enter Tryz.func99, Tryz.ntmps99
    go_wp2_with fail
    refine W1.mono ?_
    rintro e w2 ⟨⟨v, rfl⟩, hb⟩
    have HU : Hid (PLoadAns b w (.returned (.tuple #[.pointer none, .bool false])) w2) := HA.out w2 hb
    clear hb W1 HA
    go_wp2
    go_ret2
    exact HU.out
  | some ins =>
    rw [hd] at W1 hld
    obtain ⟨q1, q2, q3, q4⟩ := decP_ok hd
    have W2 : ∀ w2 cp gi cap, Below w.heap.size w w2 → CodeAt w2 cp gi cap (byteAt b 2) (byteAt b 1) ins → _ := fun w2 cp gi cap hb hc => sound_any (hE.below hE.pos hb) q1 hc q2 q3 q4
    have hld2 : loadOf b = if flowK ins (byteAt b 1) ins 0 (come0 (byteAt b 2) ins.length) then some ins else none := hld
    clear hld
    generalize flowK ins (byteAt b 1) ins 0 (come0 (byteAt b 2) ins.length) = r at *
    have HA : Hid (∀ w1 w2 cp gi cap, CodeAt w1 cp gi cap (byteAt b 2) (byteAt b 1) ins → Below w.heap.size w w1 → Below w1.heap.size w1 w2 → (r = false → PLoadAns b w (.returned (.tuple #[.pointer none, .bool false])) w2) ∧ (r = true → PLoadAns b w (.returned (.tuple #[.pointer (some ⟨cp, 0, none⟩), .bool true])) w2)) := fun w1 w2 cp gi cap hc h1 h2 => by
      have hb2 := h1.trans (h2.mono h1.size)
      unfold PLoadAns
      rw [hld2]
      refine ⟨fun e => ?_, fun e => ?_⟩
      · subst e; exact ⟨rfl, hb2⟩
      · subst e; exact ⟨⟨cp, gi, cap, rfl, hc.below h2⟩, hb2⟩
    clear hld2 hd q1
    go_enter Tryz.func99, Tryz.ntmps99
    go_wp2_with fail
    refine W1.mono ?_
    rintro e w1 ⟨⟨cp, gi, cap, rfl, hc⟩, hb⟩
    have W3 := W2 w1 cp gi cap hb hc
    have HA2 : Hid (∀ w2, Below w1.heap.size w1 w2 → _) := fun w2 h2 => HA.out w1 w2 cp gi cap hc hb h2
    clear hb hc W1 W2 HA
    go_wp2_with fail
    refine W3.mono ?_
    rintro e w2 ⟨rfl, hb2⟩
    obtain ⟨a1, a2⟩ := HA2.out w2 hb2
    clear hb2 W3 HA2
    cases r with
    | false =>
      have HU : Hid (PLoadAns b w (.returned (.tuple #[.pointer none, .bool false])) w2) := a1 rfl
      clear a1 a2
      go_wp2
      go_ret2
      exact HU.out
    | true =>
      have HU : Hid (PLoadAns b w (.returned (.tuple #[.pointer (some ⟨cp, 0, none⟩), .bool true])) w2) := a2 rfl
      clear a1 a2
      go_wp2
      go_ret2
      exact HU.out
/-- What the program's Load answers. -/
def GLoadAns (b : List UInt8) (w : World) (e : Ending) (w' : World) : Prop :=
  (match loadOf b with
    | none => e = .returned (.tuple #[.pointer none, .int .i64 7])
    | some ins => ∃ lp cp gi cap, e = .returned (.tuple #[.pointer (some ⟨lp, 0, none⟩), .int .i64 0]) ∧ w'.heap[lp]? = some (.cells #[.pointer (some ⟨cp, 0, none⟩)] 207 (0, 0)) ∧ CodeAt w' cp gi cap (byteAt b 2) (byteAt b 1) ins) ∧ Below w.heap.size w w'
set_option maxHeartbeats 4000000 in
theorem gload_any (b : List UInt8) {w : World} (hE : Ef w) : Calls Tryz.prog 52 #[S b] w fun e w' => GLoadAns b w e w' := by
  have W1 := codeLoad_any b hE
  unfold PLoadAns at W1
  unfold GLoadAns
  cases hd : loadOf b with
  | none =>
    rw [hd] at W1
    clear hd
    go_enter Tryz.func52, Tryz.ntmps52
    go_wp2_with fail
    refine W1.mono ?_
    rintro e w2 ⟨rfl, hb⟩
    have HB : Hid _ := hb
    clear hb W1
    go_wp2
    go_ret2
    exact ⟨rfl, HB.out⟩
  | some ins =>
    rw [hd] at W1
    clear hd
    go_enter Tryz.func52, Tryz.ntmps52
    go_wp2_with fail
    refine W1.mono ?_
    rintro e w2 ⟨⟨cp, gi, cap, rfl, hc⟩, hb⟩
    have HB : Hid _ := And.intro hb hc
    clear hb hc W1
    go_wp2
    go_ret2
    refine ⟨⟨w2.heap.size, cp, gi, cap, rfl, heap_alloc_new _ _, HB.out.2.below ((Below.refl _ _).alloc (Nat.le_refl _) _)⟩, HB.out.1.alloc HB.out.1.size _⟩
end Go.Proofs.YtfkdailfcmnjlaaGreatDoor

namespace Go.Proofs.YtfkdailfcmnjlaaGreatDoor
open Go Go.RowKit
set_option maxRecDepth 100000
attribute [local go_sem ↓] Go.wp_at_zero Go.wp_at_succ

theorem info_VValue : (Tryz.prog.info? 112).map (fun i => (i.zero, i.size, i.bytes)) = some (some (.int .i64 0), 1, 8) := by kernel_rfl
set_option maxHeartbeats 2000000 in
theorem vpush_any {p : Nat} {cs : Array Value} {ty : TypeId} {v : Value} {l : List Int} (x : Int) {w : World} (hp : w.heap[p]? = some (.cells cs ty (0, 0))) (h0 : cs[0]? = some v) (hr : IR w 112 v l) (hty : ty ≠ 112) (hl : l.length ≤ 5000) :
    Calls Tryz.prog 238 #[.pointer (some ⟨p, 0, none⟩), .int .i64 x] w fun e w' => e = .returned (.tuple #[]) ∧ ∃ v', w'.heap[p]? = some (.cells (cs.setIfInBounds 0 v') ty (0, 0)) ∧ IR w' 112 v' (l ++ [x]) ∧ Only (fun b => b = p ∨ v.ownBlock = some b) w w' ∧ ∀ b, v'.ownBlock = some b → v.ownBlock = some b ∨ w.heap.size ≤ b := by
  have hpc : w.cell? ⟨p, 0, none⟩ = some v := by rw [cell_of_row w p 0 _ _ _ hp]; exact h0
  have hpf : w.frozen? ⟨p, 0, none⟩ = false := by simp [World.frozen?, hp]
  have hlt := lt_of_get hp
  have hne := hr.ne hp hty
  obtain ⟨a, cap, rfl⟩ := hr.sl
  obtain ⟨i0, hi, hz⟩ := Option.map_eq_some_iff.1 info_VValue
  simp only [Prod.mk.injEq] at hz
  obtain ⟨hz0, hz1, hz2⟩ := hz
  have HP : Hid _ := hp
  have HR : Hid _ := hr
  have HN : Hid _ := hne
  clear hp hr h0 hne
  go_enter Tryz.func238, Tryz.ntmps238
  go_wp2_with (
    at_builtin
    go_must (refine wpList_append_lies _ (by rfl) _ _ 179 (by rfl) 0 112 i0 (.int .i64 0) 1 8 Tryz.underlying179 hi hz0 hz1 hz2 (by rfl) (by decide) _ _ _ (by rfl) (HR.out.alloc _) ⟨w.heap.size, 0, none⟩ 1 1 [.int .i64 x] (by rfl) (by rfl) (World.news_of_block (heap_alloc_new w _)) (fun x hx => by simp at hx; rcases hx with rfl; rfl) (by decide) (by unfold maxLen; omega) (by omega) (by simp) _ rfl ?_)
    intro gg cap' w3 hown3 hgrow hat hlt3
    have e0 : w3.heap[p]? = w.heap[p]? := (hgrow.block _ (by simp; omega) (fun e => HN.out e.symm)).trans (Below.heap_alloc w _ _ hlt)
    have e1 := (World.cell?_of_block (a := ⟨p, 0, none⟩) e0).trans hpc
    have e2 := (World.frozen?_of_block (a := ⟨p, 0, none⟩) e0).trans hpf
    have HE0 : Hid _ := e0
    have HO3 : Hid _ := hown3
    have HG3 : Hid _ := hgrow
    clear e0 hown3 hgrow)
  go_end0
  refine ⟨rfl, .slice (some ⟨gg, 0, none⟩) (l.length + 1) cap', ?_, ?_, ?_, ?_⟩
  · rw [heap_setCell_same w3 p 0 _ _ _ (HE0.out.trans HP.out)]
  · have h1 : w3.ownsRow 0 112 1 (.slice (some ⟨gg, 0, none⟩) (l.length + 1) cap') (l.length + 1) (l.map (Value.int .i64) ++ [.int .i64 x]) := HO3.out
    have h2 := ownsRow_setCell_other h1 (a := ⟨p, 0, none⟩) (by
      intro e
      simp [Value.ownBlock] at e
      rcases hat with h | h
      · exact HN.out (by rw [h, e])
      · rw [World.size_alloc] at h; omega) (.slice (some ⟨gg, 0, none⟩) (l.length + 1) cap')
    unfold IR; simpa using h2
  · exact (((Only.refl _ w).alloc _).grown HG3.out (fun k hk => .inl (.inr hk))).setCell (.inl (.inl rfl)) _
  · intro b hb
    simp [Value.ownBlock] at hb
    subst hb
    rcases hat with h | h
    · exact .inl h
    · right; rw [h, World.size_alloc]; omega
set_option maxHeartbeats 2000000 in
theorem vpop_any {p : Nat} {cs : Array Value} {ty : TypeId} {v : Value} {l : List Int} {w : World} (hp : w.heap[p]? = some (.cells cs ty (0, 0))) (h0 : cs[0]? = some v) (hr : IR w 112 v l) (hty : ty ≠ 112) (hl : l.length ≤ 5000) :
    Calls Tryz.prog 239 #[.pointer (some ⟨p, 0, none⟩)] w fun e w' => e = .returned (.int .i64 (l.getLast?.getD 0)) ∧ ∃ v', w'.heap[p]? = some (.cells (cs.setIfInBounds 0 v') ty (0, 0)) ∧ IR w' 112 v' l.dropLast ∧ Only (fun b => b = p) w w' ∧ v'.ownBlock = v.ownBlock := by
  have hpc : w.cell? ⟨p, 0, none⟩ = some v := by rw [cell_of_row w p 0 _ _ _ hp]; exact h0
  have hpf : w.frozen? ⟨p, 0, none⟩ = false := by simp [World.frozen?, hp]
  have hne := hr.ne hp hty
  rcases List.eq_nil_or_concat l with rfl | ⟨r, x, rfl⟩
  · have HA : Hid (∃ v', w.heap[p]? = some (.cells (cs.setIfInBounds 0 v') ty (0, 0)) ∧ IR w 112 v' ([] : List Int).dropLast ∧ Only (fun b => b = p) w w ∧ v'.ownBlock = v.ownBlock) := ⟨v, by
      rw [hp]
      congr 2
      apply Array.ext_getElem?
      intro i
      rw [Array.getElem?_setIfInBounds]
      split
      · rename_i e; subst e; split
        · exact h0
        · rename_i hh; rw [Array.getElem?_eq_none (by omega)]
      · rfl, hr, Only.refl _ _, rfl⟩
    obtain ⟨a, cap, rfl⟩ := hr.sl
    clear hp hr h0 hne
    simp only [List.length_nil] at *
    go_enter Tryz.func239, Tryz.ntmps239
    go_wp2
    go_ret
    exact ⟨rfl, HA.out⟩
  · rw [List.concat_eq_append] at *
    obtain ⟨g, cap, rfl, hg⟩ := hr.form (by simp)
    obtain ⟨_, hx⟩ := last_row hr
    have e1 : (r ++ [x]).length = r.length + 1 := by simp
    rw [e1] at hpc hr hne hl
    have hcap := hr.cap
    rw [e1] at hcap
    have q2 : (0 : Int) ≤ (r.length : Int) ∧ (r.length : Int) ≤ (cap : Int) := by omega
    have HP : Hid _ := hp
    have HR : Hid _ := hr
    have HN : Hid _ := hne
    have e2 : (r ++ [x]).getLast?.getD 0 = x := by simp
    have e3 : (r ++ [x]).dropLast = r := by simp
    have hgp : g ≠ p := fun e => hne (by rw [e]; rfl)
    have q0 : (0 : Int) ≤ (r.length : Int) + 1 - 1 := by omega
    have q1 : (0 : Int) ≤ (r.length : Int) ∧ (r.length : Int) < (r.length : Int) + 1 := by omega
    rw [e2, e3]
    clear hp hr h0 hne
    go_enter Tryz.func239, Tryz.ntmps239
    go_wp2
    go_ret
    refine ⟨rfl, .slice (some ⟨g, 0, none⟩) r.length cap, ?_, ?_, (Only.refl (fun b => b = p) w).setCell (.inl rfl) _, rfl⟩
    · rw [heap_setCell_same w p 0 _ _ _ HP.out]
    · exact (IR.pop HR.out).only ((Only.refl (fun b => b = p) _).setCell (.inl rfl) _) (fun k hk => by simp [Value.ownBlock] at hk; omega)
end Go.Proofs.YtfkdailfcmnjlaaGreatDoor

namespace Go.Proofs.YtfkdailfcmnjlaaGreatDoor
open Go Go.RowKit
set_option maxRecDepth 100000
attribute [local go_sem ↓] Go.wp_at_zero Go.wp_at_succ

def fnV (n : Nat) : Value := .func (.func n) #[] #[]
def doT : List Value := [.nilFunc, fnV 192, fnV 192, fnV 192, fnV 193, fnV 194, fnV 195, fnV 196, fnV 197, fnV 198, fnV 199, fnV 200, fnV 201, fnV 202, fnV 203, fnV 204, fnV 205, fnV 206, fnV 207]
theorem doT_one : ∀ v ∈ doT, v.oneCell' = true := by
  intro v hv
  simp only [doT, List.mem_cons, List.not_mem_nil, or_false] at hv
  rcases hv with rfl | rfl | rfl | rfl | rfl | rfl | rfl | rfl | rfl | rfl | rfl | rfl | rfl | rfl | rfl | rfl | rfl | rfl | rfl <;> rfl
theorem there_row {w : World} {b : Nat} {cs : Array Value} {t : TypeId} (h : w.heap[b]? = some (.cells cs t (0, 0))) : w.there b 0 cs.size := fun j hj => by
  rw [Nat.zero_add]
  refine ⟨?_, by simp [World.frozen?, h]⟩
  rw [cell_of_row w b j _ _ _ h]
  simp [hj]
set_option maxHeartbeats 4000000 in
theorem doings_any (w : World) : Calls Tryz.prog 144 #[] w fun e w' => e = .returned (.agg doT.toArray) ∧ Below w.heap.size w w' := by
  have hsz : Option.map (fun x => x.size) (Tryz.prog.info? 259) = some 19 := by kernel_rfl
  obtain ⟨w1, hw1⟩ : ∃ w1, w.alloc (.cells #[Value.nilFunc, Value.nilFunc, Value.nilFunc, Value.nilFunc, Value.nilFunc, Value.nilFunc, Value.nilFunc, Value.nilFunc, Value.nilFunc, Value.nilFunc, Value.nilFunc, Value.nilFunc, Value.nilFunc, Value.nilFunc, Value.nilFunc, Value.nilFunc, Value.nilFunc, Value.nilFunc, Value.nilFunc] 259) = w1 := ⟨_, rfl⟩
  have hk : w1.heap[w.heap.size]? = some (.cells #[Value.nilFunc, Value.nilFunc, Value.nilFunc, Value.nilFunc, Value.nilFunc, Value.nilFunc, Value.nilFunc, Value.nilFunc, Value.nilFunc, Value.nilFunc, Value.nilFunc, Value.nilFunc, Value.nilFunc, Value.nilFunc, Value.nilFunc, Value.nilFunc, Value.nilFunc, Value.nilFunc, Value.nilFunc] 259 (0, 0)) := by rw [← hw1]; exact heap_alloc_new w _
  have ht := there_row hk
  have HW : Hid _ := hw1
  have HB : Hid (Below w.heap.size w w1) := by rw [← hw1]; exact (Below.refl _ _).alloc (Nat.le_refl _) _
  have hin := World.cell?_setCells_in w.heap.size doT 0 w1 (fun j hj => (ht j hj).1)
  have HF0 : Hid (∀ j v, doT[j]? = some v → (w1.setCells w.heap.size 0 doT).cell? ⟨w.heap.size, j, none⟩ = some v) := fun j v hv => by
    obtain ⟨hj, rfl⟩ := List.getElem?_eq_some_iff.1 hv
    have := hin j hj
    rw [Nat.zero_add] at this; exact this
  clear hin hw1 hk
  go_enter Tryz.func144, Tryz.ntmps144
  go_wp2_with (
    rw [HW.out]
    refine wpList_store_mid (by rfl) _ _ _ (by rfl) w.heap.size 0 doT.toArray (by rfl) (by rfl) ht hsz (all_oneCell_toArray doT_one) ?_)
  have HB2 : Hid (Below w.heap.size w (w1.setCells w.heap.size 0 doT)) := below_cells (Nat.le_refl _) _ _ HB.out
  have HF := HF0
  clear HF0 ht HW HB hsz
  generalize w1.setCells w.heap.size 0 doT = wf at *
  simp only [Act.put]
  have hld : (loadVar 259 ⟨w.heap.size, 0, none⟩).run Tryz.prog wf = .ok (.agg doT.toArray) wf :=
    run_loadVar_mid (P := Tryz.prog) wf w.heap.size 0 259 doT _ (fun j v hv => by rw [Nat.zero_add]; exact HF.out j v hv) Tryz.underlying259 rfl (by kernel_rfl)
  refine bodyPost_ret (v := .agg doT.toArray) ?_ rfl ?_
  · simp only [results, Tryz.results144]
    simp [asAddr, hld]
  exact ⟨rfl, HB2.out⟩
end Go.Proofs.YtfkdailfcmnjlaaGreatDoor

namespace Go.Proofs.YtfkdailfcmnjlaaGreatDoor
open Go Go.RowKit
set_option maxRecDepth 100000
attribute [local go_sem ↓] Go.wp_at_zero Go.wp_at_succ

/-- The machine's state: the stack (the lowest first), the cells, the next instruction, has it ended, the verdict. -/
structure MS where
  st : List Int
  cl : List Int
  next : Int
  ended : Bool
  al : Bool
  ru : Int
  stp : Int
def macC (vs vc : Value) (fl : List Int) (s : MS) : Array Value := #[vs, vc, .int .i64 (fl.getD 0 0), .int .i64 (fl.getD 1 0), .int .i64 (fl.getD 2 0), .int .i64 (fl.getD 3 0), .int .i64 (fl.getD 4 0), .int .i64 (fl.getD 5 0), .int .i64 (fl.getD 6 0), .int .i64 (fl.getD 7 0), .int .i64 (fl.getD 8 0), .int .i64 s.next, .bool s.ended, .bool s.al, .int .i64 s.ru, .int .i64 s.stp]
structure MacAt (w : World) (p : Nat) (vs vc : Value) (fl : List Int) (s : MS) : Prop where
  blk : w.heap[p]? = some (.cells (macC vs vc fl s) 257 (0, 0))
  st : IR w 112 vs s.st
  cl : IR w 112 vc s.cl
  ne : ∀ b, vs.ownBlock = some b → vc.ownBlock ≠ some b
theorem MacAt.lt {w : World} {p : Nat} {vs vc : Value} {fl : List Int} {s : MS} (h : MacAt w p vs vc fl s) {b : Nat} (hb : Foot p vs vc b) : b < w.heap.size := by
  rcases hb with rfl | hb | hb
  · exact lt_of_get h.blk
  · exact (h.st.lt b hb).2
  · exact (h.cl.lt b hb).2
theorem MacAt.only {w w' : World} {p : Nat} {vs vc : Value} {fl : List Int} {s : MS} (h : MacAt w p vs vc fl s) {F : Nat → Prop} (ho : Only F w w') (hF : ∀ b, Foot p vs vc b → ¬ F b) : MacAt w' p vs vc fl s :=
  ⟨(ho.block p (lt_of_get h.blk) (hF p (.inl rfl))).trans h.blk, h.st.only ho (fun g hg => hF g (.inr (.inl hg))), h.cl.only ho (fun g hg => hF g (.inr (.inr hg))), h.ne⟩
theorem MacAt.drew {w : World} {p : Nat} {vs vc : Value} {fl : List Int} {s : MS} (h : MacAt w p vs vc fl s) : MacAt w.drew p vs vc fl s := ⟨h.blk, h.st, h.cl, h.ne⟩
def MOut (w w' : World) (p : Nat) (vs vc : Value) (fl : List Int) (s : MS) : Prop :=
  ∃ vs', MacAt w' p vs' vc fl s ∧ Only (Foot p vs vc) w w' ∧ ∀ b, Foot p vs' vc b → Foot p vs vc b ∨ w.heap.size ≤ b
theorem MOut.refl {w : World} {p : Nat} {vs vc : Value} {fl : List Int} {s : MS} (h : MacAt w p vs vc fl s) : MOut w w p vs vc fl s := ⟨vs, h, Only.refl _ _, fun _ hb => .inl hb⟩
theorem MOut.then {w w1 w2 : World} {p : Nat} {vs vc vs1 : Value} {fl : List Int} {s2 : MS} (ho : Only (Foot p vs vc) w w1) (hf : ∀ b, Foot p vs1 vc b → Foot p vs vc b ∨ w.heap.size ≤ b) (h2 : MOut w1 w2 p vs1 vc fl s2) : MOut w w2 p vs vc fl s2 := by
  obtain ⟨vs2, hs, ho2, hf2⟩ := h2
  refine ⟨vs2, hs, ho.trans ho2 (fun _ _ h => h) (fun i hi h => ?_), fun b hb => ?_⟩
  · rcases hf i h with h | h
    · exact h
    · omega
  · rcases hf2 b hb with h | h
    · exact hf b h
    · right; have := ho.size; omega
theorem MOut.only {w w' : World} {p : Nat} {vs vc : Value} {fl : List Int} {s : MS} (h : MOut w w' p vs vc fl s) : Only (Foot p vs vc) w w' := by
  obtain ⟨_, _, h, _⟩ := h; exact h
theorem MOut.drew {w w' : World} {p : Nat} {vs vc : Value} {fl : List Int} {s : MS} (h : MOut w w' p vs vc fl s) : MOut w w'.drew p vs vc fl s := by
  obtain ⟨vs', h1, h2, h3⟩ := h
  exact ⟨vs', h1.drew, h2.drew, h3⟩
theorem mty_ne : 257 ≠ 112 := by decide
theorem MOut.push {w w1 : World} {p : Nat} {vs vc : Value} {fl : List Int} {s : MS} (h : MOut w w1 p vs vc fl s) (x : Int) (hl : s.st.length ≤ 5000) :
    Calls Tryz.prog 238 #[.pointer (some ⟨p, 0, none⟩), .int .i64 x] w1 fun e w' => e = .returned (.tuple #[]) ∧ MOut w w' p vs vc fl { s with st := s.st ++ [x] } := by
  obtain ⟨vs1, h, ho1, hf1⟩ := h
  refine (vpush_any x h.blk (v := vs1) rfl h.st mty_ne hl).mono ?_
  rintro e w' ⟨rfl, v', hb, hi, ho, hf⟩
  refine ⟨rfl, MOut.then ho1 hf1 ?_⟩
  have hvp := h.cl.ne h.blk mty_ne
  refine ⟨v', ⟨hb, hi, h.cl.only ho (fun g hg hn => ?_), fun b h1 h2 => ?_⟩, ho.weak (fun i _ hi => ?_), fun b hb => ?_⟩
  · rcases hn with rfl | hn
    · exact hvp hg
    · exact h.ne g hn hg
  · rcases hf b h1 with h3 | h3
    · exact h.ne b h3 h2
    · have := (h.cl.lt b h2).2; omega
  · rcases hi with rfl | hi
    · exact .inl rfl
    · exact .inr (.inl hi)
  · rcases hb with rfl | hb | hb
    · exact .inl (.inl rfl)
    · rcases hf b hb with h3 | h3
      · exact .inl (.inr (.inl h3))
      · exact .inr h3
    · exact .inl (.inr (.inr hb))
theorem MOut.pop {w w1 : World} {p : Nat} {vs vc : Value} {fl : List Int} {s : MS} (h : MOut w w1 p vs vc fl s) (hl : s.st.length ≤ 5000) :
    Calls Tryz.prog 239 #[.pointer (some ⟨p, 0, none⟩)] w1 fun e w' => e = .returned (.int .i64 (s.st.getLast?.getD 0)) ∧ MOut w w' p vs vc fl { s with st := s.st.dropLast } := by
  obtain ⟨vs1, h, ho1, hf1⟩ := h
  refine (vpop_any h.blk (v := vs1) rfl h.st mty_ne hl).mono ?_
  rintro e w' ⟨rfl, v', hb, hi, ho, hf⟩
  refine ⟨rfl, MOut.then ho1 hf1 ?_⟩
  have hvp := h.cl.ne h.blk mty_ne
  refine ⟨v', ⟨hb, hi, h.cl.only ho (fun g hg hn => ?_), fun b h1 h2 => ?_⟩, ho.weak (fun i _ hi => .inl hi), fun b hb => ?_⟩
  · subst hn; exact hvp hg
  · rw [hf] at h1; exact h.ne b h1 h2
  · unfold Foot at hb ⊢
    rw [hf] at hb; exact .inl hb
/-- A machine's number or truth is written. -/
theorem MOut.put {w w1 : World} {p : Nat} {vs vc : Value} {fl : List Int} {s s' : MS} (h : MOut w w1 p vs vc fl s) (o : Nat) (v : Value) (hs : ∀ vs vc, (macC vs vc fl s).setIfInBounds o v = macC vs vc fl s') (h1 : s'.st = s.st) (h2 : s'.cl = s.cl) : MOut w (w1.setCell ⟨p, o, none⟩ v) p vs vc fl s' := by
  obtain ⟨vs1, h, ho1, hf1⟩ := h
  refine MOut.then ho1 hf1 ?_
  have ho : Only (fun b => b = p) w1 (w1.setCell ⟨p, o, none⟩ v) := (Only.refl (fun b => b = p) w1).setCell (.inl rfl) _
  refine ⟨vs1, ⟨by rw [heap_setCell_same w1 p o _ _ _ h.blk, hs], ?_, ?_, h.ne⟩, ho.weak (fun i _ hi => .inl hi), fun b hb => .inl hb⟩
  · rw [h1]; exact h.st.only ho (fun g hg e => h.st.ne h.blk mty_ne (by rw [← e]; exact hg))
  · rw [h2]; exact h.cl.only ho (fun g hg e => h.cl.ne h.blk mty_ne (by rw [← e]; exact hg))
theorem MOut.cells {w w1 : World} {p : Nat} {vs vc : Value} {fl : List Int} {s : MS} (h : MOut w w1 p vs vc fl s) : w1.cell? ⟨p, 11, none⟩ = some (.int .i64 s.next) ∧ w1.cell? ⟨p, 12, none⟩ = some (.bool s.ended) ∧ w1.cell? ⟨p, 13, none⟩ = some (.bool s.al) ∧ w1.cell? ⟨p, 14, none⟩ = some (.int .i64 s.ru) ∧ w1.cell? ⟨p, 15, none⟩ = some (.int .i64 s.stp) ∧ ∀ o, w1.frozen? ⟨p, o, none⟩ = false := by
  obtain ⟨vs1, h, _, _⟩ := h
  have hc := fun j => cell_of_row w1 p j _ _ _ h.blk
  exact ⟨hc 11, hc 12, hc 13, hc 14, hc 15, fun o => by simp [World.frozen?, h.blk]⟩
/-- Where the machine does an instruction: its block is laid. -/
structure MSt (w w1 : World) (p : Nat) (vs vc : Value) (fl : List Int) (s : MS) (o : Obj) : Prop where
  out0 : MOut w1 w1 p vs vc fl s
  far : ∀ b, Foot p vs vc b → b < w.heap.size
  blk : w1.heap[w.heap.size]? = some o
  siz : w.heap.size < w1.heap.size
  out : ∀ w' s, MOut w1 w' p vs vc fl s → MOut w w' p vs vc fl s
theorem MSt.of {w : World} {p : Nat} {vs vc : Value} {fl : List Int} {s : MS} (h : MacAt w p vs vc fl s) (o : Obj) : MSt w (w.alloc o) p vs vc fl s o :=
  ⟨MOut.refl (h.only ((Only.refl (fun _ => False) w).alloc _) (fun _ _ h => h)), fun b hb => h.lt hb, heap_alloc_new w _, by rw [World.size_alloc]; omega, fun _ _ h => MOut.then ((Only.refl _ w).alloc o) (fun _ hb => .inl hb) h⟩
theorem MSt.after {w w1 w2 : World} {p : Nat} {vs vc : Value} {fl : List Int} {s s2 : MS} {op : Nat} {n tj pl : Int} (h : MSt w w1 p vs vc fl s (insO op n tj pl)) (ho : MOut w1 w2 p vs vc fl s2) : w2.cell? ⟨w.heap.size, 0, none⟩ = some (.int .i64 op) ∧ w2.cell? ⟨w.heap.size, 1, none⟩ = some (.int .i64 n) ∧ w2.cell? ⟨w.heap.size, 2, none⟩ = some (.int .i64 tj) ∧ w2.cell? ⟨w.heap.size, 3, none⟩ = some (.int .i64 pl) := by
  have hb : w2.heap[w.heap.size]? = _ := (ho.only.block _ h.siz (fun hf => by have := h.far _ hf; omega)).trans h.blk
  have hc := fun j => cell_of_row w2 _ j _ _ _ hb
  exact ⟨hc 0, hc 1, hc 2, hc 3⟩
set_option maxHeartbeats 4000000 in
theorem mlay_any {w : World} {p : Nat} {vs vc : Value} {fl : List Int} {s : MS} (op : Nat) (n tj pl : Int) (h : MacAt w p vs vc fl s) (hl : s.st.length ≤ 4000) :
    Calls Tryz.prog 192 #[.pointer (some ⟨p, 0, none⟩), insV op n tj pl] w fun e w' => e = .returned (.tuple #[]) ∧ MOut w w' p vs vc fl { s with st := s.st ++ [n] } := by
  obtain ⟨w1, hw1, H0⟩ : ∃ w1, w.alloc (.cells #[.int .i64 op, .int .i64 n, .int .i64 tj, .int .i64 pl] 247) = w1 ∧ MSt w w1 p vs vc fl s (insO op n tj pl) := ⟨_, rfl, MSt.of h _⟩
  unfold insV
  have H : Hid _ := H0
  obtain ⟨c0, c1, c2, c3⟩ := H0.after H0.out0
  have W1 := H0.out0.drew.push n (by omega)
  have HW : Hid _ := hw1
  have HK : Hid (∀ W' s', MOut w1 W' p vs vc fl s' → W'.cell? ⟨w.heap.size, 1, none⟩ = some (.int .i64 n)) := fun W' _ h => (H0.after h).2.1
  clear h H0 hw1
  go_enter Tryz.func192, Tryz.ntmps192
  go_wp2_with fail
  rw [HW.out]
  go_region_held3 (fun W => W.cell? ⟨w.heap.size, 1, none⟩ = some (.int .i64 n)) (first | with_reducible exact HK.out _ _ (by assumption) | with_reducible assumption | go_keep)
    (first | (go_at_call 238; refine W1.mono ?_; rintro e w2 ⟨rfl, hout⟩))
  rename_i hHeld
  have HU : Hid _ := hout
  clear hHeld hout
  go_end0
  exact ⟨rfl, H.out.out _ _ HU.out⟩
theorem MOut.field {w w1 : World} {p : Nat} {vs vc : Value} {fl : List Int} {s : MS} (h : MOut w w1 p vs vc fl s) {n : Nat} (hn : n ≤ 8) : w1.cell? ⟨p, 2 + n, none⟩ = some (.int .i64 (fl.getD n 0)) := by
  obtain ⟨vs1, h, _, _⟩ := h
  have hc := fun j => cell_of_row w1 p j _ _ _ h.blk
  have e : n = 0 ∨ n = 1 ∨ n = 2 ∨ n = 3 ∨ n = 4 ∨ n = 5 ∨ n = 6 ∨ n = 7 ∨ n = 8 := by omega
  rcases e with rfl | rfl | rfl | rfl | rfl | rfl | rfl | rfl | rfl
  · exact hc 2
  · exact hc 3
  · exact hc 4
  · exact hc 5
  · exact hc 6
  · exact hc 7
  · exact hc 8
  · exact hc 9
  · exact hc 10
set_option maxHeartbeats 4000000 in
theorem mfield_any {w : World} {p : Nat} {vs vc : Value} {fl : List Int} {s : MS} (op n : Nat) (tj pl : Int) (h : MacAt w p vs vc fl s) (hl : s.st.length ≤ 4000) (hn : n ≤ 8) :
    Calls Tryz.prog 193 #[.pointer (some ⟨p, 0, none⟩), insV op n tj pl] w fun e w' => e = .returned (.tuple #[]) ∧ MOut w w' p vs vc fl { s with st := s.st ++ [fl.getD n 0] } := by
  obtain ⟨w1, hw1, H0⟩ : ∃ w1, w.alloc (.cells #[.int .i64 op, .int .i64 n, .int .i64 tj, .int .i64 pl] 247) = w1 ∧ MSt w w1 p vs vc fl s (insO op n tj pl) := ⟨_, rfl, MSt.of h _⟩
  unfold insV
  have H : Hid _ := H0
  have W1 := H0.out0.drew.push (fl.getD n 0) (by omega)
  have HW : Hid _ := hw1
  have HK : Hid (∀ W' s', MOut w1 W' p vs vc fl s' → (W'.cell? ⟨w.heap.size, 1, none⟩ = some (.int .i64 n) ∧ W'.cell? ⟨p, 2 + n, none⟩ = some (.int .i64 (fl.getD n 0)))) := fun W' _ h => ⟨(H0.after h).2.1, h.field hn⟩
  have hS0 := HK.out _ _ H0.out0
  have hnb : (0 : Int) ≤ (n : Int) ∧ (n : Int) < 9 := by omega
  generalize fl.getD n 0 = x at *
  clear h H0 hw1
  go_enter Tryz.func193, Tryz.ntmps193
  go_wp2_with fail
  rw [HW.out]
  go_region_held3 (fun W => W.cell? ⟨w.heap.size, 1, none⟩ = some (.int .i64 n) ∧ W.cell? ⟨p, 2 + n, none⟩ = some (.int .i64 x)) (first | with_reducible exact HK.out _ _ (by assumption) | with_reducible assumption | go_keep)
    (first | (go_at_call 238; refine W1.mono ?_; rintro e w2 ⟨rfl, hout⟩))
  rename_i hHeld
  have HU : Hid _ := hout
  clear hHeld hout
  go_end0
  exact ⟨rfl, H.out.out _ _ HU.out⟩
set_option maxHeartbeats 4000000 in
theorem mget_any {w : World} {p : Nat} {vs vc : Value} {fl : List Int} {s : MS} (op n : Nat) (tj pl : Int) (h : MacAt w p vs vc fl s) (hl : s.st.length ≤ 4000) (hn : n < s.cl.length) (hc : s.cl.length ≤ 300) :
    Calls Tryz.prog 195 #[.pointer (some ⟨p, 0, none⟩), insV op n tj pl] w fun e w' => e = .returned (.tuple #[]) ∧ MOut w w' p vs vc fl { s with st := s.st ++ [s.cl.getD n 0] } := by
  obtain ⟨w1, hw1, H0⟩ : ∃ w1, w.alloc (.cells #[.int .i64 op, .int .i64 n, .int .i64 tj, .int .i64 pl] 247) = w1 ∧ MSt w w1 p vs vc fl s (insO op n tj pl) := ⟨_, rfl, MSt.of h _⟩
  unfold insV
  have H : Hid _ := H0
  have W1 := H0.out0.drew.push (s.cl.getD n 0) (by omega)
  have hm1 : MacAt w1 p vs vc fl s := by rw [← hw1]; exact h.only ((Only.refl (fun _ => False) w).alloc _) (fun _ _ h => h)
  obtain ⟨g, cap, rfl, hg⟩ := hm1.cl.form (by omega)
  have hcell := hm1.cl.cell hn
  have hpc : w1.cell? ⟨p, 1, none⟩ = some (.slice (some ⟨g, 0, none⟩) s.cl.length cap) := by rw [cell_of_row w1 p 1 _ _ _ hm1.blk]; rfl
  obtain ⟨c0, c1, c2, c3⟩ := H0.after H0.out0
  have HW : Hid _ := hw1
  have hnb : (0 : Int) ≤ (n : Int) ∧ (n : Int) < (s.cl.length : Int) := by omega
  have HK : Hid (∀ W', MOut w1 W' p vs (.slice (some ⟨g, 0, none⟩) s.cl.length cap) fl { s with st := s.st ++ [s.cl.getD n 0] } → (W'.cell? ⟨w.heap.size, 1, none⟩ = some (.int .i64 n) ∧ W'.cell? ⟨p, 1, none⟩ = some (.slice (some ⟨g, 0, none⟩) s.cl.length cap) ∧ W'.cell? ⟨g, n, none⟩ = some (.int .i64 (s.cl.getD n 0)))) := fun W' ho => by
    refine ⟨(H0.after ho).2.1, ?_⟩
    obtain ⟨vs', hm, _, _⟩ := ho
    exact ⟨by rw [cell_of_row W' p 1 _ _ _ hm.blk]; rfl, hm.cl.cell hn⟩
  have hS0 : w1.cell? ⟨w.heap.size, 1, none⟩ = some (.int .i64 n) ∧ w1.cell? ⟨p, 1, none⟩ = some (.slice (some ⟨g, 0, none⟩) s.cl.length cap) ∧ w1.cell? ⟨g, n, none⟩ = some (.int .i64 (s.cl.getD n 0)) := ⟨c1, hpc, hcell⟩
  generalize s.cl.getD n 0 = x at *
  clear h H0 hw1 hm1
  go_enter Tryz.func195, Tryz.ntmps195
  go_wp2_with fail
  rw [HW.out]
  go_region_held3 (fun W => W.cell? ⟨w.heap.size, 1, none⟩ = some (.int .i64 n) ∧ W.cell? ⟨p, 1, none⟩ = some (.slice (some ⟨g, 0, none⟩) s.cl.length cap) ∧ W.cell? ⟨g, n, none⟩ = some (.int .i64 x)) (first | with_reducible exact HK.out _ (by assumption) | with_reducible assumption | go_keep)
    (first | (go_at_call 238; refine W1.mono ?_; rintro e w2 ⟨rfl, hout⟩))
  rename_i hHeld
  have HU : Hid _ := hout
  clear hHeld hout
  go_end0
  exact ⟨rfl, H.out.out _ _ HU.out⟩
end Go.Proofs.YtfkdailfcmnjlaaGreatDoor

namespace Go.Proofs.YtfkdailfcmnjlaaGreatDoor
open Go Go.RowKit
set_option maxRecDepth 100000
attribute [local go_sem ↓] Go.wp_at_zero Go.wp_at_succ

set_option maxHeartbeats 4000000 in
theorem mput_any {w : World} {p : Nat} {vs vc : Value} {fl : List Int} {s : MS} (op n : Nat) (tj pl : Int) (h : MacAt w p vs vc fl s) (hl : s.st.length ≤ 4000) (hn : n < s.cl.length) (hc : s.cl.length ≤ 300) :
    Calls Tryz.prog 194 #[.pointer (some ⟨p, 0, none⟩), insV op n tj pl] w fun e w' => e = .returned (.tuple #[]) ∧ MOut w w' p vs vc fl { s with st := s.st.dropLast, cl := s.cl.set n (s.st.getLast?.getD 0) } := by
  obtain ⟨w1, hw1, H0⟩ : ∃ w1, w.alloc (.cells #[.int .i64 op, .int .i64 n, .int .i64 tj, .int .i64 pl] 247) = w1 ∧ MSt w w1 p vs vc fl s (insO op n tj pl) := ⟨_, rfl, MSt.of h _⟩
  unfold insV
  have H : Hid _ := H0
  have W1 := H0.out0.drew.pop (by omega)
  have hm1 : MacAt w1 p vs vc fl s := by rw [← hw1]; exact h.only ((Only.refl (fun _ => False) w).alloc _) (fun _ _ h => h)
  obtain ⟨g, cap, rfl, hg⟩ := hm1.cl.form (by omega)
  have hpc : w1.cell? ⟨p, 1, none⟩ = some (.slice (some ⟨g, 0, none⟩) s.cl.length cap) := by rw [cell_of_row w1 p 1 _ _ _ hm1.blk]; rfl
  obtain ⟨c0, c1, c2, c3⟩ := H0.after H0.out0
  have hgp : g ≠ p := fun e => hm1.cl.ne hm1.blk mty_ne (by rw [e]; rfl)
  have hgw : g ≠ w.heap.size := fun e => by have := H0.far g (.inr (.inr rfl)); omega
  have HW : Hid _ := hw1
  have hnb : (0 : Int) ≤ (n : Int) ∧ (n : Int) < (s.cl.length : Int) := by omega
  generalize hx : s.st.getLast?.getD 0 = x at *
  have HK : Hid (∀ W', MOut w1 W' p vs (.slice (some ⟨g, 0, none⟩) s.cl.length cap) fl { s with st := s.st.dropLast } → ((W'.cell? ⟨w.heap.size, 1, none⟩ = some (.int .i64 n) ∧ W'.cell? ⟨p, 1, none⟩ = some (.slice (some ⟨g, 0, none⟩) s.cl.length cap)) ∧ W'.cell? ⟨g, n, none⟩ = some (.int .i64 (s.cl.getD n 0)) ∧ W'.frozen? ⟨g, n, none⟩ = false ∧ MOut w1 (W'.setCell ⟨g, n, none⟩ (.int .i64 x)) p vs (.slice (some ⟨g, 0, none⟩) s.cl.length cap) fl { s with st := s.st.dropLast, cl := s.cl.set n x })) := fun W' ho => by
    have ha := (H0.after ho).2.1
    obtain ⟨vs', hm, ho2, hf⟩ := ho
    refine ⟨⟨ha, by rw [cell_of_row W' p 1 _ _ _ hm.blk]; rfl⟩, hm.cl.cell hn, hm.cl.frz n, MOut.then ho2 hf ?_⟩
    have hos : Only (fun b => b = g) W' (W'.setCell ⟨g, n, none⟩ (.int .i64 x)) := (Only.refl (fun b => b = g) W').setCell (.inl rfl) _
    refine ⟨vs', ⟨(hos.block p (lt_of_get hm.blk) (fun e => hgp e.symm)).trans hm.blk, hm.st.only hos (fun b hb e => hm.ne b hb (by rw [e]; rfl)), hm.cl.set hn x, hm.ne⟩, hos.weak (fun i _ hi => .inr (.inr (by rw [hi]; rfl))), fun b hb => .inl hb⟩
  have KS : Hid (∀ (W : World) (v : Value), (W.cell? ⟨w.heap.size, 1, none⟩ = some (.int .i64 n) ∧ W.cell? ⟨p, 1, none⟩ = some (.slice (some ⟨g, 0, none⟩) s.cl.length cap)) → ((W.setCell ⟨g, n, none⟩ v).cell? ⟨w.heap.size, 1, none⟩ = some (.int .i64 n) ∧ (W.setCell ⟨g, n, none⟩ v).cell? ⟨p, 1, none⟩ = some (.slice (some ⟨g, 0, none⟩) s.cl.length cap))) := fun W v hS => ⟨by rw [World.cell?_setCell_far _ _ _ _ (by simpa using hgw)]; exact hS.1, by rw [World.cell?_setCell_far _ _ _ _ (by simpa using hgp)]; exact hS.2⟩
  have hS0 : w1.cell? ⟨w.heap.size, 1, none⟩ = some (.int .i64 n) ∧ w1.cell? ⟨p, 1, none⟩ = some (.slice (some ⟨g, 0, none⟩) s.cl.length cap) := ⟨c1, hpc⟩
  clear h H0 hw1 hm1 hx
  go_enter Tryz.func194, Tryz.ntmps194
  go_wp2_with fail
  rw [HW.out]
  go_region_held3 (fun W => W.cell? ⟨w.heap.size, 1, none⟩ = some (.int .i64 n) ∧ W.cell? ⟨p, 1, none⟩ = some (.slice (some ⟨g, 0, none⟩) s.cl.length cap)) (first | with_reducible exact KS.out _ _ (by assumption) | with_reducible exact And.left (HK.out _ (by assumption)) | with_reducible assumption | go_keep)
    (first | (go_at_call 239; refine W1.mono ?_; rintro e w2 ⟨rfl, hout⟩; obtain ⟨hk0, hk1, hk2, hk3⟩ := HK.out _ hout; have HU : Hid _ := hk3; clear hk3))
  rename_i hHeld
  clear hHeld hout hk0 hk1 hk2
  go_end0
  exact ⟨rfl, H.out.out _ _ HU.out⟩
set_option maxHeartbeats 4000000 in
theorem twoAdd_any {w : World} {p : Nat} {vs vc : Value} {fl : List Int} {s : MS} {l r x : Int} (h : MOut w w p vs vc fl s) (hl : s.st.length ≤ 4000) (hr : s.st.getLast?.getD 0 = r) (hl2 : s.st.dropLast.getLast?.getD 0 = l) (hf : ∀ w, Calls Tryz.prog 164 #[.int .i64 l, .int .i64 r] w fun e w' => e = .returned (.int .i64 x) ∧ w' = w) :
    Calls Tryz.prog 240 #[.pointer (some ⟨p, 0, none⟩), fnV 164] w fun e w' => e = .returned (.tuple #[]) ∧ MOut w w' p vs vc fl { s with st := s.st.dropLast.dropLast ++ [x] } := by
  unfold fnV
  have W1 := h.drew.pop (by omega)
  rw [hr] at W1
  have W2 : ∀ W, MOut w W p vs vc fl { s with st := s.st.dropLast } → Calls Tryz.prog 239 #[.pointer (some ⟨p, 0, none⟩)] W fun e w' => e = .returned (.int .i64 l) ∧ MOut w w' p vs vc fl { s with st := s.st.dropLast.dropLast } := fun W h => by
    have := h.pop (by simp; omega)
    simp only [hl2] at this; exact this
  have W3 : ∀ W, MOut w W p vs vc fl { s with st := s.st.dropLast.dropLast } → Calls Tryz.prog 238 #[.pointer (some ⟨p, 0, none⟩), .int .i64 x] W fun e w' => e = .returned (.tuple #[]) ∧ MOut w w' p vs vc fl { s with st := s.st.dropLast.dropLast ++ [x] } := fun W h => h.push x (by simp; omega)
  clear h hr hl2
  go_enter Tryz.func240, Tryz.ntmps240
  go_wp2_with fail
  go_region_held3 (fun w' => True) (exact trivial)
    (first
      | (go_at_call 239; refine (W2 _ (by assumption)).mono ?_; rintro e w3 ⟨rfl, hout3⟩)
      | (go_at_call 239; refine W1.mono ?_; rintro e w2 ⟨rfl, hout2⟩))
  have HU : Hid _ := hout3
  clear hout2 hout3
  go_wp2_with fail
  first
    | (refine (hf _).mono ?_; rintro e w4 ⟨rfl, rfl⟩; go_wp2_with fail; refine (W3 _ HU.out).mono ?_; rintro e w5 ⟨rfl, hout⟩; have HV : Hid _ := hout; clear hout)
    | (go_region_held3 (fun w' => True) (exact trivial)
        (first
          | (go_at_call 164; refine (hf _).mono ?_; rintro e w4 ⟨rfl, rfl⟩)
          | (go_at_call 238; refine (W3 _ (MOut.drew HU.out)).mono ?_; rintro e w5 ⟨rfl, hout⟩; have HV : Hid _ := hout; clear hout)))
  go_wp2
  go_end0
  exact ⟨rfl, HV.out⟩
set_option maxHeartbeats 4000000 in
theorem mAdd_any {w : World} {p : Nat} {vs vc : Value} {fl : List Int} {s : MS} {l r x : Int} (op : Nat) (n tj pl : Int) (h : MacAt w p vs vc fl s) (hl : s.st.length ≤ 4000) (hr : s.st.getLast?.getD 0 = r) (hl2 : s.st.dropLast.getLast?.getD 0 = l) (hf : ∀ w, Calls Tryz.prog 164 #[.int .i64 l, .int .i64 r] w fun e w' => e = .returned (.int .i64 x) ∧ w' = w) :
    Calls Tryz.prog 196 #[.pointer (some ⟨p, 0, none⟩), insV op n tj pl] w fun e w' => e = .returned (.tuple #[]) ∧ MOut w w' p vs vc fl { s with st := s.st.dropLast.dropLast ++ [x] } := by
  obtain ⟨w1, hw1, H0⟩ : ∃ w1, w.alloc (.cells #[.int .i64 op, .int .i64 n, .int .i64 tj, .int .i64 pl] 247) = w1 ∧ MSt w w1 p vs vc fl s (insO op n tj pl) := ⟨_, rfl, MSt.of h _⟩
  unfold insV
  have H : Hid _ := H0
  have W1 := twoAdd_any H0.out0 hl hr hl2 hf
  unfold fnV at W1
  have HW : Hid _ := hw1
  clear h H0 hw1 hf
  go_enter Tryz.func196, Tryz.ntmps196
  go_wp2_with fail
  rw [HW.out]
  refine W1.mono ?_
  rintro e w2 ⟨rfl, hout⟩
  have HU : Hid _ := hout
  clear hout W1
  go_wp2
  go_end0
  exact ⟨rfl, H.out.out _ _ HU.out⟩
end Go.Proofs.YtfkdailfcmnjlaaGreatDoor
