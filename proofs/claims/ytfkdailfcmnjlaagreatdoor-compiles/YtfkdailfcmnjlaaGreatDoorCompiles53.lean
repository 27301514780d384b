/-
  The document's Load. The document's Load, whole; its reading of a number.
-/
import Derived.Test.YtfkdailfcmnjlaaGreatDoorCompiles01
import Derived.Test.YtfkdailfcmnjlaaGreatDoorCompiles02
import Derived.Test.YtfkdailfcmnjlaaGreatDoorCompiles04
import Derived.Test.YtfkdailfcmnjlaaGreatDoorCompiles05
import Derived.Test.YtfkdailfcmnjlaaGreatDoorCompiles06
import Derived.Test.YtfkdailfcmnjlaaGreatDoorCompiles07
import Derived.Test.YtfkdailfcmnjlaaGreatDoorCompiles08
import Derived.Test.YtfkdailfcmnjlaaGreatDoorCompiles09
import Derived.Test.YtfkdailfcmnjlaaGreatDoorCompiles10
import Derived.Test.YtfkdailfcmnjlaaGreatDoorCompiles11
import Derived.Test.YtfkdailfcmnjlaaGreatDoorCompiles12
import Derived.Test.YtfkdailfcmnjlaaGreatDoorCompiles13
import Derived.Test.YtfkdailfcmnjlaaGreatDoorCompiles14
import Derived.Test.YtfkdailfcmnjlaaGreatDoorCompiles15
import Derived.Test.YtfkdailfcmnjlaaGreatDoorCompiles16
import Derived.Test.YtfkdailfcmnjlaaGreatDoorCompiles17
import Derived.Test.YtfkdailfcmnjlaaGreatDoorCompiles18
import Derived.Test.YtfkdailfcmnjlaaGreatDoorCompiles19
import Derived.Test.YtfkdailfcmnjlaaGreatDoorCompiles20
import Derived.Test.YtfkdailfcmnjlaaGreatDoorCompiles21
import Derived.Test.YtfkdailfcmnjlaaGreatDoorCompiles22
import Derived.Test.YtfkdailfcmnjlaaGreatDoorCompiles23
import Derived.Test.YtfkdailfcmnjlaaGreatDoorCompiles24
import Derived.Test.YtfkdailfcmnjlaaGreatDoorCompiles27
import Derived.Test.YtfkdailfcmnjlaaGreatDoorCompiles28
import Derived.Test.YtfkdailfcmnjlaaGreatDoorCompiles29
import Derived.Test.YtfkdailfcmnjlaaGreatDoorCompiles30
import Derived.Test.YtfkdailfcmnjlaaGreatDoorCompiles31
import Derived.Test.YtfkdailfcmnjlaaGreatDoorCompiles32
import Derived.Test.YtfkdailfcmnjlaaGreatDoorCompiles34
import Derived.Test.YtfkdailfcmnjlaaGreatDoorCompiles35
import Derived.Test.YtfkdailfcmnjlaaGreatDoorCompiles36
import Derived.Test.YtfkdailfcmnjlaaGreatDoorCompiles37
import Derived.Test.YtfkdailfcmnjlaaGreatDoorCompiles38
import Derived.Test.YtfkdailfcmnjlaaGreatDoorCompiles39
import Derived.Test.YtfkdailfcmnjlaaGreatDoorCompiles43
import Derived.Test.YtfkdailfcmnjlaaGreatDoorCompiles44
import Derived.Test.YtfkdailfcmnjlaaGreatDoorLays
import Derived.Test.YtfkdailfcmnjlaaGreatDoorLays2
import Derived.Lib.SliceRun
import Derived.WalkKit
import Derived.Deep.QuietTactic
import Derived.BigQuiet
import Derived.WalkSpells
import GoSem.Op.String
import Derived.Deep.AppendLies
import Derived.Deep.RegionHeld3
import Derived.Deep.DrawnRows
import Derived.Deep.RegionHeldLaw
import Derived.Deep.RegionLaw
import Derived.Lib.ParseIntBCases
import Derived.Deep.OwnRows
import Derived.Lib.LaidTab
import Derived.Lib.AppendIntMem
import Derived.Shelf.Strings.Builder1
import Derived.Laws.CopyOwn
import Derived.Deep.DeepCutAuto
import Derived.WalkSmall
import Derived.Lib.AppendZerosOnto
set_option linter.unusedVariables false
set_option linter.unusedSimpArgs false
namespace Go.Proofs.YtfkdailfcmnjlaaGreatDoor
open Go Go.RowKit
set_option maxRecDepth 100000
attribute [local go_sem ↓] Go.wp_at_zero Go.wp_at_succ

def RLoadAns (b : List UInt8) (lo : Nat) (r : Option (List Ins)) (e : Ending) (w' : World) : Prop := match r with
  | none => e = .returned (.tuple #[.pointer none, .int .i64 7])
  | some _ => ∃ p, lo ≤ p ∧ e = .returned (.tuple #[.pointer (some ⟨p, 0, none⟩), .int .i64 0]) ∧ w'.heap[p]? = some (.cells #[S b] 130 (0, 0))
set_option maxHeartbeats 2000000 in
theorem rload_bad {b : List UInt8} (h : b.length < 4 ∨ 4000 < b.length ∨ byteAt b 0 ≠ 71 ∨ 24 < byteAt b 1) (w : World) :
    Calls Tryz.prog 25 #[S b] w fun e w' => e = .returned (.tuple #[.pointer none, .int .i64 7]) ∧ Below w.heap.size w w' := by
  have HB : Hid (Below w.heap.size w w) := Below.refl _ _
  by_cases h1 : b.length < 4
  · have n1 : (b.length : Int) < 4 := by omega
    clear h
    go_enter Tryz.func25, Tryz.ntmps25
    go_wp2
    go_ret2
    exact ⟨rfl, HB.out⟩
  by_cases h2 : 4000 < b.length
  · have n1 : decide ((b.length : Int) < 4) = false := by simp; omega
    have n2 : (4000 : Int) < (b.length : Int) := by omega
    clear h
    go_enter Tryz.func25, Tryz.ntmps25
    go_wp2
    go_ret2
    exact ⟨rfl, HB.out⟩
  have n1 : decide ((b.length : Int) < 4) = false := by simp; omega
  have n2 : decide ((4000 : Int) < (b.length : Int)) = false := by simp; omega
  have a0 : 0 < (ByteArray.mk b.toArray).size := by show 0 < b.length; omega
  have a1 : 1 < (ByteArray.mk b.toArray).size := by show 1 < b.length; omega
  have e0 : ((ByteArray.mk b.toArray)[0]).toNat = byteAt b 0 := ba_at b 0 a0
  have e1 : ((ByteArray.mk b.toArray)[1]).toNat = byteAt b 1 := ba_at b 1 a1
  have q1 : 1 < b.length := by omega
  have q0 : 0 < b.length := by omega
  by_cases h3 : byteAt b 0 = 71
  · have h4 : 24 < byteAt b 1 := by omega
    rw [h3] at e0
    have n4 : (24 : Int) < (byteAt b 1 : Int) := by omega
    clear h h3
    generalize byteAt b 1 = u at *
    go_enter Tryz.func25, Tryz.ntmps25
    go_wp2
    go_ret2
    exact ⟨rfl, HB.out⟩
  · have n3 : ((byteAt b 0 : Int) != 71) = true := by simp; omega
    clear h
    generalize byteAt b 0 = u at *
    go_enter Tryz.func25, Tryz.ntmps25
    go_wp2
    go_ret2
    exact ⟨rfl, HB.out⟩
/-- Between the places. -/
def LdX (b : List UInt8) (ins : List Ins) (w wr : World) (sg lg at_ : Nat) (R : Bool) : Prop := ∃ i kl come, LdI b ins w wr sg lg at_ R i kl come
theorem dash_more (n : Nat) : BA (List.replicate n 45) ++ BA [45] = BA (List.replicate (n + 1) 45) := by
  rw [app_ba, ← List.replicate_succ']
set_option maxHeartbeats 4000000 in
theorem rload_none {b : List UInt8} (h4 : 4 ≤ b.length) (h5 : b.length ≤ 4000) (h6 : byteAt b 0 = 71) (h7 : byteAt b 1 ≤ 24) (hd : dec (b.length + 1) b 3 = none) (w : World) :
    Calls Tryz.prog 25 #[S b] w fun e w' => e = .returned (.tuple #[.pointer none, .int .i64 7]) ∧ Below w.heap.size w w' := by
  have W1 := begins_any h4 h5 w
  rw [hd] at W1
  have n1 : decide ((b.length : Int) < 4) = false := by simp; omega
  have n2 : decide ((4000 : Int) < (b.length : Int)) = false := by simp; omega
  have a0 : 0 < (ByteArray.mk b.toArray).size := by show 0 < b.length; omega
  have a1 : 1 < (ByteArray.mk b.toArray).size := by show 1 < b.length; omega
  have e0 : ((ByteArray.mk b.toArray)[0]).toNat = byteAt b 0 := ba_at b 0 a0
  have e1 : ((ByteArray.mk b.toArray)[1]).toNat = byteAt b 1 := ba_at b 1 a1
  have q1 : 1 < b.length := by omega
  have q0 : 0 < b.length := by omega
  rw [h6] at e0
  have n4 : decide ((24 : Int) < (byteAt b 1 : Int)) = false := by simp; omega
  clear h6 h7 hd
  have heq := fun w a n c => Lib.run_eql_slice_nil (P := Tryz.prog) w 120 4 a n c 0 0 Tryz.underlying120
  generalize byteAt b 1 = u at *
  go_enter Tryz.func25, Tryz.ntmps25
  go_wp2_with (
    go_at_call 45
    refine W1.mono ?_
    rintro e w1 ⟨hans, hbel⟩
    have hans : e = .returned (.slice none 0 0) := hans
    subst hans
    have HB : Hid _ := hbel
    clear hbel W1)
  go_ret2
  exact ⟨rfl, HB.out⟩
def okM (o : Option Kn) (k : Kn) : Bool := match o with
  | none => true
  | some a => decide (a.st = k.st)
def k2M (o : Option Kn) (k : Kn) : Kn := match o with
  | none => k
  | some a => ⟨a.st, meetC a.cl k.cl⟩
theorem meets_both (o : Option Kn) (k : Kn) (h3 : Tys1 k.st) (h4 : Tys k.cl) (ho : ∀ a, o = some a → Tys1 a.st ∧ Tys a.cl ∧ a.cl.length = k.cl.length ∧ a.cl.length ≤ 255) (w : World) : Calls Tryz.prog 48 #[.agg #[kv0 o, kv1 o, kv2 o], .agg #[.bool true, S (stS k.st), S (clS k.cl)]] w fun e w' => e = .returned (.tuple #[.agg #[.bool true, S (stS (k2M o k).st), S (clS (k2M o k).cl)], .bool (okM o k)]) ∧ Below w.heap.size w w' := by
  cases o with
  | none => exact meets_new [] [] k w
  | some a =>
    obtain ⟨h1, h2, hl, hc⟩ := ho a rfl
    exact meets_old h1 h2 h3 h4 hl hc w
/-- Between the places tw which an instruction leads. -/
structure InJ (b : List UInt8) (ins : List Ins) (w wi : World) (sg lg kb : Nat) (k' : Kn) (come0' : List (Option Kn)) (ts : List (Option Nat)) (v : Value) (L : List Int) (m : Nat) (kl come : List (Option Kn)) : Prop where
  pc : PlC b ins kl come
  ty : ComeTy (byteAt b 2) come
  kn : KnAt wi lg kl
  st : wi.heap[sg]? = some (.cells (begO b.length ins) 4 (0, 0))
  kk : wi.heap[kb]? = some (.cells #[.bool true, S (stS k'.st), S (clS k'.cl)] 124 (0, 0))
  ne : kb ≠ lg
  row : IR wi 3 v L
  bel : Below w.heap.size w wi
  lo : w.heap.size ≤ lg
  bri : bringK come0' k' ts = bringK come k' (ts.drop m)
theorem InJ.below {b : List UInt8} {ins : List Ins} {w wi w2 : World} {sg lg kb : Nat} {k' : Kn} {come0' : List (Option Kn)} {ts : List (Option Nat)} {v : Value} {L : List Int} {m : Nat} {kl come : List (Option Kn)} (h : InJ b ins w wi sg lg kb k' come0' ts v L m kl come) (hb : Below wi.heap.size wi w2) : InJ b ins w w2 sg lg kb k' come0' ts v L m kl come :=
  ⟨h.pc, h.ty, h.kn.of_block (hb.block _ h.kn.lt), (hb.block _ (lt_of_get h.st)).trans h.st, (hb.block _ (lt_of_get h.kk)).trans h.kk, h.ne, h.row.only (Only.of_below (F := fun _ => False) hb) (fun _ _ h => h), h.bel.trans (hb.mono h.bel.size), h.lo, h.bri⟩
theorem InJ.put {b : List UInt8} {ins : List Ins} {w wi : World} {sg lg kb : Nat} {k' : Kn} {come0' come' : List (Option Kn)} {ts : List (Option Nat)} {v : Value} {L : List Int} {m p : Nat} {kl come : List (Option Kn)} (h : InJ b ins w wi sg lg kb k' come0' ts v L m kl come) (hp : p < b.length) {k2 : Kn} (hpc : PlC b ins (kl.set p (some k2)) come') (hty : ComeTy (byteAt b 2) come') (hbr : bringK come k' (ts.drop m) = bringK come' k' (ts.drop (m + 1))) :
    InJ b ins w (((wi.setCell ⟨lg, p * 3, none⟩ (.bool true)).setCell ⟨lg, p * 3 + 1, none⟩ (S (stS k2.st))).setCell ⟨lg, p * 3 + 2, none⟩ (S (clS k2.cl))) sg lg kb k' come0' ts v L (m + 1) (kl.set p (some k2)) come' := by
  obtain ⟨cs, hcs, _⟩ := h.kn.blk
  have hsg : sg ≠ lg := fun e => by
    have h1 := h.st
    rw [e, hcs] at h1; simp at h1
  have hfar : ∀ q, q ≠ lg → (((wi.setCell ⟨lg, p * 3, none⟩ (.bool true)).setCell ⟨lg, p * 3 + 1, none⟩ (S (stS k2.st))).setCell ⟨lg, p * 3 + 2, none⟩ (S (clS k2.cl))).heap[q]? = wi.heap[q]? := fun q hq => by
    rw [Below.heap_setCell _ _ _ _ (by simpa using hq), Below.heap_setCell _ _ _ _ (by simpa using hq), Below.heap_setCell _ _ _ _ (by simpa using hq)]
  refine ⟨hpc, hty, h.kn.set (by rw [h.pc.plen]; exact hp) (some k2), (hfar sg hsg).trans h.st, (hfar kb h.ne).trans h.kk, h.ne, ?_, ((h.bel.setCell (by simpa using h.lo) _).setCell (by simpa using h.lo) _).setCell (by simpa using h.lo) _, h.lo, h.bri.trans hbr⟩
  refine ownsRow_of_block h.row (fun q hq => hfar q (fun e => ?_))
  subst e
  exact h.row.ne hcs (by decide) hq
set_option maxHeartbeats 8000000 in
theorem rload_some {b : List UInt8} {ins : List Ins} (h4 : 4 ≤ b.length) (h5 : b.length ≤ 4000) (h6 : byteAt b 0 = 71) (h7 : byteAt b 1 ≤ 24) (hd : dec (b.length + 1) b 3 = some ins) (h0 : 0 < ins.length) (w : World) :
    Calls Tryz.prog 25 #[S b] w fun e w' => RLoadAns b w.heap.size (if flowK ins (byteAt b 1) ins 0 (come0 (byteAt b 2) ins.length) then some ins else none) e w' ∧ Below w.heap.size w w' := by
  have W1 := begins_any h4 h5 w
  rw [hd] at W1
  have n1 : decide ((b.length : Int) < 4) = false := by simp; omega
  have n2 : decide ((4000 : Int) < (b.length : Int)) = false := by simp; omega
  have a0 : 0 < (ByteArray.mk b.toArray).size := by show 0 < b.length; omega
  have a1 : 1 < (ByteArray.mk b.toArray).size := by show 1 < b.length; omega
  have a2 : 2 < (ByteArray.mk b.toArray).size := by show 2 < b.length; omega
  have e0 : ((ByteArray.mk b.toArray)[0]).toNat = byteAt b 0 := ba_at b 0 a0
  have e1 : ((ByteArray.mk b.toArray)[1]).toNat = byteAt b 1 := ba_at b 1 a1
  have e2 : ((ByteArray.mk b.toArray)[2]).toNat = byteAt b 2 := ba_at b 2 a2
  have q1 : 1 < b.length := by omega
  have q0 : 0 < b.length := by omega
  have q2 : 2 < b.length := by omega
  rw [h6] at e0
  have n4 : decide ((24 : Int) < (byteAt b 1 : Int)) = false := by simp; omega
  have hok := dec_ok _ hd (by omega)
  have HC : Hid (CodeOK b ins) := ⟨hok.1, hok.2⟩
  have HF0 : Hid _ := FlI.first (byteAt b 1) (byteAt b 2) HC.out h0
  have hmk := run_make_wide (P := Tryz.prog) 122 124 (.agg #[.bool false, .string ⟨#[]⟩, .string ⟨#[]⟩]) 3 40 Tryz.underlying122 info_Known .i64 .i64 b.length (by omega) (by omega)
  generalize hR : flowK ins (byteAt b 1) ins 0 (come0 (byteAt b 2) ins.length) = R at *
  have hu2 := byte_lt b 2
  have HU : Hid (byteAt b 1 ≤ 24) := h7
  clear h6 h7 hd hok hR
  have heq := fun w a n c => Lib.run_eql_slice_nil (P := Tryz.prog) w 120 4 a n c 0 0 Tryz.underlying120
  generalize hc1 : byteAt b 1 = u at *
  generalize hc2 : byteAt b 2 = c at *
  have HE : Hid (byteAt b 1 = u ∧ byteAt b 2 = c) := ⟨hc1, hc2⟩
  clear hc1 hc2
  generalize hRR : (if R = true then some ins else none) = RR
  have HRR : Hid _ := hRR
  clear hRR
  go_enter Tryz.func25, Tryz.ntmps25
  go_wp2_with (
    go_at_call 45
    refine W1.mono ?_
    rintro e w1 ⟨hans, hbel⟩
    obtain ⟨sg, hsg, rfl, hst⟩ := hans
    have HB : Hid _ := hbel
    have HS : Hid _ := And.intro hsg hst
    clear hbel W1 hsg hst)
  go_loop [5, 6] (fun sv iv => ∃ i : Nat, i ≤ c ∧ iv = .int .i64 i ∧ sv = .string (BA (List.replicate i 45))) (fun _ iv => c - (intOf iv).toNat)
  case atStart => exact ⟨0, Nat.zero_le _, rfl, rfl⟩
  case round =>
    obtain ⟨i, hi, rfl, rfl⟩ := hrel
    by_cases hlt : i < c
    · have HD : Hid _ := dash_more i
      have hl45 : (List.replicate i (45 : UInt8)).length = i := List.length_replicate
      go_wp2
      exact ⟨⟨i + 1, by omega, by go_num, by rw [← HD.out]⟩, by simp [intOf]; omega⟩
    · obtain rfl : i = c := by omega
      obtain ⟨w2, hw2⟩ : ∃ w2, w1.alloc (.cells (madeCells (Value.agg #[.bool false, .string ⟨#[]⟩, .string ⟨#[]⟩]).cells (b.length * 3)) 124) = w2 := ⟨_, rfl⟩
      have hk2 : w2.heap[w1.heap.size]? = some (.cells (madeCells #[.bool false, .string ⟨#[]⟩, .string ⟨#[]⟩] (b.length * 3)) 124 (0, 0)) := by rw [← hw2]; exact heap_alloc_new w1 _
      have hka := made_known hk2
      have hb2 : Below w1.heap.size w1 w2 := by rw [← hw2]; exact (Below.refl _ _).alloc (Nat.le_refl _) _
      have hrl : (List.replicate b.length (none : Option Kn)).length = b.length := List.length_replicate
      have hg3 : (List.replicate b.length (none : Option Kn)).getD 3 none = none := by rw [List.getD_eq_getElem?_getD, List.getElem?_replicate]; split <;> rfl
      have k0 := hka.c0 3 (by omega)
      have k1 := hka.c1 3 (by omega)
      have k2 := hka.c2 3 (by omega)
      rw [hg3] at k0 k1 k2
      have c9 : w2.cell? ⟨w1.heap.size, 9, none⟩ = some (.bool false) := k0
      have c10 : w2.cell? ⟨w1.heap.size, 10, none⟩ = some (S []) := k1
      have c11 : w2.cell? ⟨w1.heap.size, 11, none⟩ = some (S []) := k2
      have f9 := hka.frz 9
      have f10 := hka.frz 10
      have f11 := hka.frz 11
      have d10 : ∀ v, (w2.setCell ⟨w1.heap.size, 9, none⟩ v).cell? ⟨w1.heap.size, 10, none⟩ = some (S []) := fun v => by rw [cell_set_off _ _ _ _ _ (by decide)]; exact c10
      have d11 : ∀ v v', ((w2.setCell ⟨w1.heap.size, 9, none⟩ v).setCell ⟨w1.heap.size, 10, none⟩ v').cell? ⟨w1.heap.size, 11, none⟩ = some (S []) := fun v v' => by rw [cell_set_off _ _ _ _ _ (by decide), cell_set_off _ _ _ _ _ (by decide)]; exact c11
      have hmk1 := hmk w1
      rw [hw2] at hmk1
      clear hmk
      clear k0 k1 k2
      have hset := hka.set (j := 3) (by omega) (some ⟨[], List.replicate i 0⟩)
      have HI0 : Hid (LdX b ins w (((w2.setCell ⟨w1.heap.size, 9, none⟩ (.bool true)).setCell ⟨w1.heap.size, 10, none⟩ (.string ⟨#[]⟩)).setCell ⟨w1.heap.size, 11, none⟩ (.string (BA (List.replicate i 45)))) sg w1.heap.size 3 R) := by
        refine ⟨0, (List.replicate b.length none).set 3 (some ⟨[], List.replicate i 0⟩), come0 i ins.length, ⟨?_, ?_, ?_, ?_, ?_, HS.out.1, HB.out.size⟩⟩
        · rw [HE.out.1]; exact HF0.out
        · rw [HE.out.2]; exact come0_ty _ _
        · have e : S (clS (List.replicate i 0)) = .string (BA (List.replicate i 45)) := by simp [clS, List.map_replicate, tyC]
          rw [← e]
          exact hset
        · have hlt := lt_of_get HS.out.2
          rw [Below.heap_setCell _ _ _ _ (by simp; omega), Below.heap_setCell _ _ _ _ (by simp; omega), Below.heap_setCell _ _ _ _ (by simp; omega)]
          exact (hb2.block _ hlt).trans HS.out.2
        · have hsz := HB.out.size
          exact (((HB.out.trans (hb2.mono hsz)).setCell (by simpa using hsz) _).setCell (by simpa using hsz) _).setCell (by simpa using hsz) _
      clear hset hka hk2 hw2 hb2
      go_wp2_with fail
      clear hmk1 c9 c10 c11 f9 f10 f11 d10 d11
      generalize hlg : w1.heap.size = lg at *
      clear hlg
      generalize (((w2.setCell ⟨lg, 9, none⟩ (.bool true)).setCell ⟨lg, 10, none⟩ (.string ⟨#[]⟩)).setCell ⟨lg, 11, none⟩ (.string (BA (List.replicate i 45)))) = W3 at *
      go_loopw [8] (fun av wr => ∃ a : Nat, a ≤ b.length ∧ av = .int .i64 a ∧ Hid (LdX b ins w wr sg lg a R)) (fun av _ => b.length - (intOf av).toNat)
      case atStart => exact ⟨3, by omega, rfl, HI0.out⟩
      case round =>
        obtain ⟨a, hal, rfl, HI⟩ := hrel
        obtain ⟨ix, kl, come, hI⟩ := HI.out
        by_cases hat : a < b.length
        · have q0 : (0 : Int) ≤ (a : Int) ∧ (a : Int) < (b.length : Int) := by omega
          have hsc : wr.cell? ⟨sg, a, none⟩ = some (.bool (beg ins a)) := by rw [cell_of_row wr _ a _ _ _ hI.st, begO_at ins hat]
          have hkl : a < kl.length := by rw [hI.fl.pc.plen]; exact hat
          have hk0 := hI.kn.c0 a hkl
          have hk1 := hI.kn.c1 a hkl
          have hk2 := hI.kn.c2 a hkl
          cases hbg : beg ins a with
          | false =>
            rw [hbg] at hsc
            have HN : Hid (LdX b ins w wr sg lg (a + 1) R) := ⟨ix, kl, come, hI.fl.skip hbg, hI.ty, hI.kn, hI.st, hI.bel, hI.lo⟩
            clear hI HI HI0
            go_wp2
            exact ⟨⟨a + 1, by omega, by go_num, HN.out⟩, by simp [intOf]; omega⟩
          | true =>
            rw [hbg] at hsc
            obtain ⟨hix, hxa, hsame, hdrop⟩ := hI.fl.here HC.out hbg
            have hres := hI.fl.res
            rw [hdrop] at hres
            cases hk : kl.getD a none with
            | none =>
              rw [hk] at hk0
              replace hk0 : wr.cell? ⟨lg, a * 3, none⟩ = some (.bool false) := hk0
              have HN : Hid (LdX b ins w wr sg lg (a + 1) R) := ⟨ix + 1, kl, come, ⟨hI.fl.next HC.out hbg hI.fl.pc (by rw [hres, flowK, ← hsame, hk]), hI.ty, hI.kn, hI.st, hI.bel, hI.lo⟩⟩
              clear hI HI HI0 hk1 hk2
              go_wp2
              exact ⟨⟨a + 1, by omega, by go_num, HN.out⟩, by simp [intOf]; omega⟩
            | some k =>
              rw [hk] at hk0 hk1 hk2
              replace hk0 : wr.cell? ⟨lg, a * 3, none⟩ = some (.bool true) := hk0
              replace hk1 : wr.cell? ⟨lg, a * 3 + 1, none⟩ = some (S (stS k.st)) := hk1
              replace hk2 : wr.cell? ⟨lg, a * 3 + 2, none⟩ = some (S (clS k.cl)) := hk2
              have hck : come.getD ix none = some k := by rw [← hsame]; exact hk
              obtain ⟨t1, t2, t3, t4⟩ := hI.ty ix k hck
              have hxo := HC.out.each _ (getD_ins hix)
              have W2 := fun w => does_anyj (k := k) hxo h5 (by omega) t3 t1 t2 w
              have W3 := fun w => leads_any hxo h5 w
              rw [hxa] at W2 W3
              unfold knV at W2
              clear HI0 HI
              generalize hx : ins.getD ix noIns = x at *
              rw [flowK, hck] at hres
              simp only [] at hres
              cases hdo : doesK x.op x.n.toNat k with
              | none =>
                rw [hdo] at W2 hres
                have HRf : Hid (R = false) := hres
                have HBl : Hid _ := hI.bel
                clear hI hres hdo W3
                go_wp2_with (
                  go_at_call 46
                  refine (W2 _).mono ?_
                  rintro e w3 ⟨hans, hb3⟩
                  obtain ⟨s1, s2, rfl⟩ := hans
                  have HB3 : Hid _ := hb3
                  clear hb3 W2)
                go_quiet (fail)
                go_wp2
                refine bodyPost_ret (v := .tuple #[.pointer none, .int .i64 7]) (by simp [results, Tryz.results25, go_sem]) rfl ?_
                have hsz := HBl.out.size
                have hb3 := HBl.out.trans (HB3.out.mono hsz)
                refine ⟨?_, below_drewN (hb3.alloc hb3.size _) _⟩
                rw [← HRR.out, HRf.out]; rfl
              | some k' =>
                rw [hdo] at W2 hres
                simp only [] at hres
                obtain ⟨y1, y2, y3⟩ := does_tys (num_ok hxo).op t1 t2 hdo
                have hkl' := stS_len k'.st
                have hu1 := byte_lt b 1
                by_cases hdep : byteAt b 1 < k'.st.length
                · rw [if_pos hdep] at hres
                  have HRf : Hid (R = false) := hres
                  have HBl : Hid _ := hI.bel
                  have n5 : (u : Int) < (k'.st.length : Int) := by have := HE.out.1; omega
                  have n6 : u < 256 := by have := HE.out.1; omega
                  clear hI hres hdo W3 hdep y1 y2 y3
                  go_wp2_with (
                    go_at_call 46
                    refine (W2 _).mono ?_
                    rintro e w3 ⟨hans, hb3⟩
                    have hans : e = .returned (.tuple #[knV k', .bool true]) := hans
                    subst hans
                    unfold knV
                    have HB3 : Hid _ := hb3
                    clear hb3 W2)
                  go_quiet (fail)
                  go_wp2
                  refine bodyPost_ret (v := .tuple #[.pointer none, .int .i64 7]) (by simp [results, Tryz.results25, go_sem]) rfl ?_
                  have hsz := HBl.out.size
                  have hb3 := HBl.out.trans (HB3.out.mono hsz)
                  refine ⟨?_, below_drewN (hb3.alloc hb3.size _) _⟩
                  rw [← HRR.out, HRf.out]; rfl
                rw [if_neg hdep] at hres
                have n5 : decide ((u : Int) < (k'.st.length : Int)) = false := by have := HE.out.1; simp; omega
                have n7 : ¬ (u < k'.st.length) := by have := HE.out.1; omega
                have n6 : u < 256 := by have := HE.out.1; omega
                go_wp2_with (
                  go_at_call 46
                  refine (W2 _).mono ?_
                  rintro e w3 ⟨hans, hb3⟩
                  have hans : e = .returned (.tuple #[knV k', .bool true]) := hans
                  subst hans
                  unfold knV
                  have HB3 : Hid _ := hb3
                  clear hb3 W2)
                go_quiet (fail)
                go_wp2_with (
                  go_at_call 47
                  refine (W3 _).mono ?_
                  rintro e w4 ⟨⟨v, rfl, hrow⟩, hb4⟩
                  obtain ⟨la, lcap, rfl⟩ := hrow.sl
                  have HRow : Hid _ := hrow
                  have HB4 : Hid _ := hb4
                  clear hrow hb4 W3)
                have hb34 : Below wr.heap.size wr w4 := by
                  have q1 : Below wr.heap.size wr ((w3.alloc (Obj.cells #[.bool true, .string { data := (stS k'.st).toArray }, .string { data := (clS k'.cl).toArray }] 124)).drewN nq) := below_drewN (HB3.out.alloc HB3.out.size _) _
                  exact q1.trans (HB4.out.mono q1.size)
                have hkk : w4.heap[w3.heap.size]? = some (.cells #[.bool true, S (stS k'.st), S (clS k'.cl)] 124 (0, 0)) := by
                  refine (HB4.out.block _ (by simp)).trans ?_
                  exact heap_alloc_new w3 _
                have HIn0 : Hid (InJ b ins w w4 sg lg w3.heap.size k' come (leadsK ins ix x) (.slice la (leadsI x).length lcap) (leadsI x) 0 kl come) := by
                  have h2 := hI.below hb34
                  refine ⟨h2.fl.pc, h2.ty, h2.kn, h2.st, hkk, ?_, HRow.out, h2.bel, h2.lo.2, rfl⟩
                  have h3 := hI.kn.lt
                  have h4 := HB3.out.size
                  omega
                have HFl : Hid _ := hI.fl
                have HLo : Hid _ := hI.lo
                have HLI : Hid _ := leads_is HC.out hix
                have HKT : Hid (Tys1 k'.st ∧ Tys k'.cl ∧ k'.cl.length = byteAt b 2 ∧ k'.st.length ≤ 24) := ⟨y1, y2, by omega, by have := HU.out; have := HE.out.1; omega⟩
                have HRes : Hid _ := hres
                have hL2 := leadsP_len x
                have HLL : Hid ((leadsI x).length = (leadsP x).length) := by show _ = _; simp [leadsI]
                rw [hx] at HLI
                clear hb34 hkk HB3 HB4 HRow hI hres hk0 hk1 hk2 hsc t1 t2 t3 t4 y1 y2 y3 hdo n5 n7 hkl' hdep hck hsame hdrop hk hkl HS HF0
                generalize w3.heap.size = kb at *
                go_loopw [12] (fun mv wi => ∃ m : Nat, m ≤ (leadsI x).length ∧ mv = .int .i64 m ∧ Hid (∃ kl2 come2, InJ b ins w wi sg lg kb k' come (leadsK ins ix x) (.slice la (leadsI x).length lcap) (leadsI x) m kl2 come2)) (fun mv _ => (leadsI x).length - (intOf mv).toNat)
                case atStart => exact ⟨0, Nat.zero_le _, rfl, _, _, HIn0.out⟩
                case round =>
                  obtain ⟨m, hm, rfl, HJ⟩ := hrel
                  obtain ⟨kl2, come2, hJ⟩ := HJ.out
                  by_cases hml : m < (leadsI x).length
                  · obtain ⟨lb, lc2, e1, _⟩ := hJ.row.form (by omega)
                    simp at e1
                    obtain ⟨rfl, rfl⟩ := e1
                    have hrc := hJ.row.cell hml
                    have hPl := HLI.out.2 m (by have := HLL.out; omega)
                    have hgp : (leadsI x).getD m 0 = (((leadsP x).getD m 0 : Nat) : Int) := by
                      unfold leadsI
                      rw [List.getD_eq_getElem?_getD, List.getD_eq_getElem?_getD, List.getElem?_map]
                      cases (leadsP x)[m]? <;> rfl
                    rw [hgp] at hrc
                    have htl : m < (leadsK ins ix x).length := by rw [HLI.out.1]; have := HLL.out; omega
                    have hdm : (leadsK ins ix x).drop m = (leadsK ins ix x).getD m none :: (leadsK ins ix x).drop (m + 1) := by
                      rw [List.drop_eq_getElem_cons htl, List.getD_eq_getElem?_getD, List.getElem?_eq_getElem htl]; rfl
                    obtain ⟨bs1, bs2⟩ := bring_step hJ.pc HC.out hPl k' ((leadsK ins ix x).drop (m + 1))
                    rw [← hdm] at bs1 bs2
                    have hbri := hJ.bri
                    generalize hgo : (leadsK ins ix x).getD m none = o at *
                    generalize (leadsP x).getD m 0 = pl at *
                    have hmb : (0 : Int) ≤ (m : Int) ∧ (m : Int) < ((leadsI x).length : Int) := by omega
                    have HML : Hid (m + 1 ≤ (leadsI x).length) := by show _ ≤ _; omega
                    have hm2 : m ≤ 2 := by have := HLL.out; omega
                    cases o with
                    | none =>
                      obtain ⟨g1, g2⟩ := bs1 rfl
                      have HRf : Hid (R = false) := by
                        show R = false
                        rw [HRes.out, hbri, g2]
                      have HBl : Hid _ := hJ.bel
                      by_cases hpl : b.length ≤ pl
                      · have n5 : (b.length : Int) ≤ (pl : Int) := by omega
                        clear hJ HJ HIn0 bs1 bs2 hbri g1 g2 hdm
                        go_wp2
                        refine bodyPost_ret (v := .tuple #[.pointer none, .int .i64 7]) (by simp [results, Tryz.results25, go_sem]) rfl ?_
                        exact ⟨by rw [← HRR.out, HRf.out]; rfl, HBl.out⟩
                      · have g3 : beg ins pl = false := by
                          rcases g1 with g | g
                          · exact absurd g hpl
                          · exact g
                        have hlt : pl < b.length := by omega
                        have hsc : wr.cell? ⟨sg, pl, none⟩ = some (.bool false) := by rw [cell_of_row wr _ pl _ _ _ hJ.st, begO_at ins hlt, g3]
                        have n5 : decide ((b.length : Int) ≤ (pl : Int)) = false := by simp; omega
                        have n6 : (0 : Int) ≤ (pl : Int) ∧ (pl : Int) < (b.length : Int) := by omega
                        clear hJ HJ HIn0 bs1 bs2 hbri g1 g2 hdm
                        go_wp2
                        refine bodyPost_ret (v := .tuple #[.pointer none, .int .i64 7]) (by simp [results, Tryz.results25, go_sem]) rfl ?_
                        exact ⟨by rw [← HRR.out, HRf.out]; rfl, HBl.out⟩
                    | some j =>
                      obtain ⟨hlt, g3, hj, g4, g5⟩ := bs2 j rfl
                      have hsc : wr.cell? ⟨sg, pl, none⟩ = some (.bool true) := by rw [cell_of_row wr _ pl _ _ _ hJ.st, begO_at ins hlt, g3]
                      have n5 : decide ((b.length : Int) ≤ (pl : Int)) = false := by simp; omega
                      have n6 : (0 : Int) ≤ (pl : Int) ∧ (pl : Int) < (b.length : Int) := by omega
                      have hpk : pl < kl2.length := by rw [hJ.pc.plen]; exact hlt
                      have c0 := hJ.kn.c0 pl hpk
                      have c1 := hJ.kn.c1 pl hpk
                      have c2 := hJ.kn.c2 pl hpk
                      have kc := fun j => cell_of_row wr kb j _ _ _ hJ.kk
                      have kc0 : wr.cell? ⟨kb, 0, none⟩ = some (.bool true) := kc 0
                      have kc1 : wr.cell? ⟨kb, 1, none⟩ = some (S (stS k'.st)) := kc 1
                      have kc2 : wr.cell? ⟨kb, 2, none⟩ = some (S (clS k'.cl)) := kc 2
                      clear kc
                      generalize hkp : kl2.getD pl none = o2 at *
                      have HG : Hid ((okM o2 k' = false → R = false) ∧ (okM o2 k' = true → ∃ come3, bringK come2 k' ((leadsK ins ix x).drop m) = bringK come3 k' ((leadsK ins ix x).drop (m + 1)) ∧ PlC b ins (kl2.set pl (some (k2M o2 k'))) come3 ∧ ComeTy (byteAt b 2) come3)) := by
                        cases o2 with
                        | none =>
                          refine ⟨fun h => by simp [okM] at h, fun _ => ?_⟩
                          obtain ⟨q1, q2⟩ := g4 rfl
                          exact ⟨_, q1, q2, hJ.ty.set HKT.out⟩
                        | some a2 =>
                          obtain ⟨q1, q2, q3⟩ := g5 a2 rfl
                          refine ⟨fun h => ?_, fun h => ?_⟩
                          · have h : ¬ a2.st = k'.st := by simpa [okM] using h
                            rw [HRes.out, hbri, q2 h]
                          · have h : a2.st = k'.st := by simpa [okM] using h
                            obtain ⟨q4, q5⟩ := q3 h
                            obtain ⟨t1, t2, t3, t4⟩ := hJ.ty j a2 q1
                            exact ⟨_, q4, q5, hJ.ty.set ⟨t1, meet_tys t2, by simp [meetC]; have := HKT.out.2.2.1; omega, t4⟩⟩
                      have W4 : ∀ w, Calls Tryz.prog 48 #[.agg #[kv0 o2, kv1 o2, kv2 o2], .agg #[.bool true, S (stS k'.st), S (clS k'.cl)]] w fun e w' => e = .returned (.tuple #[.agg #[.bool true, S (stS (k2M o2 k').st), S (clS (k2M o2 k').cl)], .bool (okM o2 k')]) ∧ Below w.heap.size w w' := fun w => by
                        refine meets_both o2 k' HKT.out.1 HKT.out.2.1 (fun a2 ha => ?_) w
                        obtain ⟨q1, _⟩ := g5 a2 ha
                        obtain ⟨t1, t2, t3, t4⟩ := hJ.ty j a2 q1
                        have := HKT.out.2.2.1
                        exact ⟨t1, t2, by omega, by have := byte_lt b 2; omega⟩
                      have HPut : Hid (∀ W come3, Below wr.heap.size wr W → bringK come2 k' ((leadsK ins ix x).drop m) = bringK come3 k' ((leadsK ins ix x).drop (m + 1)) → PlC b ins (kl2.set pl (some (k2M o2 k'))) come3 → ComeTy (byteAt b 2) come3 → InJ b ins w (((W.setCell ⟨lg, pl * 3, none⟩ (.bool true)).setCell ⟨lg, pl * 3 + 1, none⟩ (S (stS (k2M o2 k').st))).setCell ⟨lg, pl * 3 + 2, none⟩ (S (clS (k2M o2 k').cl))) sg lg kb k' come (leadsK ins ix x) (.slice (some ⟨lb, 0, none⟩) (leadsI x).length lcap) (leadsI x) (m + 1) (kl2.set pl (some (k2M o2 k'))) come3) := fun W come3 hb h1 h2 h3 => (hJ.below hb).put hlt h2 h3 h1
                      have HFr : Hid (∀ W j, Below wr.heap.size wr W → W.frozen? ⟨lg, j, none⟩ = false) := fun W j hb => (hJ.kn.of_block (hb.block _ hJ.kn.lt)).frz j
                      have HBl : Hid _ := hJ.bel
                      clear hJ HJ HIn0 bs1 bs2 hbri hdm g4 g5 g3 hkp
                      generalize kv0 o2 = q0 at *
                      generalize kv1 o2 = q1 at *
                      generalize kv2 o2 = q2 at *
                      generalize okM o2 k' = ok at *
                      generalize k2M o2 k' = k2 at *
                      have KP : Hid (∀ W W' : World, (Below wr.heap.size wr W ∧ W.cell? ⟨lb, m, none⟩ = some (.int .i64 (pl : Nat)) ∧ W.cell? ⟨lg, pl * 3, none⟩ = some q0 ∧ W.cell? ⟨lg, pl * 3 + 1, none⟩ = some q1 ∧ W.cell? ⟨lg, pl * 3 + 2, none⟩ = some q2 ∧ W.cell? ⟨kb, 0, none⟩ = some (.bool true) ∧ W.cell? ⟨kb, 1, none⟩ = some (S (stS k'.st)) ∧ W.cell? ⟨kb, 2, none⟩ = some (S (clS k'.cl))) → Below W.heap.size W W' → (Below wr.heap.size wr W' ∧ W'.cell? ⟨lb, m, none⟩ = some (.int .i64 (pl : Nat)) ∧ W'.cell? ⟨lg, pl * 3, none⟩ = some q0 ∧ W'.cell? ⟨lg, pl * 3 + 1, none⟩ = some q1 ∧ W'.cell? ⟨lg, pl * 3 + 2, none⟩ = some q2 ∧ W'.cell? ⟨kb, 0, none⟩ = some (.bool true) ∧ W'.cell? ⟨kb, 1, none⟩ = some (S (stS k'.st)) ∧ W'.cell? ⟨kb, 2, none⟩ = some (S (clS k'.cl)))) := fun W W' hS hb => by
                        obtain ⟨s0, s1, s2, s3, s4, s5, s6, s7⟩ := hS
                        refine ⟨s0.trans (hb.mono s0.size), ?_, ?_, ?_, ?_, ?_, ?_, ?_⟩ <;> (rw [hb.cell (World.block_lt_of_cell? W _ (by assumption))]; assumption)
                      have KD : Hid (∀ W : World, (Below wr.heap.size wr W ∧ W.cell? ⟨lb, m, none⟩ = some (.int .i64 (pl : Nat)) ∧ W.cell? ⟨lg, pl * 3, none⟩ = some q0 ∧ W.cell? ⟨lg, pl * 3 + 1, none⟩ = some q1 ∧ W.cell? ⟨lg, pl * 3 + 2, none⟩ = some q2 ∧ W.cell? ⟨kb, 0, none⟩ = some (.bool true) ∧ W.cell? ⟨kb, 1, none⟩ = some (S (stS k'.st)) ∧ W.cell? ⟨kb, 2, none⟩ = some (S (clS k'.cl))) → (Below wr.heap.size wr (W.drew) ∧ (W.drew).cell? ⟨lb, m, none⟩ = some (.int .i64 (pl : Nat)) ∧ (W.drew).cell? ⟨lg, pl * 3, none⟩ = some q0 ∧ (W.drew).cell? ⟨lg, pl * 3 + 1, none⟩ = some q1 ∧ (W.drew).cell? ⟨lg, pl * 3 + 2, none⟩ = some q2 ∧ (W.drew).cell? ⟨kb, 0, none⟩ = some (.bool true) ∧ (W.drew).cell? ⟨kb, 1, none⟩ = some (S (stS k'.st)) ∧ (W.drew).cell? ⟨kb, 2, none⟩ = some (S (clS k'.cl)))) := fun W hS => ⟨hS.1.drew, hS.2⟩
                      have KX : Hid (∀ W : World, Below wr.heap.size wr W → (Below wr.heap.size wr W ∧ W.cell? ⟨lb, m, none⟩ = some (.int .i64 (pl : Nat)) ∧ W.cell? ⟨lg, pl * 3, none⟩ = some q0 ∧ W.cell? ⟨lg, pl * 3 + 1, none⟩ = some q1 ∧ W.cell? ⟨lg, pl * 3 + 2, none⟩ = some q2 ∧ W.cell? ⟨kb, 0, none⟩ = some (.bool true) ∧ W.cell? ⟨kb, 1, none⟩ = some (S (stS k'.st)) ∧ W.cell? ⟨kb, 2, none⟩ = some (S (clS k'.cl)))) := fun W hb => KP.out wr W ⟨Below.refl _ _, hrc, c0, c1, c2, kc0, kc1, kc2⟩ hb
                      have KA : Hid (∀ (W : World) (o : Obj), Below W.heap.size W (W.alloc o)) := fun W o => (Below.refl _ _).alloc (Nat.le_refl _) _
                      have KE : Hid (∀ (W : World) (o : Obj), Below wr.drew.heap.size wr.drew W → (Below wr.heap.size wr (W.alloc o) ∧ (W.alloc o).cell? ⟨lb, m, none⟩ = some (.int .i64 (pl : Nat)) ∧ (W.alloc o).cell? ⟨lg, pl * 3, none⟩ = some q0 ∧ (W.alloc o).cell? ⟨lg, pl * 3 + 1, none⟩ = some q1 ∧ (W.alloc o).cell? ⟨lg, pl * 3 + 2, none⟩ = some q2 ∧ (W.alloc o).cell? ⟨kb, 0, none⟩ = some (.bool true) ∧ (W.alloc o).cell? ⟨kb, 1, none⟩ = some (S (stS k'.st)) ∧ (W.alloc o).cell? ⟨kb, 2, none⟩ = some (S (clS k'.cl)))) := fun W o hb => KX.out _ (Below.alloc (a := wr) ⟨hb.os, hb.tape, hb.output, hb.size, hb.block⟩ hb.size _)
                      have KZ : Hid (∀ W : World, Below (wr.drew.alloc (.cells #[.bool false, .string ⟨#[]⟩, .string ⟨#[]⟩] 124)).heap.size (wr.drew.alloc (.cells #[.bool false, .string ⟨#[]⟩, .string ⟨#[]⟩] 124)) W → W.heap[wr.heap.size]? = some (.cells #[.bool false, .string ⟨#[]⟩, .string ⟨#[]⟩] 124 (0, 0)) ∧ Below wr.heap.size wr W) := fun W hb => by
                        refine ⟨(hb.block _ (by simp)).trans (heap_alloc_new wr.drew _), ?_⟩
                        have q : Below wr.heap.size wr (wr.drew.alloc (.cells #[.bool false, .string ⟨#[]⟩, .string ⟨#[]⟩] 124)) := ((Below.refl _ wr).drew).alloc (Nat.le_refl _) _
                        exact q.trans (hb.mono q.size)
                      have W5 : ∀ W, W = (wr.drew.alloc (.cells #[.bool false, .string ⟨#[]⟩, .string ⟨#[]⟩] 124)) → Calls Tryz.prog 48 #[.agg #[q0, q1, q2], .agg #[.bool true, S (stS k'.st), S (clS k'.cl)]] W fun e w' => e = .returned (.tuple #[.agg #[.bool true, S (stS k2.st), S (clS k2.cl)], .bool ok]) ∧ Below (wr.drew.alloc (.cells #[.bool false, .string ⟨#[]⟩, .string ⟨#[]⟩] 124)).heap.size (wr.drew.alloc (.cells #[.bool false, .string ⟨#[]⟩, .string ⟨#[]⟩] 124)) w' ∧ w'.cell? ⟨wr.heap.size, 0, none⟩ = some (.bool false) ∧ w'.cell? ⟨wr.heap.size, 1, none⟩ = some (.string ⟨#[]⟩) ∧ w'.cell? ⟨wr.heap.size, 2, none⟩ = some (.string ⟨#[]⟩) ∧ w'.frozen? ⟨wr.heap.size, 0, none⟩ = false ∧ w'.frozen? ⟨wr.heap.size, 1, none⟩ = false ∧ w'.frozen? ⟨wr.heap.size, 2, none⟩ = false := by
                        rintro W rfl
                        refine (W4 _).mono ?_
                        rintro e w' ⟨he, hb⟩
                        obtain ⟨zb, _⟩ := KZ.out w' hb
                        refine ⟨he, hb, cell_of_row _ _ 0 _ _ _ zb, cell_of_row _ _ 1 _ _ _ zb, cell_of_row _ _ 2 _ _ _ zb, ?_, ?_, ?_⟩ <;> simp [World.frozen?, zb]
                      have KG : Hid (∀ W : World, Below (wr.drew.alloc (.cells #[.bool false, .string ⟨#[]⟩, .string ⟨#[]⟩] 124)).heap.size (wr.drew.alloc (.cells #[.bool false, .string ⟨#[]⟩, .string ⟨#[]⟩] 124)) W → (Below wr.heap.size wr W ∧ W.cell? ⟨lb, m, none⟩ = some (.int .i64 (pl : Nat)) ∧ W.cell? ⟨lg, pl * 3, none⟩ = some q0 ∧ W.cell? ⟨lg, pl * 3 + 1, none⟩ = some q1 ∧ W.cell? ⟨lg, pl * 3 + 2, none⟩ = some q2 ∧ W.cell? ⟨kb, 0, none⟩ = some (.bool true) ∧ W.cell? ⟨kb, 1, none⟩ = some (S (stS k'.st)) ∧ W.cell? ⟨kb, 2, none⟩ = some (S (clS k'.cl)))) := fun W hb => KX.out W (KZ.out W hb).2
                      have KF : Hid (∀ (W : World) (v0 v1 v2 : Value), Below (wr.drew.alloc (.cells #[.bool false, .string ⟨#[]⟩, .string ⟨#[]⟩] 124)).heap.size (wr.drew.alloc (.cells #[.bool false, .string ⟨#[]⟩, .string ⟨#[]⟩] 124)) W → (Below wr.heap.size wr (((W.setCell ⟨wr.heap.size, 0, none⟩ v0).setCell ⟨wr.heap.size, 1, none⟩ v1).setCell ⟨wr.heap.size, 2, none⟩ v2) ∧ (((W.setCell ⟨wr.heap.size, 0, none⟩ v0).setCell ⟨wr.heap.size, 1, none⟩ v1).setCell ⟨wr.heap.size, 2, none⟩ v2).cell? ⟨lb, m, none⟩ = some (.int .i64 (pl : Nat)) ∧ (((W.setCell ⟨wr.heap.size, 0, none⟩ v0).setCell ⟨wr.heap.size, 1, none⟩ v1).setCell ⟨wr.heap.size, 2, none⟩ v2).cell? ⟨lg, pl * 3, none⟩ = some q0 ∧ (((W.setCell ⟨wr.heap.size, 0, none⟩ v0).setCell ⟨wr.heap.size, 1, none⟩ v1).setCell ⟨wr.heap.size, 2, none⟩ v2).cell? ⟨lg, pl * 3 + 1, none⟩ = some q1 ∧ (((W.setCell ⟨wr.heap.size, 0, none⟩ v0).setCell ⟨wr.heap.size, 1, none⟩ v1).setCell ⟨wr.heap.size, 2, none⟩ v2).cell? ⟨lg, pl * 3 + 2, none⟩ = some q2 ∧ (((W.setCell ⟨wr.heap.size, 0, none⟩ v0).setCell ⟨wr.heap.size, 1, none⟩ v1).setCell ⟨wr.heap.size, 2, none⟩ v2).cell? ⟨kb, 0, none⟩ = some (.bool true) ∧ (((W.setCell ⟨wr.heap.size, 0, none⟩ v0).setCell ⟨wr.heap.size, 1, none⟩ v1).setCell ⟨wr.heap.size, 2, none⟩ v2).cell? ⟨kb, 1, none⟩ = some (S (stS k'.st)) ∧ (((W.setCell ⟨wr.heap.size, 0, none⟩ v0).setCell ⟨wr.heap.size, 1, none⟩ v1).setCell ⟨wr.heap.size, 2, none⟩ v2).cell? ⟨kb, 2, none⟩ = some (S (clS k'.cl)))) := fun W v0 v1 v2 hb => KX.out _ ((((KZ.out W hb).2.setCell (Nat.le_refl _) _).setCell (Nat.le_refl _) _).setCell (Nat.le_refl _) _)
                      have hS0 : (Below wr.heap.size wr wr ∧ wr.cell? ⟨lb, m, none⟩ = some (.int .i64 (pl : Nat)) ∧ wr.cell? ⟨lg, pl * 3, none⟩ = some q0 ∧ wr.cell? ⟨lg, pl * 3 + 1, none⟩ = some q1 ∧ wr.cell? ⟨lg, pl * 3 + 2, none⟩ = some q2 ∧ wr.cell? ⟨kb, 0, none⟩ = some (.bool true) ∧ wr.cell? ⟨kb, 1, none⟩ = some (S (stS k'.st)) ∧ wr.cell? ⟨kb, 2, none⟩ = some (S (clS k'.cl))) := ⟨Below.refl _ _, hrc, c0, c1, c2, kc0, kc1, kc2⟩
                      go_wp2_with fail
                      go_region_held3 (fun W => Below wr.heap.size wr W ∧ W.cell? ⟨lb, m, none⟩ = some (.int .i64 (pl : Nat)) ∧ W.cell? ⟨lg, pl * 3, none⟩ = some q0 ∧ W.cell? ⟨lg, pl * 3 + 1, none⟩ = some q1 ∧ W.cell? ⟨lg, pl * 3 + 2, none⟩ = some q2 ∧ W.cell? ⟨kb, 0, none⟩ = some (.bool true) ∧ W.cell? ⟨kb, 1, none⟩ = some (S (stS k'.st)) ∧ W.cell? ⟨kb, 2, none⟩ = some (S (clS k'.cl))) (first | with_reducible exact KD.out _ (by assumption) | with_reducible exact KP.out _ _ (by assumption) (by assumption) | with_reducible exact KP.out _ _ (by assumption) (KA.out _ _) | with_reducible exact KE.out _ _ (by assumption) | with_reducible exact KG.out _ (by assumption) | with_reducible exact KF.out _ _ _ _ (by assumption) | with_reducible assumption | go_keep)
                        (first
                          | (go_at_call 48; refine (W5 _ rfl).mono ?_; rintro e w5 ⟨rfl, hb5, z0, z1, z2, z3, z4, z5⟩)
                          | (go_at_call 48; refine (W4 _).mono ?_; rintro e w5 ⟨rfl, hb5⟩))
                      · obtain ⟨W6, hW6⟩ : ∃ W6, w5.alloc (.cells #[.bool true, .string { data := (stS k2.st).toArray }, .string { data := (clS k2.cl).toArray }] 124) = W6 := ⟨_, rfl⟩
                        have hb6 : Below wr.heap.size wr W6 := by rw [← hW6]; exact (KE.out w5 _ hb5).1
                        have hm6 : W6.heap[w5.heap.size]? = some (.cells #[.bool true, S (stS k2.st), S (clS k2.cl)] 124 (0, 0)) := by rw [← hW6]; exact heap_alloc_new w5 _
                        rw [hW6]
                        generalize w5.heap.size = mb at *
                        clear hW6 hb5
                        rename_i hHeld
                        clear hHeld
                        obtain ⟨_, s1, s2, s3, s4, _, _, _⟩ := KX.out W6 hb6
                        have mc := fun j => cell_of_row W6 mb j _ _ _ hm6
                        have m0 : W6.cell? ⟨mb, 0, none⟩ = some (.bool true) := mc 0
                        have m1 : W6.cell? ⟨mb, 1, none⟩ = some (S (stS k2.st)) := mc 1
                        have m2 : W6.cell? ⟨mb, 2, none⟩ = some (S (clS k2.cl)) := mc 2
                        have f0 := HFr.out W6 (pl * 3) hb6
                        have f1 := HFr.out W6 (pl * 3 + 1) hb6
                        have f2 := HFr.out W6 (pl * 3 + 2) hb6
                        have HB6 : Hid _ := hb6
                        clear KP KD KX KA KE KZ KG KF W4 W5 hS0 mc hm6 HFr hrc c0 c1 c2 kc0 kc1 kc2
                        cases ok with
                        | false =>
                          have HRf : Hid (R = false) := HG.out.1 rfl
                          clear HG HPut
                          go_wp2
                          refine bodyPost_ret (v := .tuple #[.pointer none, .int .i64 7]) (by simp [results, Tryz.results25, go_sem]) rfl ?_
                          exact ⟨by rw [← HRR.out, HRf.out]; rfl, HBl.out.trans (HB6.out.mono HBl.out.size)⟩
                        | true =>
                          obtain ⟨come3, y1, y2, y3⟩ := HG.out.2 rfl
                          have HP : Hid _ := HPut.out W6 come3 hb6 y1 y2 y3
                          clear HG HPut hb6 y1 y2 y3
                          go_wp2_with fail
                          go_region
                          go_wp2
                          go_roundw
                          case rel => exact ⟨m + 1, HML.out, by go_num, _, _, HP.out.below ((Below.refl _ _).drew)⟩
                          case measure => have := HML.out; simp [intOf]; omega
                      · obtain ⟨W6, hW6⟩ : ∃ W6, ((w5.setCell ⟨wr.heap.size, 0, none⟩ (.bool true)).setCell ⟨wr.heap.size, 1, none⟩ (.string { data := (stS k2.st).toArray })).setCell ⟨wr.heap.size, 2, none⟩ (.string { data := (clS k2.cl).toArray }) = W6 := ⟨_, rfl⟩
                        have hb6 : Below wr.heap.size wr W6 := by rw [← hW6]; exact (KF.out w5 _ _ _ hb5).1
                        have hm6 : W6.heap[wr.heap.size]? = some (.cells #[.bool true, S (stS k2.st), S (clS k2.cl)] 124 (0, 0)) := by
                          rw [← hW6]
                          have e1 := heap_setCell_same w5 _ 0 _ _ (.bool true) (KZ.out w5 hb5).1
                          have e2 := heap_setCell_same _ _ 1 _ _ (.string { data := (stS k2.st).toArray }) e1
                          exact heap_setCell_same _ _ 2 _ _ (.string { data := (clS k2.cl).toArray }) e2
                        rw [hW6]
                        obtain ⟨mb, hmb⟩ : ∃ mb, wr.heap.size = mb := ⟨_, rfl⟩
                        rw [hmb] at hm6
                        rw [hmb]
                        clear hW6 hb5 z0 z1 z2 z3 z4 z5
                        rename_i hHeld
                        clear hHeld
                        obtain ⟨_, s1, s2, s3, s4, _, _, _⟩ := KX.out W6 hb6
                        have mc := fun j => cell_of_row W6 mb j _ _ _ hm6
                        have m0 : W6.cell? ⟨mb, 0, none⟩ = some (.bool true) := mc 0
                        have m1 : W6.cell? ⟨mb, 1, none⟩ = some (S (stS k2.st)) := mc 1
                        have m2 : W6.cell? ⟨mb, 2, none⟩ = some (S (clS k2.cl)) := mc 2
                        have f0 := HFr.out W6 (pl * 3) hb6
                        have f1 := HFr.out W6 (pl * 3 + 1) hb6
                        have f2 := HFr.out W6 (pl * 3 + 2) hb6
                        have HB6 : Hid _ := hb6
                        clear KP KD KX KA KE KZ KG KF W4 W5 hS0 mc hm6 HFr hrc c0 c1 c2 kc0 kc1 kc2
                        cases ok with
                        | false =>
                          have HRf : Hid (R = false) := HG.out.1 rfl
                          clear HG HPut
                          go_wp2
                          refine bodyPost_ret (v := .tuple #[.pointer none, .int .i64 7]) (by simp [results, Tryz.results25, go_sem]) rfl ?_
                          exact ⟨by rw [← HRR.out, HRf.out]; rfl, HBl.out.trans (HB6.out.mono HBl.out.size)⟩
                        | true =>
                          obtain ⟨come3, y1, y2, y3⟩ := HG.out.2 rfl
                          have HP : Hid _ := HPut.out W6 come3 hb6 y1 y2 y3
                          clear HG HPut hb6 y1 y2 y3
                          go_wp2_with fail
                          go_region
                          go_wp2
                          go_roundw
                          case rel => exact ⟨m + 1, HML.out, by go_num, _, _, HP.out.below ((Below.refl _ _).drew)⟩
                          case measure => have := HML.out; simp [intOf]; omega
                  · obtain rfl : m = (leadsI x).length := by omega
                    have HN : Hid (LdX b ins w wr sg lg (a + 1) R) := by
                      have hbr := hJ.bri
                      rw [List.drop_of_length_le (by rw [HLI.out.1]; have := HLL.out; omega)] at hbr
                      refine ⟨ix + 1, kl2, come2, ⟨HFl.out.next HC.out hbg hJ.pc ?_, hJ.ty, hJ.kn, hJ.st, hJ.bel, HLo.out⟩⟩
                      rw [HRes.out, hbr]; rfl
                    clear hJ HJ HIn0
                    go_wp2
                    exact ⟨⟨a + 1, by omega, by go_num, HN.out⟩, by simp [intOf]; omega⟩
        · obtain rfl : a = b.length := by omega
          have HR : Hid (R = true) := hI.fl.last HC.out
          have HBl : Hid _ := hI.bel
          clear hI HI HI0
          go_wp2
          refine bodyPost_ret (v := .tuple #[.pointer (some ⟨wr.heap.size, 0, none⟩), .int .i64 0]) (by simp [results, Tryz.results25, go_sem]) rfl ?_
          have hsz := HBl.out.size
          refine ⟨?_, HBl.out.alloc hsz _⟩
          rw [← HRR.out, if_pos HR.out]
          exact ⟨_, hsz, rfl, heap_alloc_new wr _⟩
end Go.Proofs.YtfkdailfcmnjlaaGreatDoor

namespace Go.Proofs.YtfkdailfcmnjlaaGreatDoor
open Go Go.RowKit
set_option maxRecDepth 100000
attribute [local go_sem ↓] Go.wp_at_zero Go.wp_at_succ

theorem rload_any (b : List UInt8) (w : World) : Calls Tryz.prog 25 #[S b] w fun e w' => RLoadAns b w.heap.size (loadOf b) e w' ∧ Below w.heap.size w w' := by
  by_cases h : b.length < 4 ∨ 4000 < b.length ∨ byteAt b 0 ≠ 71 ∨ 24 < byteAt b 1
  · have e : loadOf b = none := by unfold loadOf; rw [if_pos h]
    rw [e]
    exact rload_bad h w
  · have h1 : 4 ≤ b.length := by omega
    have h2 : b.length ≤ 4000 := by omega
    have h3 : byteAt b 0 = 71 := by omega
    have h4 : byteAt b 1 ≤ 24 := by omega
    cases hd : dec (b.length + 1) b 3 with
    | none =>
      have e : loadOf b = none := by unfold loadOf; rw [if_neg h, hd]
      rw [e]
      exact rload_none h1 h2 h3 h4 hd w
    | some ins =>
      have h0 : 0 < ins.length := by
        rw [dec, if_neg (by omega)] at hd
        split at hd
        · cases hq : dec b.length b (3 + sizeOp (byteAt b 3)) with
          | none => rw [hq] at hd; cases hd
          | some l => rw [hq] at hd; cases hd; simp
        · cases hd
      have e : loadOf b = if flowK ins (byteAt b 1) ins 0 (come0 (byteAt b 2) ins.length) then some ins else none := by unfold loadOf; rw [if_neg h, hd]
      rw [e]
      exact rload_some h1 h2 h3 h4 hd h0 w
theorem u64_step {V c : Nat} (hV : V < 18446744073709551616) (hc : c < 256) : IntKind.u64.wrap (IntKind.u64.wrap ((V : Int) * 256) + (c : Int)) = ((V * 256 + c) % 18446744073709551616 : Nat) := by
  unfold IntKind.wrap; simp [IntKind.signed, IntKind.bits]
/-- The number that bytes are, within 64 bits. -/
def beU (l : List UInt8) (k : Nat) : Nat := beVal l 0 k % 18446744073709551616
set_option maxHeartbeats 2000000 in
theorem rnumber_any (l : List UInt8) (hl : 8 ≤ l.length) (hl2 : l.length ≤ 4000) (w : World) : Calls Tryz.prog 50 #[S l] w fun e w' => e = .returned (.int .i64 (signed64 (beVal l 0 8))) ∧ w' = w := by
  have HV : Hid (∀ k, k < 8 → beU l k < 18446744073709551616 ∧ beU l (k + 1) = (beU l k * 256 + byteAt l k) % 18446744073709551616) := fun k hk => by
    refine ⟨Nat.mod_lt _ (by decide), ?_⟩
    unfold beU
    rw [beVal, Nat.zero_add]; omega
  have HE : Hid (beU l 8 = beVal l 0 8 ∧ beVal l 0 8 < 18446744073709551616) := by
    have h1 := beVal_lt l 0 8
    have h2 : (256 : Nat) ^ 8 = 18446744073709551616 := by decide
    rw [h2] at h1
    exact ⟨Nat.mod_eq_of_lt h1, h1⟩
  go_enter Tryz.func50, Tryz.ntmps50
  go_wp2_with fail
  go_loop [3, 4] (fun nv kv => ∃ k : Nat, k ≤ 8 ∧ kv = .int .i64 k ∧ nv = .int .u64 (beU l k : Nat)) (fun _ kv => 8 - (intOf kv).toNat)
  case atStart => exact ⟨0, Nat.zero_le _, rfl, rfl⟩
  case round =>
    obtain ⟨k, hk, rfl, rfl⟩ := hrel
    by_cases hlt : k < 8
    · obtain ⟨h1, h2⟩ := HV.out k hlt
      have hsz : k < (ByteArray.mk l.toArray).size := by show k < l.length; omega
      have hba : ((ByteArray.mk l.toArray)[k]).toNat = byteAt l k := ba_at l k hsz
      have hc : byteAt l k < 256 := byte_lt l k
      have HOB : Hid _ := u64_step h1 hc
      have HN : Hid _ := h2
      have q0 : (0 : Int) ≤ (k : Int) ∧ (k : Int) < (l.length : Int) := by omega
      clear h2
      generalize beU l k = V at *
      generalize byteAt l k = q at *
      go_wp2
      exact ⟨⟨k + 1, by omega, by go_num, by rw [HOB.out, HN.out]⟩, by simp [intOf]; omega⟩
    · obtain rfl : k = 8 := by omega
      have HR : Hid (RowKit.wrap64 ((beU l 8 : Nat) : Int) = signed64 (beVal l 0 8)) := by
        show _ = _
        obtain ⟨h1, h2⟩ := HE.out
        rw [h1]
        unfold RowKit.wrap64 signed64
        split <;> omega
      go_wp2
      go_ret
      exact ⟨ret_int HR.out, rfl⟩
end Go.Proofs.YtfkdailfcmnjlaaGreatDoor
