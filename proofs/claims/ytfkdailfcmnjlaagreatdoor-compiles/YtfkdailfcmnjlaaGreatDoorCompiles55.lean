/-
  The program's machine judges. The program's Judge of what it loaded.
-/
import Derived.Test.YtfkdailfcmnjlaaGreatDoorCompiles01
import Derived.Test.YtfkdailfcmnjlaaGreatDoorCompiles02
import Derived.Test.YtfkdailfcmnjlaaGreatDoorCompiles04
import Derived.Test.YtfkdailfcmnjlaaGreatDoorCompiles05
import Derived.Test.YtfkdailfcmnjlaaGreatDoorCompiles06
import Derived.Test.YtfkdailfcmnjlaaGreatDoorCompiles07
import Derived.Test.YtfkdailfcmnjlaaGreatDoorCompiles08
import Derived.Test.YtfkdailfcmnjlaaGreatDoorCompiles09
import Derived.Test.YtfkdailfcmnjlaaGreatDoorCompiles10
import Derived.Test.YtfkdailfcmnjlaaGreatDoorCompiles11
import Derived.Test.YtfkdailfcmnjlaaGreatDoorCompiles12
import Derived.Test.YtfkdailfcmnjlaaGreatDoorCompiles13
import Derived.Test.YtfkdailfcmnjlaaGreatDoorCompiles14
import Derived.Test.YtfkdailfcmnjlaaGreatDoorCompiles15
import Derived.Test.YtfkdailfcmnjlaaGreatDoorCompiles16
import Derived.Test.YtfkdailfcmnjlaaGreatDoorCompiles17
import Derived.Test.YtfkdailfcmnjlaaGreatDoorCompiles18
import Derived.Test.YtfkdailfcmnjlaaGreatDoorCompiles19
import Derived.Test.YtfkdailfcmnjlaaGreatDoorCompiles20
import Derived.Test.YtfkdailfcmnjlaaGreatDoorCompiles21
import Derived.Test.YtfkdailfcmnjlaaGreatDoorCompiles22
import Derived.Test.YtfkdailfcmnjlaaGreatDoorCompiles23
import Derived.Test.YtfkdailfcmnjlaaGreatDoorCompiles24
import Derived.Test.YtfkdailfcmnjlaaGreatDoorCompiles28
import Derived.Test.YtfkdailfcmnjlaaGreatDoorCompiles29
import Derived.Test.YtfkdailfcmnjlaaGreatDoorCompiles30
import Derived.Test.YtfkdailfcmnjlaaGreatDoorCompiles31
import Derived.Test.YtfkdailfcmnjlaaGreatDoorCompiles32
import Derived.Test.YtfkdailfcmnjlaaGreatDoorCompiles34
import Derived.Test.YtfkdailfcmnjlaaGreatDoorCompiles35
import Derived.Test.YtfkdailfcmnjlaaGreatDoorCompiles37
import Derived.Test.YtfkdailfcmnjlaaGreatDoorCompiles38
import Derived.Test.YtfkdailfcmnjlaaGreatDoorCompiles39
import Derived.Test.YtfkdailfcmnjlaaGreatDoorCompiles40
import Derived.Test.YtfkdailfcmnjlaaGreatDoorCompiles41
import Derived.Test.YtfkdailfcmnjlaaGreatDoorCompiles44
import Derived.Test.YtfkdailfcmnjlaaGreatDoorCompiles45
import Derived.Test.YtfkdailfcmnjlaaGreatDoorLays
import Derived.Test.YtfkdailfcmnjlaaGreatDoorLays2
import Derived.Shelf.Abstract
import Derived.WalkKit
import Derived.Deep.QuietTactic
import Derived.BigQuiet
import Derived.WalkSpells
import GoSem.Op.String
import Derived.Deep.AppendLies
import Derived.Deep.RegionHeld3
import Derived.Deep.DrawnRows
import Derived.Deep.RegionHeldLaw
import Derived.Deep.RegionLaw
import Derived.Lib.ParseIntBCases
import Derived.Deep.OwnRows
import Derived.Lib.LaidTab
import Derived.Lib.AppendIntMem
import Derived.Shelf.Strings.Builder1
import Derived.Laws.CopyOwn
import Derived.Deep.DeepCutAuto
import Derived.WalkSmall
import Derived.Lib.AppendZerosOnto
set_option linter.unusedVariables false
set_option linter.unusedSimpArgs false
namespace Go.Proofs.YtfkdailfcmnjlaaGreatDoor
open Go Go.RowKit
set_option maxRecDepth 100000
attribute [local go_sem ↓] Go.wp_at_zero Go.wp_at_succ

def verdV (a : Bool) (r s : Nat) : Value := .agg #[.bool a, .int .i64 r, .int .i64 s]
theorem ent_fn {op : Nat} (h : 1 ≤ op ∧ op ≤ 18) (args : Array Value) (w : World) : (callFunc (fnN op) args).run Tryz.prog w = .ok (.enter (fnN op) args) w := by
  have e : op = 1 ∨ op = 2 ∨ op = 3 ∨ op = 4 ∨ op = 5 ∨ op = 6 ∨ op = 7 ∨ op = 8 ∨ op = 9 ∨ op = 10 ∨ op = 11 ∨ op = 12 ∨ op = 13 ∨ op = 14 ∨ op = 15 ∨ op = 16 ∨ op = 17 ∨ op = 18 := by omega
  rcases e with rfl | rfl | rfl | rfl | rfl | rfl | rfl | rfl | rfl | rfl | rfl | rfl | rfl | rfl | rfl | rfl | rfl | rfl
  · exact enters_of Tryz.func192 (by kernel_rfl) rfl args w
  · exact enters_of Tryz.func192 (by kernel_rfl) rfl args w
  · exact enters_of Tryz.func192 (by kernel_rfl) rfl args w
  · exact enters_of Tryz.func193 (by kernel_rfl) rfl args w
  · exact enters_of Tryz.func194 (by kernel_rfl) rfl args w
  · exact enters_of Tryz.func195 (by kernel_rfl) rfl args w
  · exact enters_of Tryz.func196 (by kernel_rfl) rfl args w
  · exact enters_of Tryz.func197 (by kernel_rfl) rfl args w
  · exact enters_of Tryz.func198 (by kernel_rfl) rfl args w
  · exact enters_of Tryz.func199 (by kernel_rfl) rfl args w
  · exact enters_of Tryz.func200 (by kernel_rfl) rfl args w
  · exact enters_of Tryz.func201 (by kernel_rfl) rfl args w
  · exact enters_of Tryz.func202 (by kernel_rfl) rfl args w
  · exact enters_of Tryz.func203 (by kernel_rfl) rfl args w
  · exact enters_of Tryz.func204 (by kernel_rfl) rfl args w
  · exact enters_of Tryz.func205 (by kernel_rfl) rfl args w
  · exact enters_of Tryz.func206 (by kernel_rfl) rfl args w
  · exact enters_of Tryz.func207 (by kernel_rfl) rfl args w
/-- How far the machine still may go. -/
def measM (w : World) (p n : Nat) : Nat := match w.cell? ⟨p, 12, none⟩, w.cell? ⟨p, 11, none⟩ with
  | some (.bool false), some (.int _ v) => n + 1 - v.toNat
  | _, _ => 0
theorem meas_on {w : World} {p n : Nat} {vs vc : Value} {fl : List Int} {s : MS} (h : MacAt w p vs vc fl s) : measM w p n = if s.ended then 0 else n + 1 - s.next.toNat := by
  have hc := fun j => cell_of_row w p j _ _ _ h.blk
  have h12 : w.cell? ⟨p, 12, none⟩ = some (.bool s.ended) := hc 12
  have h11 : w.cell? ⟨p, 11, none⟩ = some (.int .i64 s.next) := hc 11
  unfold measM
  rw [h12, h11]
  cases s.ended <;> rfl
/-- Where the machine stands between the instructions. -/
def JState (ins : List Ins) (fl : List Int) (cells : Nat) (C : Nat → Option Kn) (A : Bool) (Ru St : Nat) (s : MS) : Prop :=
  (s.ended = false ∧ ∃ (i : Nat) (k : Kn) (st : List Int) (f q : Nat), s.st = st.reverse ∧ s.next = i ∧ s.stp = q ∧ i < ins.length ∧ C i = some k ∧ Fits k cells st s.cl ∧ st.length ≤ 24 ∧ q ≤ i ∧ runK ins fl f i st s.cl q = some (A, Ru, St)) ∨
  (s.ended = true ∧ s.al = A ∧ s.ru = Ru ∧ s.stp = St)
theorem jstep_any {W : World} {p : Nat} {vs vc : Value} {fl : List Int} {s1 : MS} {b : List UInt8} {ins : List Ins} {cells depth i f q : Nat} {k : Kn} {st : List Int} {C : Nat → Option Kn} {A : Bool} {Ru St : Nat} (h : MacAt W p vs vc fl s1) (hst : s1.st = st.reverse) (hnx : s1.next = ((i + 1 : Nat) : Int)) (hstp : s1.stp = ((q + 1 : Nat) : Int)) (hen : s1.ended = false) (hok : CodeOK b ins) (hcl : byteAt b 2 = cells) (hd24 : depth ≤ 24) (hF : FieldsT fl) (hG : Good ins depth 0 C) (hil : i < ins.length) (hCk : C i = some k) (hft : Fits k cells st s1.cl) (hst24 : st.length ≤ 24) (hqi : q ≤ i) (hrun : runK ins fl f i st s1.cl q = some (A, Ru, St)) :
    Calls Tryz.prog (fnN (ins.getD i noIns).op) #[.pointer (some ⟨p, 0, none⟩), insV (ins.getD i noIns).op (ins.getD i noIns).n (toOf ins (ins.getD i noIns)) ((ins.getD i noIns).pl : Nat)] W fun e w' => e = .returned (.tuple #[]) ∧ ∃ s2, MOut W w' p vs vc fl s2 ∧ JState ins fl cells C A Ru St s2 ∧ (if s2.ended then 0 else ins.length + 1 - s2.next.toNat) < ins.length + 1 - i := by
  have hx := num_ok (hok.each _ (getD_ins hil))
  rw [hcl] at hx
  have hcells := byte_lt b 2
  obtain ⟨f', rfl⟩ : ∃ f', f = f' + 1 := by
    cases f with
    | zero => simp [runK] at hrun
    | succ f' => exact ⟨f', rfl⟩
  rw [runK, if_pos hil] at hrun
  obtain ⟨k', hdk, hdp, hlead⟩ := hG i (Nat.zero_le _) hil k hCk
  by_cases h17 : (ins.getD i noIns).op = 17 ∨ (ins.getD i noIns).op = 18
  · rw [if_pos h17] at hrun
    simp only [Option.some.injEq, Prod.mk.injEq] at hrun
    obtain ⟨r1, r2, r3⟩ := hrun
    obtain ⟨n0, _, _⟩ := hx.two (by rcases h17 with e | e <;> rw [e] <;> rfl)
    rcases h17 with e | e
    · rw [e]
      have hA : A = true := by rw [← r1, e]; rfl
      refine (mallow_any 17 (ins.getD i noIns).n _ _ h).mono ?_
      rintro e' w' ⟨rfl, ho⟩
      refine ⟨rfl, _, ho, .inr ⟨rfl, hA.symm, ?_, ?_⟩, by simp; omega⟩
      · simp only []; rw [← r2]; omega
      · simp only []; rw [hstp, ← r3]
    · rw [e]
      have hA : A = false := by rw [← r1, e]; rfl
      refine (mdeny_any 18 (ins.getD i noIns).n _ _ h).mono ?_
      rintro e' w' ⟨rfl, ho⟩
      refine ⟨rfl, _, ho, .inr ⟨rfl, hA.symm, ?_, ?_⟩, by simp; omega⟩
      · simp only []; rw [← r2]; omega
      · simp only []; rw [hstp, ← r3]
  · rw [if_neg h17] at hrun
    obtain ⟨st', cl', j, hs, hft', hj, h16⟩ := step_fits hx hF hft hdk h17
    rw [hs] at hrun
    have hnx2 := next_in (ins := ins) (i := i) hj h16 h17
    obtain ⟨t, e, h1, h2, h3⟩ := hlead _ hnx2
    obtain ⟨kq, e2, e3, e4⟩ := h3 k' rfl
    have hftq : Fits kq cells st' cl' := ⟨by rw [e3]; exact hft'.typ, hft'.cel.less e4, hft'.len⟩
    have hl' : st'.length ≤ 24 := by rw [hft'.typ.len]; omega
    refine (mstep_any (toOf ins (ins.getD i noIns)) h hx hft hdk hst rfl (by omega) (by omega) hs h17).mono ?_
    rintro e' w' ⟨rfl, ho⟩
    have hnext : (if j then toOf ins (ins.getD i noIns) else s1.next) = (t : Int) := by
      cases j with
      | true =>
        have e : jumpTo ins (ins.getD i noIns) = some t := e
        rw [if_pos rfl]
        unfold toOf
        rw [if_pos (hj rfl), e]; rfl
      | false =>
        have e : (if i + 1 < ins.length then some (i + 1) else none) = some t := e
        rw [if_neg (by decide), hnx]
        split at e
        · simp at e; rw [← e]
        · cases e
    rw [hnext] at ho
    refine ⟨rfl, _, ho, .inl ⟨hen, t, kq, st', f', q + 1, rfl, rfl, hstp, h2, e2, hftq, hl', by omega, ?_⟩, ?_⟩
    · cases j with
      | true =>
        have e : jumpTo ins (ins.getD i noIns) = some t := e
        simp only [] at hrun
        rw [e] at hrun
        exact hrun
      | false =>
        have e : (if i + 1 < ins.length then some (i + 1) else none) = some t := e
        simp only [] at hrun
        split at e
        · simp at e; rw [← e]; exact hrun
        · cases e
    · simp only []
      rw [hen]
      simp; omega
structure JdgI (w wr : World) (p db rb g0 sz : Nat) (vc : Value) (ins : List Ins) (fl : List Int) (cells : Nat) (C : Nat → Option Kn) (A : Bool) (Ru St : Nat) (vs : Value) (s : MS) : Prop where
  mac : MacAt wr p vs vc fl s
  bel : Below w.heap.size w wr
  tab : ∀ j v, doT[j]? = some v → wr.cell? ⟨db, j, none⟩ = some v
  res : wr.heap[rb]? = some (.cells #[.bool false, .int .i64 0, .int .i64 0] 40 (0, 0))
  foot : ∀ b, Foot p vs vc b → b = p ∨ b = g0 ∨ sz ≤ b
  siz : sz ≤ wr.heap.size
  sta : JState ins fl cells C A Ru St s
/-- What is apart from the machine's blocks stays. -/
theorem JdgI.apart {w wr wb W' : World} {p db rb g0 : Nat} {vc : Value} {ins : List Ins} {fl : List Int} {cells : Nat} {C : Nat → Option Kn} {A : Bool} {Ru St : Nat} {vs vs1 : Value} {s s2 : MS} (hI : JdgI w wr p db rb g0 (db + 1) vc ins fl cells C A Ru St vs s) (hfb : ∀ b, Foot p vs1 vc b → Foot p vs vc b ∨ wr.heap.size < b) (ho : MOut wb W' p vs1 vc fl s2) {b : Nat} (hb : b ≤ wr.heap.size) (hbb : b < wb.heap.size) (hp : b ≠ p) (hg : b ≠ g0) (hdb : b < db + 1 ∨ b = wr.heap.size) : W'.heap[b]? = wb.heap[b]? := by
  refine ho.only.block b hbb (fun hf => ?_)
  rcases hfb b hf with h | h
  · rcases hI.foot b h with h' | h' | h'
    · exact hp h'
    · exact hg h'
    · rcases hdb with hdb | hdb
      · omega
      · have := hI.mac.lt h; omega
  · omega
theorem JdgI.next {w wr W8 : World} {p db rb g0 : Nat} {vc : Value} {ins : List Ins} {fl : List Int} {cells : Nat} {C : Nat → Option Kn} {A : Bool} {Ru St : Nat} {vs vs1 : Value} {s s2 : MS} {o : Obj} {v1 v2 : Value} (hI : JdgI w wr p db rb g0 (db + 1) vc ins fl cells C A Ru St vs s) (hgeo : g0 < db ∧ p < db ∧ rb < g0) (heq : g0 + 1 = p ∧ w.heap.size + 1 = rb) (hfb : ∀ b, Foot p vs1 vc b → Foot p vs vc b ∨ wr.heap.size < b)
    (hout : MOut ((((wr.alloc o).drew.setCell ⟨p, 11, none⟩ v1).setCell ⟨p, 15, none⟩ v2)).drew W8 p vs1 vc fl s2) (hs2 : JState ins fl cells C A Ru St s2) : ∃ vs2, JdgI w W8 p db rb g0 (db + 1) vc ins fl cells C A Ru St vs2 s2 := by
  have hsz : ((((wr.alloc o).drew.setCell ⟨p, 11, none⟩ v1).setCell ⟨p, 15, none⟩ v2)).drew.heap.size = wr.heap.size + 1 := by simp [World.drew]
  have hdbl : db < wr.heap.size := by have := hI.siz; omega
  have hkeep : ∀ b, b < db + 1 → b ≠ p → b ≠ g0 → W8.heap[b]? = wr.heap[b]? := fun b hb h1 h2 => by
    rw [hI.apart hfb hout (by omega) (by omega) h1 h2 (.inl hb)]
    show (((wr.alloc o).drew.setCell ⟨p, 11, none⟩ v1).setCell ⟨p, 15, none⟩ v2).heap[b]? = _
    rw [Below.heap_setCell _ _ _ _ (by simpa using h1), Below.heap_setCell _ _ _ _ (by simpa using h1)]
    exact Below.heap_alloc wr o b (by omega)
  have hpos : w.heap.size < rb := by omega
  have hft8 : ∀ b, Foot p vs1 vc b → w.heap.size ≤ b := fun b hb => by
    rcases hfb b hb with h | h
    · rcases hI.foot b h with h' | h' | h' <;> omega
    · omega
  have hbl : Below w.heap.size w W8 := by
    have q1 : Below w.heap.size w ((((wr.alloc o).drew.setCell ⟨p, 11, none⟩ v1).setCell ⟨p, 15, none⟩ v2)).drew := (((hI.bel.alloc hI.bel.size _).drew.setCell (by simp; omega) _).setCell (by simp; omega) _).drew
    exact q1.trans (hout.only.below q1.size (fun b _ hb => hft8 b hb))
  obtain ⟨vs2, hm, hon, hf⟩ := hout
  refine ⟨vs2, hm, hbl, fun j v hv => ?_, ?_, fun b hb => ?_, ?_, hs2⟩
  · rw [World.cell?_of_block (w := wr) (a := ⟨db, j, none⟩) (hkeep db (by omega) (by omega) (by omega))]; exact hI.tab j v hv
  · rw [hkeep rb (by omega) (by omega) (by omega)]; exact hI.res
  · rcases hf b hb with h | h
    · rcases hfb b h with h | h
      · exact hI.foot b h
      · right; right; omega
    · rw [hsz] at h; right; right; omega
  · have := hon.size
    rw [hsz] at this; omega
set_option maxHeartbeats 8000000 in
theorem mjudge_any {b : List UInt8} {ins : List Ins} {fl : List Int} {cp gi cap : Nat} {w : World} {A : Bool} {Ru St : Nat} (hld : loadOf b = some ins) (hm : CodeAt w cp gi cap (byteAt b 2) (byteAt b 1) ins) (hF : FieldsT fl) (hj : judgeOf b ins fl = some (A, Ru, St)) :
    Calls Tryz.prog 100 #[.pointer (some ⟨cp, 0, none⟩), flV fl] w fun e w' => e = .returned (verdV A Ru St) ∧ Below w.heap.size w w' := by
  obtain ⟨h1, h2, h3, h4, h5, h6, C, h7, h8⟩ := load_known hld
  have hcells := byte_lt b 2
  have hmk := run_make_row' (P := Tryz.prog) 179 112 (.int .i64 0) 8 Tryz.underlying179 info_VValue rfl .i64 .i64 (byteAt b 2) (by omega) (by omega)
  have p0 : w.cell? ⟨cp, 0, none⟩ = some (.int .i64 (byteAt b 2 : Nat)) := by rw [cell_of_row w cp 0 _ _ _ hm.blk]; rfl
  have hlt := lt_of_get hm.blk
  have W1 := fun w => doings_any w
  have HM : Hid _ := hm
  have HLK : Hid _ := And.intro h3 (And.intro h4 (And.intro h7 h8))
  unfold flV
  generalize hf0 : fl.getD 0 0 = f0
  generalize hf1 : fl.getD 1 0 = f1
  generalize hf2 : fl.getD 2 0 = f2
  generalize hf3 : fl.getD 3 0 = f3
  generalize hf4 : fl.getD 4 0 = f4
  generalize hf5 : fl.getD 5 0 = f5
  generalize hf6 : fl.getD 6 0 = f6
  generalize hf7 : fl.getD 7 0 = f7
  generalize hf8 : fl.getD 8 0 = f8
  have HFL : Hid (fl.getD 0 0 = f0 ∧ fl.getD 1 0 = f1 ∧ fl.getD 2 0 = f2 ∧ fl.getD 3 0 = f3 ∧ fl.getD 4 0 = f4 ∧ fl.getD 5 0 = f5 ∧ fl.getD 6 0 = f6 ∧ fl.getD 7 0 = f7 ∧ fl.getD 8 0 = f8) := ⟨hf0, hf1, hf2, hf3, hf4, hf5, hf6, hf7, hf8⟩
  clear hf0 hf1 hf2 hf3 hf4 hf5 hf6 hf7 hf8 hm h3 h4 h7 h8
  have HJ : Hid _ := hj
  clear hj
  generalize hcl : byteAt b 2 = cells at *
  obtain ⟨w2, hw2⟩ : ∃ w2, (w.alloc (.cells #[.int .i64 f0, .int .i64 f1, .int .i64 f2, .int .i64 f3, .int .i64 f4, .int .i64 f5, .int .i64 f6, .int .i64 f7, .int .i64 f8] 114)).alloc (.cells #[.bool false, .int .i64 0, .int .i64 0] 40) = w2 := ⟨_, rfl⟩
  have hb2 : Below w.heap.size w w2 := by rw [← hw2]; exact ((Below.refl _ _).alloc (Nat.le_refl _) _).alloc (by simp) _
  have hk1 : w2.heap[w.heap.size]? = some (.cells #[.int .i64 f0, .int .i64 f1, .int .i64 f2, .int .i64 f3, .int .i64 f4, .int .i64 f5, .int .i64 f6, .int .i64 f7, .int .i64 f8] 114 (0, 0)) := by rw [← hw2]; exact (Below.heap_alloc _ _ _ (by simp)).trans (heap_alloc_new w _)
  have hk2 : w2.heap[w.heap.size + 1]? = some (.cells #[.bool false, .int .i64 0, .int .i64 0] 40 (0, 0)) := by rw [← hw2]; have := heap_alloc_new (w.alloc (.cells #[.int .i64 f0, .int .i64 f1, .int .i64 f2, .int .i64 f3, .int .i64 f4, .int .i64 f5, .int .i64 f6, .int .i64 f7, .int .i64 f8] 114)) (.cells #[.bool false, .int .i64 0, .int .i64 0] 40); rw [World.size_alloc] at this; exact this
  have hs2 : w2.heap.size = w.heap.size + 1 + 1 := by rw [← hw2, World.size_alloc, World.size_alloc]
  have hcc := fun j => cell_of_row w2 _ j _ _ _ hk1
  have hS0 : w2.cell? ⟨cp, 0, none⟩ = some (.int .i64 cells) ∧ w2.rangeAt w.heap.size 0 [.int .i64 f0, .int .i64 f1, .int .i64 f2, .int .i64 f3, .int .i64 f4, .int .i64 f5, .int .i64 f6, .int .i64 f7, .int .i64 f8] := ⟨by rw [hb2.cell (p := ⟨cp, 0, none⟩) hlt]; exact p0, fun j v hv => by rw [Nat.zero_add, hcc]; simpa using hv⟩
  have KA : Hid (∀ (W : World) (o : Obj), (W.cell? ⟨cp, 0, none⟩ = some (.int .i64 cells) ∧ W.rangeAt w.heap.size 0 [.int .i64 f0, .int .i64 f1, .int .i64 f2, .int .i64 f3, .int .i64 f4, .int .i64 f5, .int .i64 f6, .int .i64 f7, .int .i64 f8]) → ((W.alloc o).cell? ⟨cp, 0, none⟩ = some (.int .i64 cells) ∧ (W.alloc o).rangeAt w.heap.size 0 [.int .i64 f0, .int .i64 f1, .int .i64 f2, .int .i64 f3, .int .i64 f4, .int .i64 f5, .int .i64 f6, .int .i64 f7, .int .i64 f8])) := fun W o hS => by
    exact ⟨by rw [World.cell?_alloc_some _ _ _ (by rw [hS.1]; rfl)]; exact hS.1, World.rangeAt_alloc hS.2 o⟩
  have hu73 : Tryz.prog.underlying 114 = some (.array 9 112) := Tryz.underlying114
  have hi73 : Option.map (fun x => x.size) (Tryz.prog.info? 114) = some ([Value.int .i64 f0, .int .i64 f1, .int .i64 f2, .int .i64 f3, .int .i64 f4, .int .i64 f5, .int .i64 f6, .int .i64 f7, .int .i64 f8]).length := by kernel_rfl
  have HK2 : Hid _ := And.intro hb2 (And.intro hk2 hs2)
  have HW : Hid _ := hw2
  clear hw2 hb2 hk1 hk2 hs2 hcc
  go_enter Tryz.func100, Tryz.ntmps100
  go_wp2_with fail
  rw [HW.out]
  go_region_held3 (fun W => W.cell? ⟨cp, 0, none⟩ = some (.int .i64 cells) ∧ W.rangeAt w.heap.size 0 [.int .i64 f0, .int .i64 f1, .int .i64 f2, .int .i64 f3, .int .i64 f4, .int .i64 f5, .int .i64 f6, .int .i64 f7, .int .i64 f8]) (first | with_reducible assumption | exact KA.out w2 _ hS0 | exact KA.out _ _ (KA.out w2 _ hS0) | go_keep) (fail)
  rename_i hHeld
  clear hHeld KA hS0 hu73 hi73 hmk
  obtain ⟨w3, hw3⟩ : ∃ w3, ((w2.alloc (.cells (madeCells #[.int .i64 0] cells) 112)).alloc (.cells #[.slice none 0 0, .slice (some ⟨w2.heap.size, 0, none⟩) cells cells, .int .i64 f0, .int .i64 f1, .int .i64 f2, .int .i64 f3, .int .i64 f4, .int .i64 f5, .int .i64 f6, .int .i64 f7, .int .i64 f8, .int .i64 0, .bool false, .bool false, .int .i64 0, .int .i64 0] 257)).drew = w3 := ⟨_, rfl⟩
  have HM3 : Hid (MacAt w3 (w2.heap.size + 1) (.slice none 0 0) (.slice (some ⟨w2.heap.size, 0, none⟩) cells cells) fl ⟨[], List.replicate cells 0, 0, false, false, 0, 0⟩ ∧ Below w2.heap.size w2 w3) := by
    have e1 : (w2.alloc (.cells (madeCells #[.int .i64 0] cells) 112)).heap.size = w2.heap.size + 1 := World.size_alloc _ _
    have hbk := heap_alloc_new (w2.alloc (.cells (madeCells #[.int .i64 0] cells) 112)) (.cells #[.slice none 0 0, .slice (some ⟨w2.heap.size, 0, none⟩) cells cells, .int .i64 f0, .int .i64 f1, .int .i64 f2, .int .i64 f3, .int .i64 f4, .int .i64 f5, .int .i64 f6, .int .i64 f7, .int .i64 f8, .int .i64 0, .bool false, .bool false, .int .i64 0, .int .i64 0] 257)
    rw [e1] at hbk
    have hrow := World.ownsRow_lit (base := 0) (e := 112) (size := 1) w2 (madeCells #[.int .i64 0] cells) cells (Nat.zero_le _) (by unfold maxLen; omega) (by rw [size_madeCells, Nat.mul_one])
    have hmc : (madeCells #[Value.int .i64 0] cells).toList = (List.replicate cells (0 : Int)).map (Value.int .i64) := by
      apply List.ext_getElem
      · rw [Array.length_toList, size_madeCells]; simp
      · intro j h1 h2
        simp [madeCells, Nat.mod_one]
    rw [hmc] at hrow
    have hir : IR w3 112 (.slice (some ⟨w2.heap.size, 0, none⟩) cells cells) (List.replicate cells 0) := by
      rw [← hw3]
      have := World.ownsRow.alloc hrow (.cells #[.slice none 0 0, .slice (some ⟨w2.heap.size, 0, none⟩) cells cells, .int .i64 f0, .int .i64 f1, .int .i64 f2, .int .i64 f3, .int .i64 f4, .int .i64 f5, .int .i64 f6, .int .i64 f7, .int .i64 f8, .int .i64 0, .bool false, .bool false, .int .i64 0, .int .i64 0] 257)
      unfold IR
      rw [List.length_replicate]
      exact this
    refine ⟨⟨?_, IR.nil _ _, hir, fun b hb => by simp [Value.ownBlock] at hb⟩, ?_⟩
    · rw [← hw3]
      obtain ⟨g0, g1, g2, g3, g4, g5, g6, g7, g8⟩ := HFL.out
      unfold macC
      rw [g0, g1, g2, g3, g4, g5, g6, g7, g8]
      exact hbk
    · rw [← hw3]
      exact (((Below.refl _ w2).alloc (Nat.le_refl _) _).alloc (by simp) _).drew
  rw [hw3]
  clear hw3
  go_wp2_with fail
  refine (W1 _).mono ?_
  rintro e w4 ⟨rfl, hb4⟩
  have hsz : Option.map (fun x => x.size) (Tryz.prog.info? 259) = some 19 := by kernel_rfl
  obtain ⟨w5, hw5⟩ : ∃ w5, w4.alloc (.cells #[Value.nilFunc, Value.nilFunc, Value.nilFunc, Value.nilFunc, Value.nilFunc, Value.nilFunc, Value.nilFunc, Value.nilFunc, Value.nilFunc, Value.nilFunc, Value.nilFunc, Value.nilFunc, Value.nilFunc, Value.nilFunc, Value.nilFunc, Value.nilFunc, Value.nilFunc, Value.nilFunc, Value.nilFunc] 259) = w5 := ⟨_, rfl⟩
  have hk5 : w5.heap[w4.heap.size]? = some (.cells #[Value.nilFunc, Value.nilFunc, Value.nilFunc, Value.nilFunc, Value.nilFunc, Value.nilFunc, Value.nilFunc, Value.nilFunc, Value.nilFunc, Value.nilFunc, Value.nilFunc, Value.nilFunc, Value.nilFunc, Value.nilFunc, Value.nilFunc, Value.nilFunc, Value.nilFunc, Value.nilFunc, Value.nilFunc] 259 (0, 0)) := by rw [← hw5]; exact heap_alloc_new w4 _
  have ht := there_row hk5
  have HB4 : Hid _ := hb4
  have HW5 : Hid _ := hw5
  clear hb4 W1 hw5 HW
  generalize hdt : doT.toArray = dT at *
  have HDT : Hid _ := hdt
  clear hdt
  go_wp2_with (
    rw [HW5.out]
    refine wpList_store_mid (by rfl) _ _ _ (by rfl) w4.heap.size 0 dT (by rfl) (by rfl) (by rw [← HDT.out]; exact ht) (by rw [← HDT.out]; exact hsz) (by rw [← HDT.out]; exact all_oneCell_toArray doT_one) ?_
    rw [← HDT.out])
  simp only [Act.put]
  obtain ⟨w6, hw6⟩ : ∃ w6, w5.setCells w4.heap.size 0 doT = w6 := ⟨_, rfl⟩
  have hI0 : JdgI w w6 (w2.heap.size + 1) w4.heap.size (w.heap.size + 1) w2.heap.size (w4.heap.size + 1) (.slice (some ⟨w2.heap.size, 0, none⟩) cells cells) ins fl cells C A Ru St (.slice none 0 0) ⟨[], List.replicate cells 0, 0, false, false, 0, 0⟩ := by
    obtain ⟨hm3, hb3⟩ := HM3.out
    obtain ⟨hb2, hk2, hs2⟩ := HK2.out
    obtain ⟨l3, l4, l7, l8⟩ := HLK.out
    have hlt3 := lt_of_get hm3.blk
    have hb4 := HB4.out
    have hb5 : Below w4.heap.size w4 w5 := by rw [← HW5.out]; exact (Below.refl _ _).alloc (Nat.le_refl _) _
    have hb6 : Below w4.heap.size w4 w6 := by rw [← hw6]; exact below_cells (Nat.le_refl _) _ _ hb5
    have hb36 : Below w3.heap.size w3 w6 := hb4.trans (hb6.mono hb4.size)
    have hb26 : Below w2.heap.size w2 w6 := hb3.trans (hb36.mono hb3.size)
    have hs3 := hb3.size
    have hs4 := hb4.size
    have hin := World.cell?_setCells_in w4.heap.size doT 0 w5 (fun j hj => (ht j hj).1)
    refine ⟨hm3.only (Only.of_below (F := fun _ => False) hb36) (fun _ _ h => h), hb2.trans (hb26.mono hb2.size), fun j v hv => ?_, (hb26.block _ (by omega)).trans hk2, fun b hb => ?_, ?_, ?_⟩
    · obtain ⟨hj, rfl⟩ := List.getElem?_eq_some_iff.1 hv
      have := hin j hj
      rw [Nat.zero_add, hw6] at this; exact this
    · rcases hb with hb | hb | hb
      · exact .inl hb
      · simp [Value.ownBlock] at hb
      · simp [Value.ownBlock] at hb; exact .inr (.inl hb.symm)
    · have := hb6.size
      have h5 : w5.heap.size = w4.heap.size + 1 := by rw [← HW5.out, World.size_alloc]
      have h6 : w5.heap.size ≤ w6.heap.size := by rw [← hw6]; exact (below_cells (B := 0) (Nat.zero_le _) doT 0 (Below.refl 0 w5)).size
      omega
    · refine .inl ⟨rfl, 0, _, [], ins.length, 0, rfl, rfl, rfl, l4, l7, ⟨trivial, fun c hc => ?_, by simp⟩, by simp, Nat.le_refl _, ?_⟩
      · exfalso; apply hc
        simp only [List.getD_eq_getElem?_getD, List.getElem?_replicate]
        split <;> rfl
      · have := HJ.out
        unfold judgeOf at this
        rw [hcl] at this; exact this
  have HI0 : Hid _ := hI0
  have HSP : Hid (w2.heap.size < w4.heap.size ∧ w2.heap.size + 1 < w4.heap.size ∧ w.heap.size + 1 < w2.heap.size) := by
    obtain ⟨hm3, hb3⟩ := HM3.out
    obtain ⟨hb2, hk2, hs2⟩ := HK2.out
    have hlt3 := lt_of_get hm3.blk
    have := HB4.out.size
    exact ⟨by omega, by omega, by omega⟩
  rw [hw6]
  clear hw6 hI0 ht hk5 hsz HK2 HM3 HB4 HW5
  clear HDT HFL
  generalize hpp : w2.heap.size + 1 = p at *
  generalize hgg : w2.heap.size = g0 at *
  generalize hdb : w4.heap.size = db at *
  generalize hrb : w.heap.size + 1 = rb at *
  have HEQ : Hid (g0 + 1 = p ∧ w.heap.size + 1 = rb) := ⟨by omega, hrb⟩
  clear hpp hgg hdb hrb
  go_loopw [7] (fun _ wr => ∃ vs s, Hid (JdgI w wr p db rb g0 (db + 1) (.slice (some ⟨g0, 0, none⟩) cells cells) ins fl cells C A Ru St vs s)) (fun _ wr => measM wr p ins.length)
  case atStart => exact ⟨_, _, HI0.out⟩
  case round =>
    obtain ⟨vs, s, HI⟩ := hrel
    have hI := HI.out
    obtain ⟨d11, d12, d13, d14, d15, dfr⟩ := (MOut.refl hI.mac).cells
    rcases hI.sta with ⟨hen, i, k, st, f, q, hst, hnx, hstp, hil, hCk, hft, hst24, hqi, hrun⟩ | ⟨hen, hal, hru, hstp⟩
    · have hm := HM.out.below hI.bel
      have c0 := hm.op i hil
      have c1 := hm.num i hil
      have c2 := hm.tos i hil
      have c3 := hm.pls i hil
      have hcp : wr.cell? ⟨cp, 1, none⟩ = some (.slice (some ⟨gi, 0, none⟩) ins.length cap) := by rw [cell_of_row wr cp 1 _ _ _ hm.blk]; rfl
      have hib : (0 : Int) ≤ (i : Int) ∧ (i : Int) < (ins.length : Int) := by omega
      obtain ⟨l3, l4, l7, l8⟩ := HLK.out
      have hxo := l3.each _ (getD_ins hil)
      have hxn := num_ok hxo
      rw [hcl] at hxn
      obtain ⟨k', hdk, hdp, hlead⟩ := l8 i (Nat.zero_le _) hil k hCk
      rw [hen] at d12
      rw [hnx] at d11
      rw [hstp] at d15
      generalize hxx : ins.getD i noIns = x at *
      generalize htt : toOf ins x = tj at *
      have df11 := dfr 11
      have df15 := dfr 15
      have hpw : p < wr.heap.size := lt_of_get hI.mac.blk
      have hq : q ≤ 4000 := by omega
      have e11 : ∀ o, (wr.alloc o).cell? ⟨p, 11, none⟩ = some (.int .i64 i) := fun o => by rw [World.cell?_alloc_some _ _ _ (by rw [d11]; rfl)]; exact d11
      have g11 : ∀ o, (wr.alloc o).frozen? ⟨p, 11, none⟩ = false := fun o => by rw [World.frozen?_of_block (w := wr) (a := ⟨p, 11, none⟩) (Below.heap_alloc wr o p hpw)]; exact df11
      have e15 : ∀ o v, ((wr.alloc o).setCell ⟨p, 11, none⟩ v).cell? ⟨p, 15, none⟩ = some (.int .i64 q) := fun o v => by rw [cell_set_off _ _ _ _ _ (by decide), World.cell?_alloc_some _ _ _ (by rw [d15]; rfl)]; exact d15
      have g15 : ∀ o v, ((wr.alloc o).setCell ⟨p, 11, none⟩ v).frozen? ⟨p, 15, none⟩ = false := fun o v => by simp; rw [World.frozen?_of_block (w := wr) (a := ⟨p, 15, none⟩) (Below.heap_alloc wr o p hpw)]; exact df15
      have hS0 : wr.cell? ⟨cp, 1, none⟩ = some (.slice (some ⟨gi, 0, none⟩) ins.length cap) ∧ wr.cell? ⟨p, 11, none⟩ = some (.int .i64 i) ∧ wr.cell? ⟨gi, i * 4, none⟩ = some (.int .i64 (x.op : Nat)) ∧ wr.cell? ⟨gi, i * 4 + 1, none⟩ = some (.int .i64 x.n) ∧ wr.cell? ⟨gi, i * 4 + 2, none⟩ = some (.int .i64 tj) ∧ wr.cell? ⟨gi, i * 4 + 3, none⟩ = some (.int .i64 (x.pl : Nat)) := ⟨hcp, d11, c0, c1, c2, c3⟩
      have KX : Hid (∀ W : World, Below wr.heap.size wr W → (W.cell? ⟨cp, 1, none⟩ = some (.slice (some ⟨gi, 0, none⟩) ins.length cap) ∧ W.cell? ⟨p, 11, none⟩ = some (.int .i64 i) ∧ W.cell? ⟨gi, i * 4, none⟩ = some (.int .i64 (x.op : Nat)) ∧ W.cell? ⟨gi, i * 4 + 1, none⟩ = some (.int .i64 x.n) ∧ W.cell? ⟨gi, i * 4 + 2, none⟩ = some (.int .i64 tj) ∧ W.cell? ⟨gi, i * 4 + 3, none⟩ = some (.int .i64 (x.pl : Nat)))) := fun W hb => by
        refine ⟨?_, ?_, ?_, ?_, ?_, ?_⟩ <;> (rw [hb.cell (World.block_lt_of_cell? wr _ (by assumption))]; assumption)
      go_wp2_with fail
      go_region_held3 (fun W => W.cell? ⟨cp, 1, none⟩ = some (.slice (some ⟨gi, 0, none⟩) ins.length cap) ∧ W.cell? ⟨p, 11, none⟩ = some (.int .i64 i) ∧ W.cell? ⟨gi, i * 4, none⟩ = some (.int .i64 (x.op : Nat)) ∧ W.cell? ⟨gi, i * 4 + 1, none⟩ = some (.int .i64 x.n) ∧ W.cell? ⟨gi, i * 4 + 2, none⟩ = some (.int .i64 tj) ∧ W.cell? ⟨gi, i * 4 + 3, none⟩ = some (.int .i64 (x.pl : Nat))) (first | with_reducible assumption | exact KX.out _ (((Below.refl _ wr).alloc (Nat.le_refl _) _).drew) | exact KX.out _ ((((((Below.refl _ wr).alloc (Nat.le_refl _) _).setCell (by simp) _).setCell (by simp) _).setCell (by simp) _).setCell (by simp) _).drew | go_keep) (fail)
      rename_i hHeld
      clear hHeld KX hS0 e11 g11 e15 g15
      obtain ⟨wa, hwa⟩ : ∃ wa, (wr.alloc (.cells #[.int .i64 (x.op : Nat), .int .i64 x.n, .int .i64 tj, .int .i64 (x.pl : Nat)] 247)).drew = wa := ⟨_, rfl⟩
      have hba : Below wr.heap.size wr wa := by rw [← hwa]; exact ((Below.refl _ wr).alloc (Nat.le_refl _) _).drew
      have hma : MacAt wa p vs (.slice (some ⟨g0, 0, none⟩) cells cells) fl s := hI.mac.only (Only.of_below (F := fun _ => False) hba) (fun _ _ h => h)
      have hka : wa.heap[wr.heap.size]? = some (insO x.op x.n tj (x.pl : Nat)) := by rw [← hwa]; exact heap_alloc_new wr _
      have hsa : wa.heap.size = wr.heap.size + 1 := by rw [← hwa]; exact World.size_alloc _ _
      obtain ⟨a11, _, _, _, a15, afr⟩ := (MOut.refl hma).cells
      rw [hnx] at a11
      rw [hstp] at a15
      have af11 := afr 11
      have af15 : (wa.setCell ⟨p, 11, none⟩ (.int .i64 ((i : Int) + 1))).frozen? ⟨p, 15, none⟩ = false := by simpa using afr 15
      have ac15 : (wa.setCell ⟨p, 11, none⟩ (.int .i64 ((i : Int) + 1))).cell? ⟨p, 15, none⟩ = some (.int .i64 q) := by rw [cell_set_off _ _ _ _ _ (by decide)]; exact a15
      have hob : MOut wa ((wa.setCell ⟨p, 11, none⟩ (.int .i64 ((i : Int) + 1))).setCell ⟨p, 15, none⟩ (.int .i64 ((q : Int) + 1))) p vs (.slice (some ⟨g0, 0, none⟩) cells cells) fl { s with next := (i : Int) + 1, stp := (q : Int) + 1 } :=
        ((MOut.refl hma).put (s' := { s with next := (i : Int) + 1 }) 11 (.int .i64 ((i : Int) + 1)) (fun _ _ => rfl) rfl rfl).put (s' := { s with next := (i : Int) + 1, stp := (q : Int) + 1 }) 15 (.int .i64 ((q : Int) + 1)) (fun _ _ => rfl) rfl rfl
      obtain ⟨vs1, hmb, honb, hfb0⟩ := hob
      have hfb : ∀ b, Foot p vs1 (.slice (some ⟨g0, 0, none⟩) cells cells) b → Foot p vs (.slice (some ⟨g0, 0, none⟩) cells cells) b ∨ wr.heap.size < b := fun b hb => by
        rcases hfb0 b hb with h | h
        · exact .inl h
        · right; omega
      have W7 := jstep_any (W := ((wa.setCell ⟨p, 11, none⟩ (.int .i64 ((i : Int) + 1))).setCell ⟨p, 15, none⟩ (.int .i64 ((q : Int) + 1))).drew) hmb.drew hst (by simp only []; omega) (by simp only []; omega) hen l3 hcl h6 hF l8 hil hCk hft hst24 hqi hrun
      rw [hxx, htt] at W7
      unfold insV at W7
      have hop := hxn.op
      have hent := fun args w => ent_fn hop args w
      have hopb : (0 : Int) ≤ (x.op : Int) ∧ (x.op : Int) < 19 := by omega
      have hgeo : g0 < db ∧ p < db ∧ rb < g0 := HSP.out
      have hdbl : db < wr.heap.size := by have := hI.siz; omega
      have hkb : ((wa.setCell ⟨p, 11, none⟩ (.int .i64 ((i : Int) + 1))).setCell ⟨p, 15, none⟩ (.int .i64 ((q : Int) + 1))).heap[wr.heap.size]? = some (insO x.op x.n tj (x.pl : Nat)) := by
        rw [Below.heap_setCell _ _ _ _ (by simp; omega), Below.heap_setCell _ _ _ _ (by simp; omega)]; exact hka
      have hkd : ((wa.setCell ⟨p, 11, none⟩ (.int .i64 ((i : Int) + 1))).setCell ⟨p, 15, none⟩ (.int .i64 ((q : Int) + 1))).heap[db]? = wr.heap[db]? := by
        rw [Below.heap_setCell _ _ _ _ (by simp; omega), Below.heap_setCell _ _ _ _ (by simp; omega)]; exact hba.block db hdbl
      have HS : Hid (∀ W' : World, W'.heap[wr.heap.size]? = some (insO x.op x.n tj (x.pl : Nat)) → W'.heap[db]? = wr.heap[db]? → (W'.cell? ⟨wr.heap.size, 0, none⟩ = some (.int .i64 (x.op : Nat)) ∧ W'.cell? ⟨wr.heap.size, 1, none⟩ = some (.int .i64 x.n) ∧ W'.cell? ⟨wr.heap.size, 2, none⟩ = some (.int .i64 tj) ∧ W'.cell? ⟨wr.heap.size, 3, none⟩ = some (.int .i64 (x.pl : Nat)) ∧ W'.cell? ⟨db, x.op, none⟩ = some (.func (.func (fnN x.op)) #[] #[]))) := fun W' q1 q2 => by
        have hcc := fun j => cell_of_row W' _ j _ _ _ q1
        exact ⟨hcc 0, hcc 1, hcc 2, hcc 3, by rw [World.cell?_of_block (w := wr) (a := ⟨db, x.op, none⟩) q2]; exact hI.tab _ _ (doT_at hop)⟩
      have hsb : ((wa.setCell ⟨p, 11, none⟩ (.int .i64 ((i : Int) + 1))).setCell ⟨p, 15, none⟩ (.int .i64 ((q : Int) + 1))).drew.heap.size = wr.heap.size + 1 := by
        show ((wa.setCell ⟨p, 11, none⟩ (.int .i64 ((i : Int) + 1))).setCell ⟨p, 15, none⟩ (.int .i64 ((q : Int) + 1))).heap.size = _
        simp; exact hsa
      have KP : Hid (∀ (W' : World) (s' : MS), MOut ((wa.setCell ⟨p, 11, none⟩ (.int .i64 ((i : Int) + 1))).setCell ⟨p, 15, none⟩ (.int .i64 ((q : Int) + 1))).drew W' p vs1 (.slice (some ⟨g0, 0, none⟩) cells cells) fl s' → (W'.cell? ⟨wr.heap.size, 0, none⟩ = some (.int .i64 (x.op : Nat)) ∧ W'.cell? ⟨wr.heap.size, 1, none⟩ = some (.int .i64 x.n) ∧ W'.cell? ⟨wr.heap.size, 2, none⟩ = some (.int .i64 tj) ∧ W'.cell? ⟨wr.heap.size, 3, none⟩ = some (.int .i64 (x.pl : Nat)) ∧ W'.cell? ⟨db, x.op, none⟩ = some (.func (.func (fnN x.op)) #[] #[]))) := fun W' s' ho =>
        HS.out W' ((hI.apart hfb ho (Nat.le_refl _) (by omega) (by omega) (by omega) (.inr rfl)).trans hkb) ((hI.apart hfb ho (by omega) (by omega) (by omega) (by omega) (.inl (by omega))).trans hkd)
      have hS7 := HS.out _ hkb hkd
      have HNX : Hid (∀ (W8 : World) (s2 : MS), MOut ((wa.setCell ⟨p, 11, none⟩ (.int .i64 ((i : Int) + 1))).setCell ⟨p, 15, none⟩ (.int .i64 ((q : Int) + 1))).drew W8 p vs1 (.slice (some ⟨g0, 0, none⟩) cells cells) fl s2 → JState ins fl cells C A Ru St s2 → (if s2.ended then 0 else ins.length + 1 - s2.next.toNat) < ins.length + 1 - i → (∃ vs2 s2, Hid (JdgI w W8 p db rb g0 (db + 1) (.slice (some ⟨g0, 0, none⟩) cells cells) ins fl cells C A Ru St vs2 s2)) ∧ measM W8 p ins.length < measM wr p ins.length) := fun W8 s2 ho hj hmm => by
        rw [← hwa] at ho
        obtain ⟨vs2, hI2⟩ := hI.next hgeo HEQ.out hfb ho hj
        refine ⟨⟨vs2, s2, hI2⟩, ?_⟩
        rw [meas_on hI2.mac, meas_on hI.mac, hen, hnx]
        simpa using hmm
      rw [hwa]
      clear hI HI hm c0 c1 c2 c3 hcp hxo hxn hdk hlead hma hka hba a15 hmb honb hfb0 hfb hkb hkd HS hsb hft hCk hrun l3 l4 l7 l8 d11 d12 d13 d14 d15 dfr df11 df15 afr hwa
      go_wp2_with fail
      clear ac15 af15 af11 a11
      generalize hwb : ((wa.setCell ⟨p, 11, none⟩ (.int .i64 ((i : Int) + 1))).setCell ⟨p, 15, none⟩ (.int .i64 ((q : Int) + 1))) = wb at *
      clear hwb
      go_region_held3 (fun W => W.cell? ⟨wr.heap.size, 0, none⟩ = some (.int .i64 (x.op : Nat)) ∧ W.cell? ⟨wr.heap.size, 1, none⟩ = some (.int .i64 x.n) ∧ W.cell? ⟨wr.heap.size, 2, none⟩ = some (.int .i64 tj) ∧ W.cell? ⟨wr.heap.size, 3, none⟩ = some (.int .i64 (x.pl : Nat)) ∧ W.cell? ⟨db, x.op, none⟩ = some (.func (.func (fnN x.op)) #[] #[])) (first | with_reducible assumption | with_reducible exact KP.out _ _ (by assumption) | go_keep)
        (first | (refine W7.mono ?_; rintro e w8 ⟨rfl, s2, hout, hj2, hm2⟩))
      rename_i hHeld
      have HU := HNX.out _ _ hout hj2 hm2
      have HU1 : Hid _ := HU.1
      have HU2 : Hid _ := HU.2
      clear hHeld hout hj2 hm2 HU KP W7 hS7 HNX
      go_wp2
      exact ⟨HU1.out, HU2.out⟩
    · rw [hen] at d12
      rw [hal] at d13
      rw [hru] at d14
      rw [hstp] at d15
      have HB : Hid _ := hI.bel
      have hrc := fun j => cell_of_row wr _ j _ _ _ hI.res
      have r0 : wr.cell? ⟨rb, 0, none⟩ = some (.bool false) := hrc 0
      have r1 : wr.cell? ⟨rb, 1, none⟩ = some (.int .i64 0) := hrc 1
      have r2 : wr.cell? ⟨rb, 2, none⟩ = some (.int .i64 0) := hrc 2
      have rf : ∀ o, wr.frozen? ⟨rb, o, none⟩ = false := fun o => by simp [World.frozen?, hI.res]
      have rf0 := rf 0
      have rf1 := rf 1
      have rf2 := rf 2
      clear hI HI hen hal hru hstp hrc rf dfr
      go_wp2
      refine bodyPost_ret (v := verdV A Ru St) (by simp [results, Tryz.results100, go_sem, verdV, cell_set_same, cell_set_off, some_set, r0, r1, r2]) rfl ?_
      have hrb := HEQ.out.2
      exact ⟨rfl, ((HB.out.setCell (by simp; omega) _).setCell (by simp; omega) _).setCell (by simp; omega) _⟩
end Go.Proofs.YtfkdailfcmnjlaaGreatDoor

namespace Go.Proofs.YtfkdailfcmnjlaaGreatDoor
open Go Go.RowKit
set_option maxRecDepth 100000
attribute [local go_sem ↓] Go.wp_at_zero Go.wp_at_succ

set_option maxHeartbeats 4000000 in
theorem gjudge_any {b : List UInt8} {ins : List Ins} {lp cp gi cap : Nat} {w : World} {A : Bool} {Ru St : Nat} {lv mv : Value} (e : Ev) (s : Stt) (hld : loadOf b = some ins) (hlp : w.heap[lp]? = some (.cells #[.pointer (some ⟨cp, 0, none⟩)] 207 (0, 0))) (hm : CodeAt w cp gi cap (byteAt b 2) (byteAt b 1) ins) (h1 : PairsAt lv s.levels w) (h2 : PairsAt mv s.members w) (hF : FieldsT (fieldsL e s)) (hj : judgeOf b ins (fieldsL e s) = some (A, Ru, St)) :
    Calls Tryz.prog 53 #[.pointer (some ⟨lp, 0, none⟩), evV e, sttV lv mv s] w fun en w' => en = .returned (verdV A Ru St) ∧ Below w.heap.size w w' := by
  have c0 : w.cell? ⟨lp, 0, none⟩ = some (.pointer (some ⟨cp, 0, none⟩)) := by rw [cell_of_row w lp 0 _ _ _ hlp]; rfl
  have hlt := lt_of_get hlp
  have W1 : ∀ W, Below w.heap.size w W → Calls Tryz.prog 40 #[evV e, sttV lv mv s] W fun en w' => en = .returned (flV (fieldsL e s)) ∧ Below W.heap.size W w' := fun W hb => pfields_any e s W (h1.below hb) (h2.below hb)
  have W2 : ∀ W, Below w.heap.size w W → Calls Tryz.prog 100 #[.pointer (some ⟨cp, 0, none⟩), flV (fieldsL e s)] W fun e w' => e = .returned (verdV A Ru St) ∧ Below W.heap.size W w' := fun W hb => mjudge_any hld (hm.below hb) hF hj
  obtain ⟨sn, tg, wa, nd, wh⟩ := e
  obtain ⟨ls, df, ms, op⟩ := s
  obtain ⟨_, la, lc, rfl, _⟩ := h1
  obtain ⟨_, ma, mc, rfl, _⟩ := h2
  unfold evV sttV flV at *
  simp only [] at *
  generalize (fieldsL ⟨sn, tg, wa, nd, wh⟩ ⟨ls, df, ms, op⟩).getD 0 0 = f0 at *
  generalize (fieldsL ⟨sn, tg, wa, nd, wh⟩ ⟨ls, df, ms, op⟩).getD 1 0 = f1 at *
  generalize (fieldsL ⟨sn, tg, wa, nd, wh⟩ ⟨ls, df, ms, op⟩).getD 2 0 = f2 at *
  generalize (fieldsL ⟨sn, tg, wa, nd, wh⟩ ⟨ls, df, ms, op⟩).getD 3 0 = f3 at *
  generalize (fieldsL ⟨sn, tg, wa, nd, wh⟩ ⟨ls, df, ms, op⟩).getD 4 0 = f4 at *
  generalize (fieldsL ⟨sn, tg, wa, nd, wh⟩ ⟨ls, df, ms, op⟩).getD 5 0 = f5 at *
  generalize (fieldsL ⟨sn, tg, wa, nd, wh⟩ ⟨ls, df, ms, op⟩).getD 6 0 = f6 at *
  generalize (fieldsL ⟨sn, tg, wa, nd, wh⟩ ⟨ls, df, ms, op⟩).getD 7 0 = f7 at *
  generalize (fieldsL ⟨sn, tg, wa, nd, wh⟩ ⟨ls, df, ms, op⟩).getD 8 0 = f8 at *
  obtain ⟨w3, hw3⟩ : ∃ w3, ((w.alloc (.cells #[S sn, S tg, .int .i64 wa, .int .i64 nd, .int .i64 wh] 46)).alloc (.cells #[.slice la ls.length lc, .int .i64 df, .slice ma ms.length mc, .bool op] 50)).alloc (.cells #[.bool false, .int .i64 0, .int .i64 0] 40) = w3 := ⟨_, rfl⟩
  have hb3 : Below w.heap.size w w3 := by rw [← hw3]; exact (((Below.refl _ w).alloc (Nat.le_refl _) _).alloc (by simp) _).alloc (by simp; omega) _
  have hk1 : w3.heap[w.heap.size]? = some (.cells #[S sn, S tg, .int .i64 wa, .int .i64 nd, .int .i64 wh] 46 (0, 0)) := by rw [← hw3]; exact (Below.heap_alloc _ _ _ (by simp; omega)).trans ((Below.heap_alloc _ _ _ (by simp)).trans (heap_alloc_new w _))
  have hk2 : w3.heap[w.heap.size + 1]? = some (.cells #[.slice la ls.length lc, .int .i64 df, .slice ma ms.length mc, .bool op] 50 (0, 0)) := by
    rw [← hw3]
    refine (Below.heap_alloc _ _ _ (by simp)).trans ?_
    have := heap_alloc_new (w.alloc (.cells #[S sn, S tg, .int .i64 wa, .int .i64 nd, .int .i64 wh] 46)) (.cells #[.slice la ls.length lc, .int .i64 df, .slice ma ms.length mc, .bool op] 50)
    rw [World.size_alloc] at this; exact this
  have hk3 : w3.heap[w.heap.size + 1 + 1]? = some (.cells #[.bool false, .int .i64 0, .int .i64 0] 40 (0, 0)) := by
    rw [← hw3]
    have := heap_alloc_new ((w.alloc (.cells #[S sn, S tg, .int .i64 wa, .int .i64 nd, .int .i64 wh] 46)).alloc (.cells #[.slice la ls.length lc, .int .i64 df, .slice ma ms.length mc, .bool op] 50)) (.cells #[.bool false, .int .i64 0, .int .i64 0] 40)
    rw [World.size_alloc, World.size_alloc] at this; exact this
  have HSZ : Hid (w3.heap.size = w.heap.size + 1 + 1 + 1) := by show w3.heap.size = _; rw [← hw3, World.size_alloc, World.size_alloc, World.size_alloc]
  have q1 := fun j => cell_of_row w3 _ j _ _ _ hk1
  have q2 := fun j => cell_of_row w3 _ j _ _ _ hk2
  have c3 : w3.cell? ⟨lp, 0, none⟩ = some (.pointer (some ⟨cp, 0, none⟩)) := by rw [hb3.cell (p := ⟨lp, 0, none⟩) hlt]; exact c0
  have hS0 : Below (w.heap.size + 1 + 1) w3 w3 ∧ w3.cell? ⟨lp, 0, none⟩ = some (.pointer (some ⟨cp, 0, none⟩)) ∧ w3.cell? ⟨w.heap.size, 0, none⟩ = some (S sn) ∧ w3.cell? ⟨w.heap.size, 1, none⟩ = some (S tg) ∧ w3.cell? ⟨w.heap.size, 2, none⟩ = some (.int .i64 wa) ∧ w3.cell? ⟨w.heap.size, 3, none⟩ = some (.int .i64 nd) ∧ w3.cell? ⟨w.heap.size, 4, none⟩ = some (.int .i64 wh) ∧ w3.cell? ⟨w.heap.size + 1, 0, none⟩ = some (.slice la ls.length lc) ∧ w3.cell? ⟨w.heap.size + 1, 1, none⟩ = some (.int .i64 df) ∧ w3.cell? ⟨w.heap.size + 1, 2, none⟩ = some (.slice ma ms.length mc) ∧ w3.cell? ⟨w.heap.size + 1, 3, none⟩ = some (.bool op) := ⟨Below.refl _ _, c3, q1 0, q1 1, q1 2, q1 3, q1 4, q2 0, q2 1, q2 2, q2 3⟩
  have KB : Hid (∀ W W', (Below (w.heap.size + 1 + 1) w3 W ∧ W.cell? ⟨lp, 0, none⟩ = some (.pointer (some ⟨cp, 0, none⟩)) ∧ W.cell? ⟨w.heap.size, 0, none⟩ = some (S sn) ∧ W.cell? ⟨w.heap.size, 1, none⟩ = some (S tg) ∧ W.cell? ⟨w.heap.size, 2, none⟩ = some (.int .i64 wa) ∧ W.cell? ⟨w.heap.size, 3, none⟩ = some (.int .i64 nd) ∧ W.cell? ⟨w.heap.size, 4, none⟩ = some (.int .i64 wh) ∧ W.cell? ⟨w.heap.size + 1, 0, none⟩ = some (.slice la ls.length lc) ∧ W.cell? ⟨w.heap.size + 1, 1, none⟩ = some (.int .i64 df) ∧ W.cell? ⟨w.heap.size + 1, 2, none⟩ = some (.slice ma ms.length mc) ∧ W.cell? ⟨w.heap.size + 1, 3, none⟩ = some (.bool op)) → Below W.heap.size W W' → (Below (w.heap.size + 1 + 1) w3 W' ∧ W'.cell? ⟨lp, 0, none⟩ = some (.pointer (some ⟨cp, 0, none⟩)) ∧ W'.cell? ⟨w.heap.size, 0, none⟩ = some (S sn) ∧ W'.cell? ⟨w.heap.size, 1, none⟩ = some (S tg) ∧ W'.cell? ⟨w.heap.size, 2, none⟩ = some (.int .i64 wa) ∧ W'.cell? ⟨w.heap.size, 3, none⟩ = some (.int .i64 nd) ∧ W'.cell? ⟨w.heap.size, 4, none⟩ = some (.int .i64 wh) ∧ W'.cell? ⟨w.heap.size + 1, 0, none⟩ = some (.slice la ls.length lc) ∧ W'.cell? ⟨w.heap.size + 1, 1, none⟩ = some (.int .i64 df) ∧ W'.cell? ⟨w.heap.size + 1, 2, none⟩ = some (.slice ma ms.length mc) ∧ W'.cell? ⟨w.heap.size + 1, 3, none⟩ = some (.bool op))) := fun W W' hS hb => by
    obtain ⟨s0, s1, s2, s3, s4, s5, s6, s7, s8, s9, s10⟩ := hS
    refine ⟨s0.trans (hb.mono (by have := s0.size; have := HSZ.out; omega)), ?_, ?_, ?_, ?_, ?_, ?_, ?_, ?_, ?_, ?_⟩ <;> (rw [hb.cell (World.block_lt_of_cell? W _ (by assumption))]; assumption)
  have HK3 : Hid _ := hk3
  have HB3 : Hid _ := hb3
  have HG : Hid (∀ W, Below (w.heap.size + 1 + 1) w3 W → Below w.heap.size w W) := fun W h => hb3.trans (h.mono (by omega))
  have V1 : ∀ W, Below (w.heap.size + 1 + 1) w3 W → _ := fun W h => W1 W (HG.out W h)
  have V2 : ∀ W, Below (w.heap.size + 1 + 1) w3 W → _ := fun W h => W2 W (HG.out W h)
  have HR : Hid (∀ W, Below w3.heap.size w3 W → W.cell? ⟨w.heap.size + 1 + 1, 0, none⟩ = some (.bool false) ∧ W.cell? ⟨w.heap.size + 1 + 1, 1, none⟩ = some (.int .i64 0) ∧ W.cell? ⟨w.heap.size + 1 + 1, 2, none⟩ = some (.int .i64 0) ∧ W.frozen? ⟨w.heap.size + 1 + 1, 0, none⟩ = false ∧ W.frozen? ⟨w.heap.size + 1 + 1, 1, none⟩ = false ∧ W.frozen? ⟨w.heap.size + 1 + 1, 2, none⟩ = false) := fun W h => by
    have hk : W.heap[w.heap.size + 1 + 1]? = _ := (h.block _ (lt_of_get hk3)).trans hk3
    have hcc := fun j => cell_of_row W _ j _ _ _ hk
    exact ⟨hcc 0, hcc 1, hcc 2, by simp [World.frozen?, hk], by simp [World.frozen?, hk], by simp [World.frozen?, hk]⟩
  have KD : Hid (∀ W : World, (Below (w.heap.size + 1 + 1) w3 W ∧ W.cell? ⟨lp, 0, none⟩ = some (.pointer (some ⟨cp, 0, none⟩)) ∧ W.cell? ⟨w.heap.size, 0, none⟩ = some (S sn) ∧ W.cell? ⟨w.heap.size, 1, none⟩ = some (S tg) ∧ W.cell? ⟨w.heap.size, 2, none⟩ = some (.int .i64 wa) ∧ W.cell? ⟨w.heap.size, 3, none⟩ = some (.int .i64 nd) ∧ W.cell? ⟨w.heap.size, 4, none⟩ = some (.int .i64 wh) ∧ W.cell? ⟨w.heap.size + 1, 0, none⟩ = some (.slice la ls.length lc) ∧ W.cell? ⟨w.heap.size + 1, 1, none⟩ = some (.int .i64 df) ∧ W.cell? ⟨w.heap.size + 1, 2, none⟩ = some (.slice ma ms.length mc) ∧ W.cell? ⟨w.heap.size + 1, 3, none⟩ = some (.bool op)) → (Below (w.heap.size + 1 + 1) w3 W.drew ∧ W.drew.cell? ⟨lp, 0, none⟩ = some (.pointer (some ⟨cp, 0, none⟩)) ∧ W.drew.cell? ⟨w.heap.size, 0, none⟩ = some (S sn) ∧ W.drew.cell? ⟨w.heap.size, 1, none⟩ = some (S tg) ∧ W.drew.cell? ⟨w.heap.size, 2, none⟩ = some (.int .i64 wa) ∧ W.drew.cell? ⟨w.heap.size, 3, none⟩ = some (.int .i64 nd) ∧ W.drew.cell? ⟨w.heap.size, 4, none⟩ = some (.int .i64 wh) ∧ W.drew.cell? ⟨w.heap.size + 1, 0, none⟩ = some (.slice la ls.length lc) ∧ W.drew.cell? ⟨w.heap.size + 1, 1, none⟩ = some (.int .i64 df) ∧ W.drew.cell? ⟨w.heap.size + 1, 2, none⟩ = some (.slice ma ms.length mc) ∧ W.drew.cell? ⟨w.heap.size + 1, 3, none⟩ = some (.bool op))) := fun W hS => ⟨hS.1.drew, hS.2⟩
  have KS : Hid (∀ (W : World) (v0 v1 v2 : Value), (Below (w.heap.size + 1 + 1) w3 W ∧ W.cell? ⟨lp, 0, none⟩ = some (.pointer (some ⟨cp, 0, none⟩)) ∧ W.cell? ⟨w.heap.size, 0, none⟩ = some (S sn) ∧ W.cell? ⟨w.heap.size, 1, none⟩ = some (S tg) ∧ W.cell? ⟨w.heap.size, 2, none⟩ = some (.int .i64 wa) ∧ W.cell? ⟨w.heap.size, 3, none⟩ = some (.int .i64 nd) ∧ W.cell? ⟨w.heap.size, 4, none⟩ = some (.int .i64 wh) ∧ W.cell? ⟨w.heap.size + 1, 0, none⟩ = some (.slice la ls.length lc) ∧ W.cell? ⟨w.heap.size + 1, 1, none⟩ = some (.int .i64 df) ∧ W.cell? ⟨w.heap.size + 1, 2, none⟩ = some (.slice ma ms.length mc) ∧ W.cell? ⟨w.heap.size + 1, 3, none⟩ = some (.bool op)) → (Below (w.heap.size + 1 + 1) w3 (((W.setCell ⟨w.heap.size + 1 + 1, 0, none⟩ v0).setCell ⟨w.heap.size + 1 + 1, 1, none⟩ v1).setCell ⟨w.heap.size + 1 + 1, 2, none⟩ v2) ∧ (((W.setCell ⟨w.heap.size + 1 + 1, 0, none⟩ v0).setCell ⟨w.heap.size + 1 + 1, 1, none⟩ v1).setCell ⟨w.heap.size + 1 + 1, 2, none⟩ v2).cell? ⟨lp, 0, none⟩ = some (.pointer (some ⟨cp, 0, none⟩)) ∧ (((W.setCell ⟨w.heap.size + 1 + 1, 0, none⟩ v0).setCell ⟨w.heap.size + 1 + 1, 1, none⟩ v1).setCell ⟨w.heap.size + 1 + 1, 2, none⟩ v2).cell? ⟨w.heap.size, 0, none⟩ = some (S sn) ∧ (((W.setCell ⟨w.heap.size + 1 + 1, 0, none⟩ v0).setCell ⟨w.heap.size + 1 + 1, 1, none⟩ v1).setCell ⟨w.heap.size + 1 + 1, 2, none⟩ v2).cell? ⟨w.heap.size, 1, none⟩ = some (S tg) ∧ (((W.setCell ⟨w.heap.size + 1 + 1, 0, none⟩ v0).setCell ⟨w.heap.size + 1 + 1, 1, none⟩ v1).setCell ⟨w.heap.size + 1 + 1, 2, none⟩ v2).cell? ⟨w.heap.size, 2, none⟩ = some (.int .i64 wa) ∧ (((W.setCell ⟨w.heap.size + 1 + 1, 0, none⟩ v0).setCell ⟨w.heap.size + 1 + 1, 1, none⟩ v1).setCell ⟨w.heap.size + 1 + 1, 2, none⟩ v2).cell? ⟨w.heap.size, 3, none⟩ = some (.int .i64 nd) ∧ (((W.setCell ⟨w.heap.size + 1 + 1, 0, none⟩ v0).setCell ⟨w.heap.size + 1 + 1, 1, none⟩ v1).setCell ⟨w.heap.size + 1 + 1, 2, none⟩ v2).cell? ⟨w.heap.size, 4, none⟩ = some (.int .i64 wh) ∧ (((W.setCell ⟨w.heap.size + 1 + 1, 0, none⟩ v0).setCell ⟨w.heap.size + 1 + 1, 1, none⟩ v1).setCell ⟨w.heap.size + 1 + 1, 2, none⟩ v2).cell? ⟨w.heap.size + 1, 0, none⟩ = some (.slice la ls.length lc) ∧ (((W.setCell ⟨w.heap.size + 1 + 1, 0, none⟩ v0).setCell ⟨w.heap.size + 1 + 1, 1, none⟩ v1).setCell ⟨w.heap.size + 1 + 1, 2, none⟩ v2).cell? ⟨w.heap.size + 1, 1, none⟩ = some (.int .i64 df) ∧ (((W.setCell ⟨w.heap.size + 1 + 1, 0, none⟩ v0).setCell ⟨w.heap.size + 1 + 1, 1, none⟩ v1).setCell ⟨w.heap.size + 1 + 1, 2, none⟩ v2).cell? ⟨w.heap.size + 1, 2, none⟩ = some (.slice ma ms.length mc) ∧ (((W.setCell ⟨w.heap.size + 1 + 1, 0, none⟩ v0).setCell ⟨w.heap.size + 1 + 1, 1, none⟩ v1).setCell ⟨w.heap.size + 1 + 1, 2, none⟩ v2).cell? ⟨w.heap.size + 1, 3, none⟩ = some (.bool op))) := fun W v0 v1 v2 hS => by
    obtain ⟨s0, s1, s2, s3, s4, s5, s6, s7, s8, s9, s10⟩ := hS
    refine ⟨((s0.setCell (by simp) _).setCell (by simp) _).setCell (by simp) _, ?_, ?_, ?_, ?_, ?_, ?_, ?_, ?_, ?_, ?_⟩ <;>
      (rw [World.cell?_setCell_far _ _ _ _ (by simp only []; omega), World.cell?_setCell_far _ _ _ _ (by simp only []; omega), World.cell?_setCell_far _ _ _ _ (by simp only []; omega)]; assumption)
  clear W1 W2
  have HW : Hid _ := hw3
  have c3' := c3
  rw [← hw3] at c3'
  clear hlp hm hF hj hld hk1 hk2 hk3 q1 q2 hb3 hw3 c3
  go_enter Tryz.func53, Tryz.ntmps53
  go_wp2_with fail
  rw [HW.out]
  unfold verdV at V2
  go_region_held3 (fun W => Below (w.heap.size + 1 + 1) w3 W ∧ W.cell? ⟨lp, 0, none⟩ = some (.pointer (some ⟨cp, 0, none⟩)) ∧ W.cell? ⟨w.heap.size, 0, none⟩ = some (S sn) ∧ W.cell? ⟨w.heap.size, 1, none⟩ = some (S tg) ∧ W.cell? ⟨w.heap.size, 2, none⟩ = some (.int .i64 wa) ∧ W.cell? ⟨w.heap.size, 3, none⟩ = some (.int .i64 nd) ∧ W.cell? ⟨w.heap.size, 4, none⟩ = some (.int .i64 wh) ∧ W.cell? ⟨w.heap.size + 1, 0, none⟩ = some (.slice la ls.length lc) ∧ W.cell? ⟨w.heap.size + 1, 1, none⟩ = some (.int .i64 df) ∧ W.cell? ⟨w.heap.size + 1, 2, none⟩ = some (.slice ma ms.length mc) ∧ W.cell? ⟨w.heap.size + 1, 3, none⟩ = some (.bool op)) (first | with_reducible assumption | with_reducible exact KD.out _ (by assumption) | with_reducible exact KB.out _ _ (by assumption) (by assumption) | with_reducible exact KS.out _ _ _ _ (by assumption) | go_keep)
    (first
      | (go_at_call 40; refine (V1 _ (by exact And.left (by assumption))).mono ?_; rintro e w4 ⟨rfl, hb4⟩)
      | (go_at_call 100; refine (V2 _ (by exact And.left (by assumption))).mono ?_; rintro e w5 ⟨rfl, hb5⟩; obtain ⟨r0, r1, r2, g0, g1, g2⟩ := HR.out _ (Below.trans ⟨hb4.os, hb4.tape, hb4.output, hb4.size, hb4.block⟩ (hb5.mono hb4.size))))
  rename_i hHeld
  have HBl : Hid _ := HG.out _ hHeld.1
  clear hHeld KB KD KS V1 V2 HR HG hS0 hb4 hb5
  go_wp2
  refine bodyPost_ret (v := verdV A Ru St) (by simp [results, Tryz.results53, go_sem, verdV, cell_set_same, cell_set_off, some_set, r0, r1, r2]) rfl ?_
  exact ⟨rfl, HBl.out⟩
end Go.Proofs.YtfkdailfcmnjlaaGreatDoor
