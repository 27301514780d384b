/-
  The program reads a code's instructions. The program loads a code. A stack of values: Push, Pop. What the machine does for each instruction: the table.
-/
import Derived.Test.YtfkdailfcmnjlaaDoorJA
import Derived.Test.YtfkdailfcmnjlaaDoorJB
import Derived.Test.YtfkdailfcmnjlaaDoorJC
import Derived.Test.YtfkdailfcmnjlaaDoorJD
import Derived.Test.YtfkdailfcmnjlaaDoorJE
import Derived.Test.YtfkdailfcmnjlaaDoorJF
import Derived.Test.YtfkdailfcmnjlaaDoorJG
import Derived.Test.YtfkdailfcmnjlaaDoorJH
import Derived.Test.YtfkdailfcmnjlaaDoorJI
set_option linter.unusedVariables false
set_option linter.unusedSimpArgs false
namespace Go.Proofs.YtfkdailfcmnjlaaDoor
open Go Go.RowKit
set_option maxRecDepth 100000
attribute [local go_sem ↓] Go.wp_at_zero Go.wp_at_succ

def hdBad (b : List UInt8) : Prop := b.length < 4 ∨ 4000 < b.length ∨ byteAt b 0 ≠ 71 ∨ 24 < byteAt b 1
def hdBad_dec (b : List UInt8) : Decidable (hdBad b) := by unfold hdBad; infer_instance
def decP (b : List UInt8) : Option (List Ins) := @ite _ (hdBad b) (hdBad_dec b) none (dec (b.length + 1) b 3)
def CodeAns (b : List UInt8) (r : Option (List Ins)) (w : World) (e : Ending) (w' : World) : Prop :=
  (match r with
    | none => ∃ v, e = .returned (.tuple #[v, .bool false])
    | some ins => ∃ cp gi cap, e = .returned (.tuple #[.pointer (some ⟨cp, 0, none⟩), .bool true]) ∧ CodeAt w' cp gi cap (byteAt b 2) (byteAt b 1) ins) ∧ Below w.heap.size w w'
/-- Instructions whose jumps weren't looked for, in memory. -/
def ic0 (l : List Ins) : List Value := l.flatMap fun x => [.int .i64 (x.op : Nat), .int .i64 x.n, .int .i64 0, .int .i64 (x.pl : Nat)]
theorem ic0_len (l : List Ins) : (ic0 l).length = l.length * 4 := by
  induction l with
  | nil => rfl
  | cons x r ih => simp [ic0] at ih ⊢; omega
theorem ic0_at (l : List Ins) : ∀ i, i < l.length → (ic0 l)[i * 4]? = some (.int .i64 ((l.getD i noIns).op : Nat)) ∧ (ic0 l)[i * 4 + 1]? = some (.int .i64 (l.getD i noIns).n) ∧ (ic0 l)[i * 4 + 2]? = some (.int .i64 0) ∧ (ic0 l)[i * 4 + 3]? = some (.int .i64 ((l.getD i noIns).pl : Nat)) := by
  induction l with
  | nil => intro i hi; simp at hi
  | cons x r ih =>
    intro i hi
    have e : ic0 (x :: r) = Value.int .i64 (x.op : Nat) :: .int .i64 x.n :: .int .i64 0 :: .int .i64 (x.pl : Nat) :: ic0 r := rfl
    cases i with
    | zero => rw [e]; exact ⟨rfl, rfl, rfl, rfl⟩
    | succ i =>
      obtain ⟨a, b, c, d⟩ := ih i (by simpa using hi)
      rw [e, show (i + 1) * 4 = i * 4 + 1 + 1 + 1 + 1 by omega, show i * 4 + 1 + 1 + 1 + 1 + 1 = i * 4 + 1 + 1 + 1 + 1 + 1 by rfl, show i * 4 + 1 + 1 + 1 + 1 + 2 = i * 4 + 2 + 1 + 1 + 1 + 1 by omega, show i * 4 + 1 + 1 + 1 + 1 + 3 = i * 4 + 3 + 1 + 1 + 1 + 1 by omega]
      simp only [List.getElem?_cons_succ, List.getD_cons_succ]
      exact ⟨a, b, c, d⟩
theorem ic0_snoc (l : List Ins) (x : Ins) : ic0 (l ++ [x]) = ic0 l ++ [.int .i64 (x.op : Nat), .int .i64 x.n, .int .i64 0, .int .i64 (x.pl : Nat)] := by simp [ic0]
theorem row_j {w : World} {base gi cap : Nat} {ins : List Ins} (h : w.ownsRow base 105 4 (.slice (some ⟨gi, 0, none⟩) ins.length cap) ins.length (ic0 ins)) : RowJ w gi ins 0 := by
  have hc : ∀ j, j < ins.length * 4 → w.cell? ⟨gi, j, none⟩ = (ic0 ins)[j]? := fun j hj => h.cellAt j hj
  refine ⟨fun i hi => ?_, fun i hi => ?_, fun i hi => ?_, fun i hi => ?_⟩
  · rw [hc _ (by omega)]; exact (ic0_at ins i hi).1
  · rw [hc _ (by omega)]; exact (ic0_at ins i hi).2.1
  · rw [hc _ (by omega), if_neg (by omega)]; exact (ic0_at ins i hi).2.2.1
  · rw [hc _ (by omega)]; exact (ic0_at ins i hi).2.2.2
/-- Between the rounds of reading. -/
structure RdI (w wr : World) (b : List UInt8) (a : Nat) (D : Option (List Ins)) (pre : List Ins) (v : Value) : Prop where
  bel : Below w.heap.size w wr
  blk : wr.heap[w.heap.size]? = some (.cells #[.int .i64 (byteAt b 2 : Nat), v, .int .i64 (byteAt b 1 : Nat)] 96 (0, 0))
  row : wr.ownsRow w.heap.size 105 4 v pre.length (ic0 pre)
  dcd : ∃ f, b.length < a + f ∧ D = (dec f b a).map (pre ++ ·)
  len : pre.length + 3 ≤ a
  lo : a ≤ b.length
theorem RdI.at_ {w wr w3 : World} {b : List UInt8} {a : Nat} {D : Option (List Ins)} {pre : List Ins} {v : Value} (h : RdI w wr b a D pre v) (h3 : Below wr.heap.size wr w3) : w3.heap[w.heap.size]? = some (.cells #[.int .i64 (byteAt b 2 : Nat), v, .int .i64 (byteAt b 1 : Nat)] 96 (0, 0)) ∧ w3.ownsRow w.heap.size 105 4 v pre.length (ic0 pre) ∧ Below w.heap.size w w3 ∧ w.heap.size < wr.heap.size :=
  ⟨(h3.block _ (lt_of_get h.blk)).trans h.blk, ownsRow_below h.row h3, h.bel.trans (h3.mono h.bel.size), lt_of_get h.blk⟩
theorem row_apart {w : World} {base cp : Nat} {v : Value} {n : Nat} {xs cs : List Value} (h : w.ownsRow base 105 4 v n xs) (hc : w.heap[cp]? = some (.cells cs.toArray 96 (0, 0))) : some cp ≠ v.ownBlock := fun e => by
  obtain ⟨cs', h'⟩ := ownsRow_type h e.symm
  rw [hc] at h'; simp at h'
theorem RdI.next {w wr w3 w4 : World} {b : List UInt8} {a a' : Nat} {D : Option (List Ins)} {pre : List Ins} {v v' : Value} {x : Ins} {o' : Obj} (h : RdI w wr b a D pre v) (h3 : Below wr.heap.size wr w3) (hgrow : (w3.alloc o').grownBy w4 v.ownBlock) (hown : w4.ownsRow w.heap.size 105 4 v' (pre.length + 1) (ic0 pre ++ [.int .i64 (x.op : Nat), .int .i64 x.n, .int .i64 0, .int .i64 (x.pl : Nat)]))
    (hd : ∃ f, b.length < a' + f ∧ D = (dec f b a').map ((pre ++ [x]) ++ ·)) (ha : a + 1 ≤ a') (ha2 : a' ≤ b.length) : RdI w (w4.setCell ⟨w.heap.size, 1, none⟩ v') b a' D (pre ++ [x]) v' := by
  obtain ⟨q1, q2, q3, q4⟩ := h.at_ h3
  have hs := h3.size
  have hne := row_apart (cs := [_, _, _]) q2 q1
  have hblk : w4.heap[w.heap.size]? = _ := (hgrow.block _ (by rw [World.size_alloc]; omega) hne).trans ((Below.heap_alloc w3 o' _ (by omega)).trans q1)
  have hne2 := row_apart (cs := [_, _, _]) hown hblk
  refine ⟨?_, ?_, ?_, hd, by have := h.len; simp; omega, ha2⟩
  · have hb3 : Below w.heap.size w (w3.alloc o') := q3.alloc q3.size _
    exact (Below.grown hb3 hgrow hb3.size (fun k hk => (q2.lt k hk).1)).setCell (by simp) _
  · rw [heap_setCell_same w4 _ 1 _ _ _ hblk]; rfl
  · rw [List.length_append, ic0_snoc]
    exact ownsRow_setCell_other hown (a := ⟨w.heap.size, 1, none⟩) (fun e => hne2 e.symm) _
theorem info_ins : (Tryd.prog.info? 105).map (fun i => (i.zero, i.size, i.bytes)) = some (some (.agg #[.int .i64 0, .int .i64 0, .int .i64 0, .int .i64 0]), 4, 32) := by kernel_rfl
set_option maxHeartbeats 4000000 in
theorem pread_bad {b : List UInt8} (hb : hdBad b) (w : World) : Calls Tryd.prog 23 #[S b] w fun e w' => CodeAns b none w e w' := by
  have HB : Hid (∀ (v : Value), CodeAns b none w (.returned (.tuple #[v, .bool false])) w) := fun v => ⟨⟨v, rfl⟩, Below.refl _ _⟩
  have HBd : Hid (∀ (v : Value), CodeAns b none w (.returned (.tuple #[v, .bool false])) w.drew) := fun v => ⟨⟨v, rfl⟩, (Below.refl _ _).drew⟩
  by_cases h1 : 4000 < b.length
  · have h1' : (4000 : Int) < (b.length : Int) := by omega
    clear hb
    go_enter Tryd.func23, Tryd.ntmps23
    go_wp2
    go_ret2
    exact HB.out _
  by_cases h2 : b.length < 4
  · have h2' : (b.length : Int) ≤ 3 := by omega
    clear hb
    go_enter Tryd.func23, Tryd.ntmps23
    go_wp2
    go_ret2
    exact HB.out _
  have hs0 : 0 < (ByteArray.mk b.toArray).size := by show 0 < b.length; omega
  have hs1 : 1 < (ByteArray.mk b.toArray).size := by show 1 < b.length; omega
  have b0 := pba_at b 0 hs0
  have b1 := pba_at b 1 hs1
  have hl1 : (3 : Int) < (b.length : Int) := by omega
  have hl2 : ¬ ((4000 : Int) < (b.length : Int)) := by omega
  by_cases h3 : byteAt b 0 = 71
  · have h4 : 24 < byteAt b 1 := by
      unfold hdBad at hb; omega
    have h4' : (24 : Int) < (byteAt b 1 : Int) := by omega
    rw [h3] at b0
    generalize byteAt b 1 = y at *
    clear hb h3
    go_enter Tryd.func23, Tryd.ntmps23
    go_wp2
    go_ret2
    exact HB.out _
  · have h3' : ((byteAt b 0 : Int) != 71) = true := by simp; omega
    generalize byteAt b 0 = x at *
    clear hb h3
    go_enter Tryd.func23, Tryd.ntmps23
    go_wp2
    go_ret2
    exact HB.out _
set_option maxHeartbeats 8000000 in
theorem pread_good {b : List UInt8} (hb : ¬ hdBad b) (w : World) : Calls Tryd.prog 23 #[S b] w fun e w' => CodeAns b (dec (b.length + 1) b 3) w e w' := by
  have hb1 : 4 ≤ b.length ∧ b.length ≤ 4000 ∧ byteAt b 0 = 71 ∧ byteAt b 1 ≤ 24 := by unfold hdBad at hb; omega
  obtain ⟨hl0, hl9, h71, h24⟩ := hb1
  have hs0 : 0 < (ByteArray.mk b.toArray).size := by show 0 < b.length; omega
  have hs1 : 1 < (ByteArray.mk b.toArray).size := by show 1 < b.length; omega
  have hs2 : 2 < (ByteArray.mk b.toArray).size := by show 2 < b.length; omega
  have b0 := pba_at b 0 hs0
  have b1 := pba_at b 1 hs1
  have b2 := pba_at b 2 hs2
  rw [h71] at b0
  have hc2 := byte_lt b 2
  have hl1 : (3 : Int) < (b.length : Int) := by omega
  have hl2 : ¬ ((4000 : Int) < (b.length : Int)) := by omega
  generalize hD : dec (b.length + 1) b 3 = D
  have HI0 : Hid (RdI w (w.alloc (.cells #[.int .i64 (byteAt b 2 : Nat), .slice none 0 0, .int .i64 (byteAt b 1 : Nat)] 96)).drew b 3 D [] (.slice none 0 0)) :=
    ⟨((Below.refl _ _).alloc (Nat.le_refl _) _).drew, heap_alloc_new w _, World.ownsRow_nil _ _ _ _, ⟨b.length + 1, by omega, by rw [hD]; cases D <;> rfl⟩, by simp, by omega⟩
  have HD0 : Hid _ := hD
  clear hb hD h71
  go_enter Tryd.func23, Tryd.ntmps23
  go_wp2_with fail
  go_region
  go_wp2_with fail
  generalize (w.alloc (.cells #[.int .i64 (byteAt b 2 : Nat), .slice none 0 0, .int .i64 (byteAt b 1 : Nat)] 96)).drew = W0 at *
  go_loopw [5] (fun av wr => ∃ a : Nat, a ≤ b.length ∧ av = .int .i64 a ∧ Hid (∃ pre v, RdI w wr b a D pre v)) (fun av _ => b.length - (intOf av).toNat)
  case atStart => exact ⟨3, by omega, rfl, _, _, HI0.out⟩
  case round =>
    obtain ⟨a, ha, rfl, HI⟩ := hrel
    obtain ⟨pre, v, hI⟩ := HI.out
    by_cases hlt : a < b.length
    · have hsa : a < (ByteArray.mk b.toArray).size := hlt
      have ba := pba_at b a hsa
      have ho := byte_lt b a
      have hf := follow_le (byteAt b a)
      have W1 := fun w => psize_any (byteAt b a) 0 0 (a : Nat) w
      unfold insV at W1
      have HSH : Hid (b.length < a + 1 + followP (byteAt b a) → ¬ okD b a) := fun h => read_short h
      have HMA : Hid (a + 1 + followP (byteAt b a) ≤ b.length → (mayP (byteAt b a) (numP b a) (byteAt b 2) = true ↔ okD b a)) := fun h => may_iff h
      have HIN : Hid (okD b a → insAt b a = ⟨byteAt b a, numP b a, a⟩ ∧ sizeOp (byteAt b a) = 1 + followP (byteAt b a)) := fun h => ins_read h
      have HDN : Hid (¬ okD b a → D = none) := fun hno => by
        obtain ⟨f, h1, h2⟩ := hI.dcd
        obtain ⟨f', rfl⟩ : ∃ f', f = f' + 1 := ⟨f - 1, by omega⟩
        rw [h2, dec_succ hlt, if_neg hno]; rfl
      have HDS : Hid (okD b a → ∃ f, b.length < (a + (1 + followP (byteAt b a))) + f ∧ D = (dec f b (a + (1 + followP (byteAt b a)))).map ((pre ++ [⟨byteAt b a, numP b a, a⟩]) ++ ·)) := fun hok => by
        obtain ⟨f, h1, h2⟩ := hI.dcd
        obtain ⟨f', rfl⟩ : ∃ f', f = f' + 1 := ⟨f - 1, by omega⟩
        obtain ⟨q1, q2⟩ := ins_read hok
        refine ⟨f', by omega, ?_⟩
        rw [h2, dec_succ hlt, if_pos hok, q1, q2]
        cases dec f' b (a + (1 + followP (byteAt b a))) <;> simp
      have hnumb : numP b a = signed64 (beVal (cut b (a + 1) (a + 1 + followP (byteAt b a))) 0 (followP (byteAt b a))) := by rw [be_cut _ _ _ _ (by omega)]; rfl
      have W2 := fun w => number_any (cut b (a + 1) (a + 1 + followP (byteAt b a))) (by unfold cut; simp; omega) w
      have hBl : Hid (∀ w', Below wr.heap.size wr w' → Below w.heap.size w w') := fun w' h => hI.bel.trans (h.mono hI.bel.size)
      clear HI
      generalize hok : byteAt b a = o at *
      generalize followP o = f at *
      by_cases hsh : b.length < a + 1 + f
      · have HDf : Hid (D = none) := HDN.out (HSH.out hsh)
        have hsh' : ((b.length : Int)) < (a : Int) + ((1 + f : Nat) : Int) := by omega
        clear HSH HMA HIN HDN HDS W2 hnumb hI
        go_wp2_with fail
        refine (W1 _).mono ?_
        rintro e w2 ⟨rfl, hb2⟩
        have HU : Hid (Below w.heap.size w w2) := hBl.out w2 (((Below.refl wr.heap.size wr).alloc (Nat.le_refl _) _).trans (hb2.mono (by simp)))
        clear hb2 W1
        go_wp2
        go_ret2
        rw [HDf.out]
        exact ⟨⟨_, rfl⟩, HU.out⟩
      · obtain ⟨w1, hw1⟩ : ∃ w1, wr.alloc (.cells #[.int .i64 (o : Nat), .int .i64 0, .int .i64 0, .int .i64 (a : Nat)] 105) = w1 := ⟨_, rfl⟩
        have hb1 : Below wr.heap.size wr w1 := by rw [← hw1]; exact (Below.refl _ _).alloc (Nat.le_refl _) _
        have hk1 : w1.heap[wr.heap.size]? = some (.cells #[.int .i64 (o : Nat), .int .i64 0, .int .i64 0, .int .i64 (a : Nat)] 105 (0, 0)) := by rw [← hw1]; exact heap_alloc_new wr _
        have HW1 : Hid _ := hw1
        have HI2 : Hid _ := hI
        have hcut : ({ data := b.toArray } : ByteArray).extract (a + 1) (a + 1 + f) = ⟨(cut b (a + 1) (a + 1 + f)).toArray⟩ := cut_ex _ _ _
        have hclen : (cut b (a + 1) (a + 1 + f)).length = f := by rw [cut_len _ _ _ (by omega)]; omega
        rw [hclen] at W2
        rw [← hnumb] at W2
        have hsl : (0 : Int) ≤ (a : Int) + 1 ∧ (a : Int) + 1 ≤ (a : Int) + 1 + f ∧ (a : Int) + 1 + f ≤ (b.length : Int) := by omega
        have hnsh : ¬ ((b.length : Int)) < (a : Int) + ((1 + f : Nat) : Int) := by omega
        generalize numP b a = m at *
        clear hnumb hI hw1
        go_wp2_with fail
        rw [HW1.out]
        refine (W1 _).mono ?_
        rintro e w2 ⟨rfl, hb2⟩
        have hk2 : w2.heap[wr.heap.size]? = _ := (hb2.block _ (lt_of_get hk1)).trans hk1
        have hcc := fun j => cell_of_row w2 _ j _ _ _ hk2
        have d0 : w2.cell? ⟨wr.heap.size, 0, none⟩ = some (.int .i64 (o : Nat)) := hcc 0
        have d1 : w2.cell? ⟨wr.heap.size, 1, none⟩ = some (.int .i64 0) := hcc 1
        have d2 : w2.cell? ⟨wr.heap.size, 2, none⟩ = some (.int .i64 0) := hcc 2
        have d3 : w2.cell? ⟨wr.heap.size, 3, none⟩ = some (.int .i64 (a : Nat)) := hcc 3
        have df : w2.frozen? ⟨wr.heap.size, 1, none⟩ = false := by simp [World.frozen?, hk2]
        have HB2 : Hid _ := hb1.trans (hb2.mono hb1.size)
        have HK2 : Hid _ := hk2
        clear hcc hb2 hk2 hb1 hk1 W1
        go_wp2_with fail
        rw [show a + (1 + f) = a + 1 + f by omega, hcut]
        refine (W2 _).mono ?_
        rintro e w2' ⟨rfl, rfl⟩
        clear W2
        have hS3 : (w2'.setCell ⟨wr.heap.size, 1, none⟩ (.int .i64 m)).heap[wr.heap.size]? = some (.cells #[.int .i64 (o : Nat), .int .i64 m, .int .i64 0, .int .i64 (a : Nat)] 105 (0, 0)) := by rw [heap_setCell_same w2' _ 1 _ _ _ HK2.out]; rfl
        have hB3 : Below wr.heap.size wr (w2'.setCell ⟨wr.heap.size, 1, none⟩ (.int .i64 m)) := HB2.out.setCell (by simp) _
        have hC3 : (w2'.setCell ⟨wr.heap.size, 1, none⟩ (.int .i64 m)).cell? ⟨w.heap.size, 0, none⟩ = some (.int .i64 (byteAt b 2 : Nat)) := by rw [cell_of_row _ _ 0 _ _ _ (HI2.out.at_ hB3).1]; rfl
        have hE3 := fun j => cell_of_row _ _ j _ _ _ hS3
        have e0 : (w2'.setCell ⟨wr.heap.size, 1, none⟩ (.int .i64 m)).cell? ⟨wr.heap.size, 0, none⟩ = some (.int .i64 (o : Nat)) := hE3 0
        have e1 : (w2'.setCell ⟨wr.heap.size, 1, none⟩ (.int .i64 m)).cell? ⟨wr.heap.size, 1, none⟩ = some (.int .i64 m) := hE3 1
        have e2 : (w2'.setCell ⟨wr.heap.size, 1, none⟩ (.int .i64 m)).cell? ⟨wr.heap.size, 2, none⟩ = some (.int .i64 0) := hE3 2
        have e3 : (w2'.setCell ⟨wr.heap.size, 1, none⟩ (.int .i64 m)).cell? ⟨wr.heap.size, 3, none⟩ = some (.int .i64 (a : Nat)) := hE3 3
        have W3 := mayBe_any o m 0 (a : Nat) hC3
        unfold insV at W3
        have HS3 : Hid _ := hS3
        have HB3 : Hid _ := hB3
        clear hS3 hB3 hE3 hC3
        go_wp2_with fail
        refine W3.mono ?_
        rintro e w3 ⟨rfl, hb3⟩
        have hk3 : w3.heap[wr.heap.size]? = _ := (hb3.block _ (lt_of_get HS3.out)).trans HS3.out
        have hB3 : Below wr.heap.size wr w3 := HB3.out.trans (hb3.mono HB3.out.size)
        clear W3 e0 e1 e2 e3 d0 d1 d2 d3 df hb3
        have hma := HMA.out (by omega)
        generalize hmm : mayP o m (byteAt b 2) = r at *
        clear hmm
        cases r with
        | false =>
          have HDf : Hid (D = none) := HDN.out (fun h => by have := hma.2 h; cases this)
          have HU : Hid (Below w.heap.size w w3) := hBl.out w3 hB3
          clear hk3 hB3 hma HSH HMA HIN HDN HDS
          go_wp2
          go_ret2
          rw [HDf.out]
          exact ⟨⟨_, rfl⟩, HU.out⟩
        | true =>
          obtain ⟨q1, q2, q3, q4⟩ := HI2.out.at_ hB3
          obtain ⟨va, vcap, rfl⟩ : ∃ va vcap, v = .slice va pre.length vcap := by
            rcases q2.2 with ⟨h, h0⟩ | ⟨g, c, _, h, _⟩
            · exact ⟨none, 0, by rw [h, h0]⟩
            · exact ⟨_, _, h⟩
          have hcc := fun j => cell_of_row w3 _ j _ _ _ hk3
          have d0 : w3.cell? ⟨wr.heap.size, 0, none⟩ = some (.int .i64 (o : Nat)) := hcc 0
          have d1 : w3.cell? ⟨wr.heap.size, 1, none⟩ = some (.int .i64 m) := hcc 1
          have d2 : w3.cell? ⟨wr.heap.size, 2, none⟩ = some (.int .i64 0) := hcc 2
          have d3 : w3.cell? ⟨wr.heap.size, 3, none⟩ = some (.int .i64 (a : Nat)) := hcc 3
          have c1 : w3.cell? ⟨w.heap.size, 1, none⟩ = some (.slice va pre.length vcap) := by rw [cell_of_row w3 _ 1 _ _ _ q1]; rfl
          have cf : w3.frozen? ⟨w.heap.size, 1, none⟩ = false := by simp [World.frozen?, q1]
          have hne := row_apart (cs := [_, _, _]) q2 q1
          obtain ⟨i0, hi, hz⟩ := Option.map_eq_some_iff.1 info_ins
          simp only [Prod.mk.injEq] at hz
          obtain ⟨hz0, hz1, hz2⟩ := hz
          have hplen : pre.length ≤ 4000 := by have := HI2.out.len; omega
          have hcp3 : w.heap.size < w3.heap.size := by have := hB3.size; omega
          have hnews : ∀ j u, [Value.int .i64 (o : Nat), .int .i64 m, .int .i64 0, .int .i64 (a : Nat)][j]? = some u → ((w3.alloc (.cells #[.int .i64 (o : Nat), .int .i64 m, .int .i64 0, .int .i64 (a : Nat)] 105)).drew).cell? ((⟨w3.heap.size, 0, none⟩ : Addr).add j) = some u := World.news_of_block (w := (w3.alloc (.cells #[.int .i64 (o : Nat), .int .i64 m, .int .i64 0, .int .i64 (a : Nat)] 105)).drew) (heap_alloc_new w3 _)
          have hone : ∀ u ∈ [Value.int .i64 (o : Nat), .int .i64 m, .int .i64 0, .int .i64 (a : Nat)], u.oneCell' = true := by
            intro u hu
            simp at hu
            rcases hu with rfl | rfl | rfl | rfl <;> rfl
          have hown3 : ((w3.alloc (.cells #[.int .i64 (o : Nat), .int .i64 m, .int .i64 0, .int .i64 (a : Nat)] 105)).drew).ownsRow w.heap.size 105 4 (.slice va pre.length vcap) pre.length (ic0 pre) := q2.alloc _
          have hfar : ∀ w4, ((w3.alloc (.cells #[.int .i64 (o : Nat), .int .i64 m, .int .i64 0, .int .i64 (a : Nat)] 105)).drew).grownBy w4 (Value.slice va pre.length vcap).ownBlock → w4.cell? ⟨w.heap.size, 1, none⟩ = some (.slice va pre.length vcap) ∧ w4.frozen? ⟨w.heap.size, 1, none⟩ = false := fun w4 hg => by
            have e : w4.heap[w.heap.size]? = w3.heap[w.heap.size]? := (hg.block _ (by show w.heap.size < (w3.alloc _).heap.size; rw [World.size_alloc]; omega) hne).trans (Below.heap_alloc w3 _ _ hcp3)
            exact ⟨by rw [World.cell?_of_block (a := ⟨w.heap.size, 1, none⟩) e]; exact c1, by rw [World.frozen?_of_block (a := ⟨w.heap.size, 1, none⟩) e]; exact cf⟩
          have HB3b : Hid _ := hB3
          have hd' := HDS.out (hma.1 rfl)
          have HD' : Hid _ := hd'
          clear q1 q2 q3 hcc hk3 hB3 hma HSH HMA HIN HDN HDS hd'
          go_wp2_with fail
          go_region_law
            ((refine step_append_lies _ (by rfl) _ _ _ (by rfl) w.heap.size 105 i0 _ 4 32 Tryd.underlying94 hi hz0 hz1 hz2 (by rfl) (by decide) (.slice va pre.length vcap) pre.length (ic0 pre) (by rfl) hown3
                ⟨w3.heap.size, 0, none⟩ 1 1 [.int .i64 (o : Nat), .int .i64 m, .int .i64 0, .int .i64 (a : Nat)] (by rfl) (by rfl) hnews hone
                (by decide) (by unfold maxLen; omega) (by omega) (by simp; omega) (w3.heap.size + 1) (by simp) ?_; intro gg cap4 w4 hown4 hgrow4 hat4 hlt4; obtain ⟨g1, g2⟩ := hfar w4 hgrow4))
          all_goals
            have HN : Hid (∃ pre' v', RdI w (w4.setCell ⟨w.heap.size, 1, none⟩ (.slice (some ⟨gg, 0, none⟩) (pre.length + 1) cap4)) b (a + (1 + f)) D pre' v') := ⟨_, _, HI2.out.next HB3b.out (x := ⟨o, m, a⟩) ⟨hgrow4.os, hgrow4.tape, hgrow4.output, hgrow4.size, hgrow4.block⟩ hown4 HD'.out (by omega) (by omega)⟩
            clear hown4 hgrow4 hat4 hlt4 g1 g2 hfar hown3 hone hnews d0 d1 d2 d3 c1 cf
            go_wp2
            go_roundw
            case rel => exact ⟨a + (1 + f), by omega, by go_num, HN.out⟩
            case measure => simp [intOf]; omega
    · obtain rfl : a = b.length := by omega
      have hDp : D = some pre := by
        obtain ⟨f, h1, h2⟩ := hI.dcd
        obtain ⟨f', rfl⟩ : ∃ f', f = f' + 1 := ⟨f - 1, by omega⟩
        rw [h2, dec, if_pos (Nat.le_refl _)]; simp
      have hcok0 := dec_ok _ (HD0.out.trans hDp) (by omega)
      have hcok : CodeOK b pre := ⟨hcok0.1, hcok0.2⟩
      have hp0 : 0 < pre.length := by
        rcases Nat.eq_zero_or_pos pre.length with h | h
        · have e : pre = [] := List.eq_nil_of_length_eq_zero h
          have hbh := hcok.2
          rw [e] at hbh
          have : 3 = b.length := hbh
          omega
        · exact h
      have hplen : pre.length ≤ 4000 := by have := hI.len; omega
      obtain ⟨gi, cap, rfl, _, _⟩ := hI.row.form hp0
      have hgb : ∃ cs, wr.heap[gi]? = some (.cells cs 105 (0, 0)) := ownsRow_type hI.row (k := gi) rfl
      have W4 := findJumps_any hcok hl9 hplen hI.blk hgb (row_j hI.row)
      have HA : Hid (∀ w', RowJ w' gi pre pre.length → Only (fun b => b = gi) wr w' → CodeAns b D w (.returned (.tuple #[.pointer (some ⟨w.heap.size, 0, none⟩), .bool true])) w') := fun w' h1 h2 => by
        have hgi : w.heap.size ≤ gi := (hI.row.lt gi rfl).1
        have hbl : Below w.heap.size w w' := hI.bel.trans (h2.below hI.bel.size (fun k _ hk => by omega))
        have hgc : w.heap.size ≠ gi := fun e => by
          obtain ⟨cs, hgb⟩ := hgb
          rw [← e, hI.blk] at hgb; simp at hgb
        rw [hDp]
        refine ⟨⟨w.heap.size, gi, cap, rfl, ⟨(h2.block _ (lt_of_get hI.blk) hgc).trans hI.blk, h1.op, h1.num, fun i hi => ?_, h1.pls⟩⟩, hbl⟩
        have := h1.tos i hi
        rw [if_pos hi] at this; exact this
      clear hI HI hcok hcok0 hp0 hDp hgb
      go_wp2_with fail
      refine W4.mono ?_
      rintro e w2 ⟨rfl, hj, ho⟩
      have HU : Hid _ := HA.out w2 hj ho
      clear hj ho W4 HA
      go_wp2
      go_ret2
      exact HU.out
theorem pread_any (b : List UInt8) (w : World) : Calls Tryd.prog 23 #[S b] w fun e w' => CodeAns b (decP b) w e w' := by
  unfold decP
  by_cases h : hdBad b
  · rw [if_pos h]; exact pread_bad h w
  · rw [if_neg h]; exact pread_good h w
end Go.Proofs.YtfkdailfcmnjlaaDoor

namespace Go.Proofs.YtfkdailfcmnjlaaDoor
open Go Go.RowKit
set_option maxRecDepth 100000
attribute [local go_sem ↓] Go.wp_at_zero Go.wp_at_succ

theorem load_dec (b : List UInt8) : loadOf b = match decP b with
    | none => none
    | some ins => if flowK ins (byteAt b 1) ins 0 (come0 (byteAt b 2) ins.length) then some ins else none := by
  by_cases h : hdBad b
  · rw [show decP b = none from if_pos h]
    exact if_pos h
  · rw [show decP b = dec (b.length + 1) b 3 from if_neg h]
    exact if_neg h
theorem decP_ok {b : List UInt8} {ins : List Ins} (h : decP b = some ins) : CodeOK b ins ∧ 0 < ins.length ∧ ins.length ≤ 4000 ∧ byteAt b 1 ≤ 24 := by
  unfold decP at h
  by_cases hb : hdBad b
  · rw [if_pos hb] at h; cases h
  · rw [if_neg hb] at h
    unfold hdBad at hb
    obtain ⟨h1, h2⟩ := dec_ok _ h (by omega)
    have hle := (behind_le (fun x hx => (h1 x hx).size) h2).1
    refine ⟨⟨h1, h2⟩, ?_, by omega, by omega⟩
    cases ins with
    | nil => have : 3 = b.length := h2; omega
    | cons x r => simp
/-- What loading answers. -/
def PLoadAns (b : List UInt8) (w : World) (e : Ending) (w' : World) : Prop :=
  (match loadOf b with
    | none => e = .returned (.tuple #[.pointer none, .bool false])
    | some ins => ∃ cp gi cap, e = .returned (.tuple #[.pointer (some ⟨cp, 0, none⟩), .bool true]) ∧ CodeAt w' cp gi cap (byteAt b 2) (byteAt b 1) ins) ∧ Below w.heap.size w w'
set_option maxHeartbeats 4000000 in
theorem codeLoad_any (b : List UInt8) {w : World} (hE : Ef w) : Calls Tryd.prog 12 #[S b] w fun e w' => PLoadAns b w e w' := by
  have W1 := pread_any b w
  have hld := load_dec b
  cases hd : decP b with
  | none =>
    rw [hd] at W1 hld
    have HA : Hid (∀ w', Below w.heap.size w w' → PLoadAns b w (.returned (.tuple #[.pointer none, .bool false])) w') := fun w' hb => by
      unfold PLoadAns; rw [hld]; exact ⟨rfl, hb⟩
    clear hld hd
    go_enter Tryd.func12, Tryd.ntmps12
    go_wp2_with fail
    refine W1.mono ?_
    rintro e w2 ⟨⟨v, rfl⟩, hb⟩
    have HU : Hid (PLoadAns b w (.returned (.tuple #[.pointer none, .bool false])) w2) := HA.out w2 hb
    clear hb W1 HA
    go_wp2
    go_ret2
    exact HU.out
  | some ins =>
    rw [hd] at W1 hld
    obtain ⟨q1, q2, q3, q4⟩ := decP_ok hd
    have W2 : ∀ w2 cp gi cap, Below w.heap.size w w2 → CodeAt w2 cp gi cap (byteAt b 2) (byteAt b 1) ins → _ := fun w2 cp gi cap hb hc => sound_any (hE.below hE.pos hb) q1 hc q2 q3 q4
    have hld2 : loadOf b = if flowK ins (byteAt b 1) ins 0 (come0 (byteAt b 2) ins.length) then some ins else none := hld
    clear hld
    generalize flowK ins (byteAt b 1) ins 0 (come0 (byteAt b 2) ins.length) = r at *
    have HA : Hid (∀ w1 w2 cp gi cap, CodeAt w1 cp gi cap (byteAt b 2) (byteAt b 1) ins → Below w.heap.size w w1 → Below w1.heap.size w1 w2 → (r = false → PLoadAns b w (.returned (.tuple #[.pointer none, .bool false])) w2) ∧ (r = true → PLoadAns b w (.returned (.tuple #[.pointer (some ⟨cp, 0, none⟩), .bool true])) w2)) := fun w1 w2 cp gi cap hc h1 h2 => by
      have hb2 := h1.trans (h2.mono h1.size)
      unfold PLoadAns
      rw [hld2]
      refine ⟨fun e => ?_, fun e => ?_⟩
      · subst e; exact ⟨rfl, hb2⟩
      · subst e; exact ⟨⟨cp, gi, cap, rfl, hc.below h2⟩, hb2⟩
    clear hld2 hd q1
    go_enter Tryd.func12, Tryd.ntmps12
    go_wp2_with fail
    refine W1.mono ?_
    rintro e w1 ⟨⟨cp, gi, cap, rfl, hc⟩, hb⟩
    have W3 := W2 w1 cp gi cap hb hc
    have HA2 : Hid (∀ w2, Below w1.heap.size w1 w2 → _) := fun w2 h2 => HA.out w1 w2 cp gi cap hc hb h2
    clear hb hc W1 W2 HA
    go_wp2_with fail
    refine W3.mono ?_
    rintro e w2 ⟨rfl, hb2⟩
    obtain ⟨a1, a2⟩ := HA2.out w2 hb2
    clear hb2 W3 HA2
    cases r with
    | false =>
      have HU : Hid (PLoadAns b w (.returned (.tuple #[.pointer none, .bool false])) w2) := a1 rfl
      clear a1 a2
      go_wp2
      go_ret2
      exact HU.out
    | true =>
      have HU : Hid (PLoadAns b w (.returned (.tuple #[.pointer (some ⟨cp, 0, none⟩), .bool true])) w2) := a2 rfl
      clear a1 a2
      go_wp2
      go_ret2
      exact HU.out
/-- What the program's Load answers. -/
def GLoadAns (b : List UInt8) (w : World) (e : Ending) (w' : World) : Prop :=
  (match loadOf b with
    | none => e = .returned (.tuple #[.pointer none, .int .i64 7])
    | some ins => ∃ lp cp gi cap, e = .returned (.tuple #[.pointer (some ⟨lp, 0, none⟩), .int .i64 0]) ∧ w'.heap[lp]? = some (.cells #[.pointer (some ⟨cp, 0, none⟩)] 53 (0, 0)) ∧ CodeAt w' cp gi cap (byteAt b 2) (byteAt b 1) ins) ∧ Below w.heap.size w w'
set_option maxHeartbeats 4000000 in
theorem gload_any (b : List UInt8) {w : World} (hE : Ef w) : Calls Tryd.prog 5 #[S b] w fun e w' => GLoadAns b w e w' := by
  have W1 := codeLoad_any b hE
  unfold PLoadAns at W1
  unfold GLoadAns
  cases hd : loadOf b with
  | none =>
    rw [hd] at W1
    clear hd
    go_enter Tryd.func5, Tryd.ntmps5
    go_wp2_with fail
    refine W1.mono ?_
    rintro e w2 ⟨rfl, hb⟩
    have HB : Hid _ := hb
    clear hb W1
    go_wp2
    go_ret2
    exact ⟨rfl, HB.out⟩
  | some ins =>
    rw [hd] at W1
    clear hd
    go_enter Tryd.func5, Tryd.ntmps5
    go_wp2_with fail
    refine W1.mono ?_
    rintro e w2 ⟨⟨cp, gi, cap, rfl, hc⟩, hb⟩
    have HB : Hid _ := And.intro hb hc
    clear hb hc W1
    go_wp2
    go_ret2
    refine ⟨⟨w2.heap.size, cp, gi, cap, rfl, heap_alloc_new _ _, HB.out.2.below ((Below.refl _ _).alloc (Nat.le_refl _) _)⟩, HB.out.1.alloc HB.out.1.size _⟩
end Go.Proofs.YtfkdailfcmnjlaaDoor

namespace Go.Proofs.YtfkdailfcmnjlaaDoor
open Go Go.RowKit
set_option maxRecDepth 100000
attribute [local go_sem ↓] Go.wp_at_zero Go.wp_at_succ

theorem info_VValue : (Tryd.prog.info? 71).map (fun i => (i.zero, i.size, i.bytes)) = some (some (.int .i64 0), 1, 8) := by kernel_rfl
set_option maxHeartbeats 2000000 in
theorem vpush_any {p : Nat} {cs : Array Value} {ty : TypeId} {v : Value} {l : List Int} (x : Int) {w : World} (hp : w.heap[p]? = some (.cells cs ty (0, 0))) (h0 : cs[0]? = some v) (hr : IR w 71 v l) (hty : ty ≠ 71) (hl : l.length ≤ 5000) :
    Calls Tryd.prog 78 #[.pointer (some ⟨p, 0, none⟩), .int .i64 x] w fun e w' => e = .returned (.tuple #[]) ∧ ∃ v', w'.heap[p]? = some (.cells (cs.setIfInBounds 0 v') ty (0, 0)) ∧ IR w' 71 v' (l ++ [x]) ∧ Only (fun b => b = p ∨ v.ownBlock = some b) w w' ∧ ∀ b, v'.ownBlock = some b → v.ownBlock = some b ∨ w.heap.size ≤ b := by
  have hpc : w.cell? ⟨p, 0, none⟩ = some v := by rw [cell_of_row w p 0 _ _ _ hp]; exact h0
  have hpf : w.frozen? ⟨p, 0, none⟩ = false := by simp [World.frozen?, hp]
  have hlt := lt_of_get hp
  have hne := hr.ne hp hty
  obtain ⟨a, cap, rfl⟩ := hr.sl
  obtain ⟨i0, hi, hz⟩ := Option.map_eq_some_iff.1 info_VValue
  simp only [Prod.mk.injEq] at hz
  obtain ⟨hz0, hz1, hz2⟩ := hz
  have HP : Hid _ := hp
  have HR : Hid _ := hr
  have HN : Hid _ := hne
  clear hp hr h0 hne
  go_enter Tryd.func78, Tryd.ntmps78
  go_wp2_with (
    at_builtin
    go_must (refine wpList_append_lies _ (by rfl) _ _ 93 (by rfl) 0 71 i0 (.int .i64 0) 1 8 Tryd.underlying93 hi hz0 hz1 hz2 (by rfl) (by decide) _ _ _ (by rfl) (HR.out.alloc _) ⟨w.heap.size, 0, none⟩ 1 1 [.int .i64 x] (by rfl) (by rfl) (World.news_of_block (heap_alloc_new w _)) (fun x hx => by simp at hx; rcases hx with rfl; rfl) (by decide) (by unfold maxLen; omega) (by omega) (by simp) _ rfl ?_)
    intro gg cap' w3 hown3 hgrow hat hlt3
    have e0 : w3.heap[p]? = w.heap[p]? := (hgrow.block _ (by simp; omega) (fun e => HN.out e.symm)).trans (Below.heap_alloc w _ _ hlt)
    have e1 := (World.cell?_of_block (a := ⟨p, 0, none⟩) e0).trans hpc
    have e2 := (World.frozen?_of_block (a := ⟨p, 0, none⟩) e0).trans hpf
    have HE0 : Hid _ := e0
    have HO3 : Hid _ := hown3
    have HG3 : Hid _ := hgrow
    clear e0 hown3 hgrow)
  go_end0
  refine ⟨rfl, .slice (some ⟨gg, 0, none⟩) (l.length + 1) cap', ?_, ?_, ?_, ?_⟩
  · rw [heap_setCell_same w3 p 0 _ _ _ (HE0.out.trans HP.out)]
  · have h1 : w3.ownsRow 0 71 1 (.slice (some ⟨gg, 0, none⟩) (l.length + 1) cap') (l.length + 1) (l.map (Value.int .i64) ++ [.int .i64 x]) := HO3.out
    have h2 := ownsRow_setCell_other h1 (a := ⟨p, 0, none⟩) (by
      intro e
      simp [Value.ownBlock] at e
      rcases hat with h | h
      · exact HN.out (by rw [h, e])
      · rw [World.size_alloc] at h; omega) (.slice (some ⟨gg, 0, none⟩) (l.length + 1) cap')
    unfold IR; simpa using h2
  · exact (((Only.refl _ w).alloc _).grown HG3.out (fun k hk => .inl (.inr hk))).setCell (.inl (.inl rfl)) _
  · intro b hb
    simp [Value.ownBlock] at hb
    subst hb
    rcases hat with h | h
    · exact .inl h
    · right; rw [h, World.size_alloc]; omega
set_option maxHeartbeats 2000000 in
theorem vpop_any {p : Nat} {cs : Array Value} {ty : TypeId} {v : Value} {l : List Int} {w : World} (hp : w.heap[p]? = some (.cells cs ty (0, 0))) (h0 : cs[0]? = some v) (hr : IR w 71 v l) (hty : ty ≠ 71) (hl : l.length ≤ 5000) :
    Calls Tryd.prog 79 #[.pointer (some ⟨p, 0, none⟩)] w fun e w' => e = .returned (.int .i64 (l.getLast?.getD 0)) ∧ ∃ v', w'.heap[p]? = some (.cells (cs.setIfInBounds 0 v') ty (0, 0)) ∧ IR w' 71 v' l.dropLast ∧ Only (fun b => b = p) w w' ∧ v'.ownBlock = v.ownBlock := by
  have hpc : w.cell? ⟨p, 0, none⟩ = some v := by rw [cell_of_row w p 0 _ _ _ hp]; exact h0
  have hpf : w.frozen? ⟨p, 0, none⟩ = false := by simp [World.frozen?, hp]
  have hne := hr.ne hp hty
  rcases List.eq_nil_or_concat l with rfl | ⟨r, x, rfl⟩
  · have HA : Hid (∃ v', w.heap[p]? = some (.cells (cs.setIfInBounds 0 v') ty (0, 0)) ∧ IR w 71 v' ([] : List Int).dropLast ∧ Only (fun b => b = p) w w ∧ v'.ownBlock = v.ownBlock) := ⟨v, by
      rw [hp]
      congr 2
      apply Array.ext_getElem?
      intro i
      rw [Array.getElem?_setIfInBounds]
      split
      · rename_i e; subst e; split
        · exact h0
        · rename_i hh; rw [Array.getElem?_eq_none (by omega)]
      · rfl, hr, Only.refl _ _, rfl⟩
    obtain ⟨a, cap, rfl⟩ := hr.sl
    clear hp hr h0 hne
    simp only [List.length_nil] at *
    go_enter Tryd.func79, Tryd.ntmps79
    go_wp2
    go_ret
    exact ⟨rfl, HA.out⟩
  · rw [List.concat_eq_append] at *
    obtain ⟨g, cap, rfl, hg⟩ := hr.form (by simp)
    obtain ⟨_, hx⟩ := last_row hr
    have e1 : (r ++ [x]).length = r.length + 1 := by simp
    rw [e1] at hpc hr hne hl
    have hcap := hr.cap
    rw [e1] at hcap
    have q2 : (0 : Int) ≤ (r.length : Int) ∧ (r.length : Int) ≤ (cap : Int) := by omega
    have HP : Hid _ := hp
    have HR : Hid _ := hr
    have HN : Hid _ := hne
    have e2 : (r ++ [x]).getLast?.getD 0 = x := by simp
    have e3 : (r ++ [x]).dropLast = r := by simp
    have hgp : g ≠ p := fun e => hne (by rw [e]; rfl)
    have q0 : (0 : Int) ≤ (r.length : Int) + 1 - 1 := by omega
    have q1 : (0 : Int) ≤ (r.length : Int) ∧ (r.length : Int) < (r.length : Int) + 1 := by omega
    rw [e2, e3]
    clear hp hr h0 hne
    go_enter Tryd.func79, Tryd.ntmps79
    go_wp2
    go_ret
    refine ⟨rfl, .slice (some ⟨g, 0, none⟩) r.length cap, ?_, ?_, (Only.refl (fun b => b = p) w).setCell (.inl rfl) _, rfl⟩
    · rw [heap_setCell_same w p 0 _ _ _ HP.out]
    · exact (IR.pop HR.out).only ((Only.refl (fun b => b = p) _).setCell (.inl rfl) _) (fun k hk => by simp [Value.ownBlock] at hk; omega)
end Go.Proofs.YtfkdailfcmnjlaaDoor

namespace Go.Proofs.YtfkdailfcmnjlaaDoor
open Go Go.RowKit
set_option maxRecDepth 100000
attribute [local go_sem ↓] Go.wp_at_zero Go.wp_at_succ

def fnV (n : Nat) : Value := .func (.func n) #[] #[]
def doT : List Value := [.nilFunc, fnV 51, fnV 51, fnV 51, fnV 52, fnV 53, fnV 54, fnV 55, fnV 56, fnV 57, fnV 58, fnV 59, fnV 60, fnV 61, fnV 62, fnV 63, fnV 64, fnV 65, fnV 66]
theorem doT_one : ∀ v ∈ doT, v.oneCell' = true := by
  intro v hv
  simp only [doT, List.mem_cons, List.not_mem_nil, or_false] at hv
  rcases hv with rfl | rfl | rfl | rfl | rfl | rfl | rfl | rfl | rfl | rfl | rfl | rfl | rfl | rfl | rfl | rfl | rfl | rfl | rfl <;> rfl
theorem there_row {w : World} {b : Nat} {cs : Array Value} {t : TypeId} (h : w.heap[b]? = some (.cells cs t (0, 0))) : w.there b 0 cs.size := fun j hj => by
  rw [Nat.zero_add]
  refine ⟨?_, by simp [World.frozen?, h]⟩
  rw [cell_of_row w b j _ _ _ h]
  simp [hj]
set_option maxHeartbeats 4000000 in
theorem doings_any (w : World) : Calls Tryd.prog 31 #[] w fun e w' => e = .returned (.agg doT.toArray) ∧ Below w.heap.size w w' := by
  have hsz : Option.map (fun x => x.size) (Tryd.prog.info? 102) = some 19 := by kernel_rfl
  obtain ⟨w1, hw1⟩ : ∃ w1, w.alloc (.cells #[Value.nilFunc, Value.nilFunc, Value.nilFunc, Value.nilFunc, Value.nilFunc, Value.nilFunc, Value.nilFunc, Value.nilFunc, Value.nilFunc, Value.nilFunc, Value.nilFunc, Value.nilFunc, Value.nilFunc, Value.nilFunc, Value.nilFunc, Value.nilFunc, Value.nilFunc, Value.nilFunc, Value.nilFunc] 102) = w1 := ⟨_, rfl⟩
  have hk : w1.heap[w.heap.size]? = some (.cells #[Value.nilFunc, Value.nilFunc, Value.nilFunc, Value.nilFunc, Value.nilFunc, Value.nilFunc, Value.nilFunc, Value.nilFunc, Value.nilFunc, Value.nilFunc, Value.nilFunc, Value.nilFunc, Value.nilFunc, Value.nilFunc, Value.nilFunc, Value.nilFunc, Value.nilFunc, Value.nilFunc, Value.nilFunc] 102 (0, 0)) := by rw [← hw1]; exact heap_alloc_new w _
  have ht := there_row hk
  have HW : Hid _ := hw1
  have HB : Hid (Below w.heap.size w w1) := by rw [← hw1]; exact (Below.refl _ _).alloc (Nat.le_refl _) _
  have hin := World.cell?_setCells_in w.heap.size doT 0 w1 (fun j hj => (ht j hj).1)
  have HF0 : Hid (∀ j v, doT[j]? = some v → (w1.setCells w.heap.size 0 doT).cell? ⟨w.heap.size, j, none⟩ = some v) := fun j v hv => by
    obtain ⟨hj, rfl⟩ := List.getElem?_eq_some_iff.1 hv
    have := hin j hj
    rw [Nat.zero_add] at this; exact this
  clear hin hw1 hk
  go_enter Tryd.func31, Tryd.ntmps31
  go_wp2_with (
    rw [HW.out]
    refine wpList_store_mid (by rfl) _ _ _ (by rfl) w.heap.size 0 doT.toArray (by rfl) (by rfl) ht hsz (all_oneCell_toArray doT_one) ?_)
  have HB2 : Hid (Below w.heap.size w (w1.setCells w.heap.size 0 doT)) := below_cells (Nat.le_refl _) _ _ HB.out
  have HF := HF0
  clear HF0 ht HW HB hsz
  generalize w1.setCells w.heap.size 0 doT = wf at *
  simp only [Act.put]
  have hld : (loadVar 102 ⟨w.heap.size, 0, none⟩).run Tryd.prog wf = .ok (.agg doT.toArray) wf :=
    run_loadVar_mid (P := Tryd.prog) wf w.heap.size 0 102 doT _ (fun j v hv => by rw [Nat.zero_add]; exact HF.out j v hv) Tryd.underlying102 rfl (by kernel_rfl)
  refine bodyPost_ret (v := .agg doT.toArray) ?_ rfl ?_
  · simp only [results, Tryd.results31]
    simp [asAddr, hld]
  exact ⟨rfl, HB2.out⟩
end Go.Proofs.YtfkdailfcmnjlaaDoor
