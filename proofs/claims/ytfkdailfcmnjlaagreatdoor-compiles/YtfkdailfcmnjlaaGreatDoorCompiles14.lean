/-
  The reference's method 'typeOf'. The reference's method 'types'. The reference's function 'read', as far as its words and items go.
-/
import Derived.Test.YtfkdailfcmnjlaaGreatDoorCompiles01
import Derived.Test.YtfkdailfcmnjlaaGreatDoorCompiles04
import Derived.Test.YtfkdailfcmnjlaaGreatDoorCompiles05
import Derived.Test.YtfkdailfcmnjlaaGreatDoorCompiles06
import Derived.Test.YtfkdailfcmnjlaaGreatDoorCompiles07
import Derived.Test.YtfkdailfcmnjlaaGreatDoorCompiles08
import Derived.Test.YtfkdailfcmnjlaaGreatDoorCompiles09
import Derived.Test.YtfkdailfcmnjlaaGreatDoorCompiles10
import Derived.Test.YtfkdailfcmnjlaaGreatDoorCompiles11
import Derived.Test.YtfkdailfcmnjlaaGreatDoorCompiles12
import Derived.Test.YtfkdailfcmnjlaaGreatDoorCompiles13
import Derived.WalkKit
import Derived.Deep.QuietTactic
import Derived.BigQuiet
import Derived.WalkSpells
import GoSem.Op.String
import Derived.Deep.AppendLies
import Derived.Deep.RegionHeld3
import Derived.Deep.DrawnRows
import Derived.Deep.RegionHeldLaw
import Derived.Deep.RegionLaw
set_option linter.unusedVariables false
set_option linter.unusedSimpArgs false
namespace Go.Proofs.YtfkdailfcmnjlaaGreatDoor
open Go Go.RowKit
set_option maxRecDepth 100000
attribute [local go_sem ↓] Go.wp_at_zero Go.wp_at_succ

theorem info_byte : (Tryz.prog.info? 5).map (fun i => (i.zero, i.size, i.bytes)) = some (some (.int .u8 0), 1, 1) := by kernel_rfl

def byteCells (l : List UInt8) : List Value := l.map fun c => Value.int .u8 (c.toNat : Int)
theorem byteCells_len (l : List UInt8) : (byteCells l).length = l.length := by simp [byteCells]
theorem byteCells_snoc (l : List UInt8) (c : UInt8) : byteCells (l ++ [c]) = byteCells l ++ [.int .u8 c.toNat] := by simp [byteCells]

/-- The policy lies in memory, and the types of the items so far. -/
structure PolIn (B gi c g cap : Nat) (xs : List Itm) (ps : List PartS) (bv : Value) (its : List UInt8) (w : World) : Prop where
  items : ItemsIn B (.slice (some ⟨gi, 0, none⟩) xs.length c) xs w
  parts : PartsIn B g cap ps w
  bytes : w.ownsRow B 5 1 bv its.length (byteCells its)
  len : its.length ≤ xs.length
theorem PolIn.below {B gi c g cap : Nat} {xs : List Itm} {ps : List PartS} {bv : Value} {its : List UInt8} {w w' : World} (h : PolIn B gi c g cap xs ps bv its w) (hb : Below w.heap.size w w') : PolIn B gi c g cap xs ps bv its w' :=
  ⟨h.items.below hb, h.parts.below hb, ownsRow_below h.bytes hb, h.len⟩

/-- Parts whose types can be asked. -/
structure Fine (xs : List Itm) (n : Nat) (L : List Pt) (Good : Nat → Prop) : Prop where
  down : ∀ k, Good k → ∀ j ∈ (L.getD k noPt).subs, Good j
  own : ∀ k, Good k → (L.getD k noPt).tok.k = 111 → 0 ≤ letIx xs (L.getD k noPt).tok.text n
  two : ∀ k, Good k → (L.getD k noPt).tok.k ≠ 110 → (L.getD k noPt).tok.k ≠ 111 → (L.getD k noPt).tok.text = [61] → 2 ≤ (L.getD k noPt).subs.length
  three : ∀ k, Good k → (L.getD k noPt).tok.k ≠ 110 → (L.getD k noPt).tok.k ≠ 111 → (L.getD k noPt).tok.text = [105, 102] → 3 ≤ (L.getD k noPt).subs.length

abbrev partObj (p : PartS) : Obj := .cells #[.int .u8 p.tok.k, S p.tok.text, .int .i64 p.tok.pl, p.sv, .int .i64 p.n] 169

theorem tyOf_zero (xs : List Itm) (its : List UInt8) (L : List Pt) (f k j : Nat) (hj : j < (L.getD k noPt).subs.length) (h : tyOf xs its L f ((L.getD k noPt).subs[j]) = 0) : tyOf xs its L (f + 1) k = 0 := by
  rw [tyOf, if_pos]
  rw [List.contains_iff_mem]
  exact List.mem_map.2 ⟨_, List.getElem_mem hj, h⟩
theorem tyOf_case (xs : List Itm) (its : List UInt8) (L : List Pt) (f k : Nat) (h : ∀ j ∈ (L.getD k noPt).subs, tyOf xs its L f j ≠ 0) : (tyOf xs its L (f + 1) k).toNat = tyCase xs its (L.getD k noPt).tok ((L.getD k noPt).subs.map (tyOf xs its L f)) := by
  rw [tyOf, if_neg]
  · rw [UInt8.toNat_ofNat_of_lt' (tyCase_lt _ _ _ _)]
  · rw [List.contains_iff_mem]
    intro hm
    obtain ⟨j, hj, e⟩ := List.mem_map.1 hm
    exact h j hj e

theorem conv_row {base n : Nat} {tv : Value} {l : List UInt8} {w : World} (h : w.ownsRow base 5 1 tv n (byteCells l)) : (convert 155 9 tv).run Tryz.prog w = .ok (S l) w := by
  have hn : n = l.length := by have := h.1; rw [byteCells_len] at this; omega
  subst hn
  rcases h.2 with ⟨rfl, h0⟩ | ⟨g, cap, cur, rfl, _⟩
  · have : l = [] := List.length_eq_zero_iff.1 h0
    subst this
    rw [run_convert_bytes_string w 155 9 5 none 0 0 Tryz.underlying155 Tryz.underlying5 Tryz.underlying9]
    rfl
  · refine run_convert_bytes_back w 155 9 5 ⟨g, 0, none⟩ cap l Tryz.underlying155 Tryz.underlying5 Tryz.underlying9 fun j hj => ?_
    exact h.cells (g := g) rfl j _ (by simp [byteCells, hj])
theorem bytes_at {base : Nat} {va : Option Addr} {vc : Nat} {its : List UInt8} {w : World} (h : w.ownsRow base 5 1 (.slice va its.length vc) its.length (byteCells its)) (l : Nat) (hl : l < its.length) :
    ∃ g, va = some ⟨g, 0, none⟩ ∧ w.cell? ⟨g, l, none⟩ = some (.int .u8 (its.getD l 0).toNat) := by
  rcases h.2 with ⟨_, h0⟩ | ⟨g, cap, cur, e, _⟩
  · omega
  · cases e
    refine ⟨g, rfl, ?_⟩
    have ha : (⟨g, 0, none⟩ : Addr).add l = ⟨g, l, none⟩ := by unfold Addr.add; split <;> simp_all
    rw [← ha]
    exact h.cells (g := g) rfl l _ (by simp [byteCells, hl])
theorem idx_lt (l : List (List UInt8)) (s : List UInt8) : idx l s < l.length := by
  induction l with
  | nil => simp [idx]
  | cons x r ih => unfold idx; simp only [List.length_cons]; split; omega; split <;> omega

set_option maxHeartbeats 8000000 in
theorem typeOf_step {B gi c g cap : Nat} {xs : List Itm} {ps : List PartS} {bv : Value} {its : List UInt8} {Good : Nat → Prop} (hA : Ahead (ps.map toPt)) (hG : Fine xs its.length (ps.map toPt) Good) (f : Nat) (hf2 : f ≤ 2000)
    (ih : ∀ (k : Nat) (w : World), PolIn B gi c g cap xs ps bv its w → k < f → k < ps.length → Good k →
      Calls Tryz.prog 117 #[.agg #[.slice (some ⟨gi, 0, none⟩) xs.length c, .slice (some ⟨g, 0, none⟩) ps.length cap], .int .i64 k, bv] w fun e w' => e = .returned (.int .u8 (tyOf xs its (ps.map toPt) f k).toNat) ∧ Below w.heap.size w w')
    (k : Nat) (w : World) (h : PolIn B gi c g cap xs ps bv its w) (hkf : k < f + 1) (hk : k < ps.length) (hgk : Good k) :
      Calls Tryz.prog 117 #[.agg #[.slice (some ⟨gi, 0, none⟩) xs.length c, .slice (some ⟨g, 0, none⟩) ps.length cap], .int .i64 k, bv] w fun e w' => e = .returned (.int .u8 (tyOf xs its (ps.map toPt) (f + 1) k).toNat) ∧ Below w.heap.size w w' := by
  obtain ⟨i0, hi, hz0, hz1, hz2⟩ := info_parts info_byte
  obtain ⟨k0, k1, k2, k3, k4⟩ := h.parts.cells k hk
  have hpf := h.parts.few
  have hone : (ps.getD k noPart).sv.oneCell' = true := by
    have hm : ps.getD k noPart ∈ ps := by rw [List.getD_eq_getElem?_getD, List.getElem?_eq_getElem hk]; exact List.getElem_mem hk
    exact (h.parts.subs _ hm).one
  have b1 : (0 : Int) ≤ (k : Int) := by omega
  have b2 : (k : Int) < (ps.length : Int) := by omega
  have lg := World.block_lt_of_cell? w _ k0
  simp only at lg
  have IH : Hid _ := ih
  clear ih
  have hpt : (ps.map toPt).getD k noPt = toPt (ps.getD k noPart) := toPt_at ps k hk
  have hsub := h.parts.sub k hk
  have hahd := hA k (by simpa using hk)
  have hdown := hG.down k hgk
  have hown := hG.own k hgk
  have htwo := hG.two k hgk
  have hthree := hG.three k hgk
  have hcase := tyOf_case xs its (ps.map toPt) f k
  have hzero := tyOf_zero xs its (ps.map toPt) f k
  rw [hpt] at hahd hdown hown htwo hthree hcase
  simp only [hpt] at hzero
  generalize ps.getD k noPart = pp at *
  have HAH : Hid (pp.subs.length ≤ 3 ∧ ∀ j ∈ pp.subs, j < k) := hahd
  have HGD : Hid (∀ j ∈ pp.subs, Good j) := hdown
  have HOW : Hid (pp.tok.k = 111 → 0 ≤ letIx xs pp.tok.text its.length) := hown
  have HTW : Hid (pp.tok.k ≠ 110 → pp.tok.k ≠ 111 → pp.tok.text = [61] → 2 ≤ pp.subs.length) := htwo
  have HTH : Hid (pp.tok.k ≠ 110 → pp.tok.k ≠ 111 → pp.tok.text = [105, 102] → 3 ≤ pp.subs.length) := hthree
  have HCA : Hid ((∀ j ∈ pp.subs, tyOf xs its (ps.map toPt) f j ≠ 0) → (tyOf xs its (ps.map toPt) (f + 1) k).toNat = tyCase xs its pp.tok (pp.subs.map (tyOf xs its (ps.map toPt) f))) := hcase
  have HZR : Hid (∀ j (hj : j < pp.subs.length), tyOf xs its (ps.map toPt) f pp.subs[j] = 0 → tyOf xs its (ps.map toPt) (f + 1) k = 0) := hzero
  clear hpt hahd hdown hown htwo hthree hcase hzero
  have hz1' := hz1
  obtain ⟨va, vc, rfl⟩ : ∃ a c, bv = .slice a its.length c := by
    rcases h.bytes.2 with ⟨e, hn⟩ | ⟨gg, cc, cur, e, _⟩
    · exact ⟨none, 0, by rw [hn]; exact e⟩
    · exact ⟨_, _, e⟩
  have hB0 : Below w.heap.size w ((w.alloc (polObj gi xs.length c g ps.length cap)).alloc (partObj pp)) := ((Below.refl _ _).alloc (Nat.le_refl _) _).alloc (by simp) _
  have hX0 : ((w.alloc (polObj gi xs.length c g ps.length cap)).alloc (partObj pp)).heap[w.heap.size]? = some (polObj gi xs.length c g ps.length cap) := by rw [Below.heap_alloc _ _ _ (by simp)]; exact heap_alloc_new w _
  have hP0 : ((w.alloc (polObj gi xs.length c g ps.length cap)).alloc (partObj pp)).heap[w.heap.size + 1]? = some (partObj pp) := by have e := heap_alloc_new (w.alloc (polObj gi xs.length c g ps.length cap)) (partObj pp); rw [World.size_alloc] at e; exact e
  have HH0 : Hid _ := And.intro hB0 (And.intro hX0 hP0)
  clear hB0 hX0 hP0
  rcases hsub with ⟨e1, e2⟩ | ⟨sb, e2, hcs⟩
  · have HSV : Hid _ := e2
    have HE1 : Hid _ := e1
    generalize pp.subs = sl at *
    rw [e2] at k3
    clear e1 e2
    go_enter Tryz.func117, Tryz.ntmps117
    go_wp2_with fail
    · rw [← HSV.out]
      obtain ⟨hBw, hXw, hPw⟩ := HH0.out
      clear HH0 k0 k1 k2 k3 k4
      generalize ((w.alloc (polObj gi xs.length c g ps.length cap)).alloc (partObj pp)) = wr at *
      have p0 := cell_of_row wr (w.heap.size + 1) 0 _ _ _ hPw
      have p1 := cell_of_row wr (w.heap.size + 1) 1 _ _ _ hPw
      have p3 := cell_of_row wr (w.heap.size + 1) 3 _ _ _ hPw
      simp only [List.getElem?_toArray, List.getElem?_cons_zero, List.getElem?_cons_succ] at p0 p1 p3
      rw [HSV.out] at p3
      have HTY : Hid ((tyOf xs its (ps.map toPt) (f + 1) k).toNat = tyCase xs its pp.tok (sl.map (tyOf xs its (ps.map toPt) f))) := HCA.out fun j hj => by rw [HE1.out] at hj; simp at hj
      have HCV : Hid (∀ w', Below wr.heap.size wr w' → (convert 155 9 (.slice none 0 0)).run Tryz.prog w' = .ok (S (sl.map (tyOf xs its (ps.map toPt) f))) w') := fun w' _ => by rw [HE1.out]; exact conv_row (World.ownsRow_nil w' 0 _ _)
      go_loop [8, 9] (fun tv j => tv = .slice none 0 0 ∧ j = .int .i64 0) (fun _ _ => 0)
      case atStart => exact ⟨HSV.out, rfl⟩
      case round =>
        obtain ⟨rfl, rfl⟩ := hrel
        have hcs : True := trivial
        go_wp2_with fail
        clear hcs
        have lX := lt_of_get hXw
        have lP := lt_of_get hPw
        have hBs := hBw.size
        go_region_held3 (fun w' => w'.cell? ⟨w.heap.size + 1, 1, none⟩ = some (S pp.tok.text))
          (first | go_keep | (rw [hb1.cell (p := ⟨w.heap.size + 1, 1, none⟩) (by simp <;> omega)]; first | assumption | (simp [*]; done)))
          (first
            | (go_at_call 89; refine (members_any _).mono ?_; rintro e w1 ⟨x1, rfl, hc1, hb1, hl1, hs1⟩)
            | (go_at_call 87; refine (index_any kMembers _ x1 _ (by decide) hc1).mono ?_; rintro e w1 ⟨rfl, rfl⟩))
        rename_i hHeld
        clear hHeld
        have hb2 : Below wr.heap.size wr w1 := (Below.refl _ _).drew.trans hb1
        have hs2 := hb2.size
        have hX1 : w1.heap[w.heap.size]? = some (polObj gi xs.length c g ps.length cap) := by rw [hb2.block _ lX]; exact hXw
        have hP1 : w1.heap[w.heap.size + 1]? = some (partObj pp) := by rw [hb2.block _ lP]; exact hPw
        have p1 := cell_of_row w1 (w.heap.size + 1) 1 _ _ _ hP1
        simp only [List.getElem?_toArray, List.getElem?_cons_zero, List.getElem?_cons_succ] at p1
        clear hb1 hc1 hl1 hs1
        go_wp2_with fail
        go_region_held3 (fun w' => w'.cell? ⟨w.heap.size + 1, 1, none⟩ = some (S pp.tok.text))
          (first | go_keep | (rw [hb4.cell (p := ⟨w.heap.size + 1, 1, none⟩) (by simp <;> omega)]; first | assumption | (simp [*]; done)))
          (first
            | (go_at_call 88; refine (fields_any _).mono ?_; rintro e w5 ⟨x5, rfl, hc5, hb4, hl5, hs5⟩)
            | (go_at_call 87; refine (index_any kFields _ x5 _ (by decide) hc5).mono ?_; rintro e w5 ⟨rfl, rfl⟩))
        rename_i hHeld
        clear hHeld
        have hb6 : Below w1.heap.size w1 w5 := (Below.refl _ _).drew.trans hb4
        have hb7 : Below wr.heap.size wr w5 := hb2.trans (hb6.mono hs2)
        have hB5 : Below w.heap.size w w5 := hBw.trans (hb7.mono hBw.size)
        have hX5 : w5.heap[w.heap.size]? = some (polObj gi xs.length c g ps.length cap) := by rw [hb7.block _ lX]; exact hXw
        have hP5 : w5.heap[w.heap.size + 1]? = some (partObj pp) := by rw [hb7.block _ lP]; exact hPw
        have q0 := cell_of_row w5 w.heap.size 0 _ _ _ hX5
        have q1 := cell_of_row w5 w.heap.size 1 _ _ _ hX5
        have p0 := cell_of_row w5 (w.heap.size + 1) 0 _ _ _ hP5
        have p1 := cell_of_row w5 (w.heap.size + 1) 1 _ _ _ hP5
        have hcv := HCV.out w5 hb7
        have hs5' := hB5.size
        simp only [List.getElem?_toArray, List.getElem?_cons_zero, List.getElem?_cons_succ] at q0 q1 p0 p1
        have i1 := idx_ge kMembers pp.tok.text
        have i2 := idx_ge kFields pp.tok.text
        have i3 := idx_lt kFields pp.tok.text
        clear hb4 hc5 hl5 hs5 hb6 hb2 hb7 hX1 hP1 hXw hPw hBw lX lP hs2 hX5 hP5
        have hTC := HTY.out
        unfold tyCase at hTC
        generalize hM : idx kMembers pp.tok.text = m at *
        generalize hF : idx kFields pp.tok.text = n at *
        have HTC : Hid _ := hTC
        clear hTC hM hF
        by_cases hk1 : pp.tok.k = 110
        · have hk1' : ((pp.tok.k : Int) == 110) = true := by simp; omega
          have HR : Hid _ := HTC.out
          have hres : Hid ((tyOf xs its (ps.map toPt) (f + 1) k).toNat = 110) := by show _ = _; rw [HTC.out, if_pos hk1]
          clear HTC HR hk1
          go_wp2_with fail
          go_ret
          exact ⟨ret_int (by rw [hres.out]; rfl), hB5⟩
        have hk1' : ((pp.tok.k : Int) == 110) = false := by simp; omega
        by_cases hk2 : pp.tok.k = 111
        · have hk2' : ((pp.tok.k : Int) == 111) = true := by simp; omega
          have hge := HOW.out hk2
          have hres : Hid ((tyOf xs its (ps.map toPt) (f + 1) k).toNat = (its.getD (letIx xs pp.tok.text its.length).toNat 0).toNat) := by show _ = _; rw [HTC.out, if_neg hk1, if_pos hk2]
          have hll := letIx_lt xs pp.tok.text its.length
          have hpol := h.below hB5
          clear HTC hk1 hk2
          go_wp2_with fail
          refine (let_any hpol.items _ _ _ pp.tok.text its.length h.len).mono ?_
          rintro e w6 ⟨rfl, hb8⟩
          have hpol6 := hpol.below hb8
          have hB6 : Below w.heap.size w w6 := hB5.trans (hb8.mono hB5.size)
          obtain ⟨gb, rfl, hcb⟩ := bytes_at hpol6.bytes (letIx xs pp.tok.text its.length).toNat (by omega)
          obtain ⟨l, hl⟩ : ∃ l : Nat, letIx xs pp.tok.text its.length = l := ⟨_, (Int.toNat_of_nonneg hge).symm⟩
          rw [hl] at hcb hres hge hll ⊢
          simp only [Int.toNat_natCast] at hcb hres
          have c1 : (l : Int) < (its.length : Int) := by omega
          clear hl q0 q1 p0 p1 hcv hpol hpol6 hb8
          go_wp2_with fail
          go_ret
          exact ⟨ret_int (by rw [hres.out, List.getD_eq_getElem?_getD]), hB6⟩
        have hk2' : ((pp.tok.k : Int) == 111) = false := by simp; omega
        by_cases hn : 0 ≤ n
        · have hres : Hid ((tyOf xs its (ps.map toPt) (f + 1) k).toNat = (([110, 110, 110, 110, 109, 109, 109, 116, 116] : List UInt8).getD n.toNat 0).toNat) := by show _ = _; rw [HTC.out, if_neg hk1, if_neg hk2, if_pos hn]
          obtain ⟨l, rfl⟩ : ∃ l : Nat, n = l := ⟨n.toNat, (Int.toNat_of_nonneg hn).symm⟩
          have hl9 : l < 9 := by have : (kFields.length : Int) = 9 := rfl; omega
          simp only [Int.toNat_natCast] at hres
          clear HTC hk1 hk2
          have c1 : (l : Int) < 9 := by omega
          go_wp2_with fail
          go_ret
          refine ⟨ret_int ?_, hB5⟩
          rw [hres.out]
          have e9 : l = 0 ∨ l = 1 ∨ l = 2 ∨ l = 3 ∨ l = 4 ∨ l = 5 ∨ l = 6 ∨ l = 7 ∨ l = 8 := by omega
          rcases e9 with rfl | rfl | rfl | rfl | rfl | rfl | rfl | rfl | rfl <;> rfl
        by_cases hm : 0 ≤ m
        · have hres : Hid ((tyOf xs its (ps.map toPt) (f + 1) k).toNat = 109) := by show _ = _; rw [HTC.out, if_neg hk1, if_neg hk2, if_neg hn, if_pos hm]
          have hn' : n < 0 := by omega
          clear HTC hk1 hk2 hn
          go_wp2_with fail
          go_ret
          exact ⟨ret_int (by rw [hres.out]; rfl), hB5⟩
        have hn' : n < 0 := by omega
        have hm' : m < 0 := by omega
        cases ht : (pp.tok.text == wTrue) with
        | true =>
          have ht' : (pp.tok.text == [116, 114, 117, 101]) = true := ht
          have hres : Hid ((tyOf xs its (ps.map toPt) (f + 1) k).toNat = 116) := by show _ = _; rw [HTC.out, if_neg hk1, if_neg hk2, if_neg hn, if_neg hm, if_pos (.inl (by simpa using ht))]
          clear HTC hk1 hk2 hn hm ht
          go_wp2_with fail
          go_ret
          exact ⟨ret_int (by rw [hres.out]; rfl), hB5⟩
        | false =>
          have ht' : (pp.tok.text == [116, 114, 117, 101]) = false := ht
          cases ht2 : (pp.tok.text == wFalse) with
          | true =>
            have ht3 : (pp.tok.text == [102, 97, 108, 115, 101]) = true := ht2
            have hres : Hid ((tyOf xs its (ps.map toPt) (f + 1) k).toNat = 116) := by show _ = _; rw [HTC.out, if_neg hk1, if_neg hk2, if_neg hn, if_neg hm, if_pos (.inr (by simpa using ht2))]
            clear HTC hk1 hk2 hn hm ht ht2
            go_wp2_with fail
            go_ret
            exact ⟨ret_int (by rw [hres.out]; rfl), hB5⟩
          | false =>
            have ht3 : (pp.tok.text == [102, 97, 108, 115, 101]) = false := ht2
            have hres : Hid ((tyOf xs its (ps.map toPt) (f + 1) k).toNat = tySign pp.tok.text (sl.map (tyOf xs its (ps.map toPt) f))) := by
              show _ = _; rw [HTC.out, if_neg hk1, if_neg hk2, if_neg hn, if_neg hm, if_neg]
              intro e; simp at ht ht2; rcases e with e | e
              · exact ht e
              · exact ht2 e
            have htw : Hid (pp.tok.text = [61] → 2 ≤ sl.length) := HTW.out hk1 hk2
            have hth : Hid (pp.tok.text = [105, 102] → 3 ≤ sl.length) := HTH.out hk1 hk2
            clear HTC hk1 hk2 hn hm ht ht2
            go_wp2_with fail
            refine (typeOfSign_any pp.tok.text (sl.map (tyOf xs its (ps.map toPt) f)) _ (fun e => by simpa using htw.out e) (fun e => by simpa using hth.out e)).mono ?_
            rintro e w6 ⟨rfl, nd, rfl⟩
            go_wp2_with fail
            go_ret
            exact ⟨ret_int (by rw [hres.out]), hB5.trans ⟨rfl, rfl, rfl, Nat.le_refl _, fun _ _ => rfl⟩⟩
  · have HSV : Hid _ := e2
    generalize pp.subs = sl at *
    rw [e2] at k3
    clear e2
    go_enter Tryz.func117, Tryz.ntmps117
    go_wp2_with fail
    · rw [← HSV.out]
      obtain ⟨hB0, hX0, hP0⟩ := HH0.out
      clear HH0 k0 k1 k2 k3 k4
      generalize ((w.alloc (polObj gi xs.length c g ps.length cap)).alloc (partObj pp)) = w0 at *
      go_loopw [8, 9] (fun tv j wr => ∃ (jj : Nat), jj ≤ sl.length ∧ j = .int .i64 jj ∧ (∀ q (hq : q < sl.length), q < jj → tyOf xs its (ps.map toPt) f sl[q] ≠ 0) ∧ wr.ownsRow w.heap.size 5 1 tv jj (byteCells ((sl.take jj).map (tyOf xs its (ps.map toPt) f))) ∧ Below w.heap.size w wr ∧ wr.heap[w.heap.size]? = some (polObj gi xs.length c g ps.length cap) ∧ wr.heap[w.heap.size + 1]? = some (partObj pp)) (fun _ j _ => sl.length - (intOf j).toNat)
      case atStart => exact ⟨0, Nat.zero_le _, rfl, fun q hq h => by omega, World.ownsRow_nil _ _ _ _, hB0, hX0, hP0⟩
      case round =>
        obtain ⟨jj, hjj, rfl, hnz, hown, hBw, hXw, hPw⟩ := hrel
        have q0 := cell_of_row wr w.heap.size 0 _ _ _ hXw
        have q1 := cell_of_row wr w.heap.size 1 _ _ _ hXw
        have p0 := cell_of_row wr (w.heap.size + 1) 0 _ _ _ hPw
        have p1 := cell_of_row wr (w.heap.size + 1) 1 _ _ _ hPw
        have p3 := cell_of_row wr (w.heap.size + 1) 3 _ _ _ hPw
        have lX := lt_of_get hXw
        have lP := lt_of_get hPw
        simp only [List.getElem?_toArray, List.getElem?_cons_zero, List.getElem?_cons_succ] at q0 q1 p0 p1 p3
        rw [HSV.out] at p3
        have HNZ : Hid _ := hnz
        clear hnz
        by_cases hlt : jj < sl.length
        · have hcj0 := hcs jj hlt
          have lsb := World.block_lt_of_cell? w _ hcj0
          simp only at lsb
          have hcj : wr.cell? ⟨sb, jj, none⟩ = some (.int .i64 sl[jj]) := by
            rw [hBw.cell (p := ⟨sb, jj, none⟩) lsb, hcj0, List.getD_eq_getElem?_getD, List.getElem?_eq_getElem hlt]; rfl
          clear hcj0
          have b3 : (0 : Int) ≤ (jj : Int) := by omega
          have b4 : (jj : Int) < (sl.length : Int) := by omega
          have hmem := HAH.out.2 sl[jj] (List.getElem_mem hlt)
          have hgj := HGD.out sl[jj] (List.getElem_mem hlt)
          go_wp2_with fail
          go_region_held3 (fun w' => w'.cell? ⟨w.heap.size, 0, none⟩ = some (.slice (some ⟨gi, 0, none⟩) xs.length c) ∧ w'.cell? ⟨w.heap.size, 1, none⟩ = some (.slice (some ⟨g, 0, none⟩) ps.length cap) ∧ w'.cell? ⟨w.heap.size + 1, 3, none⟩ = some (.slice (some ⟨sb, 0, none⟩) sl.length sl.length) ∧ w'.cell? ⟨sb, jj, none⟩ = some (.int .i64 sl[jj]))
            (first | go_keep | (go_split_ands; refine ⟨?_, ?_, ?_, ?_⟩ <;> (rw [hb5.cell (by simp <;> omega)]; first | assumption | (simp [*]; done))))
            (first | (go_at_call 117; refine (IH.out sl[jj] _ ((h.below hBw).below ((Below.refl _ _).drew)) (by omega) (by omega) hgj).mono ?_; rintro e w5 ⟨rfl, hb5⟩))
          rename_i hHeld
          clear hHeld
          have hb6 : Below wr.heap.size wr w5 := (Below.refl _ _).drew.trans hb5
          have hB5 : Below w.heap.size w w5 := hBw.trans (hb6.mono hBw.size)
          have hX5 : w5.heap[w.heap.size]? = some (polObj gi xs.length c g ps.length cap) := by rw [hb6.block _ lX]; exact hXw
          have hP5 : w5.heap[w.heap.size + 1]? = some (partObj pp) := by rw [hb6.block _ lP]; exact hPw
          have hown5 := ownsRow_below hown hb6
          have hs5 := hB5.size
          have HTK : Hid ((sl.take (jj + 1)).map (tyOf xs its (ps.map toPt) f) = (sl.take jj).map (tyOf xs its (ps.map toPt) f) ++ [tyOf xs its (ps.map toPt) f sl[jj]]) := by
            show _ = _; rw [List.take_succ_eq_append_getElem hlt, List.map_append]; rfl
          have HZ0 : Hid (tyOf xs its (ps.map toPt) f sl[jj] = 0 → tyOf xs its (ps.map toPt) (f + 1) k = 0) := fun hz => HZR.out jj hlt hz
          clear hb5 hb6 hown hBw hXw hPw q0 q1 p0 p1 p3 hcj
          generalize hTT : tyOf xs its (ps.map toPt) f sl[jj] = tt at *
          by_cases hz : tt = 0
          · have hz1 : ((tt.toNat : Int) == 0) = true := by rw [hz]; rfl
            have HR := HZ0.out hz
            go_wp2_with fail
            go_ret
            exact ⟨ret_int (by rw [HR]; rfl), hB5⟩
          · have hz1 : ((tt.toNat : Int) == 0) = false := by
              have : tt.toNat ≠ 0 := fun e => hz (UInt8.toNat_inj.1 e)
              simp; omega
            have hlen3 : sl.length ≤ 3 := HAH.out.1
            go_wp2_with (
              at_builtin
              go_must (refine wpList_append_lies _ (by rfl) _ _ 155 (by rfl) w.heap.size 5 i0 (.int .u8 0) 1 1 Tryz.underlying155 hi hz0 hz1' hz2 (by rfl) (by decide) _ _ _ (by rfl) (hown5.alloc _) ⟨w5.heap.size, 0, none⟩ 1 1 [.int .u8 tt.toNat] (by rfl) (by rfl) (cell_one_new _ _ _) (fun x hx => by simp at hx; subst hx; rfl) (by decide) (by unfold maxLen; omega) (by omega) (by simp; omega) _ rfl ?_)
              intro gt ct w7 hown7 hgrow7 hat7 hlt7)
            go_roundw
            case rel =>
              refine ⟨jj + 1, by omega, by go_num, ?_, ?_, below_far1 hB5 hown5 hgrow7, ?_, ?_⟩
              · intro q hq hqj
                by_cases e : q = jj
                · subst e; rw [hTT]; exact hz
                · exact HNZ.out q hq (by omega)
              · rw [HTK.out, byteCells_snoc]; exact hown7
              · rw [hgrow7.block _ (by have := lt_of_get hX5; simp; omega) (fun e => by obtain ⟨cs, hc⟩ := ownsRow_type hown5 e.symm; rw [hX5] at hc; simp at hc), Below.heap_alloc _ _ _ (lt_of_get hX5)]; exact hX5
              · rw [hgrow7.block _ (by have := lt_of_get hP5; simp; omega) (fun e => by obtain ⟨cs, hc⟩ := ownsRow_type hown5 e.symm; rw [hP5] at hc; simp at hc), Below.heap_alloc _ _ _ (lt_of_get hP5)]; exact hP5
            case measure => simp [intOf]; omega
        · have hje : jj = sl.length := by omega
          subst hje
          have HTY : Hid ((tyOf xs its (ps.map toPt) (f + 1) k).toNat = tyCase xs its pp.tok (sl.map (tyOf xs its (ps.map toPt) f))) := HCA.out fun j hj => by
            obtain ⟨q, hq, rfl⟩ := List.mem_iff_getElem.1 hj
            exact HNZ.out q hq hq
          have HCV : Hid (∀ w', Below wr.heap.size wr w' → (convert 155 9 u8).run Tryz.prog w' = .ok (S (sl.map (tyOf xs its (ps.map toPt) f))) w') := fun w' hb => conv_row (by rw [List.take_length] at hown; exact ownsRow_below hown hb)
          go_wp2_with fail
          clear hcs
          have lX := lt_of_get hXw
          have lP := lt_of_get hPw
          have hBs := hBw.size
          go_region_held3 (fun w' => w'.cell? ⟨w.heap.size + 1, 1, none⟩ = some (S pp.tok.text))
            (first | go_keep | (rw [hb1.cell (p := ⟨w.heap.size + 1, 1, none⟩) (by simp <;> omega)]; first | assumption | (simp [*]; done)))
            (first
              | (go_at_call 89; refine (members_any _).mono ?_; rintro e w1 ⟨x1, rfl, hc1, hb1, hl1, hs1⟩)
              | (go_at_call 87; refine (index_any kMembers _ x1 _ (by decide) hc1).mono ?_; rintro e w1 ⟨rfl, rfl⟩))
          rename_i hHeld
          clear hHeld
          have hb2 : Below wr.heap.size wr w1 := (Below.refl _ _).drew.trans hb1
          have hs2 := hb2.size
          have hX1 : w1.heap[w.heap.size]? = some (polObj gi xs.length c g ps.length cap) := by rw [hb2.block _ lX]; exact hXw
          have hP1 : w1.heap[w.heap.size + 1]? = some (partObj pp) := by rw [hb2.block _ lP]; exact hPw
          have p1 := cell_of_row w1 (w.heap.size + 1) 1 _ _ _ hP1
          simp only [List.getElem?_toArray, List.getElem?_cons_zero, List.getElem?_cons_succ] at p1
          clear hb1 hc1 hl1 hs1
          go_wp2_with fail
          go_region_held3 (fun w' => w'.cell? ⟨w.heap.size + 1, 1, none⟩ = some (S pp.tok.text))
            (first | go_keep | (rw [hb4.cell (p := ⟨w.heap.size + 1, 1, none⟩) (by simp <;> omega)]; first | assumption | (simp [*]; done)))
            (first
              | (go_at_call 88; refine (fields_any _).mono ?_; rintro e w5 ⟨x5, rfl, hc5, hb4, hl5, hs5⟩)
              | (go_at_call 87; refine (index_any kFields _ x5 _ (by decide) hc5).mono ?_; rintro e w5 ⟨rfl, rfl⟩))
          rename_i hHeld
          clear hHeld
          have hb6 : Below w1.heap.size w1 w5 := (Below.refl _ _).drew.trans hb4
          have hb7 : Below wr.heap.size wr w5 := hb2.trans (hb6.mono hs2)
          have hB5 : Below w.heap.size w w5 := hBw.trans (hb7.mono hBw.size)
          have hX5 : w5.heap[w.heap.size]? = some (polObj gi xs.length c g ps.length cap) := by rw [hb7.block _ lX]; exact hXw
          have hP5 : w5.heap[w.heap.size + 1]? = some (partObj pp) := by rw [hb7.block _ lP]; exact hPw
          have q0 := cell_of_row w5 w.heap.size 0 _ _ _ hX5
          have q1 := cell_of_row w5 w.heap.size 1 _ _ _ hX5
          have p0 := cell_of_row w5 (w.heap.size + 1) 0 _ _ _ hP5
          have p1 := cell_of_row w5 (w.heap.size + 1) 1 _ _ _ hP5
          have hcv := HCV.out w5 hb7
          have hs5' := hB5.size
          simp only [List.getElem?_toArray, List.getElem?_cons_zero, List.getElem?_cons_succ] at q0 q1 p0 p1
          have i1 := idx_ge kMembers pp.tok.text
          have i2 := idx_ge kFields pp.tok.text
          have i3 := idx_lt kFields pp.tok.text
          clear hb4 hc5 hl5 hs5 hb6 hb2 hb7 hX1 hP1 hXw hPw hBw lX lP hs2 hX5 hP5
          have hTC := HTY.out
          unfold tyCase at hTC
          generalize hM : idx kMembers pp.tok.text = m at *
          generalize hF : idx kFields pp.tok.text = n at *
          have HTC : Hid _ := hTC
          clear hTC hM hF
          by_cases hk1 : pp.tok.k = 110
          · have hk1' : ((pp.tok.k : Int) == 110) = true := by simp; omega
            have HR : Hid _ := HTC.out
            have hres : Hid ((tyOf xs its (ps.map toPt) (f + 1) k).toNat = 110) := by show _ = _; rw [HTC.out, if_pos hk1]
            clear HTC HR hk1
            go_wp2_with fail
            go_ret
            exact ⟨ret_int (by rw [hres.out]; rfl), hB5⟩
          have hk1' : ((pp.tok.k : Int) == 110) = false := by simp; omega
          by_cases hk2 : pp.tok.k = 111
          · have hk2' : ((pp.tok.k : Int) == 111) = true := by simp; omega
            have hge := HOW.out hk2
            have hres : Hid ((tyOf xs its (ps.map toPt) (f + 1) k).toNat = (its.getD (letIx xs pp.tok.text its.length).toNat 0).toNat) := by show _ = _; rw [HTC.out, if_neg hk1, if_pos hk2]
            have hll := letIx_lt xs pp.tok.text its.length
            have hpol := h.below hB5
            clear HTC hk1 hk2
            go_wp2_with fail
            refine (let_any hpol.items _ _ _ pp.tok.text its.length h.len).mono ?_
            rintro e w6 ⟨rfl, hb8⟩
            have hpol6 := hpol.below hb8
            have hB6 : Below w.heap.size w w6 := hB5.trans (hb8.mono hB5.size)
            obtain ⟨gb, rfl, hcb⟩ := bytes_at hpol6.bytes (letIx xs pp.tok.text its.length).toNat (by omega)
            obtain ⟨l, hl⟩ : ∃ l : Nat, letIx xs pp.tok.text its.length = l := ⟨_, (Int.toNat_of_nonneg hge).symm⟩
            rw [hl] at hcb hres hge hll ⊢
            simp only [Int.toNat_natCast] at hcb hres
            have c1 : (l : Int) < (its.length : Int) := by omega
            clear hl q0 q1 p0 p1 hcv hpol hpol6 hb8
            go_wp2_with fail
            go_ret
            exact ⟨ret_int (by rw [hres.out, List.getD_eq_getElem?_getD]), hB6⟩
          have hk2' : ((pp.tok.k : Int) == 111) = false := by simp; omega
          by_cases hn : 0 ≤ n
          · have hres : Hid ((tyOf xs its (ps.map toPt) (f + 1) k).toNat = (([110, 110, 110, 110, 109, 109, 109, 116, 116] : List UInt8).getD n.toNat 0).toNat) := by show _ = _; rw [HTC.out, if_neg hk1, if_neg hk2, if_pos hn]
            obtain ⟨l, rfl⟩ : ∃ l : Nat, n = l := ⟨n.toNat, (Int.toNat_of_nonneg hn).symm⟩
            have hl9 : l < 9 := by have : (kFields.length : Int) = 9 := rfl; omega
            simp only [Int.toNat_natCast] at hres
            clear HTC hk1 hk2
            have c1 : (l : Int) < 9 := by omega
            go_wp2_with fail
            go_ret
            refine ⟨ret_int ?_, hB5⟩
            rw [hres.out]
            have e9 : l = 0 ∨ l = 1 ∨ l = 2 ∨ l = 3 ∨ l = 4 ∨ l = 5 ∨ l = 6 ∨ l = 7 ∨ l = 8 := by omega
            rcases e9 with rfl | rfl | rfl | rfl | rfl | rfl | rfl | rfl | rfl <;> rfl
          by_cases hm : 0 ≤ m
          · have hres : Hid ((tyOf xs its (ps.map toPt) (f + 1) k).toNat = 109) := by show _ = _; rw [HTC.out, if_neg hk1, if_neg hk2, if_neg hn, if_pos hm]
            have hn' : n < 0 := by omega
            clear HTC hk1 hk2 hn
            go_wp2_with fail
            go_ret
            exact ⟨ret_int (by rw [hres.out]; rfl), hB5⟩
          have hn' : n < 0 := by omega
          have hm' : m < 0 := by omega
          cases ht : (pp.tok.text == wTrue) with
          | true =>
            have ht' : (pp.tok.text == [116, 114, 117, 101]) = true := ht
            have hres : Hid ((tyOf xs its (ps.map toPt) (f + 1) k).toNat = 116) := by show _ = _; rw [HTC.out, if_neg hk1, if_neg hk2, if_neg hn, if_neg hm, if_pos (.inl (by simpa using ht))]
            clear HTC hk1 hk2 hn hm ht
            go_wp2_with fail
            go_ret
            exact ⟨ret_int (by rw [hres.out]; rfl), hB5⟩
          | false =>
            have ht' : (pp.tok.text == [116, 114, 117, 101]) = false := ht
            cases ht2 : (pp.tok.text == wFalse) with
            | true =>
              have ht3 : (pp.tok.text == [102, 97, 108, 115, 101]) = true := ht2
              have hres : Hid ((tyOf xs its (ps.map toPt) (f + 1) k).toNat = 116) := by show _ = _; rw [HTC.out, if_neg hk1, if_neg hk2, if_neg hn, if_neg hm, if_pos (.inr (by simpa using ht2))]
              clear HTC hk1 hk2 hn hm ht ht2
              go_wp2_with fail
              go_ret
              exact ⟨ret_int (by rw [hres.out]; rfl), hB5⟩
            | false =>
              have ht3 : (pp.tok.text == [102, 97, 108, 115, 101]) = false := ht2
              have hres : Hid ((tyOf xs its (ps.map toPt) (f + 1) k).toNat = tySign pp.tok.text (sl.map (tyOf xs its (ps.map toPt) f))) := by
                show _ = _; rw [HTC.out, if_neg hk1, if_neg hk2, if_neg hn, if_neg hm, if_neg]
                intro e; simp at ht ht2; rcases e with e | e
                · exact ht e
                · exact ht2 e
              have htw : Hid (pp.tok.text = [61] → 2 ≤ sl.length) := HTW.out hk1 hk2
              have hth : Hid (pp.tok.text = [105, 102] → 3 ≤ sl.length) := HTH.out hk1 hk2
              clear HTC hk1 hk2 hn hm ht ht2
              go_wp2_with fail
              refine (typeOfSign_any pp.tok.text (sl.map (tyOf xs its (ps.map toPt) f)) _ (fun e => by simpa using htw.out e) (fun e => by simpa using hth.out e)).mono ?_
              rintro e w6 ⟨rfl, nd, rfl⟩
              go_wp2_with fail
              go_ret
              exact ⟨ret_int (by rw [hres.out]), hB5.trans ⟨rfl, rfl, rfl, Nat.le_refl _, fun _ _ => rfl⟩⟩
end Go.Proofs.YtfkdailfcmnjlaaGreatDoor

namespace Go.Proofs.YtfkdailfcmnjlaaGreatDoor
open Go Go.RowKit
set_option maxRecDepth 100000
attribute [local go_sem ↓] Go.wp_at_zero Go.wp_at_succ

theorem typeOf_any {B gi c g cap : Nat} {xs : List Itm} {ps : List PartS} {bv : Value} {its : List UInt8} {Good : Nat → Prop} (hA : Ahead (ps.map toPt)) (hG : Fine xs its.length (ps.map toPt) Good) (f : Nat) (hf2 : f ≤ 2000) :
    ∀ (k : Nat) (w : World), PolIn B gi c g cap xs ps bv its w → k < f → k < ps.length → Good k →
      Calls Tryz.prog 117 #[.agg #[.slice (some ⟨gi, 0, none⟩) xs.length c, .slice (some ⟨g, 0, none⟩) ps.length cap], .int .i64 k, bv] w fun e w' => e = .returned (.int .u8 (tyOf xs its (ps.map toPt) f k).toNat) ∧ Below w.heap.size w w' := by
  induction f with
  | zero => intro k w _ hk; omega
  | succ f ih => intro k w h hkf hk hg; exact typeOf_step hA hG f (by omega) (ih (by omega)) k w h hkf hk hg

theorem ownsRow_weak {w : World} {base base' : Nat} {e : TypeId} {size : Nat} {v : Value} {n : Nat} {xs : List Value} (h : w.ownsRow base e size v n xs) (hb : base' ≤ base) : w.ownsRow base' e size v n xs := by
  obtain ⟨h1, h2⟩ := h
  refine ⟨h1, ?_⟩
  rcases h2 with h2 | ⟨g, cap, cur, a, b, r⟩
  · exact .inl h2
  · exact .inr ⟨g, cap, cur, a, by omega, r⟩
theorem types_step (xs : List Itm) (L : List Pt) (j : Nat) (its : List UInt8) (hj : j < xs.length) : typesAt xs L (xs.drop j) its =
    if (tyOf xs its L (xs[j].top + 1) xs[j].top).toNat = 0 ∨ (xs[j].name = [] ∧ (tyOf xs its L (xs[j].top + 1) xs[j].top).toNat ≠ 116) then some xs[j].pl
    else typesAt xs L (xs.drop (j + 1)) (its ++ [tyOf xs its L (xs[j].top + 1) xs[j].top]) := by
  rw [List.drop_eq_getElem_cons hj, typesAt]

set_option maxHeartbeats 8000000 in
theorem types_any {B g cap : Nat} {iv : Value} {xs : List Itm} {ps : List PartS} {w : World} (h : ItemsIn B iv xs w) (hp : PartsIn B g cap ps w) (hB : B ≤ w.heap.size) (hA : Ahead (ps.map toPt)) (hT : ∀ x ∈ xs, x.top < ps.length)
    (hF : ∀ j (hj : j < xs.length), ∃ Good : Nat → Prop, Fine xs j (ps.map toPt) Good ∧ Good xs[j].top) :
    Calls Tryz.prog 64 #[.agg #[iv, .slice (some ⟨g, 0, none⟩) ps.length cap]] w fun e w' => e = .returned (placeV (typesAt xs (ps.map toPt) xs [])) ∧ Below w.heap.size w w' := by
  obtain ⟨i0, hi, hz0, hz1, hz2⟩ := info_parts info_byte
  have hb := (Below.refl w.heap.size w).alloc (Nat.le_refl _) (.cells #[iv, .slice (some ⟨g, 0, none⟩) ps.length cap] 90)
  rcases h.form with ⟨rfl, h0⟩ | ⟨gi, c, rfl⟩
  · have HB : Hid _ := hb
    have HE : Hid (typesAt xs (ps.map toPt) xs [] = none) := by
      show _ = _; cases xs with
      | nil => rfl
      | cons => simp at h0
    clear hb h0
    go_enter Tryz.func64, Tryz.ntmps64
    go_wp2_with fail
    go_loop [3, 4] (fun n i => n = .slice none 0 0 ∧ i = .int .i64 0) (fun _ _ => 0)
    case atStart => exact ⟨rfl, rfl⟩
    case round =>
      obtain ⟨rfl, rfl⟩ := hrel
      go_wp2_with fail
      go_ret
      exact ⟨by rw [HE.out]; rfl, HB.out⟩
  · have hbx : (w.alloc (polObj gi xs.length c g ps.length cap)).heap[w.heap.size]? = some (polObj gi xs.length c g ps.length cap) := heap_alloc_new w _
    have hf := h.few
    have hpf := hp.few
    have HX : Hid _ := hbx
    clear hbx
    go_enter Tryz.func64, Tryz.ntmps64
    go_wp2_with fail
    go_loopw [3, 4] (fun bv i wr => ∃ (its : List UInt8), its.length ≤ xs.length ∧ i = .int .i64 its.length ∧ wr.ownsRow w.heap.size 5 1 bv its.length (byteCells its) ∧ Hid (typesAt xs (ps.map toPt) xs [] = typesAt xs (ps.map toPt) (xs.drop its.length) its) ∧ Below w.heap.size w wr ∧ wr.heap[w.heap.size]? = some (polObj gi xs.length c g ps.length cap)) (fun _ i _ => xs.length - (intOf i).toNat)
    case atStart => exact ⟨[], Nat.zero_le _, rfl, World.ownsRow_nil _ _ _ _, rfl, hb, HX.out⟩
    case round =>
      obtain ⟨its, hj, rfl, hown, HM, hbw, hbx⟩ := hrel
      have q0 := cell_of_row wr w.heap.size 0 _ _ _ hbx
      have q1 := cell_of_row wr w.heap.size 1 _ _ _ hbx
      have hlw := lt_of_get hbx
      simp only [List.getElem?_toArray, List.getElem?_cons_zero, List.getElem?_cons_succ] at q0 q1
      by_cases hlt : its.length < xs.length
      · have hi' := h.below hbw
        obtain ⟨c0, c1, c2, c3, c4, c5⟩ := hi'.cells its.length hlt
        have HS : Hid _ := types_step xs (ps.map toPt) its.length its hlt
        obtain ⟨Good, hFine, hGood⟩ := hF its.length hlt
        have hTj := hT _ (List.getElem_mem hlt)
        have b1 : (0 : Int) ≤ (its.length : Int) := by omega
        have b2 : (its.length : Int) < (xs.length : Int) := by omega
        have lg := World.block_lt_of_cell? wr _ c0
        simp only at lg
        have hpol : PolIn B gi c g cap xs ps u3 its wr := ⟨hi', hp.below hbw, ownsRow_weak hown hB, by omega⟩
        have hsz := hbw.size
        obtain ⟨va, vc, hu3⟩ : ∃ a c, u3 = .slice a its.length c := by
          rcases hown.2 with ⟨e, hn⟩ | ⟨gg, cc, cur, e, _⟩
          · exact ⟨none, 0, by rw [hn]; exact e⟩
          · exact ⟨_, _, e⟩
        subst hu3
        go_wp2_with fail
        go_region_held3 (fun w' => w'.cell? ⟨w.heap.size, 0, none⟩ = some (.slice (some ⟨gi, 0, none⟩) xs.length c) ∧ w'.cell? ⟨w.heap.size, 1, none⟩ = some (.slice (some ⟨g, 0, none⟩) ps.length cap) ∧ w'.cell? ⟨gi, its.length * 6 + 2, none⟩ = some (.int .i64 xs[its.length].top))
          (first | go_keep | (go_split_ands; refine ⟨?_, ?_, ?_⟩ <;> (rw [hb5.cell (by simp <;> omega)]; first | assumption | (simp [*]; done))))
          (first | (go_at_call 117; refine (typeOf_any hA hFine (xs[its.length].top + 1) (by omega) xs[its.length].top _ (hpol.below ((Below.refl _ _).drew)) (by omega) hTj hGood).mono ?_; rintro e w5 ⟨rfl, hb5⟩))
        rename_i hHeld
        clear hHeld
        have hb6 : Below wr.heap.size wr w5 := (Below.refl _ _).drew.trans hb5
        have hB5 : Below w.heap.size w w5 := hbw.trans (hb6.mono hbw.size)
        have hX5 : w5.heap[w.heap.size]? = some (polObj gi xs.length c g ps.length cap) := by rw [hb6.block _ hlw]; exact hbx
        have q0 := cell_of_row w5 w.heap.size 0 _ _ _ hX5
        have q1 := cell_of_row w5 w.heap.size 1 _ _ _ hX5
        simp only [List.getElem?_toArray, List.getElem?_cons_zero, List.getElem?_cons_succ] at q0 q1
        obtain ⟨d0, d1, d2, d3, d4, d5⟩ := (hi'.below hb6).cells its.length hlt
        have hown5 := ownsRow_below hown hb6
        have hs5 := hB5.size
        clear hb5 hb6 hown hbw hbx hi' hpol c0 c1 c2 c3 c4 c5
        generalize tyOf xs its (ps.map toPt) (xs[its.length].top + 1) xs[its.length].top = tt at *
        have HQ : Hid ((tt.toNat = 0 ∨ (xs[its.length].name = [] ∧ tt.toNat ≠ 116) → typesAt xs (ps.map toPt) xs [] = some xs[its.length].pl) ∧ (¬ (tt.toNat = 0 ∨ (xs[its.length].name = [] ∧ tt.toNat ≠ 116)) → typesAt xs (ps.map toPt) xs [] = typesAt xs (ps.map toPt) (xs.drop (its.length + 1)) (its ++ [tt]))) := by
          refine ⟨fun e => ?_, fun e => ?_⟩
          · rw [HM.out, HS.out, if_pos e]
          · rw [HM.out, HS.out, if_neg e]
        clear HM HS
        by_cases hz : tt.toNat = 0
        · have hz1' : ((tt.toNat : Int) == 0) = true := by simp; omega
          have hres := HQ.out.1 (.inl hz)
          have HR : Hid _ := hres
          clear hres hz
          go_wp2_with fail
          go_ret
          exact ⟨by rw [HR.out]; rfl, hB5⟩
        have hz1' : ((tt.toNat : Int) == 0) = false := by simp; omega
        have hpush : ∀ (hno : ¬ (tt.toNat = 0 ∨ (xs[its.length].name = [] ∧ tt.toNat ≠ 116))), True := fun _ => trivial
        clear hpush
        cases hnm : (xs[its.length].name == []) with
        | true =>
          by_cases ht : tt.toNat = 116
          · have ht' : ((tt.toNat : Int) != 116) = false := by simp; omega
            have hres : Hid _ := HQ.out.2 (by intro e; rcases e with e | e; exact hz e; exact e.2 ht)
            clear HQ hz ht
            go_wp2_with (
              at_builtin
              go_must (refine wpList_append_lies _ (by rfl) _ _ 155 (by rfl) w.heap.size 5 i0 (.int .u8 0) 1 1 Tryz.underlying155 hi hz0 hz1 hz2 (by rfl) (by decide) _ _ _ (by rfl) (hown5.alloc _) ⟨w5.heap.size, 0, none⟩ 1 1 [.int .u8 tt.toNat] (by rfl) (by rfl) (cell_one_new _ _ _) (fun x hx => by simp at hx; subst hx; rfl) (by decide) (by unfold maxLen; omega) (by omega) (by simp; omega) _ rfl ?_)
              intro gt ct w7 hown7 hgrow7 hat7 hlt7)
            go_roundw
            case rel =>
              refine ⟨its ++ [tt], by simp; omega, by simp, ?_, ?_, below_far1 hB5 hown5 hgrow7, ?_⟩
              · rw [byteCells_snoc]; simpa using hown7
              · show _ = _; rw [hres.out]; simp
              · rw [hgrow7.block _ (by have := lt_of_get hX5; simp; omega) (fun e => by obtain ⟨cs, hc⟩ := ownsRow_type hown5 e.symm; rw [hX5] at hc; simp at hc), Below.heap_alloc _ _ _ (lt_of_get hX5)]; exact hX5
            case measure => simp [intOf]; omega
          · have ht' : ((tt.toNat : Int) != 116) = true := by simp; omega
            have hres : Hid _ := HQ.out.1 (.inr ⟨by simpa using hnm, ht⟩)
            clear HQ hz ht
            go_wp2_with fail
            go_ret
            exact ⟨by rw [hres.out]; rfl, hB5⟩
        | false =>
          have hres : Hid _ := HQ.out.2 (by intro e; rcases e with e | e; exact hz e; simp [e.1] at hnm)
          clear HQ hz
          go_wp2_with (
            at_builtin
            go_must (refine wpList_append_lies _ (by rfl) _ _ 155 (by rfl) w.heap.size 5 i0 (.int .u8 0) 1 1 Tryz.underlying155 hi hz0 hz1 hz2 (by rfl) (by decide) _ _ _ (by rfl) (hown5.alloc _) ⟨w5.heap.size, 0, none⟩ 1 1 [.int .u8 tt.toNat] (by rfl) (by rfl) (cell_one_new _ _ _) (fun x hx => by simp at hx; subst hx; rfl) (by decide) (by unfold maxLen; omega) (by omega) (by simp; omega) _ rfl ?_)
            intro gt ct w7 hown7 hgrow7 hat7 hlt7)
          go_roundw
          case rel =>
            refine ⟨its ++ [tt], by simp; omega, by simp, ?_, ?_, below_far1 hB5 hown5 hgrow7, ?_⟩
            · rw [byteCells_snoc]; simpa using hown7
            · show _ = _; rw [hres.out]; simp
            · rw [hgrow7.block _ (by have := lt_of_get hX5; simp; omega) (fun e => by obtain ⟨cs, hc⟩ := ownsRow_type hown5 e.symm; rw [hX5] at hc; simp at hc), Below.heap_alloc _ _ _ (lt_of_get hX5)]; exact hX5
          case measure => simp [intOf]; omega
      · go_wp2_with fail
        go_ret
        refine ⟨?_, hbw⟩
        rw [HM.out, List.drop_of_length_le (by omega)]; rfl
end Go.Proofs.YtfkdailfcmnjlaaGreatDoor

namespace Go.Proofs.YtfkdailfcmnjlaaGreatDoor
open Go Go.RowKit
set_option maxRecDepth 100000
attribute [local go_sem ↓] Go.wp_at_zero Go.wp_at_succ

set_option maxHeartbeats 2000000 in
theorem many_none (pa : Option Addr) (pn pc : Nat) (w : World) : Calls Tryz.prog 62 #[.agg #[.slice none 0 0, .slice pa pn pc]] w fun e w' => e = .returned (.int .i64 (-1)) ∧ Below w.heap.size w w' := by
  have HB : Hid _ := (Below.refl w.heap.size w).alloc (Nat.le_refl _) (.cells #[.slice none 0 0, .slice pa pn pc] 90)
  go_enter Tryz.func62, Tryz.ntmps62
  go_wp2_with fail
  go_loop [3, 4] (fun n i => n = .int .i64 0 ∧ i = .int .i64 0) (fun _ _ => 0)
  case atStart => exact ⟨rfl, rfl⟩
  case round =>
    obtain ⟨rfl, rfl⟩ := hrel
    go_wp2_with fail
    go_ret
    exact ⟨rfl, HB.out⟩

set_option maxHeartbeats 2000000 in
theorem names_none (pa : Option Addr) (pn pc : Nat) (w : World) : Calls Tryz.prog 63 #[.agg #[.slice none 0 0, .slice pa pn pc]] w fun e w' => e = .returned (.int .i64 (-1)) ∧ Below w.heap.size w w' := by
  have HB : Hid _ := (Below.refl w.heap.size w).alloc (Nat.le_refl _) (.cells #[.slice none 0 0, .slice pa pn pc] 90)
  go_enter Tryz.func63, Tryz.ntmps63
  go_wp2_with fail
  go_loop [3, 4] (fun n i => n = .int .i64 0 ∧ i = .int .i64 0) (fun _ _ => 0)
  case atStart => exact ⟨rfl, rfl⟩
  case round =>
    obtain ⟨rfl, rfl⟩ := hrel
    go_wp2_with fail
    go_ret
    exact ⟨rfl, HB.out⟩

set_option maxHeartbeats 2000000 in
theorem types_none (pa : Option Addr) (pn pc : Nat) (w : World) : Calls Tryz.prog 64 #[.agg #[.slice none 0 0, .slice pa pn pc]] w fun e w' => e = .returned (.int .i64 (-1)) ∧ Below w.heap.size w w' := by
  have HB : Hid _ := (Below.refl w.heap.size w).alloc (Nat.le_refl _) (.cells #[.slice none 0 0, .slice pa pn pc] 90)
  go_enter Tryz.func64, Tryz.ntmps64
  go_wp2_with fail
  go_loop [3, 4] (fun n i => n = .slice none 0 0 ∧ i = .int .i64 0) (fun _ _ => 0)
  case atStart => exact ⟨rfl, rfl⟩
  case round =>
    obtain ⟨rfl, rfl⟩ := hrel
    go_wp2_with fail
    go_ret
    exact ⟨rfl, HB.out⟩

abbrev polV (iv pv : Value) : Obj := .cells #[iv, pv] 90

/-- The policy that was read lies in memory. -/
structure PolOut (B : Nat) (L : List Pt) (xs : List Itm) (iv pv : Value) (w : World) : Prop where
  items : ItemsIn B iv xs w
  parts : ∃ ps : List PartS, w.ownsRow B 169 5 pv ps.length (partCells ps) ∧ (∀ p ∈ ps, SubsOK w p) ∧ ps.length ≤ 1001 ∧ (∀ p ∈ ps, p.n = numOf p.tok) ∧ ps.map toPt = L

/-- What 'read' answers: the policy, the error, the place. -/
def ReadAns (n k : Nat) (L : List Pt) (xs : List Itm) (w : World) (e : Ending) (w' : World) : Prop :=
  Below w.heap.size w w' ∧ ∃ iv pv, e = .returned (.tuple #[.agg #[iv, pv], .int .i64 n, .int .i64 k]) ∧ (∃ a b c, iv = .slice a b c) ∧ (∃ a b c, pv = .slice a b c) ∧ (n ≠ 0 → iv = .slice none 0 0 ∧ pv = .slice none 0 0) ∧ (n = 0 → PolOut w.heap.size L xs iv pv w')

theorem ans_err {n k : Nat} {L : List Pt} {xs : List Itm} {w w' : World} (hn : n ≠ 0) (hb : Below w.heap.size w w') : ReadAns n k L xs w (.returned (.tuple #[.agg #[.slice none 0 0, .slice none 0 0], .int .i64 n, .int .i64 k])) w' :=
  ⟨hb, _, _, rfl, ⟨_, _, _, rfl⟩, ⟨_, _, _, rfl⟩, fun _ => ⟨rfl, rfl⟩, fun e => absurd e hn⟩

set_option maxHeartbeats 2000000 in
theorem read_long (l : List UInt8) (w : World) (hl : 1000 < l.length) (hm : l.length ≤ maxLen) (L : List Pt) (xs : List Itm) : Calls Tryz.prog 33 #[S l] w (ReadAns 1 0 L xs w) := by
  unfold maxLen at hm
  go_enter Tryz.func33, Tryz.ntmps33
  go_wp2_with fail
  exact bodyPost_ret (v := .tuple #[.agg #[.slice none 0 0, .slice none 0 0], .int .i64 1, .int .i64 0]) (by simp [results, Tryz.results33, go_sem]) rfl (ans_err (n := 1) (k := 0) (by decide) (((Below.refl _ _).alloc (Nat.le_refl _) _).alloc (by simp) _))

theorem two_new (w : World) (o1 o2 : Obj) : Below w.heap.size w ((w.alloc o1).alloc o2) ∧ ((w.alloc o1).alloc o2).heap[w.heap.size]? = some o1 ∧ ((w.alloc o1).alloc o2).heap[w.heap.size + 1]? = some o2 := by
  refine ⟨((Below.refl _ _).alloc (Nat.le_refl _) _).alloc (by simp) _, ?_, ?_⟩
  · rw [Below.heap_alloc _ _ _ (by simp)]; exact heap_alloc_new w o1
  · have e := heap_alloc_new (w.alloc o1) o2
    rw [World.size_alloc] at e; exact e

set_option maxHeartbeats 2000000 in
theorem read_word (l : List UInt8) (w : World) (hl : l.length ≤ 1000) (ts : List Tok) (p : Nat) (hx : lex (l.length + 1) l 0 = (ts, some p)) (L : List Pt) (xs : List Itm) : Calls Tryz.prog 33 #[S l] w (ReadAns 2 p L xs w) := by
  obtain ⟨hB0, hR0, hP0⟩ := two_new w (polV (.slice none 0 0) (.slice none 0 0)) (polV (.slice none 0 0) (.slice none 0 0))
  have HL : Hid _ := hx
  have HH : Hid _ := And.intro hB0 (And.intro hR0 hP0)
  clear hx hB0 hR0 hP0
  go_enter Tryz.func33, Tryz.ntmps33
  go_wp2_with fail
  refine (words_any l _ hl).mono ?_
  rintro e w1 ⟨hb1, hans⟩
  rw [HL.out] at hans
  simp only at hans
  subst hans
  obtain ⟨hB0, hR0, hP0⟩ := HH.out
  have hR1 : w1.heap[w.heap.size]? = some (polV (.slice none 0 0) (.slice none 0 0)) := by rw [hb1.block _ (lt_of_get hR0)]; exact hR0
  have hP1 : w1.heap[w.heap.size + 1]? = some (polV (.slice none 0 0) (.slice none 0 0)) := by rw [hb1.block _ (lt_of_get hP0)]; exact hP0
  have hB1 : Below w.heap.size w w1 := hB0.trans (hb1.mono hB0.size)
  have r0 := cell_of_row w1 w.heap.size 0 _ _ _ hR1
  have r1 := cell_of_row w1 w.heap.size 1 _ _ _ hR1
  have p0 := cell_of_row w1 (w.heap.size + 1) 0 _ _ _ hP1
  have p1 := cell_of_row w1 (w.heap.size + 1) 1 _ _ _ hP1
  have rf : ∀ j, w1.frozen? ⟨w.heap.size, j, none⟩ = false := fun j => by simp [World.frozen?, hR1]
  simp only [List.getElem?_toArray, List.getElem?_cons_zero, List.getElem?_cons_succ] at r0 r1 p0 p1
  clear hb1 hB0 hR0 hP0 HH
  go_wp2_with fail
  exact bodyPost_ret (v := .tuple #[.agg #[.slice none 0 0, .slice none 0 0], .int .i64 2, .int .i64 p]) (by simp [results, Tryz.results33, go_sem, cell_set_same, cell_set_off, some_set, r0, r1]) rfl (ans_err (n := 2) (k := p) (by decide) ((hB1.setCell (p := ⟨w.heap.size, 0, none⟩) (Nat.le_refl _) _).setCell (p := ⟨w.heap.size, 1, none⟩) (Nat.le_refl _) _))
end Go.Proofs.YtfkdailfcmnjlaaGreatDoor
