/-
  Every Print of the program is the document's.
-/
import Derived.Test.YtfkdailfcmnjlaaGreatDoorME
import Derived.Test.YtfkdailfcmnjlaaGreatDoorMG
import Derived.Deep.RegionHeld3
set_option linter.unusedVariables false
set_option linter.unusedSimpArgs false
namespace Go.Proofs.YtfkdailfcmnjlaaGreatDoor
open Go Go.RowKit
set_option maxRecDepth 100000
attribute [local go_sem ↓] Go.wp_at_zero Go.wp_at_succ

theorem conv_one (c : Nat) (hc : c < 256) (w : World) : (convert 155 9 (.slice (some ⟨w.heap.size, 0, none⟩) 1 1)).run Tryz.prog (w.alloc (.cells #[.int .u8 (c : Int)] 5)) = .ok (S [UInt8.ofNat c]) (w.alloc (.cells #[.int .u8 (c : Int)] 5)) := by
  refine run_convert_bytes_back (w.alloc (.cells #[.int .u8 (c : Int)] 5)) 155 9 5 ⟨w.heap.size, 0, none⟩ 1 [UInt8.ofNat c] Tryz.underlying155 Tryz.underlying5 Tryz.underlying9 fun j hj => ?_
  have hj0 : j = 0 := by simp at hj; omega
  subst hj0
  have e : (UInt8.ofNat c).toNat = c := by rw [UInt8.toNat_ofNat']; omega
  simp [Addr.add, e]
theorem conv_cell (c : Nat) (hc : c < 256) (W : World) (g : Nat) (h : W.cell? ⟨g, 0, none⟩ = some (.int .u8 (c : Int))) : (convert 155 9 (.slice (some ⟨g, 0, none⟩) 1 1)).run Tryz.prog W = .ok (S [UInt8.ofNat c]) W := by
  refine run_convert_bytes_back W 155 9 5 ⟨g, 0, none⟩ 1 [UInt8.ofNat c] Tryz.underlying155 Tryz.underlying5 Tryz.underlying9 fun j hj => ?_
  have hj0 : j = 0 := by simp at hj; omega
  subst hj0
  have e : (UInt8.ofNat c).toNat = c := by rw [UInt8.toNat_ofNat']; omega
  simp [Addr.add, e, h]
theorem rba_cat (a b : List UInt8) : (ByteArray.mk a.toArray ++ ByteArray.mk b.toArray) = ByteArray.mk (a ++ b).toArray := by
  apply ByteArray.ext
  simp
theorem wrap_small {x : Int} (h0 : 0 ≤ x) (h1 : x ≤ 9223372036854775807) : IntKind.i64.wrap x = x := by
  simp [IntKind.wrap, IntKind.signed, IntKind.bits]
  omega
theorem wrap_byte {x : Int} (h0 : 0 ≤ x) (h1 : x ≤ 255) : IntKind.u8.wrap x = x := by
  simp [IntKind.wrap, IntKind.signed, IntKind.bits]
  omega
set_option maxHeartbeats 1000000 in
theorem tens_any (f : Nat) : ∀ (n : Nat) (w : World), n < 10 ^ f → n ≤ 9223372036854775807 → 0 < f → f ≤ 30 → Calls Tryz.prog 69 #[.int .i64 n] w fun e w' => e = .returned (S (tensF f n)) ∧ Below w.heap.size w w' := by
  induction f with
  | zero => intro n w _ _ h; omega
  | succ f ih =>
    intro n w hn hm _ hf
    by_cases h : n < 10
    · have HE : Hid (tensF (f + 1) n = [UInt8.ofNat (48 + n)]) := by show _ = _; rw [tensF, if_pos h]
      generalize tensF (f + 1) n = r at *
      have hcv := conv_one (48 + n) (by omega) w
      have hb := (Below.refl w.heap.size w).alloc (Nat.le_refl _) (.cells #[.int .u8 ((48 + n : Nat) : Int)] 5)
      rw [show ((48 + n : Nat) : Int) = 48 + (n : Int) from by omega] at hcv hb
      clear ih hn
      generalize UInt8.ofNat (48 + n) = d at *
      go_enter Tryz.func69, Tryz.ntmps69
      go_wp2_with fail
      go_ret
      exact ⟨by rw [HE.out]; rfl, hb⟩
    · have HE : Hid (tensF (f + 1) n = tensF f (n / 10) ++ [UInt8.ofNat (48 + n % 10)]) := by show _ = _; rw [tensF, if_neg h]
      generalize tensF (f + 1) n = r at *
      have hf0 : 0 < f := by
        rcases Nat.eq_zero_or_pos f with rfl | h0
        · simp at hn; omega
        · exact h0
      rw [Nat.pow_succ] at hn
      have HI := fun w => ih (n / 10) w (by omega) (by omega) hf0 (by omega)
      have hl := tensF_len f (n / 10)
      have hcv : ∀ (W : World) (g : Nat), W.cell? ⟨g, 0, none⟩ = some (.int .u8 (48 + ((n % 10 : Nat) : Int))) → (convert 155 9 (.slice (some ⟨g, 0, none⟩) 1 1)).run Tryz.prog W = .ok (S [UInt8.ofNat (48 + n % 10)]) W := fun W g hc => by
        rw [show 48 + ((n % 10 : Nat) : Int) = ((48 + n % 10 : Nat) : Int) from by omega] at hc
        exact conv_cell (48 + n % 10) (by omega) W g hc
      have hq : IntKind.i64.wrap ((n : Int) / 10) = ((n / 10 : Nat) : Int) := by
        rw [show (n : Int) / 10 = ((n / 10 : Nat) : Int) from by omega]
        exact wrap_small (by omega) (by omega)
      have ht : (n : Int).tmod 10 = ((n % 10 : Nat) : Int) := by
        rw [Int.tmod_eq_emod_of_nonneg (by omega)]; omega
      have hm9 : n % 10 < 10 := by omega
      have hw1 : IntKind.i64.wrap (48 + ((n % 10 : Nat) : Int)) = 48 + ((n % 10 : Nat) : Int) := wrap_small (by omega) (by omega)
      have hw2 : IntKind.u8.wrap (48 + ((n % 10 : Nat) : Int)) = 48 + ((n % 10 : Nat) : Int) := wrap_byte (by omega) (by omega)
      generalize UInt8.ofNat (48 + n % 10) = d at *
      generalize n % 10 = m at *
      generalize tensF f (n / 10) = t at *
      generalize n / 10 = q at *
      clear ih hn
      have hs1 : ¬ 9223372036854775807 < t.length + 1 := by omega
      go_enter Tryz.func69, Tryz.ntmps69
      go_wp2_with fail
      go_region_with ((go_at_call 69; refine (HI _).mono ?_; rintro e w1 ⟨rfl, hb⟩; try (have hc1 : w1.cell? ⟨w.heap.size, 0, none⟩ = some (.int .u8 (48 + (m : Int))) := by rw [hb.cell (by simp)]; simp)))
      all_goals go_wp2_with fail
      all_goals go_ret
      all_goals refine ⟨by rw [HE.out]; exact congrArg (fun s => Ending.returned (Value.string s)) (rba_cat t [d]), ?_⟩
      all_goals have hb0 : Below w.heap.size w (w.alloc (.cells #[.int .u8 (48 + (m : Int))] 5)) := (Below.refl _ _).alloc (Nat.le_refl _) _
      all_goals first
        | exact hb0.drew.trans (hb.mono (by simp))
        | exact ((Below.refl _ _).drew.trans hb).alloc (by have := hb.size; simpa using this) _
end Go.Proofs.YtfkdailfcmnjlaaGreatDoor

namespace Go.Proofs.YtfkdailfcmnjlaaGreatDoor
open Go Go.RowKit
set_option maxRecDepth 100000
attribute [local go_sem ↓] Go.wp_at_zero Go.wp_at_succ

theorem info_rstr : (Tryz.prog.info? 9).map (fun i => (i.zero, i.size, i.bytes)) = some (some (.string ⟨#[]⟩), 1, 16) := by kernel_rfl

theorem rstr_row {w : World} {base : Nat} {v : Value} {l : List Nat} {F : Nat → List UInt8} (h : w.ownsRow base 9 1 v l.length (l.map fun i => S (F i))) : ∃ a cap, v = .slice a l.length cap ∧ ∀ j, j < l.length → ∃ g, a = some ⟨g, 0, none⟩ ∧ w.cell? ⟨g, j, none⟩ = some (S (F (l.getD j 0))) := by
  obtain ⟨hl, h⟩ := h
  rcases h with ⟨rfl, h0⟩ | ⟨g, cap, cur, rfl, hb, hg, h1, h2, h3, h4⟩
  · exact ⟨none, 0, by rw [h0], fun k hk => by omega⟩
  · refine ⟨_, cap, rfl, fun k hk => ⟨g, rfl, ?_⟩⟩
    rw [cell_of_row w g k _ _ _ hg]
    have e1 : cur[k]? = (cur.toList.take (l.length * 1))[k]? := by
      rw [List.getElem?_take_of_lt (by omega)]; simp
    rw [e1, h4]
    simp [hk, List.getD_eq_getElem?_getD]
set_option maxHeartbeats 8000000 in
theorem rplain_step {B g cap : Nat} {a : Option Addr} {n c : Nat} {ps : List PartS} {L : List Pt} (f : Nat) (F : Nat → List UInt8) (hF : ∀ j, (F j).length ≤ 100000000)
    (k : Nat) (w : World) (h : PartsIn B g cap ps w) (hk : k < ps.length) (htx : (ps.getD k noPart).tok.text.length ≤ 1000) (hl3 : (ps.getD k noPart).subs.length ≤ 3) (hsm : ∀ j ∈ (ps.getD k noPart).subs, j ≤ 5000) (hnn : (ps.getD k noPart).tok.k = 110 → (ps.getD k noPart).n = decVal (ps.getD k noPart).tok.text ∧ decVal (ps.getD k noPart).tok.text ≤ 9223372036854775807)
    (ih : ∀ j ∈ (ps.getD k noPart).subs, ∀ (w1 : World), PartsIn B g cap ps w1 → Calls Tryz.prog 35 #[.agg #[.slice a n c, .slice (some ⟨g, 0, none⟩) ps.length cap], .int .i64 j] w1 fun e w' => e = .returned (S (F j)) ∧ Below w1.heap.size w1 w') :
    Calls Tryz.prog 35 #[.agg #[.slice a n c, .slice (some ⟨g, 0, none⟩) ps.length cap], .int .i64 k] w fun e w' => e = .returned (S (if (ps.getD k noPart).tok.k = 110 then tensL (decVal (ps.getD k noPart).tok.text) else overL (ps.getD k noPart).tok.text ((ps.getD k noPart).subs.map F))) ∧ Below w.heap.size w w' := by
  obtain ⟨i0, hi, hz0, hz1, hz2⟩ := info_parts info_rstr
  obtain ⟨k0, k1, k2, k3, k4⟩ := h.cells k hk
  have hpf := h.few
  have hone : (ps.getD k noPart).sv.oneCell' = true := by
    have hm : ps.getD k noPart ∈ ps := by rw [List.getD_eq_getElem?_getD, List.getElem?_eq_getElem hk]; exact List.getElem_mem hk
    exact (h.subs _ hm).one
  have b1 : (0 : Int) ≤ (k : Int) := by omega
  have b2 : (k : Int) < (ps.length : Int) := by omega
  have lg := World.block_lt_of_cell? w _ k0
  simp only at lg
  have hsub := h.sub k hk
  have IH : Hid _ := ih
  have HN : Hid _ := hnn
  have HSM : Hid _ := hsm
  have HH : Hid _ := h
  clear ih hnn hsm h
  generalize ps.getD k noPart = pp at *
  obtain ⟨sa, hsv, hsc⟩ : ∃ sa, pp.sv = .slice sa pp.subs.length pp.subs.length ∧ ∀ j, j < pp.subs.length → ∃ sb, sa = some ⟨sb, 0, none⟩ ∧ w.cell? ⟨sb, j, none⟩ = some (.int .i64 (pp.subs.getD j 0)) := by
    rcases hsub with ⟨e1, e2⟩ | ⟨sb, e2, hcs⟩
    · exact ⟨none, by rw [e1, e2]; rfl, fun j hj => by rw [e1] at hj; simp at hj⟩
    · refine ⟨some ⟨sb, 0, none⟩, e2, fun j hj => ⟨sb, rfl, ?_⟩⟩
      exact hcs j hj
  rw [hsv] at k3 hone
  have HSC : Hid _ := hsc
  clear hsub hsc hsv
  generalize pp.subs = sl at *
  generalize pp.tok.k = tk at *
  generalize pp.tok.text = tx at *
  generalize pp.tok.pl = tp at *
  generalize pp.n = tn at *
  generalize hr : (if tk = 110 then tensL (decVal tx) else overL tx (sl.map F)) = r
  have HR : Hid _ := hr
  clear hr
  go_enter Tryz.func35, Tryz.ntmps35
  have hB0 : Below w.heap.size w ((w.alloc (.cells #[.slice a n c, .slice (some ⟨g, 0, none⟩) ps.length cap] 90)).alloc (.cells #[.int .u8 tk, S tx, .int .i64 tp, .slice sa sl.length sl.length, .int .i64 tn] 169)) := ((Below.refl _ _).alloc (Nat.le_refl _) _).alloc (by simp) _
  have hX0 : ((w.alloc (.cells #[.slice a n c, .slice (some ⟨g, 0, none⟩) ps.length cap] 90)).alloc (.cells #[.int .u8 tk, S tx, .int .i64 tp, .slice sa sl.length sl.length, .int .i64 tn] 169)).heap[w.heap.size]? = some (.cells #[.slice a n c, .slice (some ⟨g, 0, none⟩) ps.length cap] 90 (0, 0)) := by rw [Below.heap_alloc _ _ _ (by simp)]; exact heap_alloc_new w _
  have hP0 : ((w.alloc (.cells #[.slice a n c, .slice (some ⟨g, 0, none⟩) ps.length cap] 90)).alloc (.cells #[.int .u8 tk, S tx, .int .i64 tp, .slice sa sl.length sl.length, .int .i64 tn] 169)).heap[w.heap.size + 1]? = some (.cells #[.int .u8 tk, S tx, .int .i64 tp, .slice sa sl.length sl.length, .int .i64 tn] 169 (0, 0)) := by have e := heap_alloc_new (w.alloc (.cells #[.slice a n c, .slice (some ⟨g, 0, none⟩) ps.length cap] 90)) (.cells #[.int .u8 tk, S tx, .int .i64 tp, .slice sa sl.length sl.length, .int .i64 tn] 169); rw [World.size_alloc] at e; exact e
  have H0 : Hid _ := And.intro hB0 (And.intro hX0 hP0)
  clear hB0 hX0 hP0
  go_wp2_with fail
  clear k0 k1 k2 k3 k4
  go_loopw [6, 7] (fun sv jv wr => ∃ j, j ≤ sl.length ∧ jv = .int .i64 j ∧ wr.ownsRow w.heap.size 9 1 sv j ((sl.take j).map fun i => S (F i)) ∧ Below w.heap.size w wr ∧ wr.heap[w.heap.size]? = some (.cells #[.slice a n c, .slice (some ⟨g, 0, none⟩) ps.length cap] 90 (0, 0)) ∧ wr.heap[w.heap.size + 1]? = some (.cells #[.int .u8 tk, S tx, .int .i64 tp, .slice sa sl.length sl.length, .int .i64 tn] 169 (0, 0))) (fun _ jv _ => sl.length - (intOf jv).toNat)
  case atStart => exact ⟨0, Nat.zero_le _, rfl, World.ownsRow_nil _ _ _ _, H0.out.1, H0.out.2.1, H0.out.2.2⟩
  case round =>
    obtain ⟨j, hj, rfl, hown, hbw, hpw, hxw⟩ := hrel
    have p0 := cell_of_row wr w.heap.size 0 _ _ _ hpw
    have p1 := cell_of_row wr w.heap.size 1 _ _ _ hpw
    have x0 := cell_of_row wr (w.heap.size + 1) 0 _ _ _ hxw
    have x1 := cell_of_row wr (w.heap.size + 1) 1 _ _ _ hxw
    have x3 := cell_of_row wr (w.heap.size + 1) 3 _ _ _ hxw
    have x4 := cell_of_row wr (w.heap.size + 1) 4 _ _ _ hxw
    simp only [List.getElem?_toArray, List.getElem?_cons_zero, List.getElem?_cons_succ] at p0 p1 x0 x1 x3 x4
    by_cases hlt : j < sl.length
    · obtain ⟨sb, rfl, hsb⟩ := HSC.out j hlt
      have hsb' : wr.cell? ⟨sb, j, none⟩ = some (.int .i64 (sl.getD j 0)) := by rw [hbw.cell (p := ⟨sb, j, none⟩) (World.block_lt_of_cell? w _ hsb)]; exact hsb
      have hmem : sl.getD j 0 ∈ sl := by rw [List.getD_eq_getElem?_getD, List.getElem?_eq_getElem hlt]; exact List.getElem_mem hlt
      have W1 := IH.out (sl.getD j 0) hmem wr.drew (HH.out.below hbw.drew)
      have hjm := HSM.out _ hmem
      have hFl := hF (sl.getD j 0)
      have keepF : ∀ w', Below wr.heap.size wr.drew w' → (w'.cell? ⟨w.heap.size, 0, none⟩ = some (.slice a n c) ∧ w'.cell? ⟨w.heap.size, 1, none⟩ = some (.slice (some ⟨g, 0, none⟩) ps.length cap) ∧ w'.cell? ⟨w.heap.size + 1, 3, none⟩ = some (.slice (some ⟨sb, 0, none⟩) sl.length sl.length) ∧ w'.cell? ⟨sb, j, none⟩ = some (.int .i64 (sl.getD j 0))) := fun w' h => by
        rw [h.cell (p := ⟨w.heap.size, 0, none⟩) (lt_of_get hpw), h.cell (p := ⟨w.heap.size, 1, none⟩) (lt_of_get hpw), h.cell (p := ⟨w.heap.size + 1, 3, none⟩) (lt_of_get hxw), h.cell (p := ⟨sb, j, none⟩) (World.block_lt_of_cell? wr _ hsb')]
        exact ⟨p0, p1, x3, hsb'⟩
      have KF : Hid _ := keepF
      have HTK : Hid _ := List.take_succ_eq_append_getElem hlt
      have HGJ : Hid (sl[j] = sl.getD j 0) := by show _ = _; rw [List.getD_eq_getElem?_getD, List.getElem?_eq_getElem hlt]; rfl
      clear keepF hmem hsb
      generalize hFj : F (sl.getD j 0) = fj at *
      have HFJ : Hid _ := hFj
      clear hFj
      generalize hij : sl.getD j 0 = ij at *
      clear hij
      go_wp2_with fail
      go_region_held3 (fun w' => w'.cell? ⟨w.heap.size, 0, none⟩ = some (.slice a n c) ∧ w'.cell? ⟨w.heap.size, 1, none⟩ = some (.slice (some ⟨g, 0, none⟩) ps.length cap) ∧ w'.cell? ⟨w.heap.size + 1, 3, none⟩ = some (.slice (some ⟨sb, 0, none⟩) sl.length sl.length) ∧ w'.cell? ⟨sb, j, none⟩ = some (.int .i64 ij)) (first | exact KF.out _ hb5 | go_keep) ((go_at_call 35; refine W1.mono ?_; rintro e w5 ⟨rfl, hb5⟩))
      rename_i hHeld
      clear hHeld
      have hb6 : Below wr.heap.size wr w5 := (Below.refl _ _).drew.trans hb5
      have hB5 : Below w.heap.size w w5 := hbw.trans (hb6.mono hbw.size)
      have hown5 := ownsRow_below hown hb6
      have hp5 := (hb6.block _ (lt_of_get hpw)).trans hpw
      have hx5 := (hb6.block _ (lt_of_get hxw)).trans hxw
      have hs5 := hB5.size
      clear hown hpw hxw p0 p1 x0 x1 x3 x4 hb5 hb6 KF W1
      go_wp2_with (
        at_builtin
        go_must (refine wpList_append_lies _ (by rfl) _ _ 131 (by rfl) w.heap.size 9 i0 (.string ⟨#[]⟩) 1 16 Tryz.underlying131 hi hz0 hz1 hz2 (by rfl) (by decide) _ _ _ (by rfl) (hown5.alloc _) ⟨w5.heap.size, 0, none⟩ 1 1 [S fj] (by rfl) (by rfl) (World.news_of_block (heap_alloc_new w5 _)) (fun x hx => by simp at hx; rcases hx with rfl; rfl) (by decide) (by unfold maxLen; omega) (by omega) (by simp; omega) _ rfl ?_)
        intro g3 cap3 w3 hown3 hgrow3 hat hlt3)
      have hfar : ∀ (q : Nat) (cs : Array Value) (ty : TypeId), w5.heap[q]? = some (.cells cs ty (0, 0)) → ty ≠ 9 → w3.heap[q]? = some (.cells cs ty (0, 0)) := fun q cs ty hq ht => by
        rw [hgrow3.block q (by have := lt_of_get hq; simp; omega) (fun e => by
          obtain ⟨cs', hc⟩ := ownsRow_type hown5 e.symm
          rw [hq] at hc
          simp only [Option.some.injEq, Obj.cells.injEq] at hc
          exact ht hc.2.1), Below.heap_alloc _ _ _ (lt_of_get hq)]
        exact hq
      refine ⟨⟨j + 1, by omega, by simp, ?_, below_far1 hB5 hown5 hgrow3, hfar _ _ _ hp5 (by decide), hfar _ _ _ hx5 (by decide)⟩, by simp [intOf]; omega⟩
      rw [HTK.out, List.map_append, HGJ.out]
      simpa [HFJ.out] using hown3
    · have hke : j = sl.length := by omega
      subst hke
      rw [List.take_length] at hown
      clear hpw hxw p0 p1
      by_cases htk : tk = 110
      · obtain ⟨e1, e2⟩ := HN.out htk
        have h20 : (10 : Nat) ^ 20 = 100000000000000000000 := by decide
        have hT := tens_any 20 (decVal tx) wr (by omega) e2 (by decide) (by decide)
        clear h20
        have HE : Hid (r = tensF 20 (decVal tx)) := by show _ = _; rw [← HR.out, if_pos htk]; rfl
        subst htk
        rw [e1] at x4
        generalize tensF 20 (decVal tx) = tt at *
        generalize decVal tx = dv at *
        clear hown HN HR
        go_wp2_with fail
        refine hT.mono ?_
        rintro e w1 ⟨rfl, hb1⟩
        clear hT
        go_wp2_with fail
        go_ret
        exact ⟨by rw [HE.out]; rfl, hbw.trans (hb1.mono hbw.size)⟩
      · have HE : Hid (r = overL tx (sl.map F)) := by show _ = _; rw [← HR.out, if_neg htk]
        have htk2 : ((tk : Int) == (110 : Int)) = false := by
          have : ¬ ((tk : Int) = 110) := by omega
          simpa using this
        obtain ⟨sv, sc, rfl, hst⟩ := rstr_row hown
        have hF0 := hF (sl.getD 0 0)
        have hF1 := hF (sl.getD 1 0)
        have hF2 := hF (sl.getD 2 0)
        clear hown HN HR htk x4 HSM IH HSC H0
        match sl, hl3, HE, hst, hF0, hF1, hF2 with
        | [], _, HE, _, _, _, _ =>
          have HE2 : Hid (r = tx) := HE.out
          clear HE
          simp only [List.length_nil] at *
          go_wp2_with fail
          go_ret
          exact ⟨by rw [HE2.out]; rfl, hbw⟩
        | [y], _, HE, hst, hF0, _, _ =>
          obtain ⟨gs, rfl, hc0⟩ := hst 0 (by simp)
          have HE2 : Hid (r = wsNot ++ F y ++ [41]) := HE.out
          simp only [List.getD_cons_zero] at hc0 hF0
          clear HE hst
          simp only [List.length_cons, List.length_nil] at *
          generalize F y = fy at *
          go_wp2_with fail
          go_ret
          refine ⟨?_, hbw⟩
          rw [HE2.out]
          have e1 := rba_cat wsNot fy
          have e2 := rba_cat (wsNot ++ fy) [41]
          exact congrArg (fun s => Ending.returned (Value.string s)) (by rw [← e2, ← e1]; rfl)
        | [y, z], _, HE, hst, hF0, hF1, _ =>
          obtain ⟨gs, rfl, hc0⟩ := hst 0 (by simp)
          obtain ⟨gs', e', hc1⟩ := hst 1 (by simp)
          obtain rfl : gs = gs' := by simpa using e'
          have HE2 : Hid (r = [40] ++ F y ++ [32] ++ tx ++ [32] ++ F z ++ [41]) := HE.out
          simp only [List.getD_cons_zero, List.getD_cons_succ] at hc0 hF0 hc1 hF1
          clear HE hst e'
          simp only [List.length_cons, List.length_nil] at *
          generalize F y = fy at *
          generalize F z = fz at *
          have s1 : ¬ 9223372036854775807 < 1 + fy.length := by omega
          have s2 : ¬ 9223372036854775807 < 1 + fy.length + 1 := by omega
          have s3 : ¬ 9223372036854775807 < 1 + fy.length + 1 + tx.length := by omega
          have s4 : ¬ 9223372036854775807 < 1 + fy.length + 1 + tx.length + 1 := by omega
          have s5 : ¬ 9223372036854775807 < 1 + fy.length + 1 + tx.length + 1 + fz.length := by omega
          have s6 : ¬ 9223372036854775807 < 1 + fy.length + 1 + tx.length + 1 + fz.length + 1 := by omega
          have HB : Hid (Below w.heap.size w wr.drew) := hbw.drew
          go_wp2_with fail
          go_region_held (fun w' => w'.cell? ⟨gs, 0, none⟩ = some (S fy) ∧ w'.cell? ⟨gs, 1, none⟩ = some (S fz) ∧ w'.cell? ⟨w.heap.size + 1, 1, none⟩ = some (S tx)) (go_keep) (fail)
          go_wp2_with fail
          go_ret
          refine ⟨?_, HB.out⟩
          rw [HE2.out]
          have e1 := rba_cat [40] fy
          have e2 := rba_cat ([40] ++ fy) [32]
          have e3 := rba_cat ([40] ++ fy ++ [32]) tx
          have e4 := rba_cat ([40] ++ fy ++ [32] ++ tx) [32]
          have e5 := rba_cat ([40] ++ fy ++ [32] ++ tx ++ [32]) fz
          have e6 := rba_cat ([40] ++ fy ++ [32] ++ tx ++ [32] ++ fz) [41]
          exact congrArg (fun s => Ending.returned (Value.string s)) (by rw [← e6, ← e5, ← e4, ← e3, ← e2, ← e1])
        | [y, z, u], _, HE, hst, hF0, hF1, hF2 =>
          obtain ⟨gs, rfl, hc0⟩ := hst 0 (by simp)
          obtain ⟨gs', e', hc1⟩ := hst 1 (by simp)
          obtain rfl : gs = gs' := by simpa using e'
          obtain ⟨gs'', e'', hc2⟩ := hst 2 (by simp)
          obtain rfl : gs = gs'' := by simpa using e''
          have HE2 : Hid (r = wsIf ++ F y ++ wsThen ++ F z ++ wsElse ++ F u ++ [41]) := HE.out
          simp only [List.getD_cons_zero, List.getD_cons_succ] at hc0 hF0 hc1 hF1 hc2 hF2
          clear HE hst e' e''
          simp only [List.length_cons, List.length_nil] at *
          generalize F y = fy at *
          generalize F z = fz at *
          generalize F u = fu at *
          have s1 : ¬ 9223372036854775807 < 4 + fy.length := by omega
          have s2 : ¬ 9223372036854775807 < 4 + fy.length + 6 := by omega
          have s3 : ¬ 9223372036854775807 < 4 + fy.length + 6 + fz.length := by omega
          have s4 : ¬ 9223372036854775807 < 4 + fy.length + 6 + fz.length + 6 := by omega
          have s5 : ¬ 9223372036854775807 < 4 + fy.length + 6 + fz.length + 6 + fu.length := by omega
          have s6 : ¬ 9223372036854775807 < 4 + fy.length + 6 + fz.length + 6 + fu.length + 1 := by omega
          have HB : Hid (Below w.heap.size w wr.drew) := hbw.drew
          go_wp2_with fail
          go_region_held (fun w' => w'.cell? ⟨gs, 0, none⟩ = some (S fy) ∧ w'.cell? ⟨gs, 1, none⟩ = some (S fz) ∧ w'.cell? ⟨gs, 2, none⟩ = some (S fu)) (go_keep) (fail)
          go_wp2_with fail
          go_ret
          refine ⟨?_, HB.out⟩
          rw [HE2.out]
          have e1 := rba_cat wsIf fy
          have e2 := rba_cat (wsIf ++ fy) wsThen
          have e3 := rba_cat (wsIf ++ fy ++ wsThen) fz
          have e4 := rba_cat (wsIf ++ fy ++ wsThen ++ fz) wsElse
          have e5 := rba_cat (wsIf ++ fy ++ wsThen ++ fz ++ wsElse) fu
          have e6 := rba_cat (wsIf ++ fy ++ wsThen ++ fz ++ wsElse ++ fu) [41]
          exact congrArg (fun s => Ending.returned (Value.string s)) (by rw [← e6, ← e5, ← e4, ← e3, ← e2, ← e1]; rfl)
        | _ :: _ :: _ :: _ :: _, hl3, _, _, _, _, _ => simp at hl3
end Go.Proofs.YtfkdailfcmnjlaaGreatDoor

namespace Go.Proofs.YtfkdailfcmnjlaaGreatDoor
open Go Go.RowKit
set_option maxRecDepth 100000

theorem item_name {F : Nat} {ts : List Tok} {i : Nat} {L : List Pt} {r : ItR} (h : itemP F ts i L = some r) (ok : r.ok = true) : r.it.name = [] ∨ ∃ t ∈ ts, r.it.name = t.text := by
  have tail : ∀ (j : Nat) (x : Itm), itemTail F ts j L x = some r → r.it.name = x.name := by
    intro j x hr
    obtain ⟨a, ha, hres⟩ := tail_parts hr
    rcases hres with ⟨oka, hw, rfl⟩ | ⟨_, hr1, _⟩
    · rfl
    · rw [hr1] at ok; simp at ok
  unfold itemP at h
  split at h
  · split at h
    · rename_i hk
      split at h
      · have hm := (inside (ts := ts) (i := i + 1) fun e => by rw [e] at hk; exact absurd hk (by decide)).2
        exact .inr ⟨_, hm, tail _ _ h⟩
      · simp [itFail] at h; subst h; simp at ok
    · simp [itFail] at h; subst h; simp at ok
  · split at h
    · split at h
      · exact .inl (tail _ _ h)
      · simp [itFail] at h; subst h; simp at ok
    · simp [itFail] at h; subst h; simp at ok
theorem parse_named {F : Nat} {ts : List Tok} (g : Nat) : ∀ (i : Nat) (L : List Pt) (xs : List Itm) (R : AllR), (∀ x ∈ xs, x.name = [] ∨ ∃ t ∈ ts, x.name = t.text) → parseAll F ts g i L xs = some R → R.ok = true → ∀ x ∈ R.xs, x.name = [] ∨ ∃ t ∈ ts, x.name = t.text := by
  induction g with
  | zero => intro i L xs R _ h; rw [parseAll] at h; simp at h
  | succ g ih =>
    intro i L xs R hT h ok
    by_cases hk : (tokAt ts i).k = 101
    · have := parse_end h hk; subst this; exact hT
    · rw [parseAll, if_neg hk] at h
      cases hr : itemP F ts i L with
      | none => rw [hr] at h; simp at h
      | some r =>
        rw [hr] at h
        simp only at h
        by_cases okr : r.ok = true
        · rw [if_pos okr] at h
          refine ih r.i r.L (xs ++ [r.it]) R (fun x hx => ?_) h ok
          rcases List.mem_append.1 hx with hx | hx
          · exact hT x hx
          · rw [List.mem_singleton] at hx; subst hx; exact item_name hr okr
        · rw [if_neg okr] at h; simp at h; subst h; simp at ok

/-- What a text that was read gives for its plain form. -/
structure PrintOK (L : List Pt) (xs : List Itm) : Prop where
  parts : PlainOK L
  trees : TreesAt L xs 0
  names : ∀ x ∈ xs, x.name.length ≤ 1000
theorem print_known (l : List UInt8) (h0 : (readOf l).1.1 = 0) : PrintOK (readOf l).2.1 (readOf l).2.2 := by
  unfold readOf at *
  by_cases h1 : 1000 < l.length
  · rw [if_pos h1] at h0; simp at h0
  · rw [if_neg h1] at h0 ⊢
    cases hx : (lex (l.length + 1) l 0).2 with
    | some p => rw [hx] at h0; simp at h0
    | none =>
      rw [hx] at h0
      simp only [] at h0 ⊢
      have hlex : lex (l.length + 1) l 0 = ((lex (l.length + 1) l 0).1, none) := by rw [← hx]
      obtain ⟨r1, r2, r3, r4, r5⟩ := lex_ok l (by omega) (l.length + 1) 0 _ (Nat.zero_le _) (by omega) hlex
      obtain ⟨hwo, hwl⟩ := lex_words l (l.length + 1) 0 _ (Nat.zero_le _) (by omega) hlex
      generalize (lex (l.length + 1) l 0).1 = ts at *
      obtain ⟨R, hR⟩ := parse_total (F := 16 * ts.length + 8) (Nat.le_refl _) r4 (ts.length + 1) 0 [] [] (by omega)
      have e : allOf ts = R := by unfold allOf; rw [hR]; rfl
      rw [e] at h0 ⊢
      have ok : R.ok = true := by
        cases hk : R.ok with
        | true => rfl
        | false => unfold verdictOf at h0; rw [if_pos hk] at h0; simp at h0
      obtain ⟨k1, k2, k3⟩ := all_known hwo (by omega) hR ok
      obtain ⟨_, k4, _, _⟩ := parse_trees hwo.sorted _ 0 [] [] R rfl ⟨by simp, by simp, by simp⟩ (by simp) (by omega) hR ok
      have k5 := parse_named _ 0 [] [] R (by simp) hR ok
      refine ⟨⟨k3, fun k hk => (r3 _ (k4.2.2 k hk)).1, fun k hk hn => ((r3 _ (k4.2.2 k hk)).2 hn).2, k2.few⟩, k1, fun x hx => ?_⟩
      rcases k5 x hx with h | ⟨t, ht, h⟩
      · rw [h]; simp
      · rw [h]; exact (r3 t ht).1

theorem toPt_getD (ps : List PartS) (k : Nat) : (ps.map toPt).getD k noPt = toPt (ps.getD k noPart) := by
  rw [List.getD_eq_getElem?_getD, List.getD_eq_getElem?_getD, List.getElem?_map]
  cases ps[k]? <;> rfl
theorem rplain_any {B g cap : Nat} {a : Option Addr} {n c : Nat} {ps : List PartS} (hL : PlainOK (ps.map toPt)) (hn : ∀ p ∈ ps, p.n = numOf p.tok) (f : Nat) : ∀ {lo k : Nat} {w : World}, TreeF f (ps.map toPt) lo k → PartsIn B g cap ps w →
    Calls Tryz.prog 35 #[.agg #[.slice a n c, .slice (some ⟨g, 0, none⟩) ps.length cap], .int .i64 k] w fun e w' => e = .returned (S (plainF f (ps.map toPt) k)) ∧ Below w.heap.size w w' := by
  induction f with
  | zero => intro lo k w h; exact h.elim
  | succ f ih =>
    intro lo k w hT hP
    have hlt := hT.lt
    have hltp : k < ps.length := by simpa using hlt
    have hsub := forest_bounds _ hT.2.2
    have hsh := hT.2.1
    have hnum := hL.num k hlt
    have hsho := hL.short k hlt
    rw [toPt_getD] at hsub hsh hnum hsho
    have hpm : ps.getD k noPart ∈ ps := by rw [List.getD_eq_getElem?_getD, List.getElem?_eq_getElem hltp]; exact List.getElem_mem hltp
    have hnn := hn _ hpm
    have hps : ps.length ≤ 5000 := by simpa using hL.few
    have hlen : ∀ j ∈ (ps.getD k noPart).subs, (plainF f (ps.map toPt) j).length ≤ 100000000 := fun j hj => by
      obtain ⟨lo', h1, h2, h3⟩ := hsub j hj
      have h6 := TreeF.plain_len hL.short h3
      have : 1100 * (j + 1 - lo') ≤ 1100 * 5000 := Nat.mul_le_mul_left _ (by omega)
      omega
    have h := rplain_step (a := a) (n := n) (c := c) (L := ps.map toPt) f (fun j => if j ∈ (ps.getD k noPart).subs then plainF f (ps.map toPt) j else [])
      (fun j => by split; exact hlen j (by assumption); simp) k w hP hltp hsho
      (by rcases hsh with ⟨_, h⟩ | ⟨_, h⟩ | ⟨_, h⟩ | ⟨_, _, _, h⟩
          · have : (ps.getD k noPart).subs = [] := h
            rw [this]; simp
          all_goals (have : (ps.getD k noPart).subs.length = _ := h; omega))
      (fun j hj => by obtain ⟨lo', h1, h2, h3⟩ := hsub j hj; omega)
      (fun hk => ⟨by rw [hnn]; unfold numOf; rw [if_pos hk], hnum hk⟩)
      (fun j hj w1 h1 => by
        obtain ⟨lo', _, _, h3⟩ := hsub j hj
        have := ih h3 h1
        rw [if_pos hj]; exact this)
    have em : (ps.getD k noPart).subs.map (fun j => if j ∈ (ps.getD k noPart).subs then plainF f (ps.map toPt) j else []) = (ps.getD k noPart).subs.map (plainF f (ps.map toPt)) :=
      List.map_congr_left fun j hj => if_pos hj
    rw [em] at h
    rw [plainF, toPt_getD]
    exact h
end Go.Proofs.YtfkdailfcmnjlaaGreatDoor

namespace Go.Proofs.YtfkdailfcmnjlaaGreatDoor
open Go Go.RowKit
set_option maxRecDepth 100000
attribute [local go_sem ↓] Go.wp_at_zero Go.wp_at_succ

/-- What Print answers. -/
def textOf (l : List UInt8) : List UInt8 := if (readOf l).1.1 = 0 then printL (readOf l).2.1 (readOf l).2.2 else []
/-- What the document's Print finds behind 'read'. -/
def RefAt (B : Nat) (r : List UInt8) (iv pv : Value) (w : World) : Prop :=
  (∃ a c a' b' c', iv = .slice a 0 c ∧ pv = .slice a' b' c' ∧ r = []) ∨
  ∃ gi c g cap ps xs, iv = .slice (some ⟨gi, 0, none⟩) xs.length c ∧ pv = .slice (some ⟨g, 0, none⟩) ps.length cap ∧ ItemsIn B iv xs w ∧ PartsIn B g cap ps w ∧ (∀ p ∈ ps, p.n = numOf p.tok) ∧ PrintOK (ps.map toPt) xs ∧ r = printL (ps.map toPt) xs
theorem ref_at (l : List UInt8) {w w' : World} {e : Ending} (h : ReadAns (readOf l).1.1 (readOf l).1.2 (readOf l).2.1 (readOf l).2.2 w e w') :
    Below w.heap.size w w' ∧ ∃ iv pv, e = .returned (.tuple #[.agg #[iv, pv], .int .i64 (readOf l).1.1, .int .i64 (readOf l).1.2]) ∧ RefAt w.heap.size (textOf l) iv pv w' := by
  obtain ⟨hb, iv, pv, rfl, ⟨a, b, c, rfl⟩, ⟨a', b', c', rfl⟩, h1, h2⟩ := h
  refine ⟨hb, _, _, rfl, ?_⟩
  by_cases h0 : (readOf l).1.1 = 0
  · have hk := print_known l h0
    have ht : textOf l = printL (readOf l).2.1 (readOf l).2.2 := by unfold textOf; rw [if_pos h0]
    obtain ⟨hI, ps, hrow, hsub, hfew, hnum, hps⟩ := h2 h0
    rw [ht]
    generalize (readOf l).2.2 = xs at *
    rw [← hps] at hk ⊢
    cases hxs : xs with
    | nil =>
      subst hxs
      refine .inl ⟨a, c, a', b', c', ?_, rfl, rfl⟩
      rcases hI.form with ⟨e, _⟩ | ⟨gi, c1, e⟩
      · simp only [Value.slice.injEq] at e; rw [e.2.1]
      · simp only [Value.slice.injEq] at e; rw [e.2.1]; rfl
    | cons x r =>
      refine .inr ?_
      rw [← hxs]
      have hx0 : xs.length ≠ 0 := by rw [hxs]; simp
      have htr := hk.trees
      rw [hxs] at htr
      have htop := htr.1.fit.lt
      rcases hI.form with ⟨_, e⟩ | ⟨gi, c1, e⟩
      · exact absurd e hx0
      · rcases hrow.2 with ⟨_, e2⟩ | ⟨g, cap, cur, e2, _⟩
        · rw [List.length_map] at htop; omega
        · exact ⟨gi, c1, g, cap, ps, xs, e, e2, hI, ⟨e2 ▸ hrow, hsub, hfew⟩, hnum, hk, rfl⟩
  · obtain ⟨e1, e2⟩ := h1 h0
    refine .inl ⟨none, 0, a', b', c', e1, rfl, ?_⟩
    unfold textOf; rw [if_neg h0]
theorem trees_at {L : List Pt} {xs : List Itm} : ∀ {fr : Nat}, TreesAt L xs fr → ∀ j (hj : j < xs.length), ∃ lo, Tree L lo xs[j].top := by
  induction xs with
  | nil => intro fr _ j hj; simp at hj
  | cons x r ih =>
    intro fr h j hj
    cases j with
    | zero => exact ⟨fr, h.1⟩
    | succ j => exact ih h.2.2 j (by simpa using hj)

abbrev itO (x : Itm) : Obj := .cells #[S x.name, .bool x.allow, .int .i64 x.top, .int .i64 x.pl, .int .i64 x.named, .int .i64 x.parts] 95
set_option maxHeartbeats 8000000 in
theorem print_ref (l : List UInt8) (w : World) (hm : l.length ≤ maxLen) : Calls Tryz.prog 15 #[S l] w fun e w' => e = .returned (.tuple #[S (textOf l), .int .i64 (readOf l).1.1, .int .i64 (readOf l).1.2]) ∧ Below w.heap.size w w' := by
  have HRD := (read_any l w hm).mono fun e w' h => ref_at l h
  clear hm
  generalize (readOf l).1.1 = n at *
  generalize (readOf l).1.2 = k at *
  generalize textOf l = r at *
  go_enter Tryz.func15, Tryz.ntmps15
  go_wp2_with fail
  refine HRD.mono ?_
  rintro e w1 ⟨hb1, iv, pv, rfl, hA⟩
  clear HRD
  rcases hA with ⟨a, c, a', b', c', rfl, rfl, hr⟩ | ⟨gi, c, g, cap, ps, xs, rfl, rfl, hI, hP, hnum, hk, hr⟩
  · have HR : Hid _ := hr
    have HB : Hid _ := hb1.alloc hb1.size (.cells #[.slice a 0 c, .slice a' b' c'] 90)
    clear hr hb1
    go_wp2_with fail
    go_loop [8, 9] (fun t i => t = S [] ∧ i = .int .i64 0) (fun _ _ => 0)
    case atStart => exact ⟨rfl, rfl⟩
    case round =>
      obtain ⟨rfl, rfl⟩ := hrel
      go_wp2_with fail
      refine bodyPost_ret (v := .tuple #[S [], .int .i64 n, .int .i64 k]) (by simp [results, Tryz.results15, go_sem]) rfl ?_
      exact ⟨by rw [HR.out], HB.out⟩
  · have HR : Hid _ := hr
    have hbA := hb1.alloc hb1.size (.cells #[.slice (some ⟨gi, 0, none⟩) xs.length c, .slice (some ⟨g, 0, none⟩) ps.length cap] 90)
    have hbx : (w1.alloc (.cells #[.slice (some ⟨gi, 0, none⟩) xs.length c, .slice (some ⟨g, 0, none⟩) ps.length cap] 90)).heap[w1.heap.size]? = some (.cells #[.slice (some ⟨gi, 0, none⟩) xs.length c, .slice (some ⟨g, 0, none⟩) ps.length cap] 90 (0, 0)) := heap_alloc_new w1 _
    have hf := hI.few
    have hpf := hP.few
    have hI1 := hI.below ((Below.refl _ _).alloc (Nat.le_refl _) (.cells #[.slice (some ⟨gi, 0, none⟩) xs.length c, .slice (some ⟨g, 0, none⟩) ps.length cap] 90))
    have hP1 := hP.below ((Below.refl _ _).alloc (Nat.le_refl _) (.cells #[.slice (some ⟨gi, 0, none⟩) xs.length c, .slice (some ⟨g, 0, none⟩) ps.length cap] 90))
    have H0 : Hid _ := And.intro hbA (And.intro hbx (And.intro hI1 hP1))
    have HNUM : Hid _ := hnum
    have HK : Hid _ := hk
    have HS : Hid _ := hb1.size
    clear hr hb1 hI hP hnum hk hbA hbx hI1 hP1
    go_wp2_with fail
    generalize w1.alloc (.cells #[.slice (some ⟨gi, 0, none⟩) xs.length c, .slice (some ⟨g, 0, none⟩) ps.length cap] 90) = wz at *
    go_loopw [8, 9] (fun tv jv wr => ∃ (j : Nat) (t : List UInt8), j ≤ xs.length ∧ jv = .int .i64 j ∧ tv = S t ∧ t.length ≤ 6000000 * j ∧ Hid (t = printL (ps.map toPt) (xs.take j)) ∧ Below w.heap.size w wr ∧ wr.heap[w1.heap.size]? = some (.cells #[.slice (some ⟨gi, 0, none⟩) xs.length c, .slice (some ⟨g, 0, none⟩) ps.length cap] 90 (0, 0)) ∧ Hid (ItemsIn w.heap.size (.slice (some ⟨gi, 0, none⟩) xs.length c) xs wr) ∧ Hid (PartsIn w.heap.size g cap ps wr)) (fun _ jv _ => xs.length - (intOf jv).toNat)
    case atStart => exact ⟨0, [], Nat.zero_le _, rfl, rfl, by simp, rfl, H0.out.1, H0.out.2.1, H0.out.2.2.1, H0.out.2.2.2⟩
    case round =>
      obtain ⟨j, t, hj, rfl, rfl, htl, HT, hbw, hbx, HI, HP⟩ := hrel
      have q0 := cell_of_row wr w1.heap.size 0 _ _ _ hbx
      have q1 := cell_of_row wr w1.heap.size 1 _ _ _ hbx
      have hlw := lt_of_get hbx
      simp only [List.getElem?_toArray, List.getElem?_cons_zero, List.getElem?_cons_succ] at q0 q1
      by_cases hlt : j < xs.length
      · obtain ⟨c0, c1, c2, c3, c4, c5⟩ := HI.out.cells j hlt
        have hm : xs[j] ∈ xs := List.getElem_mem hlt
        have HPT : Hid _ := print_take (L := ps.map toPt) hlt
        have HGJ : xs.getD j noItm = xs[j] := by rw [List.getD_eq_getElem?_getD, List.getElem?_eq_getElem hlt]; rfl
        rw [HGJ] at HPT
        have hxn := HK.out.names _ hm
        obtain ⟨lo, hTr⟩ := trees_at HK.out.trees j hlt
        have hTF := hTr.fit
        have hpl := TreeF.plain_len HK.out.parts.short hTF
        have hxl := hTF.lt
        rw [List.length_map] at hxl
        have hpl2 : (plainF (xs[j].top + 1) (ps.map toPt) xs[j].top).length ≤ 5500000 := Nat.le_trans hpl (Nat.le_trans (Nat.mul_le_mul_left _ (show xs[j].top + 1 - lo ≤ 5000 by omega)) (by decide))
        have b1 : (0 : Int) ≤ (j : Int) := by omega
        have b2 : (j : Int) < (xs.length : Int) := by omega
        have lg := World.block_lt_of_cell? wr _ c0
        simp only at lg
        have hnx : wr.heap.size ≠ w1.heap.size := by omega
        have hng : wr.heap.size ≠ gi := by omega
        have hbA : Below wr.heap.size wr (wr.alloc (itO xs[j])) := (Below.refl _ _).alloc (Nat.le_refl _) _
        have hBA : Hid (Below w.heap.size w (wr.alloc (itO xs[j]))) := hbw.trans (hbA.mono hbw.size)
        have hbX : Hid ((wr.alloc (itO xs[j])).heap[w1.heap.size]? = some (.cells #[.slice (some ⟨gi, 0, none⟩) xs.length c, .slice (some ⟨g, 0, none⟩) ps.length cap] 90 (0, 0))) := by show _ = _; rw [Below.heap_alloc _ _ _ hlw]; exact hbx
        have HIA : Hid _ := HI.out.below hbA
        have HPA : Hid _ := HP.out.below hbA
        have hxz : Hid ((wr.alloc (itO xs[j])).heap[wr.heap.size]? = some (itO xs[j])) := heap_alloc_new wr _
        have W1 := fun W (h : PartsIn w.heap.size g cap ps W) => rplain_any (a := some ⟨gi, 0, none⟩) (n := xs.length) (c := c) HK.out.parts HNUM.out (xs[j].top + 1) (w := W) hTF h
        have HEI : Hid (itemL (ps.map toPt) xs[j] = headL xs[j] ++ plainF (xs[j].top + 1) (ps.map toPt) xs[j].top ++ [59, 10]) := rfl
        have HHD : Hid (headL xs[j] = if xs[j].name = [] then (if xs[j].allow then wsAllow else wsDeny) else wsLet ++ xs[j].name ++ wsEq) := rfl
        clear hm HI HP hpl hTr hTF hbx hbA HGJ
        unfold itO at *
        generalize itemL (ps.map toPt) xs[j] = il at *
        generalize headL xs[j] = hd at *
        generalize plainF (xs[j].top + 1) (ps.map toPt) xs[j].top = pl at *
        generalize xs[j] = x at *
        obtain ⟨nm, al, tp, xp, xn, xq⟩ := x
        simp only [] at *
        by_cases hne : nm = []
        · cases al with
          | true =>
            have HHD2 : Hid (hd = wsAllow) := by show _ = _; rw [HHD.out, if_pos hne]; rfl
            have e1 : (nm == []) = true := by simpa using hne
            have e2 : (nm != []) = false := by simpa using hne
            clear hne HHD
            go_wp2_with fail
            refine (W1 _ HPA.out).mono ?_
            rintro e w2 ⟨rfl, hb2⟩
            clear W1 c0 c1 c2 c3 c4 c5 q0 q1
            have hB2 := hBA.out.trans (hb2.mono hBA.out.size)
            have hx2 := (hb2.block _ (lt_of_get hbX.out)).trans hbX.out
            have HI2 : Hid _ := HIA.out.below hb2
            have HP2 : Hid _ := HPA.out.below hb2
            clear hb2 HIA HPA hBA hbX hxz
            go_wp2_with fail
            go_roundw
            case rel =>
              refine ⟨j + 1, t ++ hd ++ pl ++ [59, 10], by omega, by simp, ?_, by rw [HHD2.out]; simp [wsLet, wsEq, wsAllow, wsDeny]; omega, ?_, hB2, hx2, HI2.out, HP2.out⟩
              · rw [HHD2.out]
                have e3 := rba_cat t wsAllow
                have e8 := rba_cat (t ++ (wsAllow)) pl
                have e9 := rba_cat (t ++ (wsAllow) ++ pl) [59, 10]
                exact congrArg Value.string (by rw [← e9, ← e8, ← e3]; rfl)
              · show _ = _
                rw [HPT.out, HEI.out, HT.out]; simp
            case measure => simp [intOf]; omega

          | false =>
            have HHD2 : Hid (hd = wsDeny) := by show _ = _; rw [HHD.out, if_pos hne]; rfl
            have e1 : (nm == []) = true := by simpa using hne
            have e2 : (nm != []) = false := by simpa using hne
            clear hne HHD
            go_wp2_with fail
            refine (W1 _ HPA.out).mono ?_
            rintro e w2 ⟨rfl, hb2⟩
            clear W1 c0 c1 c2 c3 c4 c5 q0 q1
            have hB2 := hBA.out.trans (hb2.mono hBA.out.size)
            have hx2 := (hb2.block _ (lt_of_get hbX.out)).trans hbX.out
            have HI2 : Hid _ := HIA.out.below hb2
            have HP2 : Hid _ := HPA.out.below hb2
            clear hb2 HIA HPA hBA hbX hxz
            go_wp2_with fail
            go_roundw
            case rel =>
              refine ⟨j + 1, t ++ hd ++ pl ++ [59, 10], by omega, by simp, ?_, by rw [HHD2.out]; simp [wsLet, wsEq, wsAllow, wsDeny]; omega, ?_, hB2, hx2, HI2.out, HP2.out⟩
              · rw [HHD2.out]
                have e3 := rba_cat t wsDeny
                have e8 := rba_cat (t ++ (wsDeny)) pl
                have e9 := rba_cat (t ++ (wsDeny) ++ pl) [59, 10]
                exact congrArg Value.string (by rw [← e9, ← e8, ← e3]; rfl)
              · show _ = _
                rw [HPT.out, HEI.out, HT.out]; simp
            case measure => simp [intOf]; omega

        · have _h := 0
          have HHD2 : Hid (hd = wsLet ++ nm ++ wsEq) := by show _ = _; rw [HHD.out, if_neg hne]
          have e1 : (nm == []) = false := by simpa using hne
          have e2 : (nm != []) = true := by simpa using hne
          clear hne HHD
          go_wp2_with fail
          refine (W1 _ HPA.out).mono ?_
          rintro e w2 ⟨rfl, hb2⟩
          clear W1 c0 c1 c2 c3 c4 c5 q0 q1
          have hB2 := hBA.out.trans (hb2.mono hBA.out.size)
          have hx2 := (hb2.block _ (lt_of_get hbX.out)).trans hbX.out
          have HI2 : Hid _ := HIA.out.below hb2
          have HP2 : Hid _ := HPA.out.below hb2
          clear hb2 HIA HPA hBA hbX hxz
          go_wp2_with fail
          go_roundw
          case rel =>
            refine ⟨j + 1, t ++ hd ++ pl ++ [59, 10], by omega, by simp, ?_, by rw [HHD2.out]; simp [wsLet, wsEq, wsAllow, wsDeny]; omega, ?_, hB2, hx2, HI2.out, HP2.out⟩
            · rw [HHD2.out]
              have e3 := rba_cat t wsLet
              have e4 := rba_cat (t ++ wsLet) nm
              have e5 := rba_cat (t ++ wsLet ++ nm) wsEq
              have e6 : t ++ (wsLet ++ nm ++ wsEq) = t ++ wsLet ++ nm ++ wsEq := by simp
              have e8 := rba_cat (t ++ (wsLet ++ nm ++ wsEq)) pl
              have e9 := rba_cat (t ++ (wsLet ++ nm ++ wsEq) ++ pl) [59, 10]
              exact congrArg Value.string (by rw [← e9, ← e8, e6, ← e5, ← e4, ← e3]; rfl)
            · show _ = _
              rw [HPT.out, HEI.out, HT.out]; simp
          case measure => simp [intOf]; omega

      · have hke : j = xs.length := by omega
        subst hke
        have HE : Hid (t = r) := by
          have := HT.out
          rw [List.take_length] at this
          show _ = _
          rw [this, HR.out]
        have HB : Hid _ := hbw
        clear hbw hbx htl HI HP
        go_wp2_with fail
        refine bodyPost_ret (v := .tuple #[S t, .int .i64 n, .int .i64 k]) (by simp [results, Tryz.results15, go_sem]) rfl ?_
        exact ⟨by rw [HE.out], HB.out⟩
end Go.Proofs.YtfkdailfcmnjlaaGreatDoor

namespace Go.Proofs.YtfkdailfcmnjlaaGreatDoor
open Go Go.RowKit
set_option maxRecDepth 100000
attribute [local go_sem ↓] Go.wp_at_zero Go.wp_at_succ

theorem verdict_zero (ts : List Tok) (R : AllR) (h : (verdictOf ts R).1 = 0) : (verdictOf ts R).2 = 0 := by
  unfold verdictOf at *
  repeat' split at h
  all_goals simp_all
theorem read_zero (l : List UInt8) (h : (readOf l).1.1 = 0) : (readOf l).1.2 = 0 := by
  unfold readOf at *
  by_cases h1 : 1000 < l.length
  · rw [if_pos h1] at h; simp at h
  · rw [if_neg h1] at h ⊢
    cases hx : (lex (l.length + 1) l 0).2 with
    | some p => rw [hx] at h; simp at h
    | none =>
      rw [hx] at h
      exact verdict_zero _ _ h
set_option maxHeartbeats 2000000 in
theorem print_prog (l : List UInt8) (w : World) (hW : Wd w) (hT : Tb w) (hm : l.length ≤ maxLen) : Calls Tryz.prog 14 #[S l] w fun e w' => e = .returned (.tuple #[S (textOf l), .int .i64 (readOf l).1.1, .int .i64 (readOf l).1.2]) ∧ Below w.heap.size w w' := by
  have HR := pread_any l w hW hm
  have HK : Hid ((readOf l).1.1 = 0 → PrintOK (readOf l).2.1 (readOf l).2.2) := print_known l
  have HX : Hid (textOf l = if (readOf l).1.1 = 0 then printL (readOf l).2.1 (readOf l).2.2 else []) := rfl
  have HZ : Hid ((readOf l).1.1 = 0 → (readOf l).1.2 = 0) := read_zero l
  have HW : Hid (Wd w) := hW
  have HT : Hid (Tb w) := hT
  have hb := read_bound l
  clear hW hT
  generalize textOf l = r at *
  generalize (readOf l).1.1 = n at *
  generalize (readOf l).1.2 = k at *
  generalize (readOf l).2.1 = L at *
  generalize (readOf l).2.2 = xs at *
  go_enter Tryz.func14, Tryz.ntmps14
  go_wp2_with fail
  refine HR.mono ?_
  rintro e w1 ⟨hf, v, rfl, hv⟩
  clear HR
  by_cases h0 : n = 0
  · obtain ⟨bs, ys, hbs, hP⟩ := hv h0
    have hk := HK.out h0
    have W1 := plain_any hk.parts hP.row hP.few hP.items hP.trees hk.names (Sp.below HW.out.1 (Sp.pos HW.out.1) hf) (Tb.below HT.out hf)
    have HX2 : Hid (r = printL L xs) := by show _ = _; rw [HX.out, if_pos h0]
    have HZ2 : Hid _ := HZ.out h0
    have HF : Hid _ := hf
    clear hv hP hk HK HX HZ hf
    subst h0
    generalize printL L xs = pr at *
    go_wp2_with fail
    refine W1.mono ?_
    rintro e w2 ⟨rfl, hb2⟩
    clear W1
    go_wp2_with fail
    refine bodyPost_ret (v := .tuple #[S pr, .int .i64 0, .int .i64 0]) (by simp [results, Tryz.results14, go_sem]) rfl ?_
    exact ⟨by rw [HX2.out, HZ2.out]; rfl, HF.out.trans (hb2.mono HF.out.size)⟩
  · have e1 : ((n : Int) == 0) = false := by
      have : ¬ (n : Int) = 0 := by omega
      simpa using this
    have e2 : ((n : Int) != 0) = true := by
      have : ¬ (n : Int) = 0 := by omega
      simpa using this
    have HX2 : Hid (r = []) := by show _ = _; rw [HX.out, if_neg h0]
    have HF : Hid _ := hf
    clear hv HK HX HZ hf h0
    go_wp2_with fail
    refine bodyPost_ret (v := .tuple #[S [], .int .i64 n, .int .i64 k]) (by simp [results, Tryz.results14, go_sem]) rfl ?_
    exact ⟨by rw [HX2.out], HF.out⟩

set_option maxHeartbeats 2000000 in
theorem prints_any (l : List UInt8) (w : World) (hW : Wd w) (hT : Tb w) (hm : l.length ≤ maxLen) : Calls Tryz.prog 4 #[S l] w fun e w' => e = .returned (.bool true) ∧ Below w.heap.size w w' := by
  have HR := print_prog l w hW hT hm
  have HQ := fun w => print_ref l w hm
  have hb := read_bound l
  have HN := fun w => num_any (readOf l).1.1 hb w
  generalize textOf l = r at *
  generalize (readOf l).1.1 = n at *
  generalize (readOf l).1.2 = k at *
  go_enter Tryz.func4, Tryz.ntmps4
  go_wp2_with fail
  refine HR.mono ?_
  rintro e w1 ⟨rfl, hf⟩
  clear HR
  go_wp2_with fail
  refine (HQ w1).mono ?_
  rintro e w2 ⟨rfl, hb2⟩
  clear HQ
  go_wp2_with fail
  refine (HN w2).mono ?_
  rintro e w3 ⟨rfl, rfl⟩
  clear HN
  go_wp2_with fail
  go_ret
  exact ⟨rfl, hf.trans (hb2.mono hf.size)⟩
end Go.Proofs.YtfkdailfcmnjlaaGreatDoor
