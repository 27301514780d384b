/-
  The program's types: a whole policy. What is known of a policy's parts and items as the plain reader makes them. What is known of the words of a text. The program's function 'Read' answers as the plain reading does. A policy's plain form: plain Lean functions; how long it can be. The program's plain form of a condition's word and of an item's head. The library's FormatInt, and the program's plain form of a condition. The program's plain form of a condition. The program's plain form of a condition over two and over three.
-/
import Derived.Test.YtfkdailfcmnjlaaGreatDoorPlain01
import Derived.Test.YtfkdailfcmnjlaaGreatDoorPlain02
import Derived.Test.YtfkdailfcmnjlaaGreatDoorPlain03
import Derived.Test.YtfkdailfcmnjlaaGreatDoorPlain04
import Derived.Test.YtfkdailfcmnjlaaGreatDoorPlain05
import Derived.Test.YtfkdailfcmnjlaaGreatDoorPlain06
import Derived.Test.YtfkdailfcmnjlaaGreatDoorPlain07
import Derived.Test.YtfkdailfcmnjlaaGreatDoorPlain08
import Derived.Test.YtfkdailfcmnjlaaGreatDoorLays
import Derived.Test.YtfkdailfcmnjlaaGreatDoorLays2
import Derived.WalkKit
import Derived.Deep.QuietTactic
import Derived.BigQuiet
import Derived.WalkSpells
import GoSem.Op.String
import Derived.Deep.AppendLies
import Derived.Deep.RegionHeld3
import Derived.Deep.DrawnRows
import Derived.Deep.RegionHeldLaw
import Derived.Deep.RegionLaw
import Derived.Lib.ParseIntBCases
import Derived.Deep.OwnRows
import Derived.Lib.LaidTab
import Derived.Lib.AppendIntMem
set_option linter.unusedVariables false
set_option linter.unusedSimpArgs false
namespace Go.Proofs.YtfkdailfcmnjlaaGreatDoor
open Go Go.RowKit
set_option maxRecDepth 100000
attribute [local go_sem ↓] Go.wp_at_zero Go.wp_at_succ
variable {bs : Nat}

/-- A row of numbers. -/
theorem ty_row {w : World} {base : Nat} {v : Value} {l : List Nat} (h : w.ownsRow base 220 1 v l.length (l.map fun (n : Nat) => Value.int .i64 n)) : ∃ a cap, v = .slice a l.length cap ∧ TyAt w a l := by
  obtain ⟨hl, h⟩ := h
  rcases h with ⟨rfl, h0⟩ | ⟨g, cap, cur, rfl, hb, hg, h1, h2, h3, h4⟩
  · exact ⟨none, 0, by rw [h0], fun k hk => by omega⟩
  · refine ⟨_, cap, rfl, fun k hk => ⟨g, rfl, ?_⟩⟩
    rw [cell_of_row w g k _ _ _ hg]
    have e1 : cur[k]? = (cur.toList.take (l.length * 1))[k]? := by
      rw [List.getElem?_take_of_lt (by omega)]; simp
    rw [e1, h4]
    simp [hk, List.getD_eq_getElem?_getD]

set_option maxHeartbeats 600000 in
theorem typed_any {L : List Pt} (hL : PartsOK L) (hW : ∀ k, k < L.length → TokW (L.getD k noPt).tok) {xs : List Itm} {ys : List (Tok × Tok × Nat × Int)} {base : Nat} {v : Value} {w : World} (hrow : w.ownsRow base 163 10 v ys.length (iCells ys)) (hy : ys.length ≤ 1001)
    (hit : ItemsAt (CondS bs L (N1 (idx (giv xs))) w) xs ys) (htr : TreesAt L xs 0) (hnm : namesAt xs L xs 0 0 = none) :
    Calls Tryz.prog 59 #[v] w fun e w' => e = .returned (plcV (typesAt xs L xs [])) ∧ Below w.heap.size w w' := by
  obtain ⟨a, cap, rfl, hcell⟩ := row_cells hrow
  obtain ⟨i0, hi, hz0, hz1, hz2⟩ := info_parts info_type
  have hlen : Hid _ := hit.len
  have hlx : Hid (xs.length ≤ 1001) := by show _ ≤ _; rw [← hit.len]; exact hy
  have HC : Hid _ := hcell
  have HT : Hid _ := hit
  have HTR : Hid _ := htr
  have HL : Hid _ := hL
  have HNM : Hid _ := hnm
  have HW : Hid _ := hW
  clear hrow hcell hit htr hL hnm hW
  go_enter Tryz.func59, Tryz.ntmps59
  go_wp2_with fail
  go_loopw [4, 10] (fun lv kv wr => ∃ k fr its, k ≤ ys.length ∧ kv = .int .i64 k ∧ Hid (typesAt xs L xs [] = typesAt xs L (xs.drop k) its) ∧ Hid (its.length = k ∧ ∀ c ∈ its, isTy c) ∧ Hid (namesAt xs L (xs.drop k) fr k = none) ∧ Hid (TreesAt L (xs.drop k) fr) ∧ Hid (ItemsAt (CondS bs L (N1 (idx (giv xs))) w) (xs.drop k) (ys.drop k)) ∧ wr.ownsRow w.heap.size 220 1 lv (letTys (xs.take k) its).length ((letTys (xs.take k) its).map fun (n : Nat) => Value.int .i64 n) ∧ Below w.heap.size w wr) (fun _ kv _ => ys.length - (intOf kv).toNat)
  case atStart => exact ⟨0, 0, [], Nat.zero_le _, rfl, rfl, ⟨rfl, by simp⟩, HNM.out, HTR.out, HT.out, World.ownsRow_nil _ _ _ _, Below.refl _ _⟩
  case round =>
    obtain ⟨k, fr, its, hk, rfl, HM, HIS, HNM2, HTR2, HIT2, hown, hbw⟩ := hrel
    by_cases hlt : k < ys.length
    · have hltx : k < xs.length := by rw [← hlen.out]; exact hlt
      obtain ⟨hisl, hisy⟩ := HIS.out
      have hll := letTys_len (xs.take k) its (by rw [hisl]; simp; omega)
      have hgl := giv_len (xs.take k)
      have hgl2 : (letTys (xs.take k) its).length ≤ k := by rw [hll]; exact Nat.le_trans hgl (by simp; omega)
      clear hll hgl
      have ht2 := HTR2.out
      have hi2 := HIT2.out
      have hn2 := HNM2.out
      rw [drop_head hltx noItm] at ht2 hi2 hn2
      rw [drop_head hltx noItm] at HM
      rw [drop_head hlt (zTok, zTok, 0, 0)] at hi2
      obtain ⟨g, rfl, ⟨gcs, hgc⟩, hcells⟩ := HC.out k hlt
      have HTX : Hid _ := take_snoc hltx noItm
      generalize xs.getD k noItm = x at *
      generalize ys.getD k (zTok, zTok, 0, 0) = y at *
      obtain ⟨⟨hCd, hO⟩, hi2⟩ := hi2
      obtain ⟨hTr, hpt, ht2⟩ := ht2
      obtain ⟨hgv, hn2⟩ := names_given HL.out hTr hpt hn2
      obtain ⟨t0, u0, b, wh⟩ := y
      simp only [] at hCd hO
      have hct : ∀ j, j < 10 → wr.cell? ⟨g, k * 10 + j, none⟩ = (icell (t0, u0, b, wh))[j]? := fun j hj => by
        rw [hbw.cell (p := ⟨g, k * 10 + j, none⟩) (lt_of_get hgc)]; exact hcells j hj
      have c0 := hct 0 (by omega)
      have c1 := hct 1 (by omega)
      have c2 := hct 2 (by omega)
      have c3 := hct 3 (by omega)
      have c4 := hct 4 (by omega)
      have c5 := hct 5 (by omega)
      have c6 := hct 6 (by omega)
      have c7 := hct 7 (by omega)
      have c8 := hct 8 (by omega)
      have c9 := hct 9 (by omega)
      simp [icell] at c0 c1 c2 c3 c4 c5 c6 c7 c8 c9
      have hTF := hTr.fit
      obtain ⟨al, capl, rfl, hSt⟩ := ty_row hown
      have hb0 : Below wr.heap.size wr (wr.alloc (.cells #[.int .i64 (kindOf t0), .int .i64 t0.pl, .int .i64 (nmOf t0), S (ownOf t0), .int .i64 (kindOf u0), .int .i64 u0.pl, .int .i64 (nmOf u0), S (ownOf u0), .int .i64 wh, .pointer (some ⟨b, 0, none⟩)] 163 (0, 0))) := (Below.refl _ _).alloc (Nat.le_refl _) _
      have hbw0 : Below w.heap.size w (wr.alloc (.cells #[.int .i64 (kindOf t0), .int .i64 t0.pl, .int .i64 (nmOf t0), S (ownOf t0), .int .i64 (kindOf u0), .int .i64 u0.pl, .int .i64 (nmOf u0), S (ownOf u0), .int .i64 wh, .pointer (some ⟨b, 0, none⟩)] 163 (0, 0))) := hbw.alloc hbw.size _
      have hgv' : Given xs its.length L fr (x.top + 1) := by rw [hisl]; exact hgv
      have hSt' : TyAt (wr.alloc (.cells #[.int .i64 (kindOf t0), .int .i64 t0.pl, .int .i64 (nmOf t0), S (ownOf t0), .int .i64 (kindOf u0), .int .i64 u0.pl, .int .i64 (nmOf u0), S (ownOf u0), .int .i64 wh, .pointer (some ⟨b, 0, none⟩)] 163 (0, 0))) al (letTys (xs.take its.length) its) := by rw [hisl]; exact hSt.grow hb0
      have W1 := ptypeOf_any (cap := capl) HW.out hisy (by rw [hisl]; omega) hlx.out (x.top + 1) hTF hgv' (hCd.grow hbw0) hSt'
      rw [hisl] at W1
      have hty := tyOf_ty (xs := xs) HW.out hisy (x.top + 1) hTF hgv'
      have HST : Hid _ := ptypes_step (r := xs.drop (k + 1)) rfl rfl hty
      have htc := tcode_le (tyOf xs its L (x.top + 1) x.top)
      have hty2 : Hid (tcode (tyOf xs its L (x.top + 1) x.top) ≠ 0 → isTy (tyOf xs its L (x.top + 1) x.top)) := fun h => by
        rcases hty with h0 | h0
        · exact absurd (by rw [h0]; decide) h
        · exact h0
      have hown0 := ownsRow_below hown hb0
      have hz0' : (wr.alloc (.cells #[.int .i64 (kindOf t0), .int .i64 t0.pl, .int .i64 (nmOf t0), S (ownOf t0), .int .i64 (kindOf u0), .int .i64 u0.pl, .int .i64 (nmOf u0), S (ownOf u0), .int .i64 wh, .pointer (some ⟨b, 0, none⟩)] 163 (0, 0))).heap[wr.heap.size]? = _ := heap_alloc_new wr _
      have HTR3 : Hid _ := ht2
      have HIT3 : Hid _ := hi2
      have HNM3 : Hid _ := hn2
      have hFw : Hid _ := hbw0
      have hOwn : Hid _ := hown0
      have HIL : Hid _ := hisl
      have HIY : Hid _ := hisy
      unfold ItOf at hO
      have hp1 : t0.pl = x.pl := by rcases hO with hO | hO <;> exact hO.2.2.1
      have hp0' : Hid _ := hp1
      clear hp1 hTr hTF hCd ht2 hi2 hct hcells hSt hbw hown hb0 hbw0 hgc HTR2 HIT2 HNM2 hown0 HTR HT HNM hgv hgv' hSt' hty hisl hisy hn2 HIS
      generalize hkd0 : kindOf t0 = kd at *
      generalize u0.pl = m5 at *
      generalize ownOf u0 = s7 at *
      generalize t0.pl = p0 at *
      generalize nmOf t0 = m2 at *
      generalize ownOf t0 = s3 at *
      generalize kindOf u0 = m4 at *
      generalize nmOf u0 = m6 at *
      generalize htyc : tyOf xs its L (x.top + 1) x.top = tc at *
      clear htyc
      generalize htt : tcode tc = tt at *
      have HTT : Hid _ := htt
      clear htt
      generalize hlts : letTys (xs.take k) its = lts at *
      have HLT : Hid _ := hlts
      clear hlts
      rcases hO with hO | hO
      · have hkd : kd = 11 := hO.2.1
        subst hkd
        have HNE : Hid _ := hO.1
        skip
        clear hO hkd0
        go_wp2_with fail
        refine W1.mono ?_
        rintro e w1 ⟨rfl, hb1⟩
        clear W1 c0 c1 c2 c3 c4 c5 c6 c7 c8 c9
        have hz1' : w1.heap[wr.heap.size]? = _ := (hb1.block _ (lt_of_get hz0')).trans hz0'
        have hBw : Hid _ := hFw.out.trans (hb1.mono hFw.out.size)
        have hown1 := ownsRow_below hOwn.out hb1
        have hs1 := hBw.out.size
        obtain ⟨⟨z0, z1, z2, z3, z4, z5, z6, z7, z8, z9⟩, zf⟩ := it_cells hz1'
        clear hz1' hz0' hb1 hFw hOwn
        generalize wr.heap.size = bi at *
        by_cases h0 : tt = 0
        · subst h0
          go_wp2_with fail
          refine bodyPost_ret (v := .tuple #[.int .i64 p0, .bool false]) (by simp [results, Tryz.results59, go_sem]) rfl ⟨?_, hBw.out⟩
          rw [HM.out, HST.out, if_pos (by simp), ← hp0'.out]; rfl
        · have h02 : ((tt : Int) == (0 : Int)) = false := by
            have : ¬ ((tt : Int) = 0) := by omega
            simpa using this
          have H0 : Hid _ := h0
          clear h0
          go_wp2_with (
            at_builtin
            go_must (refine wpList_append_lies _ (by rfl) _ _ 219 (by rfl) w.heap.size 220 i0 (.int .i64 0) 1 8 Tryz.underlying219 hi hz0 hz1 hz2 (by rfl) (by decide) _ _ _ (by rfl) (hown1.alloc _) ⟨w1.heap.size, 0, none⟩ 1 1 [.int .i64 tt] (by rfl) (by rfl) (World.news_of_block (heap_alloc_new w1 _)) (fun x hx => by simp at hx; rcases hx with rfl; rfl) (by decide) (by unfold maxLen; omega) (by omega) (by simp; omega) _ rfl ?_)
            intro g3 cap3 w3 hown3 hgrow3 hat hlt3)
          refine ⟨⟨k + 1, x.parts, its ++ [tc], by omega, by simp, ?_, ⟨by simp [HIL.out], ?_⟩, HNM3.out, HTR3.out, HIT3.out, ?_, below_far1 hBw.out hown1 hgrow3⟩, by simp [intOf]; omega⟩
          · show _ = _
            rw [HM.out, HST.out, if_neg (fun e => by rcases e with e | e; exact H0.out e; exact HNE.out e.1)]
          · intro c hc
            simp at hc
            rcases hc with hc | rfl
            · exact HIY.out c hc
            · exact hty2.out H0.out
          · have e : letTys (xs.take (k + 1)) (its ++ [tc]) = lts ++ [tt] := by
              rw [HTX.out, letTys_snoc _ _ _ _ (by rw [HIL.out]; simp; omega), if_neg HNE.out, HLT.out, HTT.out]
            rw [e]; simpa using hown3
      · have hkd : ((kd : Int) == (11 : Int)) = false := by
          have h1 := hO.2.1
          have : ¬ ((kd : Int) = 11) := by split at h1 <;> omega
          simpa using this
        have HNE : Hid _ := hO.1
        have hkd2 : ((kd : Int) != (11 : Int)) = true := by simpa using hkd
        clear hO hkd0
        go_wp2_with fail
        refine W1.mono ?_
        rintro e w1 ⟨rfl, hb1⟩
        clear W1 c0 c1 c2 c3 c4 c5 c6 c7 c8 c9
        have hz1' : w1.heap[wr.heap.size]? = _ := (hb1.block _ (lt_of_get hz0')).trans hz0'
        have hBw : Hid _ := hFw.out.trans (hb1.mono hFw.out.size)
        have hown1 := ownsRow_below hOwn.out hb1
        have hs1 := hBw.out.size
        obtain ⟨⟨z0, z1, z2, z3, z4, z5, z6, z7, z8, z9⟩, zf⟩ := it_cells hz1'
        clear hz1' hz0' hb1 hFw hOwn
        generalize wr.heap.size = bi at *
        by_cases h0 : tt = 0
        · subst h0
          go_wp2_with fail
          refine bodyPost_ret (v := .tuple #[.int .i64 p0, .bool false]) (by simp [results, Tryz.results59, go_sem]) rfl ⟨?_, hBw.out⟩
          rw [HM.out, HST.out, if_pos (by simp), ← hp0'.out]; rfl
        · have h02 : ((tt : Int) == (0 : Int)) = false := by
            have : ¬ ((tt : Int) = 0) := by omega
            simpa using this
          have H0 : Hid _ := h0
          clear h0
          by_cases h2 : tt = 2
          · subst h2
            clear h02
            go_wp2_with fail
            refine ⟨⟨k + 1, x.parts, its ++ [tc], by omega, by simp, ?_, ⟨by simp [HIL.out], ?_⟩, HNM3.out, HTR3.out, HIT3.out, ?_, hBw.out⟩, by simp [intOf]; omega⟩
            · show _ = _
              rw [HM.out, HST.out, if_neg (fun e => by rcases e with e | e; exact absurd e (by decide); simp at e)]
            · intro c hc
              simp at hc
              rcases hc with hc | rfl
              · exact HIY.out c hc
              · exact hty2.out H0.out
            · have e : letTys (xs.take (k + 1)) (its ++ [tc]) = lts := by
                rw [HTX.out, letTys_snoc _ _ _ _ (by rw [HIL.out]; simp; omega), if_pos HNE.out, HLT.out]
              rw [e]; exact hown1
          · have h22 : ((tt : Int) == (2 : Int)) = false := by
              have : ¬ ((tt : Int) = 2) := by omega
              simpa using this
            have H2 : Hid _ := h2
            clear h2
            go_wp2_with fail
            refine bodyPost_ret (v := .tuple #[.int .i64 p0, .bool false]) (by simp [results, Tryz.results59, go_sem]) rfl ⟨?_, hBw.out⟩
            rw [HM.out, HST.out, if_pos (.inr ⟨HNE.out, H2.out⟩), ← hp0'.out]; rfl
    · have hke : k = ys.length := by omega
      subst hke
      have hm : Hid (typesAt xs L xs [] = none) := by
        have := HM.out
        rw [List.drop_of_length_le (by rw [hlen.out]; exact Nat.le_refl _)] at this
        exact this
      go_wp2_with fail
      refine bodyPost_ret (v := .tuple #[.int .i64 0, .bool true]) (by simp [results, Tryz.results59, go_sem]) rfl ⟨?_, hbw⟩
      rw [hm.out]; rfl
end Go.Proofs.YtfkdailfcmnjlaaGreatDoor

namespace Go.Proofs.YtfkdailfcmnjlaaGreatDoor

theorem P_size (f : Nat) : ∀ (tag : Nat) (ts : List Tok) (i : Nat) (L : List Pt) (x : Nat) (r : Rd), P f tag ts i L x = some r → r.ok = true → (tag ≤ 6 ∨ tag = 10 ∨ tag = 11 ∨ tag = 13 ∨ tag = 14) → r.L.length + i ≤ L.length + r.i := by
  induction f with
  | zero => intro tag ts i L x r h; rw [P] at h; simp at h
  | succ f ih =>
    intro tag ts i L x r h ok ht
    by_cases h6 : tag = 6
    · subst h6
      by_cases hw : isW (tokAt ts i) wIf = true
      · obtain ⟨ra, rb, rc, hPa, hNb, hNc, hrc, hri, hrp⟩ := if_split h hw
        rw [hrc] at ok
        obtain ⟨oka, okb, rfl⟩ := hrp ok
        have ka := ih 6 ts (i + 1) L 0 ra hPa oka (by omega)
        unfold Nx at hNb hNc
        have hwb : isW (tokAt ts ra.i) wThen = true := by
          cases e : isW (tokAt ts ra.i) wThen with
          | true => rfl
          | false => rw [if_neg (by simp [e])] at hNb; rw [hNb.1] at okb; simp at okb
        have hwc : isW (tokAt ts rb.i) wElse = true := by
          cases e : isW (tokAt ts rb.i) wElse with
          | true => rfl
          | false => rw [if_neg (by simp [e])] at hNc; rw [hNc.1] at ok; simp at ok
        rw [if_pos ⟨oka, hwb⟩] at hNb
        rw [if_pos ⟨okb, hwc⟩] at hNc
        have kb := ih 6 ts (ra.i + 1) ra.L 0 rb hNb okb (by omega)
        have kc := ih 6 ts (rb.i + 1) rb.L 0 rc hNc ok (by omega)
        simp [put]; omega
      · exact ih 0 ts i L 0 r (if_not h hw) ok (by omega)
    · by_cases h5 : tag = 5
      · subst h5
        by_cases hw : isW (tokAt ts i) [40] = true
        · obtain ⟨ra, hPa, hr⟩ := one_open h hw
          rcases hr with ⟨oka, hwa, rfl⟩ | ⟨_, hr, _⟩
          · have ka := ih 6 ts (i + 1) L 0 ra hPa oka (by omega)
            simp; omega
          · rw [hr] at ok; simp at ok
        · rcases one_alone h hw with ⟨ha, rfl⟩ | ⟨_, rfl⟩
          · simp; omega
          · simp at ok
      · by_cases h2 : tag = 2
        · subst h2
          by_cases hw : isW (tokAt ts i) wNot = true
          · obtain ⟨ra, hPa, hra, hri, hrp⟩ := not_yes h hw
            rw [hra] at ok
            have hrp := hrp ok
            subst hrp
            have ka := ih 2 ts (i + 1) L 0 ra hPa ok (by omega)
            simp [put]; omega
          · exact ih 3 ts i L 0 r (not_no h hw) ok (by omega)
        · by_cases h10 : tag < 10
          · have hn : isChain tag := by unfold isChain; omega
            obtain ⟨ra, hPa, hr⟩ := chain_split hn h
            rcases hr with ⟨oka, hr⟩ | ⟨no, rfl⟩
            · unfold isChain at hn
              have ka := ih (tag + 1) ts i L 0 ra hPa oka (by omega)
              have kb := ih (10 + tag) ts ra.i ra.L ra.top r hr ok (by omega)
              omega
            · rw [no] at ok; simp at ok
          · obtain ⟨n, rfl⟩ : ∃ n, tag = 10 + n := ⟨tag - 10, by omega⟩
            have hn : isChain n := by unfold isChain; omega
            have hn' := hn
            unfold isChain at hn'
            cases hj : joins n (tokAt ts i) with
            | false =>
              have := loop_no hn h hj
              subst this
              simp
            | true =>
              obtain ⟨rb, hPb, hr⟩ := loop_yes hn h hj
              rcases hr with ⟨no, rfl⟩ | ⟨okb, hr⟩
              · rw [no] at ok; simp at ok
              · have kb := ih (n + 1) ts (i + 1) L 0 rb hPb okb (by omega)
                rcases hr with ⟨h3, rfl⟩ | ⟨h3, hr⟩
                · simp [put]; omega
                · have kc := ih (10 + n) ts rb.i _ _ r hr ok (by omega)
                  simp at kc; omega

theorem item_tree {F : Nat} {ts : List Tok} (hS : Sorted ts) {i : Nat} {L : List Pt} {r : ItR} (hO : OwnUp ts L i) (h : itemP F ts i L = some r) (ok : r.ok = true) :
    i < r.i ∧ (∃ new, r.L = L ++ new) ∧ Tree r.L L.length r.it.top ∧ r.it.top + 1 = r.it.parts ∧ r.it.parts = r.L.length ∧ OwnUp ts r.L r.i ∧ r.L.length + i ≤ L.length + r.i := by
  have tail : ∀ (j : Nat) (x : Itm), i < j → itemTail F ts j L x = some r → i < r.i ∧ (∃ new, r.L = L ++ new) ∧ Tree r.L L.length r.it.top ∧ r.it.top + 1 = r.it.parts ∧ r.it.parts = r.L.length ∧ OwnUp ts r.L r.i ∧ r.L.length + i ≤ L.length + r.i := by
    intro j x hj hr
    obtain ⟨a, ha, hres⟩ := tail_parts hr
    rcases hres with ⟨oka, hw, rfl⟩ | ⟨_, hr1, _⟩
    · have f1 := (P_fwd F 6 ts j L 0 a ha oka (by omega)).1
      obtain ⟨t1, t2, t3⟩ := P_tree hS F 6 j L 0 L.length a ha oka (by omega) (hO.mono (by omega)) (fun _ => rfl) (by omega)
      have t4 := P_size F 6 ts j L 0 a ha oka (by omega)
      exact ⟨by simp; omega, P_new ha oka (by omega), t2, t1, rfl, t3.mono (by simp), by simp; omega⟩
    · rw [hr1] at ok; simp at ok
  unfold itemP at h
  split at h
  · split at h
    · split at h
      · exact tail _ _ (by omega) h
      · simp [itFail] at h; subst h; simp at ok
    · simp [itFail] at h; subst h; simp at ok
  · split at h
    · split at h
      · exact tail _ _ (by omega) h
      · simp [itFail] at h; subst h; simp at ok
    · simp [itFail] at h; subst h; simp at ok

theorem item_end {F : Nat} {ts : List Tok} {i : Nat} {L : List Pt} {r : ItR} (h : itemP F ts i L = some r) (ok : r.ok = true) : r.i ≤ ts.length := by
  have tail : ∀ (j : Nat) (x : Itm), itemTail F ts j L x = some r → r.i ≤ ts.length := by
    intro j x hr
    obtain ⟨a, ha, hres⟩ := tail_parts hr
    rcases hres with ⟨oka, hw, rfl⟩ | ⟨_, hr1, _⟩
    · have := (inside (ts := ts) (i := a.i) fun e => by rw [e, noTok_isW] at hw; simp at hw).1
      simp only []; omega
    · rw [hr1] at ok; simp at ok
  unfold itemP at h
  split at h
  · split at h
    · split at h
      · exact tail _ _ h
      · simp [itFail] at h; subst h; simp at ok
    · simp [itFail] at h; subst h; simp at ok
  · split at h
    · split at h
      · exact tail _ _ h
      · simp [itFail] at h; subst h; simp at ok
    · simp [itFail] at h; subst h; simp at ok
theorem TreesAt.snoc {L : List Pt} {xs : List Itm} {fr : Nat} (h : TreesAt L xs fr) (new : List Pt) (x : Itm) (h1 : Tree (L ++ new) L.length x.top) (h2 : x.top + 1 = x.parts) (h3 : x.parts = (L ++ new).length) : TreesAt (L ++ new) (xs ++ [x]) fr := by
  induction xs generalizing fr with
  | nil =>
    have : fr = L.length := h
    subst this
    exact ⟨h1, h2, h3⟩
  | cons y r ih =>
    obtain ⟨a, b, c⟩ := h
    exact ⟨a.more ⟨new, rfl⟩, b, ih c⟩

theorem parse_trees {F : Nat} {ts : List Tok} (hS : Sorted ts) (g : Nat) : ∀ (i : Nat) (L : List Pt) (xs : List Itm) (R : AllR), TreesAt L xs 0 → OwnUp ts L i → L.length ≤ i → i ≤ ts.length → parseAll F ts g i L xs = some R → R.ok = true → TreesAt R.L R.xs 0 ∧ OwnUp ts R.L R.i ∧ R.L.length ≤ R.i ∧ R.i ≤ ts.length := by
  induction g with
  | zero => intro i L xs R _ _ _ _ h; rw [parseAll] at h; simp at h
  | succ g ih =>
    intro i L xs R hT hO hl hi h ok
    by_cases hk : (tokAt ts i).k = 101
    · have := parse_end h hk; subst this; exact ⟨hT, hO, hl, hi⟩
    · rw [parseAll, if_neg hk] at h
      cases hr : itemP F ts i L with
      | none => rw [hr] at h; simp at h
      | some r =>
        rw [hr] at h
        simp only at h
        by_cases okr : r.ok = true
        · rw [if_pos okr] at h
          obtain ⟨k1, ⟨new, e⟩, k2, k3, k4, k5, k6⟩ := item_tree hS hO hr okr
          have hri : r.i ≤ ts.length := item_end hr okr
          rw [e] at k2 k4 k5 k6 h
          exact ih r.i (L ++ new) (xs ++ [r.it]) R (hT.snoc new r.it k2 k3 k4) k5 (by omega) hri h ok
        · rw [if_neg okr] at h; simp at h; subst h; simp at ok
end Go.Proofs.YtfkdailfcmnjlaaGreatDoor

namespace Go.Proofs.YtfkdailfcmnjlaaGreatDoor
open Go Go.RowKit
set_option maxRecDepth 100000
variable {bs : Nat}

/-- What is known of words. -/
structure WordsOK (ts : List Tok) (a : Nat) : Prop where
  sorted : Sorted ts
  tokw : ∀ t ∈ ts, TokW t
  own : ∀ t ∈ ts, t.k = 111 → t.text ≠ []
  from_ : ∀ t ∈ ts, a ≤ t.pl
  pos : 0 < ts.length
  fin : kindOf (tokAt ts (ts.length - 1)) = 0

theorem tokAt_cons (t : Tok) (ts : List Tok) (n : Nat) : tokAt (t :: ts) (n + 1) = tokAt ts n := by unfold tokAt; simp
theorem tokAt_zero (t : Tok) (ts : List Tok) : tokAt (t :: ts) 0 = t := by unfold tokAt; simp

theorem lex_words (l : List UInt8) (f : Nat) : ∀ (a : Nat) (ts : List Tok), a ≤ l.length → l.length - a < f → lex f l a = (ts, none) → WordsOK ts a ∧ ts.length ≤ l.length - a + 1 := by
  induction f with
  | zero => intro a ts _ h; omega
  | succ f ih =>
    intro a ts ha hf h
    have h1 := stop_ge isB l a
    have h2 := stop_le isB l a ha
    rw [lex] at h
    by_cases he : l.length ≤ stop isB l a
    · rw [if_pos he] at h; simp at h; subst h
      refine ⟨⟨?_, ?_, ?_, ?_, by simp, by simp [tokAt, kindOf]⟩, by simp⟩
      · intro m n hm hn; simp at hn; omega
      · intro t ht; simp at ht; subst ht; exact .inr (.inr (.inl rfl))
      · intro t ht; simp at ht; subst ht; simp
      · intro t ht; simp at ht; subst ht; exact ha
    · rw [if_neg he] at h
      cases hw : wordAt l (stop isB l a) with
      | none => rw [hw] at h; simp at h
      | some t =>
        rw [hw] at h
        simp only [Prod.mk.injEq] at h
        obtain ⟨rfl, hn⟩ := h
        obtain ⟨w1, w2, w3, w4⟩ := wordAt_len (by omega) hw
        obtain ⟨i1, i2⟩ := ih (stop isB l a + t.text.length) (lex f l (stop isB l a + t.text.length)).1 (by omega) (by omega) (by rw [← hn])
        generalize (lex f l (stop isB l a + t.text.length)).1 = us at *
        have htail : ∀ n, n < us.length → stop isB l a + t.text.length ≤ (tokAt us n).pl := fun n hn => i1.from_ _ (tokAt_mem hn)
        refine ⟨⟨?_, ?_, ?_, ?_, by simp, ?_⟩, by simp; omega⟩
        · intro m n hm hn
          cases n with
          | zero => omega
          | succ n =>
            simp at hn
            rw [tokAt_cons]
            cases m with
            | zero => rw [tokAt_zero, w3]; have := htail n hn; omega
            | succ m => rw [tokAt_cons]; exact i1.sorted m n (by omega) hn
        · intro u hu; simp at hu; rcases hu with rfl | hu
          · exact lex_tokW l _ (by omega) _ hw
          · exact i1.tokw u hu
        · intro u hu; simp at hu; rcases hu with rfl | hu
          · intro _ e; rw [e] at w1; simp at w1
          · exact i1.own u hu
        · intro u hu; simp at hu; rcases hu with rfl | hu
          · omega
          · have := i1.from_ u hu; omega
        · have hp := i1.pos
          have e : (t :: us).length - 1 = (us.length - 1) + 1 := by simp; omega
          rw [e, tokAt_cons]; exact i1.fin

/-- A row of words, its cells. -/
theorem wrow_cells {w : World} {base g cap : Nat} {ts : List Tok} (hp : 0 < ts.length) (h : w.ownsRow base 160 4 (.slice (some ⟨g, 0, none⟩) ts.length cap) ts.length (wCells ts)) :
    (∃ cs, w.heap[g]? = some (.cells cs 160 (0, 0))) ∧ ∀ i, i < ts.length → w.cell? ⟨g, i * 4, none⟩ = some (.int .i64 (kindOf (tokAt ts i))) ∧ w.cell? ⟨g, i * 4 + 1, none⟩ = some (.int .i64 (tokAt ts i).pl) ∧ w.cell? ⟨g, i * 4 + 2, none⟩ = some (.int .i64 (nmOf (tokAt ts i))) ∧ w.cell? ⟨g, i * 4 + 3, none⟩ = some (S (ownOf (tokAt ts i))) := by
  obtain ⟨hl, h⟩ := h
  rcases h with ⟨h0, _⟩ | ⟨g', cap', cur, e, hb, hg, h1, h2, h3, h4⟩
  · simp at h0
  · simp only [Value.slice.injEq, Option.some.injEq, Addr.mk.injEq] at e
    obtain ⟨⟨rfl, _⟩, _, rfl⟩ := e
    refine ⟨⟨cur, hg⟩, fun i hi => ?_⟩
    have key : ∀ j, j < 4 → w.cell? ⟨g, i * 4 + j, none⟩ = (wcell (tokAt ts i))[j]? := fun j hj => by
      rw [cell_of_row w g (i * 4 + j) _ _ _ hg]
      have e1 : cur[i * 4 + j]? = (cur.toList.take (ts.length * 4))[i * 4 + j]? := by
        rw [List.getElem?_take_of_lt (by omega)]; simp
      rw [e1, h4]
      have : ∀ (ts : List Tok) (k : Nat), k < ts.length → (wCells ts)[k * 4 + j]? = (wcell (tokAt ts k))[j]? := by
        intro ts
        induction ts with
        | nil => intro k hk; simp at hk
        | cons y ys ih =>
          intro k hk
          have e2 : wCells (y :: ys) = wcell y ++ wCells ys := rfl
          have e3 : (wcell y).length = 4 := rfl
          cases k with
          | zero => rw [e2, List.getElem?_append_left (by omega), tokAt_zero]; simp
          | succ k =>
            rw [e2, List.getElem?_append_right (by omega), e3, show (k + 1) * 4 + j - 4 = k * 4 + j from by omega, ih k (by simpa using hk), tokAt_cons]
      exact this ts i hi
    exact ⟨key 0 (by omega), key 1 (by omega), key 2 (by omega), key 3 (by omega)⟩
/-- What is known of a text's parts and items. -/
theorem all_known {F g : Nat} {ts : List Tok} {R : AllR} (hw : WordsOK ts 0) (hl : ts.length ≤ 1001) (h : parseAll F ts g 0 [] [] = some R) (ok : R.ok = true) :
    TreesAt R.L R.xs 0 ∧ PartsOK R.L ∧ (∀ k, k < R.L.length → TokW (R.L.getD k noPt).tok) := by
  obtain ⟨h1, h2, h3, h4⟩ := parse_trees hw.sorted g 0 [] [] R rfl ⟨by simp, by simp, by simp⟩ (by simp) (by omega) h ok
  refine ⟨h1, ⟨h2.2.1, fun k hk ho => hw.own _ (h2.2.2 k hk) ho, by omega⟩, fun k hk => hw.tokw _ (h2.2.2 k hk)⟩
end Go.Proofs.YtfkdailfcmnjlaaGreatDoor

namespace Go.Proofs.YtfkdailfcmnjlaaGreatDoor
open Go Go.RowKit
set_option maxRecDepth 100000
attribute [local go_sem ↓] Go.wp_at_zero Go.wp_at_succ

/-- The policy lies there as it was read. -/
structure PolAt (bs : Nat) (L : List Pt) (xs : List Itm) (base : Nat) (v : Value) (ys : List (Tok × Tok × Nat × Int)) (w : World) : Prop where
  row : w.ownsRow base 163 10 v ys.length (iCells ys)
  few : ys.length ≤ 1001
  items : ItemsAt (CondS bs L (N1 (idx (giv xs))) w) xs ys
  trees : TreesAt L xs 0
  parts : PartsOK L
  tokw : ∀ k, k < L.length → TokW (L.getD k noPt).tok
  names : namesAt xs L xs 0 0 = none
  types : typesAt xs L xs [] = none
  numb : Numb 0 0 xs ys
  many : manyAt L xs 0 0 = none
/-- What 'Read' answers. -/
def RdAns (er pl : Nat) (L : List Pt) (xs : List Itm) (w : World) (e : Ending) (w' : World) : Prop :=
  Below w.heap.size w w' ∧ ∃ v, e = .returned (.tuple #[v, .int .i64 er, .int .i64 pl]) ∧ (er = 0 → ∃ bs ys, w.heap.size ≤ bs ∧ PolAt bs L xs w.heap.size v ys w')

set_option maxHeartbeats 1000000 in
theorem pread_long (l : List UInt8) (w : World) (h : 1000 < l.length) (hm : l.length ≤ maxLen) (L : List Pt) (xs : List Itm) : Calls Tryz.prog 32 #[S l] w (RdAns 1 0 L xs w) := by
  unfold maxLen at hm
  go_enter Tryz.func32, Tryz.ntmps32
  go_wp2_with fail
  refine bodyPost_ret (v := .tuple #[.slice none 0 0, .int .i64 1, .int .i64 0]) (by simp [results, Tryz.results32, go_sem]) rfl ?_
  exact ⟨Below.refl _ _, _, rfl, fun e => by simp at e⟩

set_option maxHeartbeats 1000000 in
theorem pread_word (l : List UInt8) (w : World) (hW : Wd w) (h : l.length ≤ 1000) (ts : List Tok) (p : Nat) (hx : lex (l.length + 1) l 0 = (ts, some p)) (L : List Pt) (xs : List Itm) : Calls Tryz.prog 32 #[S l] w (RdAns 2 p L xs w) := by
  have HS := split_any l w hW h
  unfold SplitAns at HS
  rw [hx] at HS
  simp only [] at HS
  go_enter Tryz.func32, Tryz.ntmps32
  go_wp2_with fail
  refine HS.mono ?_
  rintro e w1 ⟨hb, rfl⟩
  clear HS
  go_wp2_with fail
  refine bodyPost_ret (v := .tuple #[.slice none 0 0, .int .i64 2, .int .i64 p]) (by simp [results, Tryz.results32, go_sem]) rfl ?_
  exact ⟨hb, _, rfl, fun e => by simp at e⟩

theorem ItemsAt.grow {bs : Nat} {L : List Pt} {N : Tok → Int → Prop} {w w' : World} (hb : Below w.heap.size w w') {xs : List Itm} {ys : List (Tok × Tok × Nat × Int)} (h : ItemsAt (CondS bs L N w) xs ys) : ItemsAt (CondS bs L N w') xs ys := h.mono fun _ _ h => h.grow hb

set_option maxHeartbeats 4000000 in
theorem pread_items (l : List UInt8) (w : World) (hW : Wd w) (h : l.length ≤ 1000) (ts : List Tok) (hx : lex (l.length + 1) l 0 = (ts, none)) {F g : Nat} {R : AllR} (hR : parseAll F ts g 0 [] [] = some R) :
    Calls Tryz.prog 32 #[S l] w (RdAns (verdictOf ts R).1 (verdictOf ts R).2 R.L R.xs w) := by
  obtain ⟨hwo, hwl⟩ := lex_words l (l.length + 1) 0 ts (Nat.zero_le _) (by omega) hx
  have HS := split_any l w hW h
  unfold SplitAns at HS
  rw [hx] at HS
  simp only [] at HS
  have HR : Hid _ := hR
  have HWO : Hid _ := hwo
  have hwl' : ts.length ≤ 1001 := by omega
  have hV : Hid (verdictOf ts R = verdictOf ts R) := rfl
  generalize hv : verdictOf ts R = vd at *
  have HV : Hid _ := hv
  clear hx hR hwo hwl hW hV hv
  go_enter Tryz.func32, Tryz.ntmps32
  go_wp2_with fail
  refine HS.mono ?_
  rintro e w1 ⟨hb1, gw, cap, rfl, hown1⟩
  clear HS
  obtain ⟨hwl1, hwc1⟩ := wrow_cells HWO.out.pos hown1
  have W1 := parse_any (F := F) (cl := cap) (w := w1) HWO.out.tokw HWO.out.own HWO.out.pos hwl' HWO.out.fin hwl1 hwc1 HR.out
  have HB1 : Hid _ := hb1
  clear hown1 hwl1 hwc1 hb1
  go_wp2_with fail
  refine W1.mono ?_
  rintro e w2 ⟨hb2, ⟨ok, rfl⟩ | ⟨ok, v, ys, rfl, hys, hrow, hit, hnu⟩⟩
  · clear W1
    have HE : Hid (vd = (3, (tokAt ts R.i).pl)) := by show _ = _; rw [← HV.out]; unfold verdictOf; rw [if_pos ok]
    have HB2 : Hid _ := HB1.out.trans (hb2.mono HB1.out.size)
    clear hb2 ok
    generalize (tokAt ts R.i).pl = pp at *
    go_wp2_with fail
    refine bodyPost_ret (v := .tuple #[.slice none 0 0, .int .i64 3, .int .i64 pp]) (by simp [results, Tryz.results32, go_sem]) rfl ?_
    rw [HE.out]
    exact ⟨HB2.out, _, rfl, fun e => by simp at e⟩
  · clear W1
    obtain ⟨htr, hpo, htw⟩ := all_known HWO.out hwl' HR.out ok
    have hit2 : ItemsAt (CondS w1.heap.size R.L (N0 (idx (giv R.xs))) w2) R.xs ys := hit.mono fun i b hc => hc.toS fun k hk => .inl rfl
    have W2 := fit_any hpo.few hrow hys hit2 htr hnu
    have HB2 : Hid _ := HB1.out.trans (hb2.mono HB1.out.size)
    have HTR : Hid _ := htr
    have HPO : Hid (PartsOK R.L) := hpo
    have HTW : Hid _ := htw
    have HIT : Hid _ := hit2
    have HROW : Hid (w2.ownsRow w.heap.size 163 10 v ys.length (iCells ys)) := by
      obtain ⟨q1, q2⟩ := hrow
      refine ⟨q1, ?_⟩
      rcases q2 with q2 | ⟨g', c', cur, q3, q4, q5⟩
      · exact .inl q2
      · exact .inr ⟨g', c', cur, q3, Nat.le_trans HB1.out.size q4, q5⟩
    have HOK : Hid _ := ok
    have HSB : Hid (w.heap.size ≤ w1.heap.size) := HB1.out.size
    clear htr hpo htw hit hit2 hrow hb2 ok HB1
    cases hm : manyAt R.L R.xs 0 0 with
    | some p =>
      rw [hm] at W2
      have HE : Hid (vd = (4, p)) := by show _ = _; rw [← HV.out]; unfold verdictOf; rw [if_neg (by rw [HOK.out]; simp), hm]
      clear hm
      unfold plcV at W2
      go_wp2_with fail
      refine W2.mono ?_
      rintro e w3 ⟨rfl, hb3⟩
      clear W2
      go_wp2_with fail
      refine bodyPost_ret (v := .tuple #[.slice none 0 0, .int .i64 4, .int .i64 p]) (by simp [results, Tryz.results32, go_sem]) rfl ?_
      rw [HE.out]
      exact ⟨HB2.out.trans (hb3.mono HB2.out.size), _, rfl, fun e => by simp at e⟩
    | none =>
      rw [hm] at W2
      have HM : Hid _ := hm
      clear hm
      unfold plcV at W2
      go_wp2_with fail
      refine W2.mono ?_
      rintro e w3 ⟨rfl, hb3⟩
      clear W2
      have hrow3 := ownsRow_below HROW.out hb3
      have W3 := resolve_any HPO.out hrow3 hys (HIT.out.grow hb3) HTR.out
      have HB3 : Hid _ := HB2.out.trans (hb3.mono HB2.out.size)
      have HROW3 : Hid _ := hrow3
      clear HB2 HROW HIT hb3 hrow3
      go_wp2_with fail
      refine W3.mono ?_
      rintro e w4 (⟨p, hn, rfl, hf⟩ | ⟨hn, rfl, hf, hit4⟩)
      · clear W3
        have HE : Hid (vd = (5, p)) := by show _ = _; rw [← HV.out]; unfold verdictOf; rw [if_neg (by rw [HOK.out]; simp), HM.out]; simp only []; rw [hn]
        clear hn
        go_wp2_with fail
        refine bodyPost_ret (v := .tuple #[.slice none 0 0, .int .i64 5, .int .i64 p]) (by simp [results, Tryz.results32, go_sem]) rfl ?_
        rw [HE.out]
        exact ⟨HB3.out.trans (hf.below HSB.out HB3.out.size), _, rfl, fun e => by simp at e⟩
      · clear W3
        have hrow4 := ownsRow_rf HROW3.out (by decide) hf
        have W4 := typed_any HPO.out HTW.out hrow4 hys hit4 HTR.out hn
        have HF4 : Hid (Below w.heap.size w w4) := HB3.out.trans ((hf.mono fun _ _ _ _ h => h.1 : RF (SB w1.heap.size) w3 w4).below HSB.out HB3.out.size)
        have HIT4 : Hid _ := hit4
        have HN : Hid _ := hn
        have HROW4 : Hid _ := hrow4
        clear hit4 hn hrow4 hf HB3 HROW3
        cases ht : typesAt R.xs R.L R.xs [] with
        | some p =>
          rw [ht] at W4
          have HE : Hid (vd = (6, p)) := by show _ = _; rw [← HV.out]; unfold verdictOf; rw [if_neg (by rw [HOK.out]; simp), HM.out]; simp only []; rw [HN.out]; simp only []; rw [ht]
          clear ht
          unfold plcV at W4
          go_wp2_with fail
          refine W4.mono ?_
          rintro e w5 ⟨rfl, hb5⟩
          clear W4
          go_wp2_with fail
          refine bodyPost_ret (v := .tuple #[.slice none 0 0, .int .i64 6, .int .i64 p]) (by simp [results, Tryz.results32, go_sem]) rfl ?_
          rw [HE.out]
          exact ⟨HF4.out.trans (hb5.mono HF4.out.size), _, rfl, fun e => by simp at e⟩
        | none =>
          rw [ht] at W4
          have HE : Hid (vd = (0, 0)) := by show _ = _; rw [← HV.out]; unfold verdictOf; rw [if_neg (by rw [HOK.out]; simp), HM.out]; simp only []; rw [HN.out]; simp only []; rw [ht]
          have HTY : Hid _ := ht
          clear ht
          unfold plcV at W4
          go_wp2_with fail
          refine W4.mono ?_
          rintro e w5 ⟨rfl, hb5⟩
          clear W4
          go_wp2_with fail
          refine bodyPost_ret (v := .tuple #[v, .int .i64 0, .int .i64 0]) (by simp [results, Tryz.results32, go_sem]) rfl ?_
          rw [HE.out]
          exact ⟨HF4.out.trans (hb5.mono HF4.out.size), _, rfl, fun _ => ⟨w1.heap.size, ys, HSB.out, ownsRow_below HROW4.out hb5, hys, HIT4.out.grow hb5, HTR.out, HPO.out, HTW.out, HN.out, HTY.out, hnu, HM.out⟩⟩
end Go.Proofs.YtfkdailfcmnjlaaGreatDoor

namespace Go.Proofs.YtfkdailfcmnjlaaGreatDoor

/-- A number's digits; the first number bounds them. -/
def tensF : Nat → Nat → List UInt8
  | 0, _ => []
  | f + 1, n => if n < 10 then [UInt8.ofNat (48 + n)] else tensF f (n / 10) ++ [UInt8.ofNat (48 + n % 10)]
def tensL (n : Nat) : List UInt8 := tensF 20 n
theorem tensF_len (f n : Nat) : (tensF f n).length ≤ f := by
  induction f generalizing n with
  | zero => simp [tensF]
  | succ f ih =>
    rw [tensF]; split
    · simp
    · have := ih (n / 10); simp; omega
def wsNot : List UInt8 := [40, 110, 111, 116, 32]
def wsIf : List UInt8 := [40, 105, 102, 32]
def wsThen : List UInt8 := [32, 116, 104, 101, 110, 32]
def wsElse : List UInt8 := [32, 101, 108, 115, 101, 32]
def wsLet : List UInt8 := [108, 101, 116, 32]
def wsEq : List UInt8 := [32, 61, 32]
def wsAllow : List UInt8 := [97, 108, 108, 111, 119, 32, 105, 102, 32]
def wsDeny : List UInt8 := [100, 101, 110, 121, 32, 105, 102, 32]
/-- A part over some, as it is printed. -/
def overL (text : List UInt8) : List (List UInt8) → List UInt8
  | [] => text
  | [a] => wsNot ++ a ++ [41]
  | [a, b] => [40] ++ a ++ [32] ++ text ++ [32] ++ b ++ [41]
  | a :: b :: c :: _ => wsIf ++ a ++ wsThen ++ b ++ wsElse ++ c ++ [41]
/-- A part as it is printed. -/
def plainF : Nat → List Pt → Nat → List UInt8
  | 0, _, _ => []
  | f + 1, L, i => if (L.getD i noPt).tok.k = 110 then tensL (decVal (L.getD i noPt).tok.text) else overL (L.getD i noPt).tok.text ((L.getD i noPt).subs.map (plainF f L))
def headL (x : Itm) : List UInt8 := if x.name = [] then (if x.allow then wsAllow else wsDeny) else wsLet ++ x.name ++ wsEq
def itemL (L : List Pt) (x : Itm) : List UInt8 := headL x ++ plainF (x.top + 1) L x.top ++ [59, 10]
/-- A policy as it is printed. -/
def printL (L : List Pt) (xs : List Itm) : List UInt8 := xs.flatMap (itemL L)

theorem forest_len {T : Nat → Nat → Prop} {F : Nat → List UInt8} {c : Nat} (hT : ∀ lo j, T lo j → lo ≤ j ∧ (F j).length ≤ c * (j + 1 - lo)) (js : List Nat) : ∀ {lo hi}, Forest T lo js hi → (js.map F).flatten.length ≤ c * (hi - lo) := by
  induction js with
  | nil => intro lo hi _; simp
  | cons j js ih =>
    intro lo hi h
    obtain ⟨h1, h2⟩ := hT _ _ h.1
    have h3 := ih h.2
    have h4 := forest_le (fun lo j hj => (hT lo j hj).1) js h.2
    have e : c * (hi - lo) = c * (j + 1 - lo) + c * (hi - (j + 1)) := by rw [← Nat.mul_add]; congr 1; omega
    simp only [List.map_cons, List.flatten_cons, List.length_append]
    rw [e]; omega
theorem over_len (text : List UInt8) (ss : List (List UInt8)) : (overL text ss).length ≤ text.length + ss.flatten.length + 17 := by
  match ss with
  | [] => simp [overL]
  | [a] => simp [overL, wsNot]; omega
  | [a, b] => simp [overL]; omega
  | a :: b :: c :: r => simp [overL, wsIf, wsThen, wsElse]; omega
theorem TreeF.plain_len {f : Nat} : ∀ {L : List Pt} {lo i : Nat}, (∀ k, k < L.length → (L.getD k noPt).tok.text.length ≤ 1000) → TreeF f L lo i → (plainF f L i).length ≤ 1100 * (i + 1 - lo) := by
  induction f with
  | zero => intro L lo i _ h; exact h.elim
  | succ f ih =>
    intro L lo i hl h
    have hle := h.le
    have h1 := forest_len (T := TreeF f L) (F := plainF f L) (c := 1100) (fun lo j hj => ⟨hj.le, ih hl hj⟩) _ h.2.2
    have h2 := over_len (L.getD i noPt).tok.text ((L.getD i noPt).subs.map (plainF f L))
    have h3 := hl i h.1
    have h4 := tensF_len 20 (decVal (L.getD i noPt).tok.text)
    have e : 1100 * (i + 1 - lo) = 1100 * (i - lo) + 1100 := by omega
    rw [plainF, e]
    split
    · unfold tensL; omega
    · omega
end Go.Proofs.YtfkdailfcmnjlaaGreatDoor

namespace Go.Proofs.YtfkdailfcmnjlaaGreatDoor
open Go Go.RowKit
set_option maxRecDepth 100000
attribute [local go_sem ↓] Go.wp_at_zero Go.wp_at_succ
variable {bs : Nat}

theorem ba_cat (a b : List UInt8) : (ByteArray.mk a.toArray ++ ByteArray.mk b.toArray) = ByteArray.mk (a ++ b).toArray := by
  apply ByteArray.ext
  simp
set_option maxHeartbeats 2000000 in
theorem head_any {t u : Tok} {b : Nat} {n : Int} {x : Itm} (hx : ItOf x t u) (hn : x.name.length ≤ 1000) (w : World) (hS : Sp w) :
    Calls Tryz.prog 66 #[itW t u n b] w fun e w' => e = .returned (S (headL x)) ∧ Below w.heap.size w w' := by
  unfold itW
  have hb := (Below.refl w.heap.size w).alloc (Nat.le_refl _) (itObjW t u n (.pointer (some ⟨b, 0, none⟩)))
  have hS2 : Sp (w.alloc (itObjW t u n (.pointer (some ⟨b, 0, none⟩)))) := hS.below hS.pos hb
  have HB : Hid _ := hb
  have HIT : Hid (itObjW t u n (.pointer (some ⟨b, 0, none⟩)) = .cells #[.int .i64 (kindOf t), .int .i64 t.pl, .int .i64 (nmOf t), S (ownOf t), .int .i64 (kindOf u), .int .i64 u.pl, .int .i64 (nmOf u), S (ownOf u), .int .i64 n, .pointer (some ⟨b, 0, none⟩)] 163 (0, 0)) := rfl
  rcases hx with ⟨h1, h2, h3, h4, h5, h6, h7⟩ | ⟨h1, h2, h3, h4⟩
  · have HE : Hid (headL x = wsLet ++ x.name ++ wsEq) := by show _ = _; unfold headL; rw [if_neg h1]
    generalize headL x = r at *
    unfold itObjW at HB
    rw [h2, h6] at HB
    rw [h2, h6]
    generalize x.name = nm at *
    clear hb hS2 hS h1 h2 h3 h4 h5 h6 h7 HIT
    generalize t.pl = q1 at *
    generalize nmOf t = q2 at *
    generalize ownOf t = q3 at *
    generalize kindOf u = q4 at *
    generalize u.pl = q5 at *
    generalize nmOf u = q6 at *
    go_enter Tryz.func66, Tryz.ntmps66
    go_wp2_with fail
    go_ret
    refine ⟨?_, HB.out⟩
    rw [HE.out]
    have e1 := ba_cat wsLet nm
    have e2 := ba_cat (wsLet ++ nm) wsEq
    exact congrArg (fun s => Ending.returned (Value.string s)) (by rw [← e2, ← e1]; rfl)
  · have hk : kindOf t = 12 ∨ kindOf t = 13 := by rw [h2]; split; exact .inl rfl; exact .inr rfl
    have HE : Hid (headL x = spell.getD (kindOf t) [] ++ [32, 105, 102, 32]) := by
      show _ = _; unfold headL; rw [if_pos h1, h2]; split <;> rfl
    have W1 := spelling_any (kindOf t) _ hS2 (by omega)
    have hk11 : ((kindOf t : Int) == (11 : Int)) = false := by
      have : ¬ ((kindOf t : Int) = 11) := by omega
      simpa using this
    have hsl : (spell.getD (kindOf t) []).length ≤ 10 := by rcases hk with hk | hk <;> rw [hk] <;> decide
    rw [HIT.out] at W1 HB
    generalize headL x = r at *
    clear hb hS2 hS h1 h2 h3 h4 HIT
    generalize spell.getD (kindOf t) [] = sp at *
    generalize kindOf t = kd at *
    generalize t.pl = q1 at *
    generalize nmOf t = q2 at *
    generalize ownOf t = q3 at *
    generalize kindOf u = q4 at *
    generalize u.pl = q5 at *
    generalize nmOf u = q6 at *
    generalize ownOf u = q7 at *
    go_enter Tryz.func66, Tryz.ntmps66
    go_wp2_with fail
    refine W1.mono ?_
    rintro e w' ⟨rfl, rfl⟩
    clear W1
    go_wp2_with fail
    go_ret
    refine ⟨?_, HB.out⟩
    rw [HE.out]
    exact congrArg (fun s => Ending.returned (Value.string s)) (ba_cat sp [32, 105, 102, 32])
end Go.Proofs.YtfkdailfcmnjlaaGreatDoor

namespace Go.Proofs.YtfkdailfcmnjlaaGreatDoor
open Go Go.RowKit
set_option maxRecDepth 100000
attribute [local go_sem ↓] Go.wp_at_zero Go.wp_at_succ
variable {bs : Nat}

theorem dec_tens (f n : Nat) (h : n < 10 ^ f) (h0 : 0 < f) : Lib.decDigits n = tensF f n := by
  induction f generalizing n with
  | zero => omega
  | succ f ih =>
    rw [Lib.decDigits, tensF]
    by_cases hn : n < 10
    · rw [dif_pos hn, if_pos hn]
    · rw [dif_neg hn, if_neg hn]
      have hf0 : 0 < f := by
        rcases Nat.eq_zero_or_pos f with rfl | h1
        · simp at h; omega
        · exact h1
      rw [Nat.pow_succ] at h
      rw [ih (n / 10) (by omega) hf0]
/-- The library's table of powers. -/
def Tb (w : World) : Prop := Lib.TabIs Tryz.prog w "internal/strconv.uint64pow10" .u64 Lib.pow10Tab
theorem gPow : Tryz.prog.globalNamed "internal/strconv.uint64pow10" = some 2 := by kernel_rfl
theorem Tb.below {w w' : World} (h : Tb w) (hb : Below w.heap.size w w') : Tb w' := by
  unfold Tb Lib.TabIs World.var? at *
  rw [gPow] at *
  simp only [Option.bind_some] at *
  have hlt : 2 < w.heap.size := by
    rcases Nat.lt_or_ge 2 w.heap.size with h1 | h1
    · exact h1
    · rw [Array.getElem?_eq_none h1] at h; simp at h
  rw [hb.block _ hlt]; exact h
theorem formatInt_any (n : Nat) (h : n ≤ 9223372036854775807) (w : World) (hT : Tb w) : Calls Tryz.prog 120 #[.int .i64 n, .int .i64 10] w fun e w' => e = .returned (S (tensL n)) ∧ Below w.heap.size w w' := by
  refine (Any.strconv_FormatInt_10 laysM173 (n : Int) (by omega) (by omega) w hT).mono ?_
  rintro e w' ⟨rfl, k, os, rfl⟩
  refine ⟨?_, Lib.below_grow _ _ (Nat.le_refl _) _ _⟩
  have e1 : Lib.itoa (n : Int) = tensL n := by
    unfold Lib.itoa tensL
    rw [if_neg (by omega), Int.toNat_natCast]
    exact dec_tens 20 n (by have : (10 : Nat) ^ 20 = 100000000000000000000 := by decide
                            omega) (by decide)
  rw [e1]
end Go.Proofs.YtfkdailfcmnjlaaGreatDoor

namespace Go.Proofs.YtfkdailfcmnjlaaGreatDoor
open Go Go.RowKit
set_option maxRecDepth 100000
attribute [local go_sem ↓] Go.wp_at_zero Go.wp_at_succ
variable {bs : Nat}

/-- What a condition's plain form needs of its words. -/
structure PlainOK (L : List Pt) : Prop where
  tokw : ∀ k, k < L.length → TokW (L.getD k noPt).tok
  short : ∀ k, k < L.length → (L.getD k noPt).tok.text.length ≤ 1000
  num : ∀ k, k < L.length → (L.getD k noPt).tok.k = 110 → decVal (L.getD k noPt).tok.text ≤ 9223372036854775807
  few : L.length ≤ 5000

set_option maxHeartbeats 4000000 in
theorem pplain_not {L : List Pt} {N : Tok → Int → Prop} {i b : Nat} {w : World} (hC : CondS bs L N w i b) (hk : kindOf (L.getD i noPt).tok = 19) (hl : (L.getD i noPt).subs.length = 1) (r : List UInt8) (hr : r.length ≤ 100000000)
    (HI : ∀ (bj : Nat) (w1 : World), CondS bs L N w1 ((L.getD i noPt).subs.getD 0 0) bj → Below w.heap.size w w1 → Calls Tryz.prog 67 #[.pointer (some ⟨bj, 0, none⟩)] w1 fun e w' => e = .returned (S r) ∧ Below w1.heap.size w1 w') :
    Calls Tryz.prog 67 #[.pointer (some ⟨b, 0, none⟩)] w fun e w' => e = .returned (S (overL [] [r])) ∧ Below w.heap.size w w' := by
  obtain ⟨u, n, bl, hi, hlo, hn, hb, hu, hs⟩ := hC.inv
  obtain ⟨⟨c0, c1, c2, c3, c4, c5⟩, cf⟩ := cd_cells hb
  obtain ⟨au, rfl, ha⟩ := hu.slice
  obtain ⟨g, rfl, hg⟩ := ha 0 (by omega)
  have hcell := under_cell hg 0 (by omega)
  have W1 := HI (bl 0) w (hs 0 (by omega)) (Below.refl _ _)
  rw [hk] at c0
  rw [hl] at c4
  have HE : Hid (overL [] [r] = wsNot ++ r ++ [41]) := rfl
  generalize overL [] [r] = q at *
  clear hC hb hu hs ha hg hn HI
  go_enter Tryz.func67, Tryz.ntmps67
  go_wp2_with fail
  refine W1.mono ?_
  rintro e w1 ⟨rfl, hb1⟩
  clear W1
  go_wp2_with fail
  go_ret
  refine ⟨?_, hb1⟩
  rw [HE.out]
  have e1 := ba_cat wsNot r
  have e2 := ba_cat (wsNot ++ r) [41]
  exact congrArg (fun s => Ending.returned (Value.string s)) (by rw [← e2, ← e1]; rfl)

set_option maxHeartbeats 4000000 in
theorem pplain_num {L : List Pt} {N : Tok → Int → Prop} {i b : Nat} {w : World} (hC : CondS bs L N w i b) (hk : (L.getD i noPt).tok.k = 110) (hn : decVal (L.getD i noPt).tok.text ≤ 9223372036854775807) (hT : Tb w) :
    Calls Tryz.prog 67 #[.pointer (some ⟨b, 0, none⟩)] w fun e w' => e = .returned (S (tensL (decVal (L.getD i noPt).tok.text))) ∧ Below w.heap.size w w' := by
  obtain ⟨u, n, bl, hi, hlo, _, hb, hu, hs⟩ := hC.inv
  obtain ⟨⟨c0, c1, c2, c3, c4, c5⟩, cf⟩ := cd_cells hb
  have e1 : kindOf (L.getD i noPt).tok = 1 := by unfold kindOf; rw [if_pos hk]
  have e2 : nmOf (L.getD i noPt).tok = decVal (L.getD i noPt).tok.text := by unfold nmOf; rw [if_pos hk]
  rw [e1] at c0
  rw [e2] at c2
  have W1 := formatInt_any (decVal (L.getD i noPt).tok.text) hn w hT
  clear hC hb hu hs hk e1 e2 hT
  generalize tensL (decVal (L.getD i noPt).tok.text) = q at *
  generalize decVal (L.getD i noPt).tok.text = m at *
  go_enter Tryz.func67, Tryz.ntmps67
  go_wp2_with fail
  refine W1.mono ?_
  rintro e w1 ⟨rfl, hb1⟩
  clear W1
  go_wp2_with fail
  go_ret
  exact ⟨rfl, hb1⟩
set_option maxHeartbeats 4000000 in
theorem pplain_own {L : List Pt} {N : Tok → Int → Prop} {i b : Nat} {w : World} (hC : CondS bs L N w i b) (hk : (L.getD i noPt).tok.k = 111) :
    Calls Tryz.prog 67 #[.pointer (some ⟨b, 0, none⟩)] w fun e w' => e = .returned (S (L.getD i noPt).tok.text) ∧ Below w.heap.size w w' := by
  obtain ⟨u, n, bl, hi, hlo, _, hb, hu, hs⟩ := hC.inv
  obtain ⟨⟨c0, c1, c2, c3, c4, c5⟩, cf⟩ := cd_cells hb
  have e1 := kind_two.2 hk
  have e2 : ownOf (L.getD i noPt).tok = (L.getD i noPt).tok.text := by unfold ownOf; rw [if_pos hk]
  rw [e1] at c0
  rw [e2] at c3
  clear hC hb hu hs hk e1 e2
  generalize (L.getD i noPt).tok.text = q at *
  go_enter Tryz.func67, Tryz.ntmps67
  go_wp2_with fail
  go_ret
  exact ⟨rfl, Below.refl _ _⟩
set_option maxHeartbeats 4000000 in
theorem pplain_word {L : List Pt} {N : Tok → Int → Prop} {i b : Nat} {w : World} (hC : CondS bs L N w i b) (hs0 : (L.getD i noPt).subs = []) (hk : 20 ≤ kindOf (L.getD i noPt).tok ∧ kindOf (L.getD i noPt).tok ≤ 35) (hS : Sp w) :
    Calls Tryz.prog 67 #[.pointer (some ⟨b, 0, none⟩)] w fun e w' => e = .returned (S (spell.getD (kindOf (L.getD i noPt).tok) [])) ∧ Below w.heap.size w w' := by
  obtain ⟨u, n, bl, hi, hlo, _, hb, hu, hs⟩ := hC.inv
  obtain ⟨⟨c0, c1, c2, c3, c4, c5⟩, cf⟩ := cd_cells hb
  have hu0 : u = .slice none 0 0 := by
    rw [hs0] at hu; rcases hu with hu | hu
    · exact hu.2
    · simp at hu
  subst hu0
  have W1 := spelling_any (kindOf (L.getD i noPt).tok) w hS (by omega)
  clear hC hb hu hs hs0 hS
  generalize spell.getD (kindOf (L.getD i noPt).tok) [] = q at *
  generalize kindOf (L.getD i noPt).tok = kd at *
  have n1 : ((kd : Int) == (1 : Int)) = false := by have : ¬ ((kd : Int) = 1) := by omega
                                                    simpa using this
  have n2 : ((kd : Int) == (2 : Int)) = false := by have : ¬ ((kd : Int) = 2) := by omega
                                                    simpa using this
  have n3 : ((kd : Int) == (19 : Int)) = false := by have : ¬ ((kd : Int) = 19) := by omega
                                                     simpa using this
  have n4 : ((kd : Int) == (14 : Int)) = false := by have : ¬ ((kd : Int) = 14) := by omega
                                                     simpa using this
  go_enter Tryz.func67, Tryz.ntmps67
  go_wp2_with fail
  refine W1.mono ?_
  rintro e w1 ⟨rfl, rfl⟩
  clear W1
  go_wp2_with fail
  go_ret
  exact ⟨rfl, Below.refl _ _⟩
end Go.Proofs.YtfkdailfcmnjlaaGreatDoor

namespace Go.Proofs.YtfkdailfcmnjlaaGreatDoor
open Go Go.RowKit
set_option maxRecDepth 100000
attribute [local go_sem ↓] Go.wp_at_zero Go.wp_at_succ
variable {bs : Nat}

set_option maxHeartbeats 1000000 in
theorem pplain_two {L : List Pt} {N : Tok → Int → Prop} {i b : Nat} {w : World} (hC : CondS bs L N w i b) (hk : kindOf (L.getD i noPt).tok ≠ 1 ∧ kindOf (L.getD i noPt).tok ≠ 2 ∧ kindOf (L.getD i noPt).tok ≠ 19 ∧ kindOf (L.getD i noPt).tok ≠ 14 ∧ kindOf (L.getD i noPt).tok < 36) (hl : (L.getD i noPt).subs.length = 2) (r1 r2 : List UInt8) (hr1 : r1.length ≤ 100000000) (hr2 : r2.length ≤ 100000000) (hS : Sp w) (hsp : (spell.getD (kindOf (L.getD i noPt).tok) []).length ≤ 100)
    (HI1 : ∀ (bj : Nat) (w1 : World), CondS bs L N w1 ((L.getD i noPt).subs.getD 0 0) bj → Below w.heap.size w w1 → Calls Tryz.prog 67 #[.pointer (some ⟨bj, 0, none⟩)] w1 fun e w' => e = .returned (S r1) ∧ Below w1.heap.size w1 w')
    (HI2 : ∀ (bj : Nat) (w1 : World), CondS bs L N w1 ((L.getD i noPt).subs.getD 1 0) bj → Below w.heap.size w w1 → Calls Tryz.prog 67 #[.pointer (some ⟨bj, 0, none⟩)] w1 fun e w' => e = .returned (S r2) ∧ Below w1.heap.size w1 w') :
    Calls Tryz.prog 67 #[.pointer (some ⟨b, 0, none⟩)] w fun e w' => e = .returned (S (overL (spell.getD (kindOf (L.getD i noPt).tok) []) [r1, r2])) ∧ Below w.heap.size w w' := by
  obtain ⟨u, n, bl, hi, hlo, hn, hb, hu, hs⟩ := hC.inv
  obtain ⟨⟨c0, c1, c2, c3, c4, c5⟩, cf⟩ := cd_cells hb
  obtain ⟨au, rfl, ha⟩ := hu.slice
  obtain ⟨g, rfl, hg⟩ := ha 0 (by omega)
  have d0 := under_cell hg 0 (by omega)
  have d1 := under_cell hg 1 (by omega)
  rw [hl] at c4
  have HE : Hid (overL (spell.getD (kindOf (L.getD i noPt).tok) []) [r1, r2] = [40] ++ r1 ++ [32] ++ spell.getD (kindOf (L.getD i noPt).tok) [] ++ [32] ++ r2 ++ [41]) := rfl
  generalize overL (spell.getD (kindOf (L.getD i noPt).tok) []) [r1, r2] = q at *
  have W1 := fun w1 (h : Below w.heap.size w w1) => HI1 (bl 0) w1 ((hs 0 (by omega)).grow h) h
  have W2 := fun w1 (h : Below w.heap.size w w1) => HI2 (bl 1) w1 ((hs 1 (by omega)).grow h) h
  have W3 := fun w1 (h : Below w.heap.size w w1) => spelling_any (kindOf (L.getD i noPt).tok) w1 (hS.below hS.pos h) hk.2.2.2.2
  clear hC hb hu hs ha hg hn HI1 HI2 hS
  obtain ⟨k1, k2, k3, k4, k5⟩ := hk
  generalize spell.getD (kindOf (L.getD i noPt).tok) [] = sp at *
  generalize kindOf (L.getD i noPt).tok = kd at *
  have n1 : ((kd : Int) == (1 : Int)) = false := by have : ¬ ((kd : Int) = 1) := by omega
                                                    simpa using this
  have n2 : ((kd : Int) == (2 : Int)) = false := by have : ¬ ((kd : Int) = 2) := by omega
                                                    simpa using this
  have n3 : ((kd : Int) == (19 : Int)) = false := by have : ¬ ((kd : Int) = 19) := by omega
                                                     simpa using this
  have n4 : ((kd : Int) == (14 : Int)) = false := by have : ¬ ((kd : Int) = 14) := by omega
                                                     simpa using this
  go_enter Tryz.func67, Tryz.ntmps67
  go_wp2_with fail
  have keepF : ∀ w', Below w.heap.size w w' → (w'.cell? ⟨b, 4, none⟩ = some (.slice (some ⟨g, 0, none⟩) 2 2) ∧ w'.cell? ⟨g, 0, none⟩ = some (.pointer (some ⟨bl 0, 0, none⟩)) ∧ w'.cell? ⟨g, 1, none⟩ = some (.pointer (some ⟨bl 1, 0, none⟩)) ∧ w'.cell? ⟨b, 0, none⟩ = some (.int .i64 kd)) := fun w' h => by
    rw [h.cell (p := ⟨b, 4, none⟩) (World.block_lt_of_cell? w _ c4), h.cell (p := ⟨g, 0, none⟩) (World.block_lt_of_cell? w _ d0), h.cell (p := ⟨g, 1, none⟩) (World.block_lt_of_cell? w _ d1), h.cell (p := ⟨b, 0, none⟩) (World.block_lt_of_cell? w _ c0)]
    exact ⟨c4, d0, d1, c0⟩
  have KF : Hid _ := keepF
  clear keepF c1 c2 c3 c5 cf
  have s1 : ¬ 9223372036854775807 < 1 + r1.length := by omega
  have s2 : ¬ 9223372036854775807 < 1 + r1.length + 1 := by omega
  have s3 : ¬ 9223372036854775807 < 1 + r1.length + 1 + sp.length := by omega
  have s4 : ¬ 9223372036854775807 < 1 + r1.length + 1 + sp.length + 1 := by omega
  have s5 : ¬ 9223372036854775807 < 1 + r1.length + 1 + sp.length + 1 + r2.length := by omega
  have s6 : ¬ 9223372036854775807 < 1 + r1.length + 1 + sp.length + 1 + r2.length + 1 := by omega
  go_region_held3 (fun w' => w'.cell? ⟨b, 4, none⟩ = some (.slice (some ⟨g, 0, none⟩) 2 2) ∧ w'.cell? ⟨g, 0, none⟩ = some (.pointer (some ⟨bl 0, 0, none⟩)) ∧ w'.cell? ⟨g, 1, none⟩ = some (.pointer (some ⟨bl 1, 0, none⟩)) ∧ w'.cell? ⟨b, 0, none⟩ = some (.int .i64 kd)) (first | exact KF.out _ hB7 | exact KF.out _ hB5 | go_keep) ((first | (go_at_call 119; refine (W3 _ hB5).mono ?_; rintro e w6 ⟨rfl, hw6⟩; subst hw6) | (go_at_call 67; refine (W2 _ hB5).mono ?_; rintro e w7 ⟨rfl, hb7⟩; have hB7 := hB5.trans (hb7.mono hB5.size)) | (go_at_call 67; refine (W1 _ (Below.refl _ _).drew).mono ?_; rintro e w5 ⟨rfl, hb5⟩; have hB5 : Below w.heap.size w w5 := (Below.refl _ _).drew.trans hb5)))
  all_goals rename_i hHeld
  all_goals clear hHeld
  all_goals go_wp2_with fail
  all_goals go_ret
  all_goals refine ⟨?_, hB7⟩
  all_goals rw [HE.out]
  all_goals have e1 := ba_cat [40] r1
  all_goals have e2 := ba_cat ([40] ++ r1) [32]
  all_goals have e3 := ba_cat ([40] ++ r1 ++ [32]) sp
  all_goals have e4 := ba_cat ([40] ++ r1 ++ [32] ++ sp) [32]
  all_goals have e5 := ba_cat ([40] ++ r1 ++ [32] ++ sp ++ [32]) r2
  all_goals have e6 := ba_cat ([40] ++ r1 ++ [32] ++ sp ++ [32] ++ r2) [41]
  all_goals exact congrArg (fun s => Ending.returned (Value.string s)) (by rw [← e6, ← e5, ← e4, ← e3, ← e2, ← e1])
end Go.Proofs.YtfkdailfcmnjlaaGreatDoor
