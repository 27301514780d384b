/-
  Rewriting conditions, however deep. Rewriting items: does a let's name give way to what it stands for. The names that a condition says. Items in memory; those that are reached. Compiling: what the layer's loop comes to, and what is written of it, is the policy's code. A policy that was read, in memory, as items over trees.
-/
import Derived.Test.YtfkdailfcmnjlaaGreatDoorCompiles01
import Derived.Test.YtfkdailfcmnjlaaGreatDoorCompiles02
import Derived.Test.YtfkdailfcmnjlaaGreatDoorCompiles03
import Derived.Test.YtfkdailfcmnjlaaGreatDoorCompiles04
import Derived.Test.YtfkdailfcmnjlaaGreatDoorCompiles05
import Derived.Test.YtfkdailfcmnjlaaGreatDoorCompiles06
import Derived.Test.YtfkdailfcmnjlaaGreatDoorCompiles07
import Derived.Test.YtfkdailfcmnjlaaGreatDoorCompiles08
import Derived.Test.YtfkdailfcmnjlaaGreatDoorCompiles09
import Derived.Test.YtfkdailfcmnjlaaGreatDoorCompiles10
import Derived.Test.YtfkdailfcmnjlaaGreatDoorCompiles11
import Derived.Test.YtfkdailfcmnjlaaGreatDoorCompiles12
import Derived.Test.YtfkdailfcmnjlaaGreatDoorCompiles13
import Derived.Test.YtfkdailfcmnjlaaGreatDoorCompiles14
import Derived.Test.YtfkdailfcmnjlaaGreatDoorCompiles15
import Derived.Test.YtfkdailfcmnjlaaGreatDoorCompiles16
import Derived.Test.YtfkdailfcmnjlaaGreatDoorCompiles17
import Derived.Test.YtfkdailfcmnjlaaGreatDoorCompiles18
import Derived.Test.YtfkdailfcmnjlaaGreatDoorCompiles19
import Derived.Test.YtfkdailfcmnjlaaGreatDoorCompiles20
import Derived.Test.YtfkdailfcmnjlaaGreatDoorCompiles21
import Derived.Test.YtfkdailfcmnjlaaGreatDoorCompiles22
import Derived.Test.YtfkdailfcmnjlaaGreatDoorCompiles23
import Derived.Test.YtfkdailfcmnjlaaGreatDoorCompiles24
import Derived.Test.YtfkdailfcmnjlaaGreatDoorCompiles25
import Derived.Test.YtfkdailfcmnjlaaGreatDoorCompiles26
import Derived.Test.YtfkdailfcmnjlaaGreatDoorCompiles27
import Derived.Test.YtfkdailfcmnjlaaGreatDoorCompiles28
import Derived.Test.YtfkdailfcmnjlaaGreatDoorCompiles29
import Derived.Test.YtfkdailfcmnjlaaGreatDoorCompiles30
import Derived.Test.YtfkdailfcmnjlaaGreatDoorCompiles31
import Derived.Test.YtfkdailfcmnjlaaGreatDoorCompiles32
import Derived.Test.YtfkdailfcmnjlaaGreatDoorCompiles33
import Derived.Test.YtfkdailfcmnjlaaGreatDoorCompiles34
import Derived.Test.YtfkdailfcmnjlaaGreatDoorCompiles35
import Derived.Test.YtfkdailfcmnjlaaGreatDoorCompiles37
import Derived.Test.YtfkdailfcmnjlaaGreatDoorCompiles38
import Derived.Test.YtfkdailfcmnjlaaGreatDoorCompiles39
import Derived.Test.YtfkdailfcmnjlaaGreatDoorCompiles40
import Derived.Test.YtfkdailfcmnjlaaGreatDoorCompiles41
import Derived.Test.YtfkdailfcmnjlaaGreatDoorCompiles42
import Derived.Test.YtfkdailfcmnjlaaGreatDoorCompiles43
import Derived.Test.YtfkdailfcmnjlaaGreatDoorCompiles46
import Derived.Test.YtfkdailfcmnjlaaGreatDoorCompiles47
import Derived.Test.YtfkdailfcmnjlaaGreatDoorLays
import Derived.Test.YtfkdailfcmnjlaaGreatDoorLays2
import Derived.WalkKit
import Derived.Deep.QuietTactic
import Derived.BigQuiet
import Derived.WalkSpells
import GoSem.Op.String
import Derived.Deep.AppendLies
import Derived.Deep.RegionHeld3
import Derived.Deep.DrawnRows
import Derived.Deep.RegionHeldLaw
import Derived.Deep.RegionLaw
import Derived.Lib.ParseIntBCases
import Derived.Deep.OwnRows
import Derived.Lib.LaidTab
import Derived.Lib.AppendIntMem
import Derived.Shelf.Strings.Builder1
import Derived.Laws.CopyOwn
import Derived.Deep.DeepCutAuto
import Derived.WalkSmall
import Derived.Lib.AppendZerosOnto
import Derived.Deep.Upon
set_option linter.unusedVariables false
set_option linter.unusedSimpArgs false
namespace Go.Proofs.YtfkdailfcmnjlaaGreatDoor
open Go Go.RowKit
set_option maxRecDepth 100000
attribute [local go_sem ↓] Go.wp_at_zero Go.wp_at_succ

/-- What is known where conditions are rewritten. -/
structure RwCx (n : Int) (lets : List Tr) (lt lt' : List Nat) (lv lv' fl : List Int) : Prop where
  ok : LetsOK (passOf n) lets lt lt' lv lv' fl
  hV : LetsT lt' lv'
  hF : FieldsT fl
  own : ∀ i, lt.getD i 0 ≠ 0 → i < lets.length
  few : lets.length ≤ 1000
/-- A part that is made over others. -/
theorem part_new {F : Nat → Prop} {d : Nat} {w : World} {k : Nat} {pl n l : Int} {nm : List UInt8} {u : Value} {bl : Nat → Nat} {kids : List Tr} (hF : ¬ F w.heap.size) (hu : UnF F w u kids.length bl) (hk : ∀ j, j < kids.length → TrF F d w (bl j) (kids.getD j noTr)) :
    TrF F (d + 1) (w.alloc (.cells #[.int .i64 (k : Nat), .int .i64 pl, .int .i64 n, S nm, u, .int .i64 l] 229)) w.heap.size ⟨k, n, l, kids⟩ := by
  have hb := heap_alloc_new w (.cells #[.int .i64 (k : Nat), .int .i64 pl, .int .i64 n, S nm, u, .int .i64 l] 229)
  have hbA : Below w.heap.size w (w.alloc (.cells #[.int .i64 (k : Nat), .int .i64 pl, .int .i64 n, S nm, u, .int .i64 l] 229)) := (Below.refl _ _).alloc (Nat.le_refl _) _
  have hc := fun j => cell_of_row _ _ j _ _ _ hb
  exact ⟨pl, nm, u, bl, hF, ⟨hc 0, hc 1, hc 2, hc 3, hc 4, hc 5⟩, hu.below hbA, fun j hj => (hk j hj).below hbA⟩
set_option maxHeartbeats 8000000 in
theorem condition_ok {n : Int} {lets : List Tr} {lt lt' : List Nat} {lvs lvs' fl : List Int} (HC : RwCx n lets lt lt' lvs lvs' fl) {D d : Nat} (H : CdOK n lets lt D d) : CdOK n lets lt D (d + 1) := by
  intro F t w rp b lv bl hF hR hw hty hT
  have HTW : Hid (TrF F (d + 1) w b t) := hT
  obtain ⟨pl, nm, u, kb, hFb, hcc, hun, HK⟩ := hT
  have hl3 : t.kids.length ≤ 3 := by
    rcases hw.1 with ⟨_, h2, _⟩ | ⟨_, _, h2⟩ | ⟨_, _, _, _, h2⟩ | ⟨_, _, _, h2⟩ <;> rw [h2] <;> simp
  have hkt := kids_ty hw hty
  have hmem : ∀ j, j < t.kids.length → t.kids.getD j noTr ∈ t.kids := fun j hj => by rw [List.getD_eq_getElem?_getD, List.getElem?_eq_getElem hj]; exact List.getElem_mem _
  have W1 := fun (W : World) (hb : Below w.heap.size w W) => conditions_ok H (ks := t.kids) (u := u) (kb := kb) (fun g hg => by have := hF g hg; have := hb.size; omega) (hR.below hb) (hun.below hb) (fun j hj => ⟨hw.2 _ (hmem j hj), hkt _ (hmem j hj), (HK j hj).below hb⟩) hl3
  have hA1 := rw1_alike HC.ok HC.hV HC.hF hw hty
  have hA2 := rw2_alike HC.ok HC.hV HC.hF hw hty
  have h0own : (rw0 (passOf n) lets d t).k = 2 → 0 ≤ (rw0 (passOf n) lets d t).l ∧ (rw0 (passOf n) lets d t).l.toNat < lets.length := fun hk => by
    have hk' : t.k = 2 := hk
    have hs := wf_leaf hw (by unfold leafK; omega)
    have hl0 : 0 ≤ t.l := by
      rcases hw.1 with ⟨_, _, _, h4⟩ | ⟨h1, _⟩ | ⟨h1, _⟩ | ⟨h1, _⟩
      · exact h4 hk'
      · omega
      · omega
      · unfold twoK at h1; omega
    refine ⟨hl0, HC.own _ ?_⟩
    rw [tyTr, if_pos hs] at hty
    unfold wordTy at hty
    rwa [if_neg (by omega), if_pos hk'] at hty
  have HP : Hid (∀ (W : World) (u' : Value) (bl' : Nat → Nat), Below w.heap.size w W → UnF F W u' t.kids.length bl' → (∀ j, j < t.kids.length → TrF F d W (bl' j) (rwT (passOf n) lets d (t.kids.getD j noTr))) → TrF F (d + 1) (W.alloc (.cells #[.int .i64 (t.k : Nat), .int .i64 pl, .int .i64 t.n, S nm, u', .int .i64 t.l] 229)) W.heap.size (rw0 (passOf n) lets d t)) := fun W u' bl' hb h1 h2 => by
    refine part_new (fun hx => by have := hF _ hx; have := hb.size; omega) (by rw [List.length_map]; exact h1) (fun j hj => ?_)
    rw [List.length_map] at hj
    have e : (t.kids.map (rwT (passOf n) lets d)).getD j noTr = rwT (passOf n) lets d (t.kids.getD j noTr) := by
      simp [List.getD_eq_getElem?_getD, List.getElem?_map, List.getElem?_eq_getElem hj]
    rw [e]; exact h2 j hj
  have HE3 : Hid (rwT (passOf n) lets (d + 1) t = if bitB n 4 = true then pruneT (rw2 (passOf n) lets d t) else rw2 (passOf n) lets d t) := rfl
  have HE2 : Hid (rw2 (passOf n) lets d t = if bitB n 2 = true then foldT (d + 1) (rw1 (passOf n) lets d t) else rw1 (passOf n) lets d t) := rfl
  have HE1 : Hid (rw1 (passOf n) lets d t = if bitB n 1 = true then inlineT lets (rw0 (passOf n) lets d t) else rw0 (passOf n) lets d t) := rfl
  have HWF1 : Hid (WfT (d + 1) (rw1 (passOf n) lets d t) ∧ tyTr lt' (d + 1) (rw1 (passOf n) lets d t) ≠ 0) := ⟨hA1.wf, by rw [hA1.ty]; exact hty⟩
  have HWF2 : Hid (WfT (d + 1) (rw2 (passOf n) lets d t)) := hA2.wf
  have HOWN : Hid _ := h0own
  have HR : Hid _ := hR
  have HFF : Hid _ := hF
  have HFEW : Hid _ := HC.few
  have hlt : b < w.heap.size := World.block_lt_of_cell? w _ hcc.c0
  obtain ⟨c0, c1, c2, c3, c4, c5⟩ := hcc
  have E0 : ∀ W, Below w.heap.size w W → W.cell? ⟨b, 0, none⟩ = some (.int .i64 t.k) := fun W h => by rw [h.cell (p := ⟨b, 0, none⟩) hlt]; exact c0
  have E1 : ∀ W, Below w.heap.size w W → W.cell? ⟨b, 1, none⟩ = some (.int .i64 pl) := fun W h => by rw [h.cell (p := ⟨b, 1, none⟩) hlt]; exact c1
  have E2 : ∀ W, Below w.heap.size w W → W.cell? ⟨b, 2, none⟩ = some (.int .i64 t.n) := fun W h => by rw [h.cell (p := ⟨b, 2, none⟩) hlt]; exact c2
  have E3 : ∀ W, Below w.heap.size w W → W.cell? ⟨b, 3, none⟩ = some (S nm) := fun W h => by rw [h.cell (p := ⟨b, 3, none⟩) hlt]; exact c3
  have E4 : ∀ W, Below w.heap.size w W → W.cell? ⟨b, 4, none⟩ = some u := fun W h => by rw [h.cell (p := ⟨b, 4, none⟩) hlt]; exact c4
  have E5 : ∀ W, Below w.heap.size w W → W.cell? ⟨b, 5, none⟩ = some (.int .i64 t.l) := fun W h => by rw [h.cell (p := ⟨b, 5, none⟩) hlt]; exact c5
  have hS0 : Below w.heap.size w w := Below.refl _ _
  have KD : Hid (∀ W : World, Below w.heap.size w W → Below w.heap.size w W.drew) := fun W h => h.drew
  have KA : Hid (∀ (W : World) (o : Obj), Below w.heap.size w W → Below w.heap.size w (W.alloc o)) := fun W o h => h.alloc h.size _
  have KB : Hid (∀ W W' : World, Below w.heap.size w W → Below W.heap.size W W' → Below w.heap.size w W') := fun W W' h h' => h.trans (h'.mono h.size)
  clear HK hun hFb hl3 hkt hmem hA1 hA2 h0own hw hty hR hF H HC c0 c1 c2 c3 c4 c5 hlt HTW
  generalize t.kids = ks at *
  go_enter Tryz.func128, Tryz.ntmps128
  go_wp2_with fail
  go_region_held3 (fun W => Below w.heap.size w W) (first | assumption | exact KB.out _ _ (by assumption) hb1 | exact KD.out _ hS0 | exact KD.out _ (by assumption) | exact KA.out _ _ (by assumption) | exact KD.out _ (KA.out _ _ (by assumption)) | go_keep)
    (first
      | (go_at_call 173; refine (W1 _ (by assumption)).mono ?_; rintro e w1 ⟨⟨u', bl', rfl, hu1, hk1⟩, hb1⟩; obtain ⟨ua, ucap, rfl, hu2⟩ := hu1; have HU1 : Hid (UnF F w1 (.slice ua ks.length ucap) ks.length bl') := ⟨ua, ucap, rfl, hu2⟩; have HK1 : Hid _ := hk1; clear hu2 hk1))
  all_goals
    rename_i hHeld
    have T0 := HP.out w1 _ bl' (KB.out _ _ (KD.out _ hS0) hb1) HU1.out HK1.out
    have hR2 := HR.out.below hHeld
    have hB2 : Below w.heap.size w _ := hHeld
    generalize w1.alloc (.cells #[.int .i64 t.k, .int .i64 pl, .int .i64 t.n, S nm, .slice ua ks.length ucap, .int .i64 t.l] 229) = w2 at *
    generalize w1.heap.size = b2 at *
    have HT0 : Hid (TrF F (d + 1) w2 b2 (rw0 (passOf n) lets d t)) := T0
    have HR2 : Hid (RwAt F w2 rp n lv bl D lets) := hR2
    have HB2 : Hid (Below w.heap.size w w2) := hB2
    have D1 := does_any 1 hR2.c0
    clear T0 hR2 hB2 hHeld W1 E0 E1 E2 E3 E4 E5 HU1 HK1 HP hb1 KD KA KB hS0
    generalize rw0 (passOf n) lets d t = t0 at *
    generalize hq1 : rw1 (passOf n) lets d t = t1 at *
    generalize hq2 : rw2 (passOf n) lets d t = t2 at *
    clear hq1 hq2
    cases h1 : bitB n 1
    · rw [h1] at D1 HE1
      cases h2 : bitB n 2
      · rw [h2] at HE2
        cases h4 : bitB n 4
        · rw [h4] at HE3
          go_wp2_with fail
          refine D1.mono ?_
          rintro e w' ⟨rfl, hw'⟩
          have hw2 := hw'.symm
          clear hw'
          subst hw2
          clear D1
          have HT1 : Hid (TrF F (d + 1) w2 b2 t1) := by show TrF F (d + 1) w2 b2 t1; rw [HE1.out, if_neg (by decide)]; exact HT0.out
          have HB3 : Hid _ := HB2.out
          have HR3 : Hid _ := HR2.out
          have D2 := does_any 2 HR3.out.c0
          rw [h2] at D2
          go_wp2_with fail
          refine D2.mono ?_
          rintro e w' ⟨rfl, hw'⟩
          have hw2 := hw'.symm
          clear hw'
          subst hw2
          clear D2
          have HT2 : Hid (TrF F (d + 1) w2 b2 t2) := by show TrF F (d + 1) w2 b2 t2; rw [HE2.out, if_neg (by decide)]; exact HT1.out
          have HB4 : Hid _ := HB3.out
          have HR4 : Hid _ := HR3.out
          have D3 := does_any 4 HR4.out.c0
          rw [h4] at D3
          go_wp2_with fail
          refine D3.mono ?_
          rintro e w' ⟨rfl, hw'⟩
          have hw2 := hw'.symm
          clear hw'
          subst hw2
          clear D3
          go_wp2_with fail
          go_ret
          exact ⟨⟨_, rfl, by rw [HE3.out]; first | (rw [if_neg (by decide)]; exact HT2.out) | (rw [if_neg not_false]; exact HT2.out)⟩, HB4.out⟩
        · rw [h4] at HE3
          go_wp2_with fail
          refine D1.mono ?_
          rintro e w' ⟨rfl, hw'⟩
          have hw2 := hw'.symm
          clear hw'
          subst hw2
          clear D1
          have HT1 : Hid (TrF F (d + 1) w2 b2 t1) := by show TrF F (d + 1) w2 b2 t1; rw [HE1.out, if_neg (by decide)]; exact HT0.out
          have HB3 : Hid _ := HB2.out
          have HR3 : Hid _ := HR2.out
          have D2 := does_any 2 HR3.out.c0
          rw [h2] at D2
          go_wp2_with fail
          refine D2.mono ?_
          rintro e w' ⟨rfl, hw'⟩
          have hw2 := hw'.symm
          clear hw'
          subst hw2
          clear D2
          have HT2 : Hid (TrF F (d + 1) w2 b2 t2) := by show TrF F (d + 1) w2 b2 t2; rw [HE2.out, if_neg (by decide)]; exact HT1.out
          have HB4 : Hid _ := HB3.out
          have HR4 : Hid _ := HR3.out
          have D3 := does_any 4 HR4.out.c0
          rw [h4] at D3
          go_wp2_with fail
          refine D3.mono ?_
          rintro e w' ⟨rfl, hw'⟩
          have hw2 := hw'.symm
          clear hw'
          subst hw2
          clear D3
          have V3 := prune_any HWF2.out HT2.out
          go_wp2_with fail
          refine V3.mono ?_
          rintro e w5 ⟨⟨b5, rfl, t5'⟩, hb5⟩
          have HB5 : Hid (Below w.heap.size w w5) := HB4.out.trans (hb5.mono HB4.out.size)
          have HT3 : Hid _ := t5'
          clear V3 t5' hb5
          go_wp2_with fail
          go_ret
          exact ⟨⟨_, rfl, by rw [HE3.out]; first | (rw [if_pos rfl]; exact HT3.out) | (rw [if_pos trivial]; exact HT3.out)⟩, HB5.out⟩
      · rw [h2] at HE2
        cases h4 : bitB n 4
        · rw [h4] at HE3
          go_wp2_with fail
          refine D1.mono ?_
          rintro e w' ⟨rfl, hw'⟩
          have hw2 := hw'.symm
          clear hw'
          subst hw2
          clear D1
          have HT1 : Hid (TrF F (d + 1) w2 b2 t1) := by show TrF F (d + 1) w2 b2 t1; rw [HE1.out, if_neg (by decide)]; exact HT0.out
          have HB3 : Hid _ := HB2.out
          have HR3 : Hid _ := HR2.out
          have D2 := does_any 2 HR3.out.c0
          rw [h2] at D2
          go_wp2_with fail
          refine D2.mono ?_
          rintro e w' ⟨rfl, hw'⟩
          have hw2 := hw'.symm
          clear hw'
          subst hw2
          clear D2
          have V2 := fold_any (fun g hg => by have := HFF.out g hg; have := HB3.out.size; omega) HWF1.out.1 HT1.out HWF1.out.2
          go_wp2_with fail
          refine V2.mono ?_
          rintro e w4 ⟨⟨b4, rfl, t4'⟩, hb4⟩
          have HT2 : Hid (TrF F (d + 1) w4 b4 t2) := by show TrF F (d + 1) w4 b4 t2; rw [HE2.out]; first | (rw [if_pos rfl]; exact t4') | (rw [if_pos trivial]; exact t4')
          have HB4 : Hid (Below w.heap.size w w4) := HB3.out.trans (hb4.mono HB3.out.size)
          have HR4 : Hid (RwAt F w4 rp n lv bl D lets) := HR3.out.below hb4
          clear V2 t4' hb4
          have D3 := does_any 4 HR4.out.c0
          rw [h4] at D3
          go_wp2_with fail
          refine D3.mono ?_
          rintro e w' ⟨rfl, hw'⟩
          have hw2 := hw'.symm
          clear hw'
          subst hw2
          clear D3
          go_wp2_with fail
          go_ret
          exact ⟨⟨_, rfl, by rw [HE3.out]; first | (rw [if_neg (by decide)]; exact HT2.out) | (rw [if_neg not_false]; exact HT2.out)⟩, HB4.out⟩
        · rw [h4] at HE3
          go_wp2_with fail
          refine D1.mono ?_
          rintro e w' ⟨rfl, hw'⟩
          have hw2 := hw'.symm
          clear hw'
          subst hw2
          clear D1
          have HT1 : Hid (TrF F (d + 1) w2 b2 t1) := by show TrF F (d + 1) w2 b2 t1; rw [HE1.out, if_neg (by decide)]; exact HT0.out
          have HB3 : Hid _ := HB2.out
          have HR3 : Hid _ := HR2.out
          have D2 := does_any 2 HR3.out.c0
          rw [h2] at D2
          go_wp2_with fail
          refine D2.mono ?_
          rintro e w' ⟨rfl, hw'⟩
          have hw2 := hw'.symm
          clear hw'
          subst hw2
          clear D2
          have V2 := fold_any (fun g hg => by have := HFF.out g hg; have := HB3.out.size; omega) HWF1.out.1 HT1.out HWF1.out.2
          go_wp2_with fail
          refine V2.mono ?_
          rintro e w4 ⟨⟨b4, rfl, t4'⟩, hb4⟩
          have HT2 : Hid (TrF F (d + 1) w4 b4 t2) := by show TrF F (d + 1) w4 b4 t2; rw [HE2.out]; first | (rw [if_pos rfl]; exact t4') | (rw [if_pos trivial]; exact t4')
          have HB4 : Hid (Below w.heap.size w w4) := HB3.out.trans (hb4.mono HB3.out.size)
          have HR4 : Hid (RwAt F w4 rp n lv bl D lets) := HR3.out.below hb4
          clear V2 t4' hb4
          have D3 := does_any 4 HR4.out.c0
          rw [h4] at D3
          go_wp2_with fail
          refine D3.mono ?_
          rintro e w' ⟨rfl, hw'⟩
          have hw2 := hw'.symm
          clear hw'
          subst hw2
          clear D3
          have V3 := prune_any HWF2.out HT2.out
          go_wp2_with fail
          refine V3.mono ?_
          rintro e w5 ⟨⟨b5, rfl, t5'⟩, hb5⟩
          have HB5 : Hid (Below w.heap.size w w5) := HB4.out.trans (hb5.mono HB4.out.size)
          have HT3 : Hid _ := t5'
          clear V3 t5' hb5
          go_wp2_with fail
          go_ret
          exact ⟨⟨_, rfl, by rw [HE3.out]; first | (rw [if_pos rfl]; exact HT3.out) | (rw [if_pos trivial]; exact HT3.out)⟩, HB5.out⟩
    · rw [h1] at D1 HE1
      cases h2 : bitB n 2
      · rw [h2] at HE2
        cases h4 : bitB n 4
        · rw [h4] at HE3
          go_wp2_with fail
          refine D1.mono ?_
          rintro e w' ⟨rfl, hw'⟩
          have hw2 := hw'.symm
          clear hw'
          subst hw2
          clear D1
          have V1 := inline_any HR2.out HT0.out HOWN.out HFEW.out
          go_wp2_with fail
          refine V1.mono ?_
          rintro e w3 ⟨⟨b3, rfl, t3'⟩, hb3⟩
          have HT1 : Hid (TrF F (d + 1) w3 b3 t1) := by show TrF F (d + 1) w3 b3 t1; rw [HE1.out]; first | (rw [if_pos rfl]; exact t3') | (rw [if_pos trivial]; exact t3')
          have HB3 : Hid (Below w.heap.size w w3) := HB2.out.trans (hb3.mono HB2.out.size)
          have HR3 : Hid (RwAt F w3 rp n lv bl D lets) := HR2.out.below hb3
          clear V1 t3' hb3
          have D2 := does_any 2 HR3.out.c0
          rw [h2] at D2
          go_wp2_with fail
          refine D2.mono ?_
          rintro e w' ⟨rfl, hw'⟩
          have hw2 := hw'.symm
          clear hw'
          subst hw2
          clear D2
          have HT2 : Hid (TrF F (d + 1) w3 b3 t2) := by show TrF F (d + 1) w3 b3 t2; rw [HE2.out, if_neg (by decide)]; exact HT1.out
          have HB4 : Hid _ := HB3.out
          have HR4 : Hid _ := HR3.out
          have D3 := does_any 4 HR4.out.c0
          rw [h4] at D3
          go_wp2_with fail
          refine D3.mono ?_
          rintro e w' ⟨rfl, hw'⟩
          have hw2 := hw'.symm
          clear hw'
          subst hw2
          clear D3
          go_wp2_with fail
          go_ret
          exact ⟨⟨_, rfl, by rw [HE3.out]; first | (rw [if_neg (by decide)]; exact HT2.out) | (rw [if_neg not_false]; exact HT2.out)⟩, HB4.out⟩
        · rw [h4] at HE3
          go_wp2_with fail
          refine D1.mono ?_
          rintro e w' ⟨rfl, hw'⟩
          have hw2 := hw'.symm
          clear hw'
          subst hw2
          clear D1
          have V1 := inline_any HR2.out HT0.out HOWN.out HFEW.out
          go_wp2_with fail
          refine V1.mono ?_
          rintro e w3 ⟨⟨b3, rfl, t3'⟩, hb3⟩
          have HT1 : Hid (TrF F (d + 1) w3 b3 t1) := by show TrF F (d + 1) w3 b3 t1; rw [HE1.out]; first | (rw [if_pos rfl]; exact t3') | (rw [if_pos trivial]; exact t3')
          have HB3 : Hid (Below w.heap.size w w3) := HB2.out.trans (hb3.mono HB2.out.size)
          have HR3 : Hid (RwAt F w3 rp n lv bl D lets) := HR2.out.below hb3
          clear V1 t3' hb3
          have D2 := does_any 2 HR3.out.c0
          rw [h2] at D2
          go_wp2_with fail
          refine D2.mono ?_
          rintro e w' ⟨rfl, hw'⟩
          have hw2 := hw'.symm
          clear hw'
          subst hw2
          clear D2
          have HT2 : Hid (TrF F (d + 1) w3 b3 t2) := by show TrF F (d + 1) w3 b3 t2; rw [HE2.out, if_neg (by decide)]; exact HT1.out
          have HB4 : Hid _ := HB3.out
          have HR4 : Hid _ := HR3.out
          have D3 := does_any 4 HR4.out.c0
          rw [h4] at D3
          go_wp2_with fail
          refine D3.mono ?_
          rintro e w' ⟨rfl, hw'⟩
          have hw2 := hw'.symm
          clear hw'
          subst hw2
          clear D3
          have V3 := prune_any HWF2.out HT2.out
          go_wp2_with fail
          refine V3.mono ?_
          rintro e w5 ⟨⟨b5, rfl, t5'⟩, hb5⟩
          have HB5 : Hid (Below w.heap.size w w5) := HB4.out.trans (hb5.mono HB4.out.size)
          have HT3 : Hid _ := t5'
          clear V3 t5' hb5
          go_wp2_with fail
          go_ret
          exact ⟨⟨_, rfl, by rw [HE3.out]; first | (rw [if_pos rfl]; exact HT3.out) | (rw [if_pos trivial]; exact HT3.out)⟩, HB5.out⟩
      · rw [h2] at HE2
        cases h4 : bitB n 4
        · rw [h4] at HE3
          go_wp2_with fail
          refine D1.mono ?_
          rintro e w' ⟨rfl, hw'⟩
          have hw2 := hw'.symm
          clear hw'
          subst hw2
          clear D1
          have V1 := inline_any HR2.out HT0.out HOWN.out HFEW.out
          go_wp2_with fail
          refine V1.mono ?_
          rintro e w3 ⟨⟨b3, rfl, t3'⟩, hb3⟩
          have HT1 : Hid (TrF F (d + 1) w3 b3 t1) := by show TrF F (d + 1) w3 b3 t1; rw [HE1.out]; first | (rw [if_pos rfl]; exact t3') | (rw [if_pos trivial]; exact t3')
          have HB3 : Hid (Below w.heap.size w w3) := HB2.out.trans (hb3.mono HB2.out.size)
          have HR3 : Hid (RwAt F w3 rp n lv bl D lets) := HR2.out.below hb3
          clear V1 t3' hb3
          have D2 := does_any 2 HR3.out.c0
          rw [h2] at D2
          go_wp2_with fail
          refine D2.mono ?_
          rintro e w' ⟨rfl, hw'⟩
          have hw2 := hw'.symm
          clear hw'
          subst hw2
          clear D2
          have V2 := fold_any (fun g hg => by have := HFF.out g hg; have := HB3.out.size; omega) HWF1.out.1 HT1.out HWF1.out.2
          go_wp2_with fail
          refine V2.mono ?_
          rintro e w4 ⟨⟨b4, rfl, t4'⟩, hb4⟩
          have HT2 : Hid (TrF F (d + 1) w4 b4 t2) := by show TrF F (d + 1) w4 b4 t2; rw [HE2.out]; first | (rw [if_pos rfl]; exact t4') | (rw [if_pos trivial]; exact t4')
          have HB4 : Hid (Below w.heap.size w w4) := HB3.out.trans (hb4.mono HB3.out.size)
          have HR4 : Hid (RwAt F w4 rp n lv bl D lets) := HR3.out.below hb4
          clear V2 t4' hb4
          have D3 := does_any 4 HR4.out.c0
          rw [h4] at D3
          go_wp2_with fail
          refine D3.mono ?_
          rintro e w' ⟨rfl, hw'⟩
          have hw2 := hw'.symm
          clear hw'
          subst hw2
          clear D3
          go_wp2_with fail
          go_ret
          exact ⟨⟨_, rfl, by rw [HE3.out]; first | (rw [if_neg (by decide)]; exact HT2.out) | (rw [if_neg not_false]; exact HT2.out)⟩, HB4.out⟩
        · rw [h4] at HE3
          go_wp2_with fail
          refine D1.mono ?_
          rintro e w' ⟨rfl, hw'⟩
          have hw2 := hw'.symm
          clear hw'
          subst hw2
          clear D1
          have V1 := inline_any HR2.out HT0.out HOWN.out HFEW.out
          go_wp2_with fail
          refine V1.mono ?_
          rintro e w3 ⟨⟨b3, rfl, t3'⟩, hb3⟩
          have HT1 : Hid (TrF F (d + 1) w3 b3 t1) := by show TrF F (d + 1) w3 b3 t1; rw [HE1.out]; first | (rw [if_pos rfl]; exact t3') | (rw [if_pos trivial]; exact t3')
          have HB3 : Hid (Below w.heap.size w w3) := HB2.out.trans (hb3.mono HB2.out.size)
          have HR3 : Hid (RwAt F w3 rp n lv bl D lets) := HR2.out.below hb3
          clear V1 t3' hb3
          have D2 := does_any 2 HR3.out.c0
          rw [h2] at D2
          go_wp2_with fail
          refine D2.mono ?_
          rintro e w' ⟨rfl, hw'⟩
          have hw2 := hw'.symm
          clear hw'
          subst hw2
          clear D2
          have V2 := fold_any (fun g hg => by have := HFF.out g hg; have := HB3.out.size; omega) HWF1.out.1 HT1.out HWF1.out.2
          go_wp2_with fail
          refine V2.mono ?_
          rintro e w4 ⟨⟨b4, rfl, t4'⟩, hb4⟩
          have HT2 : Hid (TrF F (d + 1) w4 b4 t2) := by show TrF F (d + 1) w4 b4 t2; rw [HE2.out]; first | (rw [if_pos rfl]; exact t4') | (rw [if_pos trivial]; exact t4')
          have HB4 : Hid (Below w.heap.size w w4) := HB3.out.trans (hb4.mono HB3.out.size)
          have HR4 : Hid (RwAt F w4 rp n lv bl D lets) := HR3.out.below hb4
          clear V2 t4' hb4
          have D3 := does_any 4 HR4.out.c0
          rw [h4] at D3
          go_wp2_with fail
          refine D3.mono ?_
          rintro e w' ⟨rfl, hw'⟩
          have hw2 := hw'.symm
          clear hw'
          subst hw2
          clear D3
          have V3 := prune_any HWF2.out HT2.out
          go_wp2_with fail
          refine V3.mono ?_
          rintro e w5 ⟨⟨b5, rfl, t5'⟩, hb5⟩
          have HB5 : Hid (Below w.heap.size w w5) := HB4.out.trans (hb5.mono HB4.out.size)
          have HT3 : Hid _ := t5'
          clear V3 t5' hb5
          go_wp2_with fail
          go_ret
          exact ⟨⟨_, rfl, by rw [HE3.out]; first | (rw [if_pos rfl]; exact HT3.out) | (rw [if_pos trivial]; exact HT3.out)⟩, HB5.out⟩
theorem rewrites {n : Int} {lets : List Tr} {lt lt' : List Nat} {lvs lvs' fl : List Int} (HC : RwCx n lets lt lt' lvs lvs' fl) (D d : Nat) : CdOK n lets lt D d := by
  induction d with
  | zero => intro F t w rp b lv bl _ _ h; exact h.elim
  | succ d ih => exact condition_ok HC ih
end Go.Proofs.YtfkdailfcmnjlaaGreatDoor

namespace Go.Proofs.YtfkdailfcmnjlaaGreatDoor
open Go Go.RowKit
set_option maxRecDepth 100000
attribute [local go_sem ↓] Go.wp_at_zero Go.wp_at_succ

set_option maxHeartbeats 4000000 in
theorem inlined_any {F : Nat → Prop} {d D kd wh : Nat} {t : Tr} {w : World} {b rp : Nat} {n : Int} {lv : Value} {bl : Nat → Nat} {lets : List Tr} {a1 a2 a3 a4 a5 a6 a7 : Value} (o1 : a1.oneCell' = true) (o2 : a2.oneCell' = true) (o3 : a3.oneCell' = true) (o4 : a4.oneCell' = true) (o5 : a5.oneCell' = true) (o6 : a6.oneCell' = true) (o7 : a7.oneCell' = true)
    (hR : RwAt F w rp n lv bl D lets) (hT : TrF F d w b t) :
    Calls Tryz.prog 129 #[.pointer (some ⟨rp, 0, none⟩), .agg #[.int .i64 kd, a1, a2, a3, a4, a5, a6, a7, .int .i64 wh, .pointer (some ⟨b, 0, none⟩)]] w fun e w' => e = .returned (.bool (bitB n 1 && (decide (kd = 11) && decide (t.kids = [])))) ∧ Below w.heap.size w w' := by
  have hbA : Below w.heap.size w (w.alloc (.cells #[.int .i64 kd, a1, a2, a3, a4, a5, a6, a7, .int .i64 wh, .pointer (some ⟨b, 0, none⟩)] 163)) := (Below.refl _ _).alloc (Nat.le_refl _) _
  have hit : (w.alloc (.cells #[.int .i64 kd, a1, a2, a3, a4, a5, a6, a7, .int .i64 wh, .pointer (some ⟨b, 0, none⟩)] 163)).heap[w.heap.size]? = some (.cells #[.int .i64 kd, a1, a2, a3, a4, a5, a6, a7, .int .i64 wh, .pointer (some ⟨b, 0, none⟩)] 163 (0, 0)) := heap_alloc_new w _
  have hT1 := hT.below hbA
  have hR1 := hR.below hbA
  generalize hwA : w.alloc (.cells #[.int .i64 kd, a1, a2, a3, a4, a5, a6, a7, .int .i64 wh, .pointer (some ⟨b, 0, none⟩)] 163) = wA at *
  have HW : Hid _ := hwA
  have c0 : wA.cell? ⟨w.heap.size, 0, none⟩ = some (.int .i64 kd) := cell_of_row wA _ 0 _ _ _ hit
  have c9 : wA.cell? ⟨w.heap.size, 9, none⟩ = some (.pointer (some ⟨b, 0, none⟩)) := cell_of_row wA _ 9 _ _ _ hit
  obtain ⟨ua, ucap, c4⟩ := trF_under hT1
  have D1 := does_any 1 hR1.c0
  have HB : Hid _ := hbA
  have e0 : decide (t.kids = []) = ((t.kids.length : Int) == 0) := by
    cases t.kids with
    | nil => rfl
    | cons x r => simp; omega
  have e1 : decide (kd = 11) = ((kd : Int) == 11) := by
    by_cases h : kd = 11
    · subst h; rfl
    · rw [decide_eq_false h]; symm; simp; omega
  rw [e0, e1]
  have KD : Hid (∀ W : World, Below w.heap.size w W → Below w.heap.size w W.drew) := fun W h => h.drew
  clear hwA hit hT1 hR1 hT hR hbA e0 e1
  generalize t.kids.length = tn at *
  cases hb1 : bitB n 1
  · rw [hb1] at D1
    go_enter Tryz.func129, Tryz.ntmps129
    go_wp2_with fail
    rw [HW.out]
    refine D1.mono ?_
    rintro e w' ⟨rfl, rfl⟩
    go_wp2_with fail
    go_ret
    exact ⟨rfl, HB.out⟩
  · rw [hb1] at D1
    cases h11 : ((kd : Int) == 11)
    · go_enter Tryz.func129, Tryz.ntmps129
      go_wp2_with fail
      rw [HW.out]
      refine D1.mono ?_
      rintro e w' ⟨rfl, rfl⟩
      go_wp2_with fail
      go_ret
      exact ⟨rfl, HB.out⟩
    · cases h0 : ((tn : Int) == 0)
      · go_enter Tryz.func129, Tryz.ntmps129
        go_wp2_with fail
        rw [HW.out]
        refine D1.mono ?_
        rintro e w' ⟨rfl, rfl⟩
        go_wp2_with fail
        go_ret
        exact ⟨rfl, HB.out⟩
      · go_enter Tryz.func129, Tryz.ntmps129
        go_wp2_with fail
        rw [HW.out]
        refine D1.mono ?_
        rintro e w' ⟨rfl, rfl⟩
        go_wp2_with fail
        go_ret
        exact ⟨rfl, HB.out⟩
end Go.Proofs.YtfkdailfcmnjlaaGreatDoor

namespace Go.Proofs.YtfkdailfcmnjlaaGreatDoor
open Go Go.RowKit
set_option maxRecDepth 100000
attribute [local go_sem ↓] Go.wp_at_zero Go.wp_at_succ

/-- The names in memory. -/
def NmAt (w : World) (np : Nat) (nm : List Bool) : Prop := nm.length = 10 ∧ ∀ j, j < 10 → w.cell? ⟨np, j, none⟩ = some (.bool (nm.getD j false)) ∧ w.frozen? ⟨np, j, none⟩ = false
theorem NmAt.put {w : World} {np : Nat} {nm : List Bool} (h : NmAt w np nm) {i : Nat} (hi : i < 10) : NmAt (w.setCell ⟨np, i, none⟩ (.bool true)) np (nm.set i true) := by
  refine ⟨by rw [List.length_set]; exact h.1, fun j hj => ?_⟩
  refine ⟨?_, by rw [World.frozen?_setCell]; exact (h.2 j hj).2⟩
  by_cases e : i = j
  · subst e
    rw [getD_set_eq (by rw [h.1]; exact hi)]
    exact World.cell?_setCell_same _ _ _ (h.2 i hi).1
  · rw [getD_set_ne e, World.cell?_setCell_other _ _ _ _ (by intro q; injection q; omega)]
    exact (h.2 j hj).1
theorem NmAt.drew {w : World} {np : Nat} {nm : List Bool} (h : NmAt w np nm) : NmAt w.drew np nm := h
/-- Noting the names of a condition, at most so deep. -/
def NtOK (lt : List Nat) (d : Nat) : Prop := ∀ {t : Tr} {w : World} {b np : Nat} {nm : List Bool}, WfT d t → tyTr lt d t ≠ 0 → TrF (fun g => g = np) d w b t → NmAt w np nm →
  Calls Tryz.prog 177 #[.pointer (some ⟨b, 0, none⟩), .pointer (some ⟨np, 0, none⟩)] w fun e w' => e = .returned (.tuple #[]) ∧ Only (fun g => g = np) w w' ∧ NmAt w' np (noteT d t nm)
/-- What the loop keeps. -/
structure NtI (d np : Nat) (ks : List Tr) (nm : List Bool) (w wr : World) (k : Nat) : Prop where
  only : Only (fun g => g = np) w wr
  at_ : NmAt wr np ((ks.take k).foldl (fun a c => noteT d c a) nm)
theorem NtI.next {d np : Nat} {ks : List Tr} {nm : List Bool} {w wr w1 : World} {k : Nat} (h : NtI d np ks nm w wr k) (hk : k < ks.length) (ho : Only (fun g => g = np) wr w1) (ha : NmAt w1 np (noteT d (ks.getD k noTr) ((ks.take k).foldl (fun a c => noteT d c a) nm))) : NtI d np ks nm w w1 (k + 1) := by
  refine ⟨h.only.trans ho (fun _ _ x => x) (fun _ _ x => x), ?_⟩
  have e : ks.take (k + 1) = ks.take k ++ [ks.getD k noTr] := by
    rw [List.take_add_one, List.getElem?_eq_getElem hk, List.getD_eq_getElem?_getD, List.getElem?_eq_getElem hk]; rfl
  rw [e, List.foldl_append]
  exact ha
set_option maxHeartbeats 4000000 in
theorem note_ok {lt : List Nat} {d : Nat} (h10 : lt.length = 10) (H : NtOK lt d) : NtOK lt (d + 1) := by
  intro t w b np nm hw hty hT hN
  have HT : Hid (TrF (fun g => g = np) (d + 1) w b t) := hT
  obtain ⟨pl, nam, u, kb, hFb, hcc, hun, HK⟩ := hT
  have hkt := kids_ty hw hty
  have hmem : ∀ j, j < t.kids.length → t.kids.getD j noTr ∈ t.kids := fun j hj => by rw [List.getD_eq_getElem?_getD, List.getElem?_eq_getElem hj]; exact List.getElem_mem _
  have hl3 : t.kids.length ≤ 3 := by
    rcases hw.1 with ⟨_, h2, _⟩ | ⟨_, _, h2⟩ | ⟨_, _, _, _, h2⟩ | ⟨_, _, _, h2⟩ <;> rw [h2] <;> simp
  have HKK : Hid (∀ j, j < t.kids.length → WfT d (t.kids.getD j noTr) ∧ tyTr lt d (t.kids.getD j noTr) ≠ 0 ∧ TrF (fun g => g = np) d w (kb j) (t.kids.getD j noTr)) := fun j hj => ⟨hw.2 _ (hmem j hj), hkt _ (hmem j hj), HK j hj⟩
  have HN : Hid _ := hN
  have c0 := hcc.c0
  have c4 := hcc.c4
  have HC4 : Hid _ := c4
  have c5 := hcc.c5
  obtain ⟨a, cap, rfl, hq⟩ := hun
  have HQ : Hid _ := hq
  have HFB : Hid _ := hFb
  have HE : Hid (noteT (d + 1) t nm = t.kids.foldl (fun a c => noteT d c a) (if t.k = 2 then nm.set t.l.toNat true else nm)) := rfl
  by_cases hk2 : t.k = 2
  · have hs := wf_leaf hw (by unfold leafK; omega)
    have hl0 : 0 ≤ t.l := by
      rcases hw.1 with ⟨_, _, _, h4⟩ | ⟨h1, _⟩ | ⟨h1, _⟩ | ⟨h1, _⟩
      · exact h4 hk2
      · omega
      · omega
      · unfold twoK at h1; omega
    have hl1 : t.l.toNat < 10 := by
      rw [tyTr, if_pos hs] at hty
      unfold wordTy at hty
      rw [if_neg (by omega), if_pos hk2] at hty
      rw [← h10]
      by_cases e : t.l.toNat < lt.length
      · exact e
      · exfalso; apply hty; rw [List.getD_eq_getElem?_getD, List.getElem?_eq_none (by omega)]; rfl
    have e : t.l = (t.l.toNat : Int) := by omega
    rw [e] at c5
    rw [hk2] at c0
    have HE2 : Hid (noteT (d + 1) t nm = nm.set t.l.toNat true) := by
      show noteT (d + 1) t nm = _
      rw [HE.out, if_pos hk2, hs]; rfl
    have hlen : t.kids.length = 0 := by rw [hs]; rfl
    rw [hlen] at c4
    generalize t.l.toNat = li at *
    obtain ⟨n1, n2⟩ := hN.2 li hl1
    have hib : (0 : Int) ≤ (li : Int) ∧ (li : Int) < 10 := by omega
    have c4' : (w.setCell ⟨np, li, none⟩ (.bool true)).cell? ⟨b, 4, none⟩ = some (.slice a 0 cap) := by
      rw [World.cell?_setCell_far _ _ _ _ (by intro q; exact hFb q.symm)]; exact c4
    rw [HE2.out]
    clear HE HE2 HQ HKK HK hq hkt hmem hw hty hN hcc e hs hl0 HC4 HT hFb hlen hk2
    go_enter Tryz.func177, Tryz.ntmps177
    go_wp2_with fail
    go_region
    all_goals
      go_wp2_with fail
      go_loopw [24] (fun iv wr => iv = .int .i64 0 ∧ Hid (wr = (w.setCell ⟨np, li, none⟩ (.bool true)).drew)) (fun _ _ => 0)
      case atStart => exact ⟨rfl, (rfl : _ = _)⟩
      case round =>
        obtain ⟨rfl, HW⟩ := hrel
        go_wp2
        go_end0
        rw [HW.out]
        exact ⟨rfl, ((Only.refl (fun g => g = np) w).setCell (.inl rfl) _).drew, (NmAt.put HN.out hl1).drew⟩
  · rw [HE.out, if_neg hk2]
    have i2 : ((t.k : Int) == 2) = false := by simp; omega
    have H0 : Hid (NtI d np t.kids nm w w 0) := ⟨Only.refl _ _, by rw [List.take_zero]; exact hN⟩
    clear HE HK hq hkt hmem hw hty hN hcc HT hk2 c5
    generalize t.kids = ks at *
    generalize t.k = tk at *
    go_enter Tryz.func177, Tryz.ntmps177
    go_wp2_with fail
    go_loopw [24] (fun iv wr => ∃ (k : Nat), k ≤ ks.length ∧ iv = .int .i64 k ∧ Hid (NtI d np ks nm w wr k)) (fun iv _ => ks.length - (intOf iv).toNat)
    case atStart => exact ⟨0, Nat.zero_le _, rfl, H0.out⟩
    case round =>
      obtain ⟨k, hkk, rfl, HX⟩ := hrel
      by_cases hlt : k < ks.length
      · have hX := HX.out
        obtain ⟨g, rfl, hFg, q⟩ := HQ.out k hlt
        obtain ⟨h1, h2, h3⟩ := HKK.out k hlt
        have q' : wr.cell? ⟨g, k, none⟩ = some (.pointer (some ⟨kb k, 0, none⟩)) := by rw [World.cell?_of_block (w := w) (a := ⟨g, k, none⟩) (hX.only.block g (World.block_lt_of_cell? w _ q) hFg)]; exact q
        have hkb : (0 : Int) ≤ (k : Int) ∧ (k : Int) < (ks.length : Int) := by omega
        have W1 := H h1 h2 (h3.only hX.only) hX.at_
        clear h1 h2 h3 q hFg hX
        go_wp2_with fail
        refine W1.mono ?_
        rintro e w1 ⟨rfl, ho1, ha1⟩
        have HNX : Hid _ := HX.out.next hlt ho1 ha1
        clear W1 ho1 ha1
        go_wp2_with fail
        go_roundw
        case rel => exact ⟨k + 1, by omega, by go_num, HNX.out⟩
        case measure => simp [intOf]; omega
      · obtain rfl : k = ks.length := by omega
        go_wp2
        go_end0
        have hX := HX.out
        refine ⟨rfl, hX.only, ?_⟩
        have := hX.at_
        rwa [List.take_length] at this
theorem notes {lt : List Nat} (h10 : lt.length = 10) (d : Nat) : NtOK lt d := by
  induction d with
  | zero => intro t w b np nm h; exact h.elim
  | succ d ih => exact note_ok h10 ih
end Go.Proofs.YtfkdailfcmnjlaaGreatDoor

namespace Go.Proofs.YtfkdailfcmnjlaaGreatDoor
open Go Go.RowKit
set_option maxRecDepth 100000
attribute [local go_sem ↓] Go.wp_at_zero Go.wp_at_succ

abbrev Yt := Tok × Tok × Nat × Int
def noY : Yt := (zTok, zTok, 0, 0)
def noIt : ItT := ⟨0, 0, noTr⟩
/-- An item of a row. -/
structure ItF (F : Nat → Prop) (d : Nat) (w : World) (x : ItT) (y : Yt) : Prop where
  kd : kindOf y.1 = x.kind
  wh : y.2.2.2 = (x.wh : Int)
  tr : TrF F d w y.2.2.1 x.c
/-- Items of a row. -/
def ItsF (F : Nat → Prop) (d : Nat) (w : World) (xs : List ItT) (ys : List Yt) : Prop := xs.length = ys.length ∧ ∀ j, j < ys.length → ItF F d w (xs.getD j noIt) (ys.getD j noY)
theorem ItsF.nil {F : Nat → Prop} {d : Nat} {w : World} : ItsF F d w [] [] := ⟨rfl, fun j hj => by simp at hj⟩
theorem ItsF.snoc {F : Nat → Prop} {d : Nat} {w : World} {xs : List ItT} {ys : List Yt} {x : ItT} {y : Yt} (h : ItsF F d w xs ys) (hx : ItF F d w x y) : ItsF F d w (xs ++ [x]) (ys ++ [y]) := by
  have hl := h.1
  refine ⟨by simp [hl], fun j hj => ?_⟩
  by_cases e : j < ys.length
  · rw [getD_snoc_lt e, getD_snoc_lt (by omega)]; exact h.2 j e
  · have e2 : j = ys.length := by simp at hj; omega
    subst e2
    rw [getD_snoc_eq, ← hl, getD_snoc_eq]; exact hx
theorem ItsF.map {F G : Nat → Prop} {d : Nat} {w w' : World} {xs : List ItT} {ys : List Yt} (h : ItsF F d w xs ys) (hm : ∀ b t, TrF F d w b t → TrF G d w' b t) : ItsF G d w' xs ys := ⟨h.1, fun j hj => ⟨(h.2 j hj).kd, (h.2 j hj).wh, hm _ _ (h.2 j hj).tr⟩⟩
/-- A row of items that can be read. -/
def RowF (w : World) (v : Value) (ys : List Yt) : Prop := ∃ a cap, v = .slice a ys.length cap ∧ ∀ k, k < ys.length → ∃ g, a = some ⟨g, 0, none⟩ ∧ g < w.heap.size ∧ ∀ j, j < 10 → w.cell? ⟨g, k * 10 + j, none⟩ = (icell (ys.getD k noY))[j]?
theorem RowF.of_row {w : World} {base : Nat} {v : Value} {ys : List Yt} (h : w.ownsRow base 163 10 v ys.length (iCells ys)) : RowF w v ys := by
  obtain ⟨a, cap, e, hc⟩ := row_cells h
  refine ⟨a, cap, e, fun k hk => ?_⟩
  obtain ⟨g, e, ⟨cs, hg⟩, hj⟩ := hc k hk
  exact ⟨g, e, lt_of_get hg, hj⟩
theorem RowF.below {w w' : World} {v : Value} {ys : List Yt} (h : RowF w v ys) (hb : Below w.heap.size w w') : RowF w' v ys := by
  obtain ⟨a, cap, e, hc⟩ := h
  refine ⟨a, cap, e, fun k hk => ?_⟩
  obtain ⟨g, e, hg, hj⟩ := hc k hk
  exact ⟨g, e, by have := hb.size; omega, fun j h10 => by rw [hb.cell (p := ⟨g, k * 10 + j, none⟩) hg]; exact hj j h10⟩
theorem drop_at {α : Type} {l : List α} {k : Nat} (h : k < l.length) (d : α) : l.drop k = l.getD k d :: l.drop (k + 1) := by
  rw [List.drop_eq_getElem_cons h, List.getD_eq_getElem?_getD, List.getElem?_eq_getElem h]; rfl
theorem trF_k {F : Nat → Prop} {d : Nat} {w : World} {b : Nat} {t : Tr} (h : TrF F d w b t) : b < w.heap.size ∧ w.cell? ⟨b, 0, none⟩ = some (.int .i64 t.k) := by
  cases d with
  | zero => exact h.elim
  | succ d =>
    obtain ⟨_, _, _, _, _, h1, _, _⟩ := h
    exact ⟨World.block_lt_of_cell? w _ h1.c0, h1.c0⟩
/-- What is kept of the items so far. -/
structure KpI (F : Nat → Prop) (d : Nat) (w wr : World) (v : Value) (ks : List ItT) (ys : List Yt) : Prop where
  row : wr.ownsRow w.heap.size 163 10 v ys.length (iCells ys)
  bel : Below w.heap.size w wr
  its : ItsF F d w ks ys
theorem KpI.next {F : Nat → Prop} {d : Nat} {w wr w1 w5 : World} {v : Value} {ks : List ItT} {ys : List Yt} {x : ItT} {y : Yt} {gg cap : Nat} {o : Obj} (h : KpI F d w wr v ks ys) (hb1 : Below wr.heap.size wr w1) (hx : ItF F d w x y)
    (hown : w5.ownsRow w.heap.size 163 10 (.slice (some ⟨gg, 0, none⟩) (ys.length + 1) cap) (ys.length + 1) (iCells ys ++ icell y)) (hgrow : (w1.alloc o).grownBy w5 v.ownBlock) : KpI F d w w5 (.slice (some ⟨gg, 0, none⟩) (ys.length + 1) cap) (ks ++ [x]) (ys ++ [y]) := by
  have hbw : Below w.heap.size w w1 := h.bel.trans (hb1.mono h.bel.size)
  have ho : Only (fun g => v.ownBlock = some g) w1 w5 := ((Only.refl (fun g => v.ownBlock = some g) w1).alloc _).grown hgrow (fun k hk => .inl hk)
  refine ⟨?_, hbw.trans (ho.below hbw.size (fun g _ hg => (h.row.lt g hg).1)), h.its.snoc hx⟩
  rw [iCells_snoc, List.length_append]
  exact hown
theorem KpI.grow {F : Nat → Prop} {d : Nat} {w wr w1 : World} {v : Value} {ks : List ItT} {ys : List Yt} (h : KpI F d w wr v ks ys) (hb : Below wr.heap.size wr w1) : KpI F d w w1 v ks ys := ⟨ownsRow_below h.row hb, h.bel.trans (hb.mono h.bel.size), h.its⟩
/-- What an append leaves of blocks that are not its own. -/
theorem append_keeps {w1 w5 : World} {o : Obj} {row : Option Nat} (hgrow : (w1.alloc o).grownBy w5 row) {b j : Nat} (hb : b < w1.heap.size) (hne : row ≠ some b) : w5.cell? ⟨b, j, none⟩ = w1.cell? ⟨b, j, none⟩ := by
  have ho : Only (fun g => row = some g) w1 w5 := ((Only.refl (fun g => row = some g) w1).alloc _).grown hgrow (fun k hk => .inl hk)
  exact World.cell?_of_block (w := w1) (a := ⟨b, j, none⟩) (ho.block b hb hne)
end Go.Proofs.YtfkdailfcmnjlaaGreatDoor

namespace Go.Proofs.YtfkdailfcmnjlaaGreatDoor
open Go Go.RowKit
set_option maxRecDepth 100000

/-- The instructions of items, one behind the other; how deep; how many cells. -/
def laidF (jmp : Bool) (d : Nat) (L : List ItT) (l : List L3) : List L3 := L.foldl (fun l x => l ++ iE jmp d x l.length) l
def depF (jmp : Bool) (d : Nat) (L : List ItT) (a : Nat) : Nat := L.foldl (fun a x => max a (iD jmp d x)) a
def celF (L : List ItT) (c : Nat) : Nat := L.foldl (fun c x => if x.kind = 11 then x.wh + 1 else c) c
theorem take_more {α : Type} {L : List α} {k : Nat} {x : α} (h : L[k]? = some x) : L.take (k + 1) = L.take k ++ [x] := by
  rw [List.take_add_one, h]; rfl
theorem laidF_more {jmp : Bool} {d : Nat} {L : List ItT} {k : Nat} {x : ItT} {l : List L3} (h : L[k]? = some x) : laidF jmp d (L.take (k + 1)) l = laidF jmp d (L.take k) l ++ iE jmp d x (laidF jmp d (L.take k) l).length := by
  rw [take_more h]; unfold laidF; rw [List.foldl_append]; rfl
theorem depF_more {jmp : Bool} {d : Nat} {L : List ItT} {k : Nat} {x : ItT} {a : Nat} (h : L[k]? = some x) : depF jmp d (L.take (k + 1)) a = max (depF jmp d (L.take k) a) (iD jmp d x) := by
  rw [take_more h]; unfold depF; rw [List.foldl_append]; rfl
theorem celF_more {L : List ItT} {k : Nat} {x : ItT} {c : Nat} (h : L[k]? = some x) : celF (L.take (k + 1)) c = if x.kind = 11 then x.wh + 1 else celF (L.take k) c := by
  rw [take_more h]; unfold celF; rw [List.foldl_append]; rfl
theorem laidF_gen {jmp : Bool} {d : Nat} : ∀ {L : List ItT} {l : List L3} {lt : List Nat}, laidF jmp d L l ++ [⟨18, 0, 0⟩] = l ++ (genI jmp d L lt l.length).map er
  | [], l, lt => rfl
  | x :: r, l, lt => by
    have hl := iE_len jmp d x l.length
    by_cases hk : x.kind = 11
    · have ih := laidF_gen (jmp := jmp) (d := d) (L := r) (l := l ++ iE jmp d x l.length) (lt := lt.set x.wh (tyTr lt d x.c))
      have e : laidF jmp d (x :: r) l = laidF jmp d r (l ++ iE jmp d x l.length) := rfl
      rw [e, ih, genI, if_pos hk, List.length_append, hl]
      unfold iE iS
      rw [if_pos hk, if_pos hk]
      unfold gE
      rw [gen_er_k jmp d none x.c ⟨[], []⟩ ⟨[], lt⟩]
      simp [er, Nat.add_assoc]
    · have ih := laidF_gen (jmp := jmp) (d := d) (L := r) (l := l ++ iE jmp d x l.length) (lt := lt)
      have e : laidF jmp d (x :: r) l = laidF jmp d r (l ++ iE jmp d x l.length) := rfl
      rw [e, ih, genI, if_neg hk, List.length_append, hl]
      unfold iE iS
      rw [if_neg hk, if_neg hk]
      rw [gen_er_k jmp d (some false) x.c ⟨[], []⟩ ⟨[], lt⟩]
      simp [er, Nat.add_assoc]
theorem depF_dp {jmp : Bool} {d : Nat} : ∀ {L : List ItT} {a : Nat}, depF jmp d L a = max a (dpI jmp d L)
  | [], a => by simp [depF, dpI]
  | x :: r, a => by
    have e : depF jmp d (x :: r) a = depF jmp d r (max a (iD jmp d x)) := rfl
    rw [e, depF_dp, dpI]
    unfold iD
    omega
theorem celF_cells : ∀ {L : List ItT} {c : Nat}, celF L c = cellsI L c
  | [], c => rfl
  | x :: r, c => by
    have e : celF (x :: r) c = celF r (if x.kind = 11 then x.wh + 1 else c) := rfl
    rw [e, celF_cells, cellsI]
theorem follow_size {op : Nat} (h : 1 ≤ op ∧ op ≤ 18) : 1 + followP op = sizeOp op := by
  have e : op = 1 ∨ op = 2 ∨ op = 3 ∨ op = 4 ∨ op = 5 ∨ op = 6 ∨ op = 7 ∨ op = 8 ∨ op = 9 ∨ op = 10 ∨ op = 11 ∨ op = 12 ∨ op = 13 ∨ op = 14 ∨ op = 15 ∨ op = 16 ∨ op = 17 ∨ op = 18 := by omega
  rcases e with e | e | e | e | e | e | e | e | e | e | e | e | e | e | e | e | e | e <;> rw [e] <;> decide
theorem plL_F {F : List In4} (h : ∀ x ∈ F, 1 ≤ x.op ∧ x.op ≤ 18) (i : Nat) : plL (F.map er) i = plF F i := by
  unfold plL plF szB
  rw [← List.map_take, List.map_map]
  congr 2
  refine List.map_congr_left fun x hx => ?_
  exact follow_size (h x (List.mem_of_mem_take hx))
theorem wrT_comp {F : List In4} (dep cells : Nat) (h : ∀ x ∈ F, 1 ≤ x.op ∧ x.op ≤ 18) : wrT dep cells (F.map er) = compB dep cells F := by
  unfold wrT compB
  rw [List.nil_append]
  congr 1
  unfold wrB bytesQ
  have e : qF F = (List.range (F.map er).length).map fun i => (((F.map er).getD i noL3).op, numL (F.map er) i ((F.map er).getD i noL3)) := by
    apply List.ext_getElem?
    intro i
    rw [List.getElem?_map, List.length_map]
    by_cases hi : i < F.length
    · have hx : F[i]? = some F[i] := List.getElem?_eq_getElem hi
      have hm := h F[i] (List.getElem_mem hi)
      generalize F[i] = x at *
      have hg : (F.map er).getD i noL3 = er x := by rw [List.getD_eq_getElem?_getD, List.getElem?_map, hx]; rfl
      rw [qF_at hx, List.getElem?_range hi, Option.map_some, hg]
      have : numL (F.map er) i (er x) = jnum F i x := by
        unfold numL jnum
        by_cases g : x.op = 15 ∨ x.op = 16
        · have g' : (er x).op = 15 ∨ (er x).op = 16 := g
          have : 1 + followP (er x).op = 3 := by
            have e3 := follow_size hm
            have : sizeOp x.op = 3 := by rcases g with e | e <;> rw [e] <;> rfl
            rw [this] at e3; exact e3
          rw [if_pos g, if_pos g', plL_F h, plL_F h, this]; rfl
        · have g' : ¬ ((er x).op = 15 ∨ (er x).op = 16) := g
          rw [if_neg g, if_neg g']; rfl
      rw [this]; rfl
    · rw [List.getElem?_eq_none (by rw [qF_len]; omega), List.getElem?_eq_none (by simp; omega)]; rfl
  rw [e, List.flatMap_map]
  have hall : ∀ i, i ∈ List.range (F.map er).length → encL (F.map er) i ((F.map er).getD i noL3) = encQ (((F.map er).getD i noL3).op, numL (F.map er) i ((F.map er).getD i noL3)) := fun i hi => by
    have hi : i < F.length := by simpa using hi
    have hx : F[i]? = some F[i] := List.getElem?_eq_getElem hi
    have hm := h F[i] (List.getElem_mem hi)
    generalize F[i] = x at *
    have hg : (F.map er).getD i noL3 = er x := by rw [List.getD_eq_getElem?_getD, List.getElem?_map, hx]; rfl
    rw [hg]
    unfold encL encQ
    have := follow_size hm
    have e2 : followP (er x).op = sizeOp (er x).op - 1 := by simp only [er]; omega
    rw [e2]
  rw [List.flatMap_def, List.flatMap_def, List.map_congr_left hall]
/-- How many instructions, against how many parts. -/
theorem szG_cnt {jmp : Bool} (d : Nat) : ∀ {t : Tr} {m : Option Bool}, WfT d t → szG jmp d m t + (if m = none then 2 else 0) ≤ 3 * cntT d t := by
  induction d with
  | zero => intro t m h; exact h.elim
  | succ d ih =>
    intro t m h
    have hw := h.2
    have LAY : szG jmp (d + 1) none t + 2 ≤ 3 * cntT (d + 1) t := by
      rcases h.1 with ⟨hk, hs, _⟩ | ⟨hk, a, hs⟩ | ⟨hk, a, b, c, hs⟩ | ⟨hk, a, b, hs⟩
      · have h14 : ¬ t.k = 14 := by unfold leafK at hk; omega
        have h19 : ¬ t.k = 19 := by unfold leafK at hk; omega
        simp only [szG, if_neg h14, if_neg h19, hs, List.length_nil]
        rw [if_neg (by decide)]
        have := cnt_pos h
        omega
      · have h14 : ¬ t.k = 14 := by omega
        have e0 : t.kid 0 = a := by unfold Tr.kid; rw [hs]; rfl
        simp only [szG, if_neg h14, if_pos hk, e0]
        have h1 := ih (m := none) (hw a (by rw [hs]; simp))
        rw [cnt_not hs]
        simp at h1
        omega
      · have e0 : t.kid 0 = a := by unfold Tr.kid; rw [hs]; rfl
        have e1 : t.kid 1 = b := by unfold Tr.kid; rw [hs]; rfl
        have e2 : t.kid 2 = c := by unfold Tr.kid; rw [hs]; rfl
        simp only [szG, if_pos hk, e0, e1, e2]
        have h1 := ih (m := some false) (hw a (by rw [hs]; simp))
        have h2 := ih (m := none) (hw b (by rw [hs]; simp))
        have h3 := ih (m := none) (hw c (by rw [hs]; simp))
        simp only [if_true, reduceCtorEq, if_false] at h1 h2 h3
        rw [cnt_if hs]
        omega
      · have h14 : ¬ t.k = 14 := by unfold twoK at hk; omega
        have h19 : ¬ t.k = 19 := by unfold twoK at hk; omega
        have hl : t.kids.length = 2 := by rw [hs]; rfl
        have e0 : t.kid 0 = a := by unfold Tr.kid; rw [hs]; rfl
        have e1 : t.kid 1 = b := by unfold Tr.kid; rw [hs]; rfl
        simp only [szG, if_neg h14, if_neg h19, if_pos hl, e0, e1]
        have h1 := ih (m := none) (hw a (by rw [hs]; simp))
        have h2 := ih (m := none) (hw b (by rw [hs]; simp))
        rw [cnt_two hs]
        simp at h1 h2
        omega
    cases m with
    | none => exact LAY
    | some this =>
      simp only [reduceCtorEq, if_false, Nat.add_zero]
      cases hj : byJ jmp t.k with
      | false =>
        have hgen : szG jmp (d + 1) (some this) t = szG jmp (d + 1) none t + (if this then 2 else 1) := by
          simp only [szG, hj]; rfl
        rw [hgen]
        have : (if this then 2 else 1) ≤ 2 := by cases this <;> simp
        omega
      | true =>
        simp only [szG, hj, if_true]
        rcases h.1 with ⟨hk, hs, _⟩ | ⟨hk, a, hs⟩ | ⟨hk, a, b, c, hs⟩ | ⟨hk, a, b, hs⟩
        · have h2 : t.k = 20 ∨ t.k = 21 := by
            unfold byJ at hj; unfold leafK at hk
            simp at hj; omega
          rw [if_pos h2]
          have := cnt_pos h
          split <;> omega
        · have h2 : ¬ (t.k = 20 ∨ t.k = 21) := by omega
          have e0 : t.kid 0 = a := by unfold Tr.kid; rw [hs]; rfl
          rw [if_neg h2, if_pos hk, e0, cnt_not hs]
          have h1 := ih (m := some (!this)) (hw a (by rw [hs]; simp))
          simp at h1
          omega
        · have h2 : ¬ (t.k = 20 ∨ t.k = 21) := by omega
          have h19 : ¬ t.k = 19 := by omega
          have e0 : t.kid 0 = a := by unfold Tr.kid; rw [hs]; rfl
          have e1 : t.kid 1 = b := by unfold Tr.kid; rw [hs]; rfl
          have e2 : t.kid 2 = c := by unfold Tr.kid; rw [hs]; rfl
          rw [if_neg h2, if_neg h19, if_pos hk, e0, e1, e2, cnt_if hs]
          have h1 := ih (m := some false) (hw a (by rw [hs]; simp))
          have h2 := ih (m := some this) (hw b (by rw [hs]; simp))
          have h3 := ih (m := some this) (hw c (by rw [hs]; simp))
          simp only [reduceCtorEq, if_false] at h1 h2 h3
          omega
        · have h2 : ¬ (t.k = 20 ∨ t.k = 21) := by unfold twoK at hk; omega
          have h19 : ¬ t.k = 19 := by unfold twoK at hk; omega
          have h14 : ¬ t.k = 14 := by unfold twoK at hk; omega
          have e0 : t.kid 0 = a := by unfold Tr.kid; rw [hs]; rfl
          have e1 : t.kid 1 = b := by unfold Tr.kid; rw [hs]; rfl
          rw [if_neg h2, if_neg h19, if_neg h14, e0, e1, cnt_two hs]
          have h1 := ih (m := some (decide (t.k = 17))) (hw a (by rw [hs]; simp))
          have h2 := ih (m := some this) (hw b (by rw [hs]; simp))
          simp only [reduceCtorEq, if_false] at h1 h2
          omega
theorem iS_cnt {jmp : Bool} {d : Nat} {x : ItT} (h : WfT d x.c) : iS jmp d x ≤ 3 * cntT d x.c + 1 := by
  unfold iS
  have h1 := szG_cnt (jmp := jmp) d (m := if x.kind = 11 then none else some false) h
  omega
theorem laidF_len {jmp : Bool} {d : Nat} : ∀ {L : List ItT} {l : List L3}, (∀ x ∈ L, WfT d x.c) → (laidF jmp d L l).length ≤ l.length + 3 * cntI d L + L.length
  | [], l, _ => by simp [laidF, cntI]
  | x :: r, l, h => by
    have e : laidF jmp d (x :: r) l = laidF jmp d r (l ++ iE jmp d x l.length) := rfl
    have ec : cntI d (x :: r) = cntT d x.c + cntI d r := by simp [cntI]
    have ih := laidF_len (jmp := jmp) (l := l ++ iE jmp d x l.length) (L := r) (fun y hy => h y (by simp [hy]))
    rw [List.length_append, iE_len] at ih
    have := iS_cnt (jmp := jmp) (h x (by simp))
    rw [e, ec, List.length_cons]
    omega
theorem cntI_take {d : Nat} (L : List ItT) (k : Nat) : cntI d (L.take k) ≤ cntI d L := by
  have h : cntI d L = cntI d (L.take k) + cntI d (L.drop k) := by
    have e := congrArg (fun l => (l.map fun x : ItT => cntT d x.c).sum) (List.take_append_drop k L)
    simp only [List.map_append, List.sum_append] at e
    exact e.symm
  omega
theorem tyI_wf {d : Nat} : ∀ {l : List ItT} {lt : List Nat}, TyI d lt l → ∀ x ∈ l, WfT d x.c
  | [], _, _ => by simp
  | x :: r, lt, h => by
    obtain ⟨h1, h2, h3⟩ := h
    intro y hy
    simp only [List.mem_cons] at hy
    rcases hy with rfl | hy
    · exact h1
    · rcases h3 with ⟨_, _, hT⟩ | ⟨_, _, _, hT⟩ <;> exact tyI_wf hT y hy
/-- What is laid of a policy that was rewritten, and written, is the policy's code. -/
theorem laid_code {p : Pass} {d : Nat} (hd : d ≤ 24) {l L : List ItT} {ls : List L3} (hT : TyI d zeros10 l) (hS : SeqI 0 l) (hn : cntI d l ≤ 200) (hl : l.length ≤ 30) (eL : rewT p d l = L) (els : laidF p.jmp d L [] ++ [⟨18, 0, 0⟩] = ls) :
    wrT (depF p.jmp d L 0) (celF L 0) ls = compOf p d l ∧ ls.length ≤ 700 ∧ (∀ x ∈ ls, x.op < 256 ∧ ((x.op = 15 ∨ x.op = 16) → x.tj < ls.length)) ∧ depF p.jmp d L 0 ≤ 24 ∧ celF L 0 ≤ 10 ∧ TyI d zeros10 L ∧ cntI d L ≤ 200 ∧ L.length ≤ 30 := by
  obtain ⟨r1, _, r3, r4⟩ := rewT_ok (p := p) zeros_fields hT hS
  have hpw := (seq_pair hS).1.sublist (rewT_sub (p := p) (d := d) (l := l))
  unfold compOf
  rw [eL] at *
  have hwh := tyI_wh r1
  have hz10 : zeros10.length = 10 := rfl
  have hcl : cellsI L 0 ≤ 10 := cellsI_le (fun x hx hk => by have := hwh x hx hk; omega) (by omega)
  have hcw := (cellsI_ok (c := 0) hpw (fun _ _ _ => Nat.zero_le _)).2
  rw [celF_cells, depF_dp, Nat.zero_max]
  generalize cellsI L 0 = C at *
  have hz : ∀ i, (List.replicate C 0).getD i 0 = zeros10.getD i 0 := fun i => by
    rw [zeros10_at, List.getD_eq_getElem?_getD, List.getElem?_replicate]; split <;> rfl
  have hT2 : TyI d (List.replicate C 0) L := r1.other hz (fun x hx hk => by rw [List.length_replicate]; exact hcw x hx hk)
  have hsub : Sub (genI p.jmp d L (List.replicate C 0) 0) 0 (genI p.jmp d L (List.replicate C 0) 0) := ⟨[], [], by simp, rfl⟩
  have hcert := genI_cert (jmp := p.jmp) (dep := dpI p.jmp d L) (cells := C) (by omega) hT2 (by simp) (Nat.le_refl _) hsub
  rw [Nat.zero_add] at hcert
  have hgen := laidF_gen (jmp := p.jmp) (d := d) (L := L) (l := []) (lt := List.replicate C 0)
  rw [els, List.nil_append, List.length_nil] at hgen
  have hlen := laidF_len (jmp := p.jmp) (l := []) (tyI_wf r1)
  have hll : ls.length ≤ 700 := by
    rw [← els, List.length_append]
    simp only [List.length_nil, List.length_cons] at hlen ⊢
    have := r4
    omega
  have hops : ∀ x ∈ genI p.jmp d L (List.replicate C 0) 0, (1 ≤ x.op ∧ x.op ≤ 18) ∧ ((x.op = 15 ∨ x.op = 16) → x.to < (genI p.jmp d L (List.replicate C 0) 0).length) := fun x hx => by
    obtain ⟨i, hi⟩ := List.mem_iff_getElem?.1 hx
    have hlt : i < _ := (List.getElem?_eq_some_iff.1 hi).1
    have c := hcert i x (Nat.zero_le _) hlt hi
    refine ⟨c.num.ops, fun g => ?_⟩
    obtain ⟨k', _, _, _, hj⟩ := c.doe
    obtain ⟨_, y, j2, _⟩ := hj g
    exact (List.getElem?_eq_some_iff.1 j2).1
  have hdp := dpI_le p.jmp d L
  refine ⟨?_, hll, ?_, by omega, hcl, r1, by omega, by omega⟩
  · rw [hgen]
    exact wrT_comp _ _ (fun x hx => (hops x hx).1)
  · rw [hgen]
    intro x hx
    obtain ⟨y, hy, rfl⟩ := List.mem_map.1 hx
    obtain ⟨q1, q2⟩ := hops y hy
    exact ⟨by simp only [er]; omega, fun g => by rw [List.length_map]; exact q2 g⟩
end Go.Proofs.YtfkdailfcmnjlaaGreatDoor

namespace Go.Proofs.YtfkdailfcmnjlaaGreatDoor
open Go Go.RowKit
set_option maxRecDepth 100000

theorem tr_wf {f : Nat} : ∀ {g : Nat} {w : World} {b : Nat} {t : Tr}, TrAt f w b t → WfT g t → TrAt g w b t := by
  induction f with
  | zero => intro g w b t h; exact h.elim
  | succ f ih =>
    intro g w b t h hw
    cases g with
    | zero => exact hw.elim
    | succ g =>
      obtain ⟨pl, nm, u, bl, h1, h2, h3⟩ := h
      exact ⟨pl, nm, u, bl, h1, h2, fun j hj => ih (h3 j hj) (kid_wf hw hj)⟩
theorem ItsF.cons {F : Nat → Prop} {d : Nat} {w : World} {xs : List ItT} {ys : List Yt} {x : ItT} {y : Yt} (hx : ItF F d w x y) (h : ItsF F d w xs ys) : ItsF F d w (x :: xs) (y :: ys) := by
  refine ⟨by simp [h.1], fun j hj => ?_⟩
  cases j with
  | zero => exact hx
  | succ j => exact h.2 j (by simpa using hj)
theorem its_mem {bs : Nat} {L : List Pt} {ix : List UInt8 → Int} {w : World} : ∀ {xs : List Itm} {ys : List Yt} {l r fr : Nat}, TreesAt L xs fr → ItemsAt (CondS bs L (N1 ix) w) xs ys → Numb l r xs ys → (∀ x ∈ itsT ix L l r xs, WfT 24 x.c) → ItsF (fun g => w.heap.size ≤ g) 24 w (itsT ix L l r xs) ys
  | [], [], _, _, _, _, _, _, _ => ItsF.nil
  | [], _ :: _, _, _, _, _, h, _, _ => h.elim
  | _ :: _, [], _, _, _, _, h, _, _ => h.elim
  | x :: xs, y :: ys, l, r, fr, hT, hI, hN, hw => by
    have ht := CondS.tr _ hT.1.fit hI.1.1
    rw [itsT] at hw ⊢
    by_cases hn : x.name = []
    · rw [if_pos hn] at hw ⊢
      have hwx := hw _ (List.mem_cons_self ..)
      rcases hN with ⟨h1, _⟩ | ⟨_, h2, h3⟩
      · exact absurd hn h1
      rcases hI.1.2 with ⟨h4, _⟩ | ⟨_, h5, _⟩
      · exact absurd hn h4
      exact ItsF.cons ⟨h5, h2, (tr_wf ht hwx).off⟩ (its_mem hT.2.2 hI.2 h3 (fun z hz => hw z (List.mem_cons_of_mem _ hz)))
    · rw [if_neg hn] at hw ⊢
      have hwx := hw _ (List.mem_cons_self ..)
      rcases hN with ⟨_, h2, h3⟩ | ⟨h1, _⟩
      · rcases hI.1.2 with ⟨_, h5, _⟩ | ⟨h4, _⟩
        · exact ItsF.cons ⟨h5, h2, (tr_wf ht hwx).off⟩ (its_mem hT.2.2 hI.2 h3 (fun z hz => hw z (List.mem_cons_of_mem _ hz)))
        · exact absurd h4 hn
      · exact absurd h1 hn
theorem pol_mem {bs : Nat} {L : List Pt} {xs : List Itm} {base : Nat} {v : Value} {ys : List Yt} {w : World} (h : PolAt bs L xs base v ys w) (hM : MeanOK L xs) : RowF w v ys ∧ ItsF (fun g => w.heap.size ≤ g) 24 w (polT L xs) ys ∧ PolT xs L := by
  have hp := pol_t hM h.many
  exact ⟨RowF.of_row h.row, its_mem h.trees h.items h.numb (tyI_wf hp.ty), hp⟩
end Go.Proofs.YtfkdailfcmnjlaaGreatDoor
