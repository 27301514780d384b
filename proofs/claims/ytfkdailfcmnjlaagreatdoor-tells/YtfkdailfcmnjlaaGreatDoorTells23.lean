/-
  The program's Mean. A text that has the words of a policy is read as that policy; a text that was read is one of these; its plain form is read back.
-/
import Derived.Test.YtfkdailfcmnjlaaGreatDoorTells01
import Derived.Test.YtfkdailfcmnjlaaGreatDoorTells02
import Derived.Test.YtfkdailfcmnjlaaGreatDoorTells03
import Derived.Test.YtfkdailfcmnjlaaGreatDoorTells04
import Derived.Test.YtfkdailfcmnjlaaGreatDoorTells05
import Derived.Test.YtfkdailfcmnjlaaGreatDoorTells06
import Derived.Test.YtfkdailfcmnjlaaGreatDoorTells07
import Derived.Test.YtfkdailfcmnjlaaGreatDoorTells08
import Derived.Test.YtfkdailfcmnjlaaGreatDoorTells09
import Derived.Test.YtfkdailfcmnjlaaGreatDoorTells10
import Derived.Test.YtfkdailfcmnjlaaGreatDoorTells11
import Derived.Test.YtfkdailfcmnjlaaGreatDoorTells12
import Derived.Test.YtfkdailfcmnjlaaGreatDoorTells13
import Derived.Test.YtfkdailfcmnjlaaGreatDoorTells14
import Derived.Test.YtfkdailfcmnjlaaGreatDoorTells15
import Derived.Test.YtfkdailfcmnjlaaGreatDoorTells16
import Derived.Test.YtfkdailfcmnjlaaGreatDoorTells17
import Derived.Test.YtfkdailfcmnjlaaGreatDoorTells18
import Derived.Test.YtfkdailfcmnjlaaGreatDoorTells19
import Derived.Test.YtfkdailfcmnjlaaGreatDoorTells20
import Derived.Test.YtfkdailfcmnjlaaGreatDoorTells21
import Derived.Test.YtfkdailfcmnjlaaGreatDoorTells22
import Derived.Test.YtfkdailfcmnjlaaGreatDoorLays
import Derived.Test.YtfkdailfcmnjlaaGreatDoorLays2
import Derived.WalkKit
import Derived.Deep.QuietTactic
import Derived.BigQuiet
import Derived.WalkSpells
import GoSem.Op.String
import Derived.Deep.AppendLies
import Derived.Deep.RegionHeld3
import Derived.Deep.DrawnRows
import Derived.Deep.RegionHeldLaw
import Derived.Deep.RegionLaw
import Derived.Lib.ParseIntBCases
import Derived.Deep.OwnRows
import Derived.Lib.LaidTab
import Derived.Lib.AppendIntMem
import Derived.Shelf.Strings.Builder1
set_option linter.unusedVariables false
set_option linter.unusedSimpArgs false
namespace Go.Proofs.YtfkdailfcmnjlaaGreatDoor
open Go Go.RowKit
set_option maxRecDepth 100000
attribute [local go_sem ↓] Go.wp_at_zero Go.wp_at_succ

/-- The world as Mean begins. -/
def meanW (w : World) (ev st : Array Value) : World := ((w.alloc (.cells ev 46 (0, 0))).alloc (.cells st 50 (0, 0))).alloc (.cells #[.bool false, .int .i64 0, .int .i64 0] 40 (0, 0))
theorem meanW_facts (w : World) (ev st : Array Value) : Below w.heap.size w (meanW w ev st) ∧ (meanW w ev st).heap[w.heap.size]? = some (.cells ev 46 (0, 0)) ∧ (meanW w ev st).heap[w.heap.size + 1]? = some (.cells st 50 (0, 0)) ∧ (meanW w ev st).heap[w.heap.size + 1 + 1]? = some (.cells #[.bool false, .int .i64 0, .int .i64 0] 40 (0, 0)) := by
  refine ⟨(((Below.refl _ _).alloc (Nat.le_refl _) _).alloc (by simp) _).alloc (by simp; omega) _, ?_, ?_, ?_⟩
  · unfold meanW; rw [Below.heap_alloc _ _ _ (by simp; omega), Below.heap_alloc _ _ _ (by simp)]; exact heap_alloc_new w _
  · unfold meanW; rw [Below.heap_alloc _ _ _ (by simp)]
    have e := heap_alloc_new (w.alloc (.cells ev 46 (0, 0))) (.cells st 50 (0, 0)); rw [World.size_alloc] at e; exact e
  · have e := heap_alloc_new ((w.alloc (.cells ev 46 (0, 0))).alloc (.cells st 50 (0, 0))) (.cells #[.bool false, .int .i64 0, .int .i64 0] 40 (0, 0)); rw [World.size_alloc, World.size_alloc] at e; exact e
theorem PolAt.below {bs : Nat} {L : List Pt} {xs : List Itm} {base : Nat} {v : Value} {ys : List (Tok × Tok × Nat × Int)} {w w' : World} (h : PolAt bs L xs base v ys w) (hb : Below w.heap.size w w') : PolAt bs L xs base v ys w' :=
  ⟨ownsRow_below h.row hb, h.few, h.items.grow hb, h.trees, h.parts, h.tokw, h.names, h.types, h.numb, h.many⟩
set_option maxHeartbeats 4000000 in
theorem mean_prog {lv mv : Value} (l : List UInt8) (e : Ev) (s : Stt) (w : World) (hW : Wd w) (hm : l.length ≤ maxLen) (h1 : PairsAt lv s.levels w) (h2 : PairsAt mv s.members w) (hF : FieldsOK (fieldsL e s)) :
    Calls Tryz.prog 18 #[S l, evV e, sttV lv mv s] w fun en w' => en = .returned (.tuple #[verV (meanOf l (fieldsL e s)), .int .i64 (readOf l).1.1]) ∧ Below w.heap.size w w' := by
  have HR := fun W (h : Below w.heap.size w W) => pread_any l W (Wd.below hW h) hm
  have HK : Hid ((readOf l).1.1 = 0 → MeanOK (readOf l).2.1 (readOf l).2.2) := mean_known l
  have HX : Hid (meanOf l (fieldsL e s) = if (readOf l).1.1 = 0 then (meanL (readOf l).2.2 (fieldsL e s) (readOf l).2.1 (readOf l).2.2 [] 0).getD (false, 0) else (false, 0)) := rfl
  have HFD := fun W (hb : Below w.heap.size w W) => pfields_any e s W (h1.below hb) (h2.below hb)
  have HF : Hid (FieldsOK (fieldsL e s)) := hF
  have HVV : Hid (verV = fun r => .agg #[.bool r.1, .int .i64 r.2, .int .i64 0]) := rfl
  have hol : lv.oneCell' = true := by obtain ⟨_, a, c, rfl, _⟩ := h1; rfl
  have hom : mv.oneCell' = true := by obtain ⟨_, a, c, rfl, _⟩ := h2; rfl
  have hb := read_bound l
  clear h1 h2 hF hW
  generalize fieldsL e s = fl at *
  generalize meanOf l fl = r at *
  generalize (readOf l).1.1 = n at *
  generalize (readOf l).1.2 = k at *
  generalize (readOf l).2.1 = L at *
  generalize (readOf l).2.2 = xs at *
  unfold evV sttV at *
  obtain ⟨sn, tg, wa, nd, wh⟩ := e
  obtain ⟨ls, df, ms, op⟩ := s
  simp only [] at *
  have H0 : Hid _ := meanW_facts w #[S sn, S tg, .int .i64 wa, .int .i64 nd, .int .i64 wh] #[lv, .int .i64 df, mv, .bool op]
  unfold meanW at H0
  go_enter Tryz.func18, Tryz.ntmps18
  go_wp2_with fail
  obtain ⟨hB0, hE0, hS0, hV0⟩ := H0.out
  clear H0
  generalize (((w.alloc (.cells #[S sn, S tg, .int .i64 wa, .int .i64 nd, .int .i64 wh] 46 (0, 0))).alloc (.cells #[lv, .int .i64 df, mv, .bool op] 50 (0, 0))).alloc (.cells #[.bool false, .int .i64 0, .int .i64 0] 40 (0, 0))) = wz at *
  refine (HR _ hB0).mono ?_
  rintro en w1 ⟨hf, v, rfl, hv⟩
  clear HR
  have hB1 : Below w.heap.size w w1 := hB0.trans (hf.mono hB0.size)
  have hE1 := (hf.block _ (lt_of_get hE0)).trans hE0
  have hS1 := (hf.block _ (lt_of_get hS0)).trans hS0
  have hV1 := (hf.block _ (lt_of_get hV0)).trans hV0
  have hwz : w.heap.size ≤ wz.heap.size := hB0.size
  clear hB0 hE0 hS0 hV0
  by_cases h0 : n = 0
  · obtain ⟨bs, ys, hbs, hP⟩ := hv h0
    have hk := HK.out h0
    have HX2 : Hid (r = (meanL xs fl L xs [] 0).getD (false, 0)) := by show _ = _; rw [HX.out, if_pos h0]
    subst h0
    have W1 := HFD w1 hB1
    have W2 : ∀ W, Below w1.heap.size w1 W → Calls Tryz.prog 39 #[v, flV fl] W fun e w' => e = .returned (verV ((meanL xs fl L xs [] 0).getD (false, 0))) ∧ Below W.heap.size W w' := fun W hW => pmean_any (hP.below hW) hk HF.out
    rw [← HX2.out, HVV.out] at W2
    have hvo : v.oneCell' = true := by obtain ⟨a, c, rfl, _⟩ := row_cells hP.row; rfl
    clear hv hP hk HK HX hf HFD
    have e0 := cell_of_row w1 w.heap.size 0 _ _ _ hE1
    have e1 := cell_of_row w1 w.heap.size 1 _ _ _ hE1
    have e2 := cell_of_row w1 w.heap.size 2 _ _ _ hE1
    have e3 := cell_of_row w1 w.heap.size 3 _ _ _ hE1
    have e4 := cell_of_row w1 w.heap.size 4 _ _ _ hE1
    have s0 := cell_of_row w1 (w.heap.size + 1) 0 _ _ _ hS1
    have s1 := cell_of_row w1 (w.heap.size + 1) 1 _ _ _ hS1
    have s2 := cell_of_row w1 (w.heap.size + 1) 2 _ _ _ hS1
    have s3 := cell_of_row w1 (w.heap.size + 1) 3 _ _ _ hS1
    simp only [List.getElem?_toArray, List.getElem?_cons_zero, List.getElem?_cons_succ] at e0 e1 e2 e3 e4 s0 s1 s2 s3
    have HV1 : Hid _ := hV1
    have HB1 : Hid _ := hB1
    clear hE1 hS1 hV1 hB1
    go_wp2_with fail
    refine W1.mono ?_
    rintro en w2 ⟨rfl, hb2⟩
    clear W1 e0 e1 e2 e3 e4 s0 s1 s2 s3
    have W3 := W2 w2 hb2
    clear W2
    generalize flV fl = fv at *
    go_wp2_with fail
    refine W3.mono ?_
    rintro en w3 ⟨rfl, hb3⟩
    clear W3
    have hB3 := HB1.out.trans ((hb2.trans (hb3.mono hb2.size)).mono HB1.out.size)
    have hV3 := ((hb2.trans (hb3.mono hb2.size)).block _ (lt_of_get HV1.out)).trans HV1.out
    obtain ⟨⟨v0, v1, v2⟩, vf⟩ := ver_cells hV3
    have HB3 : Hid _ := hB3
    clear hB3 hV3 hb2 hb3 HV1 HB1
    obtain ⟨ra, rn⟩ := r
    simp only [] at *
    go_wp2_with fail
    refine bodyPost_ret (v := .tuple #[.agg #[.bool ra, .int .i64 rn, .int .i64 0], .int .i64 0]) (by simp [results, Tryz.results18, go_sem, v0, v1, v2, vf]) rfl ?_
    exact ⟨rfl, ((HB3.out.setCell (by simp; omega) _).setCell (by simp; omega) _).setCell (by simp; omega) _⟩
  · have x1 : ((n : Int) == 0) = false := by
      have : ¬ (n : Int) = 0 := by omega
      simpa using this
    have x2 : ((n : Int) != 0) = true := by
      have : ¬ (n : Int) = 0 := by omega
      simpa using this
    have HX2 : Hid (r = (false, 0)) := by show _ = _; rw [HX.out, if_neg h0]
    obtain ⟨⟨v0, v1, v2⟩, vf⟩ := ver_cells hV1
    have HB1 : Hid _ := hB1
    clear hv HK HX hf HFD h0 hE1 hS1 hV1 hB1
    go_wp2_with fail
    refine bodyPost_ret (v := .tuple #[.agg #[.bool false, .int .i64 0, .int .i64 0], .int .i64 n]) (by simp [results, Tryz.results18, go_sem, v0, v1, v2, vf]) rfl ?_
    exact ⟨by rw [HX2.out]; rfl, ((HB1.out.setCell (by simp; omega) _).setCell (by simp; omega) _).setCell (by simp; omega) _⟩
end Go.Proofs.YtfkdailfcmnjlaaGreatDoor

namespace Go.Proofs.YtfkdailfcmnjlaaGreatDoor
open Go Go.RowKit
set_option maxRecDepth 100000

/-- What is known of a text that has a policy's words. -/
theorem read_pol {d : Nat} {l : List UInt8} {pol : List (SyI × List (Nat × List UInt8))} (hl : l.length ≤ 1000) (hx : LX l (polW pol)) (hp : ∀ p ∈ pol, RdS d 6 p.2 p.1.sy ∧ (p.1.name ≠ [] → p.1.allow = false)) :
    TreesAt (readOf l).2.1 (readOf l).2.2 0 ∧ PolIs d (readOf l).2.1 (readOf l).2.2 (pol.map Prod.fst) 0 ∧ (OkS d (pol.map Prod.fst) → (readOf l).1 = (0, 0)) := by
  obtain ⟨ts, h1, h2⟩ := lex_lx l (l.length + 1) 0 _ (hx _ (by simp))
  unfold readOf
  rw [if_neg (by omega), h1]
  simp only []
  obtain ⟨r1, r2, r3, r4, r5⟩ := lex_ok l (by omega) (l.length + 1) 0 _ (Nat.zero_le _) (by omega) h1
  obtain ⟨hwo, hwl⟩ := lex_words l (l.length + 1) 0 _ (Nat.zero_le _) (by omega) h1
  obtain ⟨R, hR⟩ := parse_total (F := 16 * ts.length + 8) (Nat.le_refl _) r4 (ts.length + 1) 0 [] [] (by omega)
  have e : allOf ts = R := by unfold allOf; rw [hR]; rfl
  rw [e]
  obtain ⟨m1, m2⟩ := mt_map h2
  obtain ⟨ok, new, xs', q1, q2, q3⟩ := parse_got pol _ 0 [] [] R hp m1 m2 hR
  obtain ⟨k1, k2, k3⟩ := all_known hwo (by omega) hR ok
  rw [List.nil_append] at q2
  subst q2
  exact ⟨k1, q3, fun h => (verdict_same ok k2 k1 q3).1.2 h⟩

/-- What a policy that was meant gives when its text is read. -/
theorem text_pol {d : Nat} {l : List UInt8} {pol : List (SyI × List (Nat × List UInt8))} (hl : l.length ≤ 1000) (hx : LX l (polW pol)) (hp : ∀ p ∈ pol, RdS d 6 p.2 p.1.sy ∧ (p.1.name ≠ [] → p.1.allow = false)) (ok : OkS d (pol.map Prod.fst)) : (readOf l).1 = (0, 0) ∧ textOf l = printS d (pol.map Prod.fst) := by
  obtain ⟨h1, h2, h3⟩ := read_pol hl hx hp
  have h4 := h3 ok
  refine ⟨h4, ?_⟩
  unfold textOf
  rw [if_pos (by rw [h4]), print_same h1 h2]
/-- The words of a plain form are those of the policy. -/
theorem printed_rd {d : Nat} {pol : List SyI} (h : ∀ s ∈ pol, ShS d s.sy ∧ NameOK s) : ∀ p ∈ pol.map (fun s => (s, wordsF d s.sy)), RdS d 6 p.2 p.1.sy ∧ (p.1.name ≠ [] → p.1.allow = false) := by
  intro p hp
  obtain ⟨s, hs, rfl⟩ := List.mem_map.1 hp
  obtain ⟨h1, h2⟩ := h s hs
  obtain ⟨r1, r2⟩ := plain_rd d h1
  refine ⟨r1.out r2 (Nat.le_refl 6), fun hn => ?_⟩
  rcases h2 with h | ⟨_, _, _, h⟩
  · exact absurd h hn
  · exact h
theorem fst_map {pol : List SyI} (W : Sy → List (Nat × List UInt8)) : (pol.map fun s => (s, W s.sy)).map Prod.fst = pol := by
  rw [List.map_map]; exact List.map_id pol
end Go.Proofs.YtfkdailfcmnjlaaGreatDoor
