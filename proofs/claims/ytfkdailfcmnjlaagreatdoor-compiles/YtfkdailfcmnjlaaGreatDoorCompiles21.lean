/-
  The program's reader: 'not'. The program's reader: steps of 'if'. The program's reader: 'if'. The program's reader: every form reads as the plain reader does. The program's reader: every form reads as the plain reader does. The program's reader: states that may have failed; 'want' and a condition from such a state. The program's reader: an item.
-/
import Derived.Test.YtfkdailfcmnjlaaGreatDoorCompiles01
import Derived.Test.YtfkdailfcmnjlaaGreatDoorCompiles02
import Derived.Test.YtfkdailfcmnjlaaGreatDoorCompiles04
import Derived.Test.YtfkdailfcmnjlaaGreatDoorCompiles05
import Derived.Test.YtfkdailfcmnjlaaGreatDoorCompiles06
import Derived.Test.YtfkdailfcmnjlaaGreatDoorCompiles07
import Derived.Test.YtfkdailfcmnjlaaGreatDoorCompiles08
import Derived.Test.YtfkdailfcmnjlaaGreatDoorCompiles16
import Derived.Test.YtfkdailfcmnjlaaGreatDoorCompiles17
import Derived.Test.YtfkdailfcmnjlaaGreatDoorCompiles18
import Derived.Test.YtfkdailfcmnjlaaGreatDoorCompiles19
import Derived.Test.YtfkdailfcmnjlaaGreatDoorCompiles20
import Derived.Test.YtfkdailfcmnjlaaGreatDoorLays
import Derived.Deep.RegionHeld3
import Derived.WalkKit
import Derived.Deep.QuietTactic
import Derived.BigQuiet
import Derived.WalkSpells
import GoSem.Op.String
import Derived.Deep.AppendLies
import Derived.Deep.DrawnRows
import Derived.Deep.RegionHeldLaw
import Derived.Deep.RegionLaw
import Derived.Lib.ParseIntBCases
set_option linter.unusedVariables false
set_option linter.unusedSimpArgs false
namespace Go.Proofs.YtfkdailfcmnjlaaGreatDoor
open Go Go.RowKit
set_option maxRecDepth 100000
attribute [local go_sem ↓] Go.wp_at_zero Go.wp_at_succ

set_option maxHeartbeats 2000000 in
theorem negation_over {rb gl cl : Nat} {ts : List Tok} {s : Q} {w : World} (h : RR rb gl cl ts s w) (hk : kindOf (tokAt ts s.i) = 19) (R : Nat → World → Prop)
    (HC : ∀ w1, RR rb gl cl ts { s with i := s.i + 1 } w1 → PF rb w w1 → Calls Tryz.prog 267 #[.pointer (some ⟨rb, 0, none⟩)] w1 fun e w' => ∃ b, e = .returned (.pointer (some ⟨b, 0, none⟩)) ∧ PF rb w1 w' ∧ R b w') :
    Calls Tryz.prog 278 #[.pointer (some ⟨rb, 0, none⟩)] w fun e w' => ∃ b w3, e = .returned (.pointer (some ⟨w3.heap.size + 1, 0, none⟩)) ∧ R b w3 ∧ PF rb w w3 ∧ w' = overW w3 (tokAt ts s.i) [b] := by
  have HJ : Hid (∀ w3 b, overW w3 (tokAt ts s.i) [b] = (w3.alloc (.cells #[.pointer (some ⟨b, 0, none⟩)] 161 (0, 0))).alloc (.cells #[.int .i64 (kindOf (tokAt ts s.i)), .int .i64 (tokAt ts s.i).pl, .int .i64 (nmOf (tokAt ts s.i)), S (ownOf (tokAt ts s.i)), .slice (some ⟨w3.heap.size, 0, none⟩) 1 1, .int .i64 0] 229 (0, 0))) := fun _ _ => rfl
  have HT := want_new h [19] (by decide) (by decide)
  have hct : [19].contains (kindOf (tokAt ts s.i)) = true := by rw [one_contains, hk]; rfl
  rw [wantQ_yes hct] at HT
  unfold wantV at HT
  rw [if_pos hct] at HT
  unfold wordV at HT
  clear hct hk
  go_enter Tryz.func278, Tryz.ntmps278
  go_wp2_with fail
  refine HT.mono ?_
  rintro e w1 ⟨rfl, h1, F1⟩
  clear HT
  generalize kindOf (tokAt ts s.i) = tk at *
  generalize (tokAt ts s.i).pl = tp at *
  generalize nmOf (tokAt ts s.i) = tm at *
  generalize ownOf (tokAt ts s.i) = tt at *
  have hlt1 := h1.rlt
  have h2 := (h1.alloc (wvObj tk tp tm tt)).drew
  have F2 := ((F1.alloc (wvObj tk tp tm tt)).drew)
  have hx2 : (w1.alloc (wvObj tk tp tm tt)).drew.heap[w1.heap.size]? = some (wvObj tk tp tm tt) := heap_alloc_new w1 _
  have HCD := HC _ h2 F2
  have e1 : w1.heap.size ≠ rb := by omega
  have hl2 : w1.heap.size < (w1.alloc (wvObj tk tp tm tt)).drew.heap.size := lt_of_get hx2
  have keepF : ∀ w', PF rb (w1.alloc (wvObj tk tp tm tt)).drew w' → (w'.cell? ⟨w1.heap.size, 0, none⟩ = some (.int .i64 tk) ∧ w'.cell? ⟨w1.heap.size, 1, none⟩ = some (.int .i64 tp) ∧ w'.cell? ⟨w1.heap.size, 2, none⟩ = some (.int .i64 tm) ∧ w'.cell? ⟨w1.heap.size, 3, none⟩ = some (S tt)) := fun w' hf =>
    (wv_cells (by rw [hf.block _ hl2 e1]; exact hx2)).1
  have KF : Hid _ := keepF
  have H2 : Hid _ := h2
  have HF2 : Hid _ := F2
  have hS := keepF _ (PF.refl _ _)
  clear HC h1 F1 h2 F2 hx2 keepF h
  unfold wvObj at HCD KF H2 HF2 hS hl2
  go_wp2_with fail
  obtain ⟨x0, x1, x2, x3⟩ := hS
  show Code.wp _ _ _ _ (w1.alloc (.cells #[.int .i64 tk, .int .i64 tp, .int .i64 tm, S tt] 160 (0, 0)))
  generalize hg : w1.alloc (.cells #[.int .i64 tk, .int .i64 tp, .int .i64 tm, S tt] 160 (0, 0)) = w2 at *
  generalize w1.heap.size = bx at *
  clear hg hlt1
  go_region_held3 (fun w' => w'.cell? ⟨bx, 0, none⟩ = some (.int .i64 tk) ∧ w'.cell? ⟨bx, 1, none⟩ = some (.int .i64 tp) ∧ w'.cell? ⟨bx, 2, none⟩ = some (.int .i64 tm) ∧ w'.cell? ⟨bx, 3, none⟩ = some (S tt)) (first | exact KF.out _ hF3 | go_keep) ((refine HCD.mono ?_; rintro e w3 ⟨b, rfl, hF3, hR⟩))
  rename_i hHeld
  clear hHeld
  go_wp2_with fail
  go_ret
  exact ⟨b, w3, rfl, hR, HF2.out.trans hF3, (HJ.out w3 b).symm⟩
end Go.Proofs.YtfkdailfcmnjlaaGreatDoor

namespace Go.Proofs.YtfkdailfcmnjlaaGreatDoor
open Go Go.RowKit
set_option maxRecDepth 100000

/-- What reading leaves, without the answer itself. -/
def LeftS (rb gl cl : Nat) (ts : List Tok) (s : Q) (r : Rd) (b : Nat) (w' : World) : Prop := (r.ok = true ∧ RR rb gl cl ts { s with i := r.i } w' ∧ CondAt r.L rb w' r.top b) ∨ (r.ok = false ∧ RR rb gl cl ts (failQ ts { s with i := r.i }) w')
/-- The state in which the next condition is asked. -/
def Nxt (ts : List Tok) (s : Q) (f : Nat) (c a : Rd) (s2 : Q) : Prop := (s2 = { s with i := a.i + 1 } ∧ a.ok = true ∧ P f 6 ts (a.i + 1) a.L 0 = some c) ∨ (c.ok = false ∧ s2 = failQ ts { s with i := c.i })

theorem left_want {rb gl cl : Nat} {ts : List Tok} {s : Q} {a c : Rd} {b f : Nat} {w : World} {x : List UInt8} (h : LeftS rb gl cl ts s a b w) (hW : ∀ t ∈ ts, TokW t) (hN : Nx f ts a c x) (hx : x ∈ spell.drop 3) :
    ∃ s1, RR rb gl cl ts s1 w ∧ Nxt ts s f c a (wantQ ts s1 [kn x]) := by
  unfold Nx at hN
  rcases h with ⟨ok, h1, hc⟩ | ⟨ok, h1⟩
  · refine ⟨_, h1, ?_⟩
    have ht := hW _ (tokAt_mem h1.lt)
    have hiw := isW_iff ht hx
    simp only [] at hiw
    by_cases hw : isW (tokAt ts a.i) x = true
    · rw [if_pos ⟨ok, hw⟩] at hN
      exact .inl ⟨wantQ_yes (by rw [one_contains]; simpa using hiw.1 hw), ok, hN⟩
    · rw [if_neg (fun e => hw e.2)] at hN
      exact .inr ⟨hN.1, by rw [hN.2]; exact wantQ_no (by rw [one_contains]; simpa using fun e => hw (hiw.2 e))⟩
  · rw [if_neg (fun e => by rw [ok] at e; simp at e)] at hN
    refine ⟨_, h1, .inr ⟨hN.1, ?_⟩⟩
    have := spell_big x hx
    have hkn : ¬ (0 = kn x) := by unfold kn; omega
    rw [wantQ_no (by rw [one_contains, end_kind h1 rfl]; simpa using hkn), failQ_twice, hN.2]
theorem next_cond {f rb gl cl : Nat} {ts : List Tok} {s s2 : Q} {a c : Rd} {w : World} (hf : FormOK f 152 6 rb gl cl ts) (hgood : s.bad = false) (h : RR rb gl cl ts s2 w) (hn : Nxt ts s f c a s2) :
    Calls Tryz.prog 152 #[.pointer (some ⟨rb, 0, none⟩)] w fun e w' => ∃ b, e = .returned (.pointer (some ⟨b, 0, none⟩)) ∧ PF rb w w' ∧ LeftS rb gl cl ts s c b w' := by
  rcases hn with ⟨rfl, _, hp⟩ | ⟨ok, rfl⟩
  · exact hf f (Nat.le_refl _) { s with i := a.i + 1 } w a.L c h hgood hp
  · refine (condition_end _ w h rfl rfl).mono ?_
    rintro e w' ⟨b, h1, h2, h3⟩
    exact ⟨b, h1, h2, .inr ⟨ok, h3⟩⟩
end Go.Proofs.YtfkdailfcmnjlaaGreatDoor

namespace Go.Proofs.YtfkdailfcmnjlaaGreatDoor
open Go Go.RowKit
set_option maxRecDepth 100000
attribute [local go_sem ↓] Go.wp_at_zero Go.wp_at_succ

set_option maxHeartbeats 4000000 in
theorem whether_any {f rb gl cl : Nat} {ts : List Tok} {s : Q} {w : World} (hf : FormOK f 152 6 rb gl cl ts) (h : RR rb gl cl ts s w) (hW : ∀ t ∈ ts, TokW t) (hgood : s.bad = false) (hk : kindOf (tokAt ts s.i) = 14) {L : List Pt} {a b c r : Rd} (hPa : P f 6 ts (s.i + 1) L 0 = some a)
    (hNb : Nx f ts a b wThen) (hNc : Nx f ts b c wElse) (hrc : r.ok = c.ok) (hri : r.i = c.i) (hrp : c.ok = true → a.ok = true ∧ b.ok = true ∧ r = put c (tokAt ts s.i) [a.top, b.top, c.top]) :
    Calls Tryz.prog 214 #[.pointer (some ⟨rb, 0, none⟩)] w (LeftC rb gl cl ts s w r) := by
  have HJ : Hid (∀ w3 b1 b2 b3, overW w3 (tokAt ts s.i) [b1, b2, b3] = (w3.alloc (.cells #[.pointer (some ⟨b1, 0, none⟩), .pointer (some ⟨b2, 0, none⟩), .pointer (some ⟨b3, 0, none⟩)] 161 (0, 0))).alloc (.cells #[.int .i64 (kindOf (tokAt ts s.i)), .int .i64 (tokAt ts s.i).pl, .int .i64 (nmOf (tokAt ts s.i)), S (ownOf (tokAt ts s.i)), .slice (some ⟨w3.heap.size, 0, none⟩) 3 3, .int .i64 0] 229 (0, 0))) := fun _ _ _ _ => rfl
  have HT := want_new h [14] (by decide) (by decide)
  have hct : [14].contains (kindOf (tokAt ts s.i)) = true := by rw [one_contains, hk]; rfl
  rw [wantQ_yes hct] at HT
  unfold wantV at HT
  rw [if_pos hct] at HT
  unfold wordV at HT
  have HG : Hid _ := hgood
  have HPa : Hid _ := hPa
  have HNb : Hid _ := hNb
  have HNc : Hid _ := hNc
  have HRc : Hid _ := hrc
  have HRi : Hid _ := hri
  have HRp : Hid _ := hrp
  have HW : Hid _ := hW
  clear hct hk h hgood hPa hNb hNc hrc hri hrp hW
  generalize htk : tokAt ts s.i = t0 at HJ HT HRp
  clear htk
  generalize hk1 : kindOf t0 = tk at *
  generalize hk2 : t0.pl = tp at *
  generalize hk3 : nmOf t0 = tm at *
  generalize hk4 : ownOf t0 = tt at *
  clear hk1 hk2 hk3 hk4
  go_enter Tryz.func214, Tryz.ntmps214
  go_wp2_with fail
  refine HT.mono ?_
  rintro e w1 ⟨rfl, h1, F1⟩
  clear HT
  have hlt1 := h1.rlt
  have h2 := h1.alloc (wvObj tk tp tm tt)
  have F2 := F1.alloc (wvObj tk tp tm tt)
  have hx2 : (w1.alloc (wvObj tk tp tm tt)).heap[w1.heap.size]? = some (wvObj tk tp tm tt) := heap_alloc_new w1 _
  have e1 : w1.heap.size ≠ rb := by omega
  unfold wvObj at h2 F2 hx2
  clear h1 F1
  go_wp2_with fail
  show Calls _ _ _ (w1.alloc (.cells #[.int .i64 tk, .int .i64 tp, .int .i64 tm, S tt] 160 (0, 0))) _
  have hl2 : w1.heap.size < (w1.alloc (.cells #[.int .i64 tk, .int .i64 tp, .int .i64 tm, S tt] 160 (0, 0))).heap.size := lt_of_get hx2
  generalize w1.alloc (.cells #[.int .i64 tk, .int .i64 tp, .int .i64 tm, S tt] 160 (0, 0)) = w2 at *
  generalize w1.heap.size = bx at *
  refine (hf f (Nat.le_refl _) { s with i := s.i + 1 } w2 L a h2 HG.out HPa.out).mono ?_
  rintro e w3 ⟨ba, rfl, F3, hLa⟩
  have hLa : LeftS rb gl cl ts s a ba w3 := hLa
  obtain ⟨s3, h3, hN3⟩ := left_want hLa HW.out HNb.out (by decide)
  rw [show kn wThen = 15 from by decide] at hN3
  have HW3 := want_new h3 [15] (by decide) (by decide)
  have HLa : Hid _ := hLa
  have HN3 : Hid _ := hN3
  clear hLa hN3 h3 h2
  generalize wantV ts s3 [15] = wv3 at *
  go_wp2_with fail
  refine HW3.mono ?_
  rintro e w4 ⟨rfl, h4, F4⟩
  clear HW3
  go_wp2_with fail
  refine (next_cond hf HG.out h4 HN3.out).mono ?_
  rintro e w5 ⟨bb, rfl, F5, hLb⟩
  obtain ⟨s5, h5, hN5⟩ := left_want hLb HW.out HNc.out (by decide)
  rw [show kn wElse = 16 from by decide] at hN5
  have HW5 := want_new h5 [16] (by decide) (by decide)
  have HLb : Hid _ := hLb
  have HN5 : Hid _ := hN5
  have F35 : PF rb w3 w5 := F4.trans F5
  clear hLb hN5 h5 h4 F4 F5
  generalize wantV ts s5 [16] = wv5 at *
  go_wp2_with fail
  refine HW5.mono ?_
  rintro e w6 ⟨rfl, h6, F6⟩
  clear HW5
  have HCD := next_cond hf HG.out h6.drew HN5.out
  have F26 : PF rb w2 w6.drew := ((F3.trans F35).trans F6).drew
  have F56 : PF rb w5 w6.drew := F6.drew
  have F36 : PF rb w3 w6.drew := (F35.trans F6).drew
  have hx6 : w6.drew.heap[bx]? = some (.cells #[.int .i64 tk, .int .i64 tp, .int .i64 tm, S tt] 160 (0, 0)) := by rw [F26.block _ hl2 e1]; exact hx2
  have hl6 := lt_of_get hx6
  have keepF : ∀ w', PF rb w6.drew w' → (w'.cell? ⟨bx, 0, none⟩ = some (.int .i64 tk) ∧ w'.cell? ⟨bx, 1, none⟩ = some (.int .i64 tp) ∧ w'.cell? ⟨bx, 2, none⟩ = some (.int .i64 tm) ∧ w'.cell? ⟨bx, 3, none⟩ = some (S tt)) := fun w' hf =>
    (wv_cells (by rw [hf.block _ hl6 e1]; exact hx6)).1
  have KF : Hid _ := keepF
  have hS := keepF _ (PF.refl _ _)
  obtain ⟨x0, x1, x2, x3⟩ := hS
  have HF26 : Hid _ := F2.trans F26
  have HF36 : Hid _ := F36
  have HF56 : Hid _ := F56
  clear keepF F26 F56 F36 F2 F3 F35 F6 h6 hx6 hx2 hl2
  go_wp2_with fail
  go_region_held3 (fun w' => w'.cell? ⟨bx, 0, none⟩ = some (.int .i64 tk) ∧ w'.cell? ⟨bx, 1, none⟩ = some (.int .i64 tp) ∧ w'.cell? ⟨bx, 2, none⟩ = some (.int .i64 tm) ∧ w'.cell? ⟨bx, 3, none⟩ = some (S tt)) (first | exact KF.out _ hF7 | go_keep) ((refine HCD.mono ?_; rintro e w7 ⟨bc, rfl, hF7, hLc⟩))
  rename_i hHeld
  clear hHeld x0 x1 x2 x3 HCD
  have HLc : Hid _ := hLc
  clear hLc
  go_wp2_with fail
  go_ret
  have hE := HJ.out w7 ba bb bc
  have hB := over_below w7 t0 [ba, bb, bc]
  have hF7' : PF rb w (overW w7 t0 [ba, bb, bc]) := (HF26.out.trans hF7).trans (PF.of_below hB)
  rw [hE] at hB hF7'
  refine ⟨w7.heap.size + 1, rfl, hF7', ?_⟩
  have hmoreN : ∀ {p q : Rd} {x : List UInt8}, Nx f ts p q x → q.ok = true → ∃ new, q.L = p.L ++ new := fun {p q x} hN ok => by
    unfold Nx at hN
    by_cases hc : p.ok = true ∧ isW (tokAt ts p.i) x = true
    · rw [if_pos hc] at hN; exact P_more hN ok (by omega)
    · rw [if_neg hc] at hN; rw [hN.1] at ok; simp at ok
  rcases HLc.out with ⟨ok, h7, hcc⟩ | ⟨ok, h7⟩
  · obtain ⟨oka, okb, rfl⟩ := HRp.out ok
    refine .inl ⟨rfl, h7.below hB, ?_⟩
    rw [← hE]
    rcases HLa.out with ⟨_, ha, hca⟩ | ⟨no, _⟩
    · rcases HLb.out with ⟨_, hb, hcb⟩ | ⟨no, _⟩
      · refine over_at h7.rlt rfl (by simp) fun j hj => ?_
        match j, hj with
        | 0, _ => exact more_at (more_at (hca.pf ha (HF36.out.trans hF7)) (hmoreN HNb.out okb)) (hmoreN HNc.out ok)
        | 1, _ => exact more_at (hcb.pf hb (HF56.out.trans hF7)) (hmoreN HNc.out ok)
        | 2, _ => exact hcc
      · rw [okb] at no; simp at no
    · rw [oka] at no; simp at no
  · exact .inr ⟨by rw [HRc.out]; exact ok, by rw [HRi.out]; exact h7.below hB⟩
end Go.Proofs.YtfkdailfcmnjlaaGreatDoor

namespace Go.Proofs.YtfkdailfcmnjlaaGreatDoor
open Go Go.RowKit
set_option maxRecDepth 100000
attribute [local go_sem ↓] Go.wp_at_zero Go.wp_at_succ

set_option maxHeartbeats 1000000 in
theorem sum_step {f rb gl cl : Nat} {ts : List Tok} {s : Q} {w : World} (hf : FormOK f 284 5 rb gl cl ts) (hW : ∀ t ∈ ts, TokW t) (h : RR rb gl cl ts s w) (hgood : s.bad = false) {L : List Pt} {r : Rd} (hP : P (f + 1) 4 ts s.i L 0 = some r) :
    Calls Tryz.prog 283 #[.pointer (some ⟨rb, 0, none⟩)] w (LeftC rb gl cl ts s w r) := by
  have hnew : (w.alloc (ksObj [6, 7])).heap[w.heap.size]? = some (ksObj [6, 7]) := heap_alloc_new w _
  have HF := chain_any (h.alloc (ksObj [6, 7])) hW hgood 4 284 (by omega) hf ent_one w.heap.size hnew L r hP
  unfold mv at HF
  have HA : Hid (PF rb w (w.alloc (ksObj [6, 7]))) := (PF.refl rb w).alloc _
  clear h hgood hnew hP hf hW
  go_enter Tryz.func283, Tryz.ntmps283
  go_wp2_with fail
  refine HF.mono ?_
  rintro e w' ⟨b, rfl, h1, h2⟩
  clear HF
  go_wp2_with fail
  go_ret
  exact ⟨b, rfl, HA.out.trans h1, h2⟩

set_option maxHeartbeats 1000000 in
theorem compared_step {f rb gl cl : Nat} {ts : List Tok} {s : Q} {w : World} (hf : FormOK f 283 4 rb gl cl ts) (hW : ∀ t ∈ ts, TokW t) (h : RR rb gl cl ts s w) (hgood : s.bad = false) {L : List Pt} {r : Rd} (hP : P (f + 1) 3 ts s.i L 0 = some r) :
    Calls Tryz.prog 279 #[.pointer (some ⟨rb, 0, none⟩)] w (LeftC rb gl cl ts s w r) := by
  have hnew : (w.alloc (ksObj [8, 10, 9])).heap[w.heap.size]? = some (ksObj [8, 10, 9]) := heap_alloc_new w _
  have HF := pair_any (h.alloc (ksObj [8, 10, 9])) hW hgood 283 hf ent_sum w.heap.size hnew L r hP
  unfold mv at HF
  have HA : Hid (PF rb w (w.alloc (ksObj [8, 10, 9]))) := (PF.refl rb w).alloc _
  clear h hgood hnew hP hf hW
  go_enter Tryz.func279, Tryz.ntmps279
  go_wp2_with fail
  refine HF.mono ?_
  rintro e w' ⟨b, rfl, h1, h2⟩
  clear HF
  go_wp2_with fail
  go_ret
  exact ⟨b, rfl, HA.out.trans h1, h2⟩

set_option maxHeartbeats 1000000 in
theorem both_step {f rb gl cl : Nat} {ts : List Tok} {s : Q} {w : World} (hf : FormOK f 267 2 rb gl cl ts) (hW : ∀ t ∈ ts, TokW t) (h : RR rb gl cl ts s w) (hgood : s.bad = false) {L : List Pt} {r : Rd} (hP : P (f + 1) 1 ts s.i L 0 = some r) :
    Calls Tryz.prog 247 #[.pointer (some ⟨rb, 0, none⟩)] w (LeftC rb gl cl ts s w r) := by
  have hnew : (w.alloc (ksObj [18])).heap[w.heap.size]? = some (ksObj [18]) := heap_alloc_new w _
  have HF := chain_any (h.alloc (ksObj [18])) hW hgood 1 267 (by omega) hf ent_part w.heap.size hnew L r hP
  unfold mv at HF
  have HA : Hid (PF rb w (w.alloc (ksObj [18]))) := (PF.refl rb w).alloc _
  clear h hgood hnew hP hf hW
  go_enter Tryz.func247, Tryz.ntmps247
  go_wp2_with fail
  refine HF.mono ?_
  rintro e w' ⟨b, rfl, h1, h2⟩
  clear HF
  go_wp2_with fail
  go_ret
  exact ⟨b, rfl, HA.out.trans h1, h2⟩

set_option maxHeartbeats 1000000 in
theorem choice_step {f rb gl cl : Nat} {ts : List Tok} {s : Q} {w : World} (hf : FormOK f 247 1 rb gl cl ts) (hW : ∀ t ∈ ts, TokW t) (h : RR rb gl cl ts s w) (hgood : s.bad = false) {L : List Pt} {r : Rd} (hP : P (f + 1) 0 ts s.i L 0 = some r) :
    Calls Tryz.prog 215 #[.pointer (some ⟨rb, 0, none⟩)] w (LeftC rb gl cl ts s w r) := by
  have hnew : (w.alloc (ksObj [17])).heap[w.heap.size]? = some (ksObj [17]) := heap_alloc_new w _
  have HF := chain_any (h.alloc (ksObj [17])) hW hgood 0 247 (by omega) hf ent_both w.heap.size hnew L r hP
  unfold mv at HF
  have HA : Hid (PF rb w (w.alloc (ksObj [17]))) := (PF.refl rb w).alloc _
  clear h hgood hnew hP hf hW
  go_enter Tryz.func215, Tryz.ntmps215
  go_wp2_with fail
  refine HF.mono ?_
  rintro e w' ⟨b, rfl, h1, h2⟩
  clear HF
  go_wp2_with fail
  go_ret
  exact ⟨b, rfl, HA.out.trans h1, h2⟩

set_option maxHeartbeats 1000000 in
theorem one_fork {rb : Nat} {w : World} {R : Nat → World → Prop} (HF : Calls Tryz.prog 213 #[.pointer (some ⟨rb, 0, none⟩), .int .i64 3, mv 285 rb, mv 286 rb] w fun e w' => ∃ b, e = .returned (.pointer (some ⟨b, 0, none⟩)) ∧ R b w') :
    Calls Tryz.prog 284 #[.pointer (some ⟨rb, 0, none⟩)] w fun e w' => ∃ b, e = .returned (.pointer (some ⟨b, 0, none⟩)) ∧ R b w' := by
  unfold mv at HF
  go_enter Tryz.func284, Tryz.ntmps284
  go_wp2_with fail
  refine HF.mono ?_
  rintro e w' ⟨b, rfl, h1⟩
  clear HF
  go_wp2_with fail
  go_ret
  exact ⟨b, rfl, h1⟩

set_option maxHeartbeats 1000000 in
theorem part_fork {rb : Nat} {w : World} {R : Nat → World → Prop} (HF : Calls Tryz.prog 213 #[.pointer (some ⟨rb, 0, none⟩), .int .i64 19, mv 278 rb, mv 279 rb] w fun e w' => ∃ b, e = .returned (.pointer (some ⟨b, 0, none⟩)) ∧ R b w') :
    Calls Tryz.prog 267 #[.pointer (some ⟨rb, 0, none⟩)] w fun e w' => ∃ b, e = .returned (.pointer (some ⟨b, 0, none⟩)) ∧ R b w' := by
  unfold mv at HF
  go_enter Tryz.func267, Tryz.ntmps267
  go_wp2_with fail
  refine HF.mono ?_
  rintro e w' ⟨b, rfl, h1⟩
  clear HF
  go_wp2_with fail
  go_ret
  exact ⟨b, rfl, h1⟩

set_option maxHeartbeats 1000000 in
theorem condition_fork {rb : Nat} {w : World} {R : Nat → World → Prop} (HF : Calls Tryz.prog 213 #[.pointer (some ⟨rb, 0, none⟩), .int .i64 14, mv 214 rb, mv 215 rb] w fun e w' => ∃ b, e = .returned (.pointer (some ⟨b, 0, none⟩)) ∧ R b w') :
    Calls Tryz.prog 152 #[.pointer (some ⟨rb, 0, none⟩)] w fun e w' => ∃ b, e = .returned (.pointer (some ⟨b, 0, none⟩)) ∧ R b w' := by
  unfold mv at HF
  go_enter Tryz.func152, Tryz.ntmps152
  go_wp2_with fail
  refine HF.mono ?_
  rintro e w' ⟨b, rfl, h1⟩
  clear HF
  go_wp2_with fail
  go_ret
  exact ⟨b, rfl, h1⟩
end Go.Proofs.YtfkdailfcmnjlaaGreatDoor

namespace Go.Proofs.YtfkdailfcmnjlaaGreatDoor
open Go Go.RowKit
set_option maxRecDepth 100000

theorem drewC {rb gl cl : Nat} {ts : List Tok} {s : Q} {w : World} {r : Rd} {e : Ending} {w' : World} (h : LeftC rb gl cl ts s w.drew r e w') : ∃ b, e = .returned (.pointer (some ⟨b, 0, none⟩)) ∧ (PF rb w w' ∧ LeftS rb gl cl ts s r b w') := by
  obtain ⟨b, h1, h2, h3⟩ := h
  exact ⟨b, h1, (PF.refl rb w).drew.trans h2, h3⟩
theorem kind_is {ts : List Tok} {t : Tok} (ht : TokW t) {x : List UInt8} (hx : x ∈ spell.drop 3) {k : Nat} (hk : kn x = k) (h : isW t x = true) : kindOf t = k := by rw [← hk]; exact (isW_iff ht hx).1 h
theorem kind_isnt {ts : List Tok} {t : Tok} (ht : TokW t) {x : List UInt8} (hx : x ∈ spell.drop 3) {k : Nat} (hk : kn x = k) (h : ¬ isW t x = true) : kindOf t ≠ k := by rw [← hk]; exact fun e => h ((isW_iff ht hx).2 e)

theorem pone_step {f rb gl cl : Nat} {ts : List Tok} {s : Q} {w : World} (hf : FormOK f 152 6 rb gl cl ts) (hW : ∀ t ∈ ts, TokW t) (h : RR rb gl cl ts s w) (hgood : s.bad = false) {L : List Pt} {r : Rd} (hP : P (f + 1) 5 ts s.i L 0 = some r) :
    Calls Tryz.prog 284 #[.pointer (some ⟨rb, 0, none⟩)] w (LeftC rb gl cl ts s w r) := by
  have ht := hW _ (tokAt_mem h.lt)
  by_cases hw : isW (tokAt ts s.i) [40] = true
  · have hk := kind_is (ts := ts) ht (x := [40]) (by decide) (k := 3) (by decide) hw
    obtain ⟨a, hPa, hr⟩ := one_open hP hw
    exact one_fork (fork_yes h 3 _ _ hk ent_bracketed (fun b w' => PF rb w w' ∧ LeftS rb gl cl ts s r b w') ((bracketed_any hf h.drew hW hgood hk (Nat.le_refl _) hPa hr).mono fun e w' hl => drewC hl))
  · have hk := kind_isnt (ts := ts) ht (x := [40]) (by decide) (k := 3) (by decide) hw
    refine one_fork (fork_no h 3 _ _ hk ent_single (fun b w' => PF rb w w' ∧ LeftS rb gl cl ts s r b w') ?_)
    rcases one_alone hP hw with ⟨ha, rfl⟩ | ⟨ha, rfl⟩
    · exact (single_yes h.drew ht ha L).mono fun e w' hl => drewC hl
    · exact (single_no h.drew ht ha).mono fun e w' hl => drewC hl
theorem part_step {f rb gl cl : Nat} {ts : List Tok} {s : Q} {w : World} (hf : FormOK f 267 2 rb gl cl ts) (hf3 : FormOK f 279 3 rb gl cl ts) (hW : ∀ t ∈ ts, TokW t) (h : RR rb gl cl ts s w) (hgood : s.bad = false) {L : List Pt} {r : Rd} (hP : P (f + 1) 2 ts s.i L 0 = some r) :
    Calls Tryz.prog 267 #[.pointer (some ⟨rb, 0, none⟩)] w (LeftC rb gl cl ts s w r) := by
  have ht := hW _ (tokAt_mem h.lt)
  by_cases hw : isW (tokAt ts s.i) wNot = true
  · have hk := kind_is (ts := ts) ht (x := wNot) (by decide) (k := 19) (by decide) hw
    obtain ⟨a, hPa, hok, hi, hput⟩ := not_yes hP hw
    refine part_fork (fork_yes h 19 _ _ hk ent_negation (fun b w' => PF rb w w' ∧ LeftS rb gl cl ts s r b w') ?_)
    refine (negation_over h.drew hk (LeftS rb gl cl ts s a) (fun w1 h1 F1 => hf f (Nat.le_refl _) { s with i := s.i + 1 } w1 L a h1 hgood hPa)).mono ?_
    rintro e w' ⟨b, w3, rfl, hL, F3, rfl⟩
    have hB := over_below w3 (tokAt ts s.i) [b]
    refine ⟨_, rfl, ((PF.refl rb w).drew.trans F3).trans (PF.of_below hB), ?_⟩
    rcases hL with ⟨ok, h3, hc⟩ | ⟨ok, h3⟩
    · have e := hput ok
      subst e
      refine .inl ⟨rfl, h3.below hB, ?_⟩
      refine over_at h3.rlt rfl (by simp) fun j hj => ?_
      match j, hj with
      | 0, _ => exact hc
    · exact .inr ⟨by rw [hok]; exact ok, by rw [hi]; exact h3.below hB⟩
  · have hk := kind_isnt (ts := ts) ht (x := wNot) (by decide) (k := 19) (by decide) hw
    exact part_fork (fork_no h 19 _ _ hk ent_compared (fun b w' => PF rb w w' ∧ LeftS rb gl cl ts s r b w') ((hf3 f (Nat.le_refl _) s _ L r h.drew hgood (not_no hP hw)).mono fun e w' hl => drewC hl))
theorem pcondition_step {f rb gl cl : Nat} {ts : List Tok} {s : Q} {w : World} (hf : FormOK f 152 6 rb gl cl ts) (hf0 : FormOK f 215 0 rb gl cl ts) (hW : ∀ t ∈ ts, TokW t) (h : RR rb gl cl ts s w) (hgood : s.bad = false) {L : List Pt} {r : Rd} (hP : P (f + 1) 6 ts s.i L 0 = some r) :
    Calls Tryz.prog 152 #[.pointer (some ⟨rb, 0, none⟩)] w (LeftC rb gl cl ts s w r) := by
  have ht := hW _ (tokAt_mem h.lt)
  by_cases hw : isW (tokAt ts s.i) wIf = true
  · have hk := kind_is (ts := ts) ht (x := wIf) (by decide) (k := 14) (by decide) hw
    obtain ⟨a, b, c, hPa, hNb, hNc, hrc, hri, hrp⟩ := if_split hP hw
    exact condition_fork (fork_yes h 14 _ _ hk ent_whether (fun b w' => PF rb w w' ∧ LeftS rb gl cl ts s r b w') ((whether_any hf h.drew hW hgood hk hPa hNb hNc hrc hri hrp).mono fun e w' hl => drewC hl))
  · have hk := kind_isnt (ts := ts) ht (x := wIf) (by decide) (k := 14) (by decide) hw
    exact condition_fork (fork_no h 14 _ _ hk ent_choice (fun b w' => PF rb w w' ∧ LeftS rb gl cl ts s r b w') ((hf0 f (Nat.le_refl _) s _ L r h.drew hgood (if_not hP hw)).mono fun e w' hl => drewC hl))

/-- EVERY FORM. -/
theorem forms {rb gl cl : Nat} {ts : List Tok} (hW : ∀ t ∈ ts, TokW t) (f : Nat) :
    FormOK f 152 6 rb gl cl ts ∧ FormOK f 215 0 rb gl cl ts ∧ FormOK f 247 1 rb gl cl ts ∧ FormOK f 267 2 rb gl cl ts ∧ FormOK f 279 3 rb gl cl ts ∧ FormOK f 283 4 rb gl cl ts ∧ FormOK f 284 5 rb gl cl ts := by
  induction f with
  | zero =>
    have hz : ∀ fn lv, FormOK 0 fn lv rb gl cl ts := fun fn lv g hg s w L r _ _ hP => by
      obtain rfl : g = 0 := by omega
      rw [P] at hP; simp at hP
    exact ⟨hz _ _, hz _ _, hz _ _, hz _ _, hz _ _, hz _ _, hz _ _⟩
  | succ f ih =>
    obtain ⟨c6, c0, c1, c2, c3, c4, c5⟩ := ih
    have up : ∀ {fn lv}, FormOK f fn lv rb gl cl ts → (∀ (s1 : Q) (w1 : World) (L : List Pt) (r1 : Rd), RR rb gl cl ts s1 w1 → s1.bad = false → P (f + 1) lv ts s1.i L 0 = some r1 → Calls Tryz.prog fn #[.pointer (some ⟨rb, 0, none⟩)] w1 (LeftC rb gl cl ts s1 w1 r1)) → FormOK (f + 1) fn lv rb gl cl ts := fun {fn lv} h1 h2 g hg s w L r hr hb hP => by
      by_cases e : g = f + 1
      · subst e; exact h2 s w L r hr hb hP
      · exact h1 g (by omega) s w L r hr hb hP
    exact ⟨up c6 fun s w L r h hb hP => pcondition_step c6 c0 hW h hb hP, up c0 fun s w L r h hb hP => choice_step c1 hW h hb hP, up c1 fun s w L r h hb hP => both_step c2 hW h hb hP, up c2 fun s w L r h hb hP => part_step c2 c3 hW h hb hP, up c3 fun s w L r h hb hP => compared_step c4 hW h hb hP, up c4 fun s w L r h hb hP => sum_step c5 hW h hb hP, up c5 fun s w L r h hb hP => pone_step c6 hW h hb hP⟩
end Go.Proofs.YtfkdailfcmnjlaaGreatDoor

namespace Go.Proofs.YtfkdailfcmnjlaaGreatDoor
open Go Go.RowKit
set_option maxRecDepth 100000

/-- A state that may have failed at a word. -/
def Stp (ts : List Tok) (s : Q) (ok : Bool) (j : Nat) : Q := if ok then { s with i := j } else failQ ts { s with i := j }
theorem Stp_ok (ts : List Tok) (s : Q) (j : Nat) : Stp ts s true j = { s with i := j } := rfl
theorem Stp_no (ts : List Tok) (s : Q) (j : Nat) : Stp ts s false j = failQ ts { s with i := j } := rfl
/-- Does a word of one of these kinds follow? -/
def sees (ts : List Tok) (ks : List Nat) (j : Nat) : Bool := ks.contains (kindOf (tokAt ts j))
def nextI (b : Bool) (j : Nat) : Nat := if b then j + 1 else j

theorem wantQ_stp {rb gl cl : Nat} {ts : List Tok} {s : Q} {ok : Bool} {j : Nat} {w : World} (h : RR rb gl cl ts (Stp ts s ok j) w) (ks : List Nat) (h0 : 0 ∉ ks) :
    wantQ ts (Stp ts s ok j) ks = Stp ts s (ok && sees ts ks j) (nextI (ok && sees ts ks j) j) := by
  cases ok with
  | true =>
    rw [Bool.true_and, Stp_ok] at *
    cases hs : sees ts ks j with
    | true => rw [wantQ_yes (by exact hs)]; rfl
    | false => rw [wantQ_no (by exact hs)]; rfl
  | false =>
    rw [Bool.false_and, Stp_no] at *
    rw [wantQ_no (by
      rw [end_kind h rfl, Bool.eq_false_iff]; intro e; rw [List.contains_iff_mem] at e; exact h0 e), failQ_twice]
    rfl
/-- What 'want' answers from such a state. -/
def wantW (ts : List Tok) (ok : Bool) (j : Nat) (ks : List Nat) : Value := if ok && sees ts ks j then wordV (tokAt ts j) (tokAt ts j).pl else .agg #[.int .i64 0, .int .i64 0, .int .i64 0, S []]
theorem wantV_stp {rb gl cl : Nat} {ts : List Tok} {s : Q} {ok : Bool} {j : Nat} {w : World} (h : RR rb gl cl ts (Stp ts s ok j) w) (ks : List Nat) (h0 : 0 ∉ ks) :
    wantV ts (Stp ts s ok j) ks = wantW ts ok j ks := by
  unfold wantV wantW
  cases ok with
  | true => rw [Bool.true_and, Stp_ok]; rfl
  | false =>
    rw [Stp_no] at *
    rw [if_neg (by rw [end_kind h rfl]; intro e; rw [List.contains_iff_mem] at e; exact h0 e)]
    simp
theorem want_stp {rb gl cl : Nat} {ts : List Tok} {s : Q} {ok : Bool} {j : Nat} {w : World} (h : RR rb gl cl ts (Stp ts s ok j) w) (ks : List Nat) (hl : ks.length ≤ 100) (h0 : 0 ∉ ks) :
    Calls Tryz.prog 151 #[.pointer (some ⟨rb, 0, none⟩), .slice (some ⟨w.heap.size, 0, none⟩) ks.length ks.length] (w.alloc (ksObj ks)) fun e w' => e = .returned (wantW ts ok j ks) ∧ RR rb gl cl ts (Stp ts s (ok && sees ts ks j) (nextI (ok && sees ts ks j) j)) w' ∧ PF rb w w' := by
  rw [← wantV_stp h ks h0, ← wantQ_stp h ks h0]; exact want_new h ks hl h0

/-- A condition from such a state. -/
theorem cond_stp {f rb gl cl : Nat} {ts : List Tok} {s : Q} {ok : Bool} {j : Nat} {w : World} {L : List Pt} {a : Rd} (hf : FormOK f 152 6 rb gl cl ts) (hgood : s.bad = false) (h : RR rb gl cl ts (Stp ts s ok j) w) (hP : ok = true → P f 6 ts j L 0 = some a) :
    Calls Tryz.prog 152 #[.pointer (some ⟨rb, 0, none⟩)] w fun e w' => ∃ b, e = .returned (.pointer (some ⟨b, 0, none⟩)) ∧ PF rb w w' ∧ RR rb gl cl ts (Stp ts s (ok && a.ok) (if ok then a.i else j)) w' ∧ ((ok && a.ok) = true → CondAt a.L rb w' a.top b) := by
  cases ok with
  | true =>
    rw [Stp_ok] at h
    refine (hf f (Nat.le_refl _) _ w L a h hgood (hP rfl)).mono ?_
    rintro e w' ⟨b, h1, h2, h3⟩
    refine ⟨b, h1, h2, ?_⟩
    rcases h3 with ⟨ok, h3, h4⟩ | ⟨ok, h3⟩
    · rw [ok]; exact ⟨h3, fun _ => h4⟩
    · rw [ok]; exact ⟨h3, fun e => by simp at e⟩
  | false =>
    rw [Stp_no] at h
    refine (condition_end _ w h rfl rfl).mono ?_
    rintro e w' ⟨b, h1, h2, h3⟩
    exact ⟨b, h1, h2, h3, fun e => by simp at e⟩
end Go.Proofs.YtfkdailfcmnjlaaGreatDoor

namespace Go.Proofs.YtfkdailfcmnjlaaGreatDoor
open Go Go.RowKit
set_option maxRecDepth 100000
attribute [local go_sem ↓] Go.wp_at_zero Go.wp_at_succ

/-- No word. -/
def zTok : Tok := ⟨101, [], 0⟩
/-- The word that 'want' gives. -/
def wantT (ts : List Tok) (ok : Bool) (j : Nat) (ks : List Nat) : Tok := if ok && sees ts ks j then tokAt ts j else zTok
theorem wantW_tok (ts : List Tok) (ok : Bool) (j : Nat) (ks : List Nat) : wantW ts ok j ks = .agg #[.int .i64 (kindOf (wantT ts ok j ks)), .int .i64 (wantT ts ok j ks).pl, .int .i64 (nmOf (wantT ts ok j ks)), S (ownOf (wantT ts ok j ks))] := by
  unfold wantW wantT
  split
  · rfl
  · rfl
/-- An item's value. -/
def itV (t u : Tok) (b : Nat) : Value := .agg #[.int .i64 (kindOf t), .int .i64 t.pl, .int .i64 (nmOf t), S (ownOf t), .int .i64 (kindOf u), .int .i64 u.pl, .int .i64 (nmOf u), S (ownOf u), .int .i64 0, .pointer (some ⟨b, 0, none⟩)]

/-- An item's value, with its number. -/
def itW (t u : Tok) (n : Int) (b : Nat) : Value := .agg #[.int .i64 (kindOf t), .int .i64 t.pl, .int .i64 (nmOf t), S (ownOf t), .int .i64 (kindOf u), .int .i64 u.pl, .int .i64 (nmOf u), S (ownOf u), .int .i64 n, .pointer (some ⟨b, 0, none⟩)]
/-- An item's block, with its number. -/
def itObjW (t u : Tok) (n : Int) (v : Value) : Obj := .cells #[.int .i64 (kindOf t), .int .i64 t.pl, .int .i64 (nmOf t), S (ownOf t), .int .i64 (kindOf u), .int .i64 u.pl, .int .i64 (nmOf u), S (ownOf u), .int .i64 n, v] 163 (0, 0)

/-- An item's block. -/
def itObj (t u : Tok) (v : Value) : Obj := .cells #[.int .i64 (kindOf t), .int .i64 t.pl, .int .i64 (nmOf t), S (ownOf t), .int .i64 (kindOf u), .int .i64 u.pl, .int .i64 (nmOf u), S (ownOf u), .int .i64 0, v] 163 (0, 0)
theorem it_cells {w : World} {b : Nat} {x0 x1 x2 x3 x4 x5 x6 x7 x8 x9 : Value} (h : w.heap[b]? = some (.cells #[x0, x1, x2, x3, x4, x5, x6, x7, x8, x9] 163 (0, 0))) : (w.cell? ⟨b, 0, none⟩ = some x0 ∧ w.cell? ⟨b, 1, none⟩ = some x1 ∧ w.cell? ⟨b, 2, none⟩ = some x2 ∧ w.cell? ⟨b, 3, none⟩ = some x3 ∧ w.cell? ⟨b, 4, none⟩ = some x4 ∧ w.cell? ⟨b, 5, none⟩ = some x5 ∧ w.cell? ⟨b, 6, none⟩ = some x6 ∧ w.cell? ⟨b, 7, none⟩ = some x7 ∧ w.cell? ⟨b, 8, none⟩ = some x8 ∧ w.cell? ⟨b, 9, none⟩ = some x9) ∧ ∀ j, w.frozen? ⟨b, j, none⟩ = false := by
  have hc := fun j => cell_of_row w b j _ _ _ h
  exact ⟨⟨hc 0, hc 1, hc 2, hc 3, hc 4, hc 5, hc 6, hc 7, hc 8, hc 9⟩, fun j => by simp [World.frozen?, h]⟩
/-- The tree stays where a block of items is written. -/
theorem CondAt.item {L : List Pt} {lt : Nat} {w : World} {i b : Nat} (h : CondAt L lt w i b) {x : Nat} {cs : Array Value} (hx : w.heap[x]? = some (.cells cs 163 (0, 0))) (j : Nat) (v : Value) : CondAt L lt (w.setCell ⟨x, j, none⟩ v) i b :=
  h.keep fun k cs' ty hk ht => Below.heap_setCell _ _ _ _ (by
    simp only
    intro e
    rw [e, hx] at hk
    simp only [Option.some.injEq, Obj.cells.injEq] at hk
    rw [← hk.2.1] at ht
    exact absurd ht (by decide))
theorem item_set {w : World} {x : Nat} {cs : Array Value} (hx : w.heap[x]? = some (.cells cs 163 (0, 0))) (j : Nat) (v : Value) : (w.setCell ⟨x, j, none⟩ v).heap[x]? = some (.cells (cs.setIfInBounds j v) 163 (0, 0)) := by
  rw [heap_setCell_same w x j _ _ v hx]
theorem pitem_far {w : World} {x y : Nat} (h : y ≠ x) (j : Nat) (v : Value) : (w.setCell ⟨x, j, none⟩ v).heap[y]? = w.heap[y]? := Below.heap_setCell _ _ _ _ (by simpa using h)

set_option maxHeartbeats 4000000 in
theorem pitem_let {f rb gl cl : Nat} {ts : List Tok} {s : Q} {w : World} (hf : FormOK f 152 6 rb gl cl ts) (h : RR rb gl cl ts s w) (hgood : s.bad = false) (hk : kindOf (tokAt ts s.i) = 11) {ok2 ok3 : Bool} {j2 j3 : Nat} (e2 : ok2 = sees ts [2] (s.i + 1)) (e3 : j2 = nextI ok2 (s.i + 1)) (e4 : ok3 = (ok2 && sees ts [8] j2)) (e5 : j3 = nextI ok3 j2) {L : List Pt} {a : Rd}
    (hP : ok3 = true → P f 6 ts j3 L 0 = some a) {ok4 ok5 : Bool} {j4 j5 : Nat} (e6 : j4 = if ok3 then a.i else j3) (e7 : ok4 = (ok3 && a.ok)) (e8 : ok5 = (ok4 && sees ts [5] j4)) (e9 : j5 = nextI ok5 j4) :
    Calls Tryz.prog 104 #[.pointer (some ⟨rb, 0, none⟩)] w fun e w' => ∃ b, e = .returned (itV (tokAt ts s.i) (wantT ts true (s.i + 1) [2]) b) ∧ PF rb w w' ∧ RR rb gl cl ts (Stp ts s ok5 j5) w' ∧ (ok4 = true → CondAt a.L rb w' a.top b) := by
  have hs0 : sees ts [11, 12, 13] s.i = true := by unfold sees; rw [hk]; rfl
  have h0 : RR rb gl cl ts (Stp ts s true s.i) (w.alloc (itObj zTok zTok (.pointer none))) := h.alloc _
  have hr0 : (w.alloc (itObj zTok zTok (.pointer none))).heap[w.heap.size]? = some (itObj zTok zTok (.pointer none)) := heap_alloc_new w _
  have F0 : PF rb w (w.alloc (itObj zTok zTok (.pointer none))) := (PF.refl rb w).alloc _
  have hrl := h.rlt
  have hgl := h.glt
  have W1 := want_stp h0 [11, 12, 13] (by decide) (by decide)
  rw [wantW_tok] at W1
  have et : wantT ts true s.i [11, 12, 13] = tokAt ts s.i := by unfold wantT; rw [hs0]; rfl
  rw [et, hs0] at W1
  simp only [Bool.and_self, show nextI true s.i = s.i + 1 from rfl] at W1
  have HE2 : Hid _ := e2
  have HE3 : Hid _ := e3
  have HE4 : Hid _ := e4
  have HE5 : Hid _ := e5
  have HP : Hid _ := hP
  have HR0 : Hid _ := hr0
  have HG : Hid _ := hgood
  have HF0 : Hid _ := F0
  have HIT : Hid (∀ t u v, itObj t u v = .cells #[.int .i64 (kindOf t), .int .i64 t.pl, .int .i64 (nmOf t), S (ownOf t), .int .i64 (kindOf u), .int .i64 u.pl, .int .i64 (nmOf u), S (ownOf u), .int .i64 0, v] 163 (0, 0)) := fun _ _ _ => rfl
  have HE6 : Hid _ := e6
  have HE7 : Hid _ := e7
  have HE8 : Hid _ := e8
  have HE9 : Hid _ := e9
  clear e6 e7 e8 e9 e2 e3 e4 e5 hP hr0 hgood h h0 hs0 F0
  have hsz : (w.alloc (itObj zTok zTok (.pointer none))).heap.size = w.heap.size + 1 := by simp
  have HV : Hid (∀ b, itV (tokAt ts s.i) (wantT ts true (s.i + 1) [2]) b = .agg #[.int .i64 (kindOf (tokAt ts s.i)), .int .i64 (tokAt ts s.i).pl, .int .i64 (nmOf (tokAt ts s.i)), S (ownOf (tokAt ts s.i)), .int .i64 (kindOf (wantT ts true (s.i + 1) [2])), .int .i64 (wantT ts true (s.i + 1) [2]).pl, .int .i64 (nmOf (wantT ts true (s.i + 1) [2])), S (ownOf (wantT ts true (s.i + 1) [2])), .int .i64 0, .pointer (some ⟨b, 0, none⟩)]) := fun _ => rfl
  generalize itV (tokAt ts s.i) (wantT ts true (s.i + 1) [2]) = iv at HV ⊢
  go_enter Tryz.func104, Tryz.ntmps104
  go_wp2_with fail
  rw [hsz] at W1
  refine W1.mono ?_
  rintro e w1 ⟨rfl, h1, F1⟩
  clear W1
  have hx1 : w1.heap[w.heap.size]? = some (itObj zTok zTok (.pointer none)) := by rw [F1.block _ (by rw [hsz]; omega) (by omega)]; exact HR0.out
  have hl1 := lt_of_get hx1
  generalize htk : tokAt ts s.i = t0 at *
  have h2 := h1.alloc (itObj t0 zTok (.pointer none))
  have F2 := (HF0.out.trans F1).alloc (itObj t0 zTok (.pointer none))
  have hi2 : (w1.alloc (itObj t0 zTok (.pointer none))).heap[w1.heap.size]? = some (itObj t0 zTok (.pointer none)) := heap_alloc_new w1 _
  have hx2 : (w1.alloc (itObj t0 zTok (.pointer none))).heap[w.heap.size]? = some (itObj zTok zTok (.pointer none)) := by rw [Below.heap_alloc _ _ _ hl1]; exact hx1
  have e1 : w1.heap.size ≠ rb := by have := h1.rlt; omega
  have e2 : w1.heap.size ≠ gl := by have := h1.glt; omega
  have e3 : w.heap.size ≠ w1.heap.size := by omega
  have e4 : w.heap.size ≠ rb := by omega
  have e5 : w.heap.size ≠ gl := by omega
  have hge : w.heap.size ≤ w1.heap.size := by omega
  clear h1 F1 hx1 HR0 HF0
  have W2 := want_stp h2 [2] (by decide) (by decide)
  rw [wantW_tok] at W2
  have hsz2 : (w1.alloc (itObj t0 zTok (.pointer none))).heap.size = w1.heap.size + 1 := by simp
  rw [hsz2] at W2
  simp only [HIT.out, hk] at h2 F2 hsz2 hi2 hx2 W2
  rw [Bool.true_and, ← HE2.out, ← HE3.out] at W2
  go_wp2_with fail
  refine W2.mono ?_
  clear W2 h2
  rintro e w3 ⟨rfl, h3, F3⟩
  generalize htw : wantT ts true (s.i + 1) [2] = u0 at HV ⊢
  clear htw
  have hi3 : w3.heap[w1.heap.size]? = _ := (F3.block _ (by rw [hsz2]; omega) e1).trans hi2
  have hx3 : w3.heap[w.heap.size]? = _ := (F3.block _ (by rw [hsz2]; omega) e4).trans hx2
  have F3' := F2.trans F3
  clear hi2 hx2 F2 F3 hsz2
  generalize hby : w1.heap.size = bi at *
  have HBY : Hid _ := hby
  clear hby
  generalize hbr : w.heap.size = br at *
  have HBR : Hid _ := hbr
  clear hbr
  obtain ⟨⟨y0, y1, y2, y3, y4, y5, y6, y7, y8, y9⟩, yf⟩ := it_cells hi3
  have h4 := ((((h3.other e1 e2 4 (.int .i64 (kindOf u0))).other e1 e2 5 (.int .i64 u0.pl)).other e1 e2 6 (.int .i64 (nmOf u0))).other e1 e2 7 (S (ownOf u0)))
  have hgb : w.heap.size ≤ bi := by rw [HBR.out]; exact hge
  have F4 := ((((F3'.new hgb 4 (.int .i64 (kindOf u0))).new hgb 5 (.int .i64 u0.pl)).new hgb 6 (.int .i64 (nmOf u0))).new hgb 7 (S (ownOf u0)))
  have hi4 := item_set (item_set (item_set (item_set hi3 4 (.int .i64 (kindOf u0))) 5 (.int .i64 u0.pl)) 6 (.int .i64 (nmOf u0))) 7 (S (ownOf u0))
  have hx4 := (pitem_far e3 7 (S (ownOf u0))).trans ((pitem_far e3 6 (.int .i64 (nmOf u0))).trans ((pitem_far e3 5 (.int .i64 u0.pl)).trans ((pitem_far e3 4 (.int .i64 (kindOf u0))).trans hx3)))
  have H4 : Hid _ := h4
  have HF4 : Hid _ := F4
  have HI4 : Hid _ := hi4
  have HX4 : Hid _ := hx4
  have W3 := want_stp h4 [8] (by decide) (by decide)
  rw [← HE4.out, ← HE5.out] at W3
  have hl4 := lt_of_get hi4
  have hl4' := lt_of_get hx4
  simp only [World.size_setCell] at W3 hl4 hl4'
  clear h3 F3' hi3 hx3 h4 F4 hi4 hx4 HE2 HE3 HE4 HE5
  generalize wantW ts ok2 j2 [8] = wv3 at *
  go_wp2_with fail
  refine W3.mono ?_
  rintro e w5 ⟨rfl, h5, F5⟩
  clear W3 y0 y1 y2 y3 y4 y5 y6 y7 y8 y9 yf
  have hi5 : w5.heap[bi]? = some (.cells #[.int .i64 11, .int .i64 t0.pl, .int .i64 (nmOf t0), S (ownOf t0), .int .i64 (kindOf u0), .int .i64 u0.pl, .int .i64 (nmOf u0), S (ownOf u0), .int .i64 0, .pointer none] 163 (0, 0)) := (F5.block bi (by simpa using hl4) e1).trans HI4.out
  have hx5 := (F5.block br (by simpa using hl4') e4).trans HX4.out
  have F5' := HF4.out.trans F5
  clear H4 HF4 HI4 HX4 F5 hl4 hl4'
  have W4 := cond_stp hf HG.out h5 HP.out
  rw [← HE6.out, ← HE7.out] at W4
  obtain ⟨⟨y0, y1, y2, y3, y4, y5, y6, y7, y8, y9⟩, yf⟩ := it_cells hi5
  clear y0 y1 y2 y3 y4 y5 y6 y7 y8 y9 yf
  have hl5 := lt_of_get hi5
  have hl5' := lt_of_get hx5
  have HI5 : Hid _ := hi5
  have HX5 : Hid _ := hx5
  have HF5 : Hid _ := F5'
  clear hi5 hx5 F5' h5
  go_wp2_with fail
  refine W4.mono ?_
  rintro e w6 ⟨b, rfl, F6, h6, hC6⟩
  clear W4
  have hi6 := (F6.block bi hl5 e1).trans HI5.out
  have hx6 := (F6.block br hl5' e4).trans HX5.out
  have h7 := h6.other e1 e2 9 (.pointer (some ⟨b, 0, none⟩))
  have F7 := (HF5.out.trans F6).new hgb 9 (.pointer (some ⟨b, 0, none⟩))
  have hi7 : (w6.setCell ⟨bi, 9, none⟩ (.pointer (some ⟨b, 0, none⟩))).heap[bi]? = some (.cells #[.int .i64 11, .int .i64 t0.pl, .int .i64 (nmOf t0), S (ownOf t0), .int .i64 (kindOf u0), .int .i64 u0.pl, .int .i64 (nmOf u0), S (ownOf u0), .int .i64 0, .pointer (some ⟨b, 0, none⟩)] 163 (0, 0)) := item_set hi6 9 (.pointer (some ⟨b, 0, none⟩))
  have hx7 := (pitem_far e3 9 (.pointer (some ⟨b, 0, none⟩))).trans hx6
  have hC7 : ok4 = true → CondAt a.L rb (w6.setCell ⟨bi, 9, none⟩ (.pointer (some ⟨b, 0, none⟩))) a.top b := fun e => (hC6 e).item hi6 _ _
  obtain ⟨⟨y0, y1, y2, y3, y4, y5, y6, y7, y8, y9⟩, yf⟩ := it_cells hi6
  have W5 := want_stp h7 [5] (by decide) (by decide)
  rw [← HE8.out, ← HE9.out] at W5
  simp only [World.size_setCell] at W5
  have H7 : Hid _ := h7
  have HF7 : Hid _ := F7
  have HI7 : Hid _ := hi7
  have HX7 : Hid _ := hx7
  have HC7 : Hid _ := hC7
  clear h6 h7 F7 hi7 hx7 hC7 hC6 F6 hi6 hx6 HI5 HX5 HF5
  generalize wantW ts ok4 j4 [5] = wv5 at *
  go_wp2_with fail
  refine W5.mono ?_
  rintro e w8 ⟨rfl, h8, F8⟩
  clear W5 y0 y1 y2 y3 y4 y5 y6 y7 y8 y9 yf
  have hi8 := (F8.block bi (lt_of_get HI7.out) e1).trans HI7.out
  have hx8 := (F8.block br (lt_of_get HX7.out) e4).trans HX7.out
  have F8' := HF7.out.trans F8
  have hC8 : ok4 = true → CondAt a.L rb w8 a.top b := fun e => (HC7.out e).pf H7.out F8
  clear H7 HF7 HI7 HX7 HC7 F8
  obtain ⟨⟨y0, y1, y2, y3, y4, y5, y6, y7, y8, y9⟩, yf⟩ := it_cells hi8
  obtain ⟨⟨z0, z1, z2, z3, z4, z5, z6, z7, z8, z9⟩, zf⟩ := it_cells hx8
  have H8 : Hid _ := h8
  have HF8 : Hid _ := F8'
  have HC8 : Hid _ := hC8
  have HX8 : Hid _ := hx8
  clear h8 F8' hC8 hi8 hx8
  have e3' := e3.symm
  clear HE6 HE7 HE8 HE9 HP
  go_wp2_with fail
  have hbr : w.heap.size ≤ br := Nat.le_of_eq HBR.out
  refine bodyPost_ret (v := .agg #[.int .i64 11, .int .i64 t0.pl, .int .i64 (nmOf t0), S (ownOf t0), .int .i64 (kindOf u0), .int .i64 u0.pl, .int .i64 (nmOf u0), S (ownOf u0), .int .i64 0, .pointer (some ⟨b, 0, none⟩)]) (by simp [results, Tryz.results104, go_sem, z0, z1, z2, z3, z4, z5, z6, z7, z8, z9, zf]) rfl ⟨b, ?_, ?_, ?_, ?_⟩
  · rw [HV.out, hk]; rfl
  · exact (((((((((HF8.out.new hbr _ _).new hbr _ _).new hbr _ _).new hbr _ _).new hbr _ _).new hbr _ _).new hbr _ _).new hbr _ _).new hbr _ _).new hbr _ _
  · exact (((((((((H8.out.other e4 e5 _ _).other e4 e5 _ _).other e4 e5 _ _).other e4 e5 _ _).other e4 e5 _ _).other e4 e5 _ _).other e4 e5 _ _).other e4 e5 _ _).other e4 e5 _ _).other e4 e5 _ _
  · intro e
    have c1 := (HC8.out e).item HX8.out 0 (.int .i64 11)
    have x1 := item_set HX8.out 0 (.int .i64 11)
    have c2 := c1.item x1 1 (.int .i64 t0.pl)
    have x2 := item_set x1 1 (.int .i64 t0.pl)
    have c3 := c2.item x2 2 (.int .i64 (nmOf t0))
    have x3 := item_set x2 2 (.int .i64 (nmOf t0))
    have c4 := c3.item x3 3 (S (ownOf t0))
    have x4 := item_set x3 3 (S (ownOf t0))
    have c5 := c4.item x4 4 (.int .i64 (kindOf u0))
    have x5 := item_set x4 4 (.int .i64 (kindOf u0))
    have c6 := c5.item x5 5 (.int .i64 u0.pl)
    have x6 := item_set x5 5 (.int .i64 u0.pl)
    have c7 := c6.item x6 6 (.int .i64 (nmOf u0))
    have x7 := item_set x6 6 (.int .i64 (nmOf u0))
    have c8 := c7.item x7 7 (S (ownOf u0))
    have x8 := item_set x7 7 (S (ownOf u0))
    have c9 := c8.item x8 8 (.int .i64 0)
    have x9 := item_set x8 8 (.int .i64 0)
    exact c9.item x9 9 (.pointer (some ⟨b, 0, none⟩))
set_option maxHeartbeats 4000000 in
theorem item_rule {f rb gl cl : Nat} {ts : List Tok} {s : Q} {w : World} (hf : FormOK f 152 6 rb gl cl ts) (h : RR rb gl cl ts s w) (hgood : s.bad = false) (hk : kindOf (wantT ts true s.i [11, 12, 13]) ≠ 11) {ok2 ok3 : Bool} {j2 j3 : Nat} (e2 : ok2 = sees ts [11, 12, 13] s.i) (e3 : j2 = nextI ok2 s.i) (e4 : ok3 = (ok2 && sees ts [14] j2)) (e5 : j3 = nextI ok3 j2) {L : List Pt} {a : Rd}
    (hP : ok3 = true → P f 6 ts j3 L 0 = some a) {ok4 ok5 : Bool} {j4 j5 : Nat} (e6 : j4 = if ok3 then a.i else j3) (e7 : ok4 = (ok3 && a.ok)) (e8 : ok5 = (ok4 && sees ts [5] j4)) (e9 : j5 = nextI ok5 j4) :
    Calls Tryz.prog 104 #[.pointer (some ⟨rb, 0, none⟩)] w fun e w' => ∃ b, e = .returned (itV (wantT ts true s.i [11, 12, 13]) zTok b) ∧ PF rb w w' ∧ RR rb gl cl ts (Stp ts s ok5 j5) w' ∧ (ok4 = true → CondAt a.L rb w' a.top b) := by
  have h0 : RR rb gl cl ts (Stp ts s true s.i) (w.alloc (itObj zTok zTok (.pointer none))) := h.alloc _
  have hr0 : (w.alloc (itObj zTok zTok (.pointer none))).heap[w.heap.size]? = some (itObj zTok zTok (.pointer none)) := heap_alloc_new w _
  have F0 : PF rb w (w.alloc (itObj zTok zTok (.pointer none))) := (PF.refl rb w).alloc _
  have hrl := h.rlt
  have hgl := h.glt
  have W1 := want_stp h0 [11, 12, 13] (by decide) (by decide)
  rw [wantW_tok] at W1
  rw [Bool.true_and, ← e2, ← e3] at W1
  have HE2 : Hid _ := e2
  have HE3 : Hid _ := e3
  have HE4 : Hid _ := e4
  have HE5 : Hid _ := e5
  have HP : Hid _ := hP
  have HR0 : Hid _ := hr0
  have HG : Hid _ := hgood
  have HF0 : Hid _ := F0
  have HIT : Hid (∀ t u v, itObj t u v = .cells #[.int .i64 (kindOf t), .int .i64 t.pl, .int .i64 (nmOf t), S (ownOf t), .int .i64 (kindOf u), .int .i64 u.pl, .int .i64 (nmOf u), S (ownOf u), .int .i64 0, v] 163 (0, 0)) := fun _ _ _ => rfl
  have HE6 : Hid _ := e6
  have HE7 : Hid _ := e7
  have HE8 : Hid _ := e8
  have HE9 : Hid _ := e9
  clear e6 e7 e8 e9 e2 e3 e4 e5 hP hr0 hgood h h0 F0
  have hsz : (w.alloc (itObj zTok zTok (.pointer none))).heap.size = w.heap.size + 1 := by simp
  have HV : Hid (∀ b, itV (wantT ts true s.i [11, 12, 13]) zTok b = .agg #[.int .i64 (kindOf (wantT ts true s.i [11, 12, 13])), .int .i64 (wantT ts true s.i [11, 12, 13]).pl, .int .i64 (nmOf (wantT ts true s.i [11, 12, 13])), S (ownOf (wantT ts true s.i [11, 12, 13])), .int .i64 0, .int .i64 0, .int .i64 0, S [], .int .i64 0, .pointer (some ⟨b, 0, none⟩)]) := fun _ => rfl
  generalize itV (wantT ts true s.i [11, 12, 13]) zTok = iv at HV ⊢
  generalize wantT ts true s.i [11, 12, 13] = t0 at *
  generalize hkk : kindOf t0 = kk at *
  have hk2 : ((kk : Int) == (11 : Int)) = false := by
    have : ¬ ((kk : Int) = 11) := by omega
    simpa using this
  go_enter Tryz.func104, Tryz.ntmps104
  go_wp2_with fail
  rw [hsz] at W1
  refine W1.mono ?_
  rintro e w1 ⟨rfl, h1, F1⟩
  clear W1
  have hx1 : w1.heap[w.heap.size]? = some (itObj zTok zTok (.pointer none)) := by rw [F1.block _ (by rw [hsz]; omega) (by omega)]; exact HR0.out
  have hl1 := lt_of_get hx1
  have h2 := h1.alloc (itObj t0 zTok (.pointer none))
  have F2 := (HF0.out.trans F1).alloc (itObj t0 zTok (.pointer none))
  have hi2 : (w1.alloc (itObj t0 zTok (.pointer none))).heap[w1.heap.size]? = some (itObj t0 zTok (.pointer none)) := heap_alloc_new w1 _
  have hx2 : (w1.alloc (itObj t0 zTok (.pointer none))).heap[w.heap.size]? = some (itObj zTok zTok (.pointer none)) := by rw [Below.heap_alloc _ _ _ hl1]; exact hx1
  have e1 : w1.heap.size ≠ rb := by have := h1.rlt; omega
  have e2 : w1.heap.size ≠ gl := by have := h1.glt; omega
  have e3 : w.heap.size ≠ w1.heap.size := by omega
  have e4 : w.heap.size ≠ rb := by omega
  have e5 : w.heap.size ≠ gl := by omega
  have hge : w.heap.size ≤ w1.heap.size := by omega
  clear h1 F1 hx1 HR0 HF0
  have hsz2 : (w1.alloc (itObj t0 zTok (.pointer none))).heap.size = w1.heap.size + 1 := by simp
  have W3 := want_stp h2 [14] (by decide) (by decide)
  rw [← HE4.out, ← HE5.out] at W3
  rw [hsz2] at W3
  simp only [HIT.out, hkk] at h2 F2 hsz2 hi2 hx2 W3
  have hl4 := lt_of_get hi2
  have hl4' := lt_of_get hx2
  clear HE2 HE3 HE4 HE5 h2
  generalize wantW ts ok2 j2 [14] = wv3 at *
  go_wp2_with fail
  refine W3.mono ?_
  rintro e w5 ⟨rfl, h5, F5⟩
  clear W3
  have hi5 : w5.heap[w1.heap.size]? = some (.cells #[.int .i64 kk, .int .i64 t0.pl, .int .i64 (nmOf t0), S (ownOf t0), .int .i64 0, .int .i64 0, .int .i64 0, S [], .int .i64 0, .pointer none] 163 (0, 0)) := (F5.block w1.heap.size hl4 e1).trans hi2
  have hx5 := (F5.block w.heap.size hl4' e4).trans hx2
  have F5' := F2.trans F5
  clear F2 F5 hl4 hl4' hi2 hx2 hsz2
  generalize hby : w1.heap.size = bi at *
  have HBY : Hid _ := hby
  clear hby
  generalize hbr : w.heap.size = br at *
  have HBR : Hid _ := hbr
  clear hbr
  have hgb : w.heap.size ≤ bi := by rw [HBR.out]; exact hge
  have W4 := cond_stp hf HG.out h5 HP.out
  rw [← HE6.out, ← HE7.out] at W4
  obtain ⟨⟨y0, y1, y2, y3, y4, y5, y6, y7, y8, y9⟩, yf⟩ := it_cells hi5
  clear y0 y1 y2 y3 y4 y5 y6 y7 y8 y9 yf
  have hl5 := lt_of_get hi5
  have hl5' := lt_of_get hx5
  have HI5 : Hid _ := hi5
  have HX5 : Hid _ := hx5
  have HF5 : Hid _ := F5'
  clear hi5 hx5 F5' h5
  go_wp2_with fail
  refine W4.mono ?_
  rintro e w6 ⟨b, rfl, F6, h6, hC6⟩
  clear W4
  have hi6 := (F6.block bi hl5 e1).trans HI5.out
  have hx6 := (F6.block br hl5' e4).trans HX5.out
  have h7 := h6.other e1 e2 9 (.pointer (some ⟨b, 0, none⟩))
  have F7 := (HF5.out.trans F6).new hgb 9 (.pointer (some ⟨b, 0, none⟩))
  have hi7 : (w6.setCell ⟨bi, 9, none⟩ (.pointer (some ⟨b, 0, none⟩))).heap[bi]? = some (.cells #[.int .i64 kk, .int .i64 t0.pl, .int .i64 (nmOf t0), S (ownOf t0), .int .i64 0, .int .i64 0, .int .i64 0, S [], .int .i64 0, .pointer (some ⟨b, 0, none⟩)] 163 (0, 0)) := item_set hi6 9 (.pointer (some ⟨b, 0, none⟩))
  have hx7 := (pitem_far e3 9 (.pointer (some ⟨b, 0, none⟩))).trans hx6
  have hC7 : ok4 = true → CondAt a.L rb (w6.setCell ⟨bi, 9, none⟩ (.pointer (some ⟨b, 0, none⟩))) a.top b := fun e => (hC6 e).item hi6 _ _
  obtain ⟨⟨y0, y1, y2, y3, y4, y5, y6, y7, y8, y9⟩, yf⟩ := it_cells hi6
  have W5 := want_stp h7 [5] (by decide) (by decide)
  rw [← HE8.out, ← HE9.out] at W5
  simp only [World.size_setCell] at W5
  have H7 : Hid _ := h7
  have HF7 : Hid _ := F7
  have HI7 : Hid _ := hi7
  have HX7 : Hid _ := hx7
  have HC7 : Hid _ := hC7
  clear h6 h7 F7 hi7 hx7 hC7 hC6 F6 hi6 hx6 HI5 HX5 HF5
  generalize wantW ts ok4 j4 [5] = wv5 at *
  go_wp2_with fail
  refine W5.mono ?_
  rintro e w8 ⟨rfl, h8, F8⟩
  clear W5 y0 y1 y2 y3 y4 y5 y6 y7 y8 y9 yf
  have hi8 := (F8.block bi (lt_of_get HI7.out) e1).trans HI7.out
  have hx8 := (F8.block br (lt_of_get HX7.out) e4).trans HX7.out
  have F8' := HF7.out.trans F8
  have hC8 : ok4 = true → CondAt a.L rb w8 a.top b := fun e => (HC7.out e).pf H7.out F8
  clear H7 HF7 HI7 HX7 HC7 F8
  obtain ⟨⟨y0, y1, y2, y3, y4, y5, y6, y7, y8, y9⟩, yf⟩ := it_cells hi8
  obtain ⟨⟨z0, z1, z2, z3, z4, z5, z6, z7, z8, z9⟩, zf⟩ := it_cells hx8
  have H8 : Hid _ := h8
  have HF8 : Hid _ := F8'
  have HC8 : Hid _ := hC8
  have HX8 : Hid _ := hx8
  clear h8 F8' hC8 hi8 hx8
  have e3' := e3.symm
  clear HE6 HE7 HE8 HE9 HP
  go_wp2_with fail
  have hbr : w.heap.size ≤ br := Nat.le_of_eq HBR.out
  refine bodyPost_ret (v := .agg #[.int .i64 kk, .int .i64 t0.pl, .int .i64 (nmOf t0), S (ownOf t0), .int .i64 0, .int .i64 0, .int .i64 0, S [], .int .i64 0, .pointer (some ⟨b, 0, none⟩)]) (by simp [results, Tryz.results104, go_sem, z0, z1, z2, z3, z4, z5, z6, z7, z8, z9, zf]) rfl ⟨b, ?_, ?_, ?_, ?_⟩
  · rw [HV.out]
  · exact (((((((((HF8.out.new hbr _ _).new hbr _ _).new hbr _ _).new hbr _ _).new hbr _ _).new hbr _ _).new hbr _ _).new hbr _ _).new hbr _ _).new hbr _ _
  · exact (((((((((H8.out.other e4 e5 _ _).other e4 e5 _ _).other e4 e5 _ _).other e4 e5 _ _).other e4 e5 _ _).other e4 e5 _ _).other e4 e5 _ _).other e4 e5 _ _).other e4 e5 _ _).other e4 e5 _ _
  · intro e
    have c1 := (HC8.out e).item HX8.out 0 (.int .i64 kk)
    have x1 := item_set HX8.out 0 (.int .i64 kk)
    have c2 := c1.item x1 1 (.int .i64 t0.pl)
    have x2 := item_set x1 1 (.int .i64 t0.pl)
    have c3 := c2.item x2 2 (.int .i64 (nmOf t0))
    have x3 := item_set x2 2 (.int .i64 (nmOf t0))
    have c4 := c3.item x3 3 (S (ownOf t0))
    have x4 := item_set x3 3 (S (ownOf t0))
    have c5 := c4.item x4 4 (.int .i64 0)
    have x5 := item_set x4 4 (.int .i64 0)
    have c6 := c5.item x5 5 (.int .i64 0)
    have x6 := item_set x5 5 (.int .i64 0)
    have c7 := c6.item x6 6 (.int .i64 0)
    have x7 := item_set x6 6 (.int .i64 0)
    have c8 := c7.item x7 7 (S [])
    have x8 := item_set x7 7 (S [])
    have c9 := c8.item x8 8 (.int .i64 0)
    have x9 := item_set x8 8 (.int .i64 0)
    exact c9.item x9 9 (.pointer (some ⟨b, 0, none⟩))
end Go.Proofs.YtfkdailfcmnjlaaGreatDoor
