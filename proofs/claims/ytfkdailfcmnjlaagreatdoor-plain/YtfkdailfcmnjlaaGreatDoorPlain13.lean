/-
  A policy that was written: as it is printed, with other brackets; what it says. Digits of what is written. The law's loan of a state. Codes: how types are written as letters; small facts. Rows of numbers in memory; what is touched. What is known at a place, in memory: a stack and cells. What an effect does tw a set. What an instruction does tw what is known: fields, cells, the sign '='. What the other instructions do tw what is known: by the table of effects. What an instruction does in memory is what the plain function says. Where an instruction goes on. What is known is brought tw the next places. Looking a code through: what stands between the rounds. The program finds the instruction that begins at a byte. The program finds where jumps come tw. The program reads a code's instructions. The machine in memory. The scene's event. The scene's state. What a scene tells of a user.
-/
import Derived.Test.YtfkdailfcmnjlaaGreatDoorPlain01
import Derived.Test.YtfkdailfcmnjlaaGreatDoorPlain02
import Derived.Test.YtfkdailfcmnjlaaGreatDoorPlain03
import Derived.Test.YtfkdailfcmnjlaaGreatDoorPlain04
import Derived.Test.YtfkdailfcmnjlaaGreatDoorPlain05
import Derived.Test.YtfkdailfcmnjlaaGreatDoorPlain06
import Derived.Test.YtfkdailfcmnjlaaGreatDoorPlain07
import Derived.Test.YtfkdailfcmnjlaaGreatDoorPlain08
import Derived.Test.YtfkdailfcmnjlaaGreatDoorPlain09
import Derived.Test.YtfkdailfcmnjlaaGreatDoorPlain10
import Derived.Test.YtfkdailfcmnjlaaGreatDoorPlain11
import Derived.Test.YtfkdailfcmnjlaaGreatDoorPlain12
import Derived.Test.YtfkdailfcmnjlaaGreatDoorLays
import Derived.Test.YtfkdailfcmnjlaaGreatDoorLays2
import Derived.WalkKit
import Derived.Deep.QuietTactic
import Derived.BigQuiet
import Derived.WalkSpells
import GoSem.Op.String
import Derived.Deep.AppendLies
import Derived.Deep.RegionHeld3
import Derived.Deep.DrawnRows
import Derived.Deep.RegionHeldLaw
import Derived.Deep.RegionLaw
import Derived.Lib.ParseIntBCases
import Derived.Deep.OwnRows
import Derived.Lib.LaidTab
import Derived.Lib.AppendIntMem
import Derived.Shelf.Strings.Builder1
import Derived.Laws.CopyOwn
import Derived.Deep.DeepCutAuto
import Derived.WalkSmall
import Derived.Lib.AppendZerosOnto
import Derived.Shelf.Abstract
set_option linter.unusedVariables false
set_option linter.unusedSimpArgs false
namespace Go.Proofs.YtfkdailfcmnjlaaGreatDoor
open Go Go.RowKit
set_option maxRecDepth 100000

def wFirst : List UInt8 := [102, 105, 114, 115, 116]
def headA (al : Bool) : List UInt8 := if al then wsAllow else wsDeny
/-- The rules behind the first. -/
def textR (q : List (Mk × Bool)) : List UInt8 := q.flatMap fun r => headA r.2 ++ r.1.text ++ [59, 10]
def bareR (q : List (Mk × Bool)) : List UInt8 := q.flatMap fun r => headA r.2 ++ [10] ++ r.1.bare ++ [32, 59]
/-- What is written. -/
def textW : List (Mk × Bool) → List UInt8
  | [] => []
  | r :: q => wsLet ++ wFirst ++ wsEq ++ r.1.text ++ [59, 10] ++ (headA r.2 ++ wFirst ++ [59, 10]) ++ textR q
def bareW : List (Mk × Bool) → List UInt8
  | [] => []
  | r :: q => wsLet ++ wFirst ++ [61] ++ r.1.bare ++ [59] ++ (headA r.2 ++ [40] ++ wFirst ++ [41, 59]) ++ bareR q
/-- What it says: the first rule that is true. -/
def saysW : List (Mk × Bool) → Nat → Bool × Nat
  | [], _ => (false, 0)
  | r :: q, n => if r.1.told = 1 then (r.2, n + 1) else saysW q (n + 1)
/-- The trees behind. -/
structure RlS (fl : List Int) (m : Mk) (s : Sy) (wb : List (Nat × List UInt8)) : Prop where
  ms : MkS fl 116 m s wb 12
  lx : ∀ rest ws, LX rest ws → Off rest → LX (m.bare ++ rest) (wb ++ ws)
theorem MkOK.rl {fl : List Int} {m : Mk} (h : MkOK fl 116 m) : ∃ s wb, RlS fl m s wb := by
  obtain ⟨s, wb, h1, h2⟩ := h.is
  exact ⟨s, wb, h1 12 h.deep, h2⟩
def firstSy : Sy := ⟨111, wFirst, []⟩
def Good3 (fl : List Int) (q : List (Mk × Bool)) : Prop := ∀ r ∈ q, MkOK fl 116 r.1
theorem own_any {d : Nat} : ∀ {s : Sy} (g : List UInt8 → Bool), ownS (fun _ => false) d s = true → ownS g d s = true := by
  induction d with
  | zero => intro s g _; rfl
  | succ d ih =>
    intro s g h
    unfold ownS at *
    rw [foS, nOwn] at *
    split at h
    · cases h
    · rename_i hk
      rw [if_neg hk]
      rw [List.all_eq_true] at h ⊢
      intro b hb
      obtain ⟨c, hc, rfl⟩ := List.mem_map.1 hb
      exact ih g (h _ (List.mem_map_of_mem hc))
theorem first_rd : RdS 12 5 [(111, wFirst)] firstSy ∧ Hd [(111, wFirst)] :=
  ⟨RdS.one (d := 11) (w := (111, wFirst)) rfl rfl ⟨rfl, by rw [if_neg (by show ¬ 111 = 110; decide)]; rfl⟩, hd_one (w := (111, wFirst)) rfl⟩
/-- The words of the rules behind the first, with other brackets. -/
def polR (q : List ((Mk × Bool) × Sy × List (Nat × List UInt8))) : List (SyI × List (Nat × List UInt8)) := q.map fun r => (⟨[], r.1.2, r.2.1⟩, r.2.2)
theorem head_lex {al : Bool} {s : List UInt8} {ws : List (Nat × List UInt8)} (h : LX s ws) (hs : isD (s.getD 0 32) = false ∧ isL (s.getD 0 32) = false) : LX (headA al ++ s) ((107, if al then wAllow else wDeny) :: (107, wIf) :: ws) := by
  have h2 := (h.sp.kw (off_blank _) wIf (by decide)).sp
  unfold headA
  cases al with
  | true => exact h2.kw (off_blank _) wAllow (by decide)
  | false => exact h2.kw (off_blank _) wDeny (by decide)
theorem bareR_lex (fl : List Int) (q : List ((Mk × Bool) × Sy × List (Nat × List UInt8))) : (∀ r ∈ q, RlS fl r.1.1 r.2.1 r.2.2) → LX (bareR (q.map Prod.fst)) (polW (polR q)) := by
  induction q with
  | nil => intro _; exact LX.nil
  | cons r q ih =>
    intro h
    have hr := ih fun r hr => h r (by simp [hr])
    have h1 := (h r (by simp)).lx _ _ (LX.sp (LX.semi hr)) (off_blank _)
    have h2 := head_lex (al := r.1.2) h1.nl ⟨rfl, rfl⟩
    have e : bareR ((r :: q).map Prod.fst) = headA r.1.2 ++ (10 :: (r.1.1.bare ++ (32 :: 59 :: bareR (q.map Prod.fst)))) := by simp [bareR]
    have e2 : polW (polR (r :: q)) = (107, if r.1.2 then wAllow else wDeny) :: (107, wIf) :: (r.2.2 ++ ((115, [59]) :: polW (polR q))) := by simp [polW, polR, itemW, hW]
    rw [e, e2]; exact h2
theorem textR_print (fl : List Int) (q : List ((Mk × Bool) × Sy × List (Nat × List UInt8))) : (∀ r ∈ q, RlS fl r.1.1 r.2.1 r.2.2) → printS 12 ((polR q).map Prod.fst) = textR (q.map Prod.fst) := by
  induction q with
  | nil => intro _; rfl
  | cons r q ih =>
    intro h
    have hr := ih fun r hr => h r (by simp [hr])
    have hp := (h r (by simp)).ms.plain
    unfold printS textR polR at *
    simp only [List.map_cons, List.flatMap_cons]
    rw [hr, hp]
    rfl
/-- All of it. -/
def polA (r : (Mk × Bool) × Sy × List (Nat × List UInt8)) (q : List ((Mk × Bool) × Sy × List (Nat × List UInt8))) : List (SyI × List (Nat × List UInt8)) :=
  (⟨wFirst, false, r.2.1⟩, r.2.2) :: (⟨[], r.1.2, firstSy⟩, (115, [40]) :: ([(111, wFirst)] ++ [(115, [41])])) :: polR q
theorem bareW_lex (fl : List Int) {r : (Mk × Bool) × Sy × List (Nat × List UInt8)} {q : List ((Mk × Bool) × Sy × List (Nat × List UInt8))} (hr : RlS fl r.1.1 r.2.1 r.2.2) (hq : ∀ r ∈ q, RlS fl r.1.1 r.2.1 r.2.2) : LX (bareW ((r :: q).map Prod.fst)) (polW (polA r q)) := by
  have h0 := bareR_lex fl q hq
  have hfk : isKw wFirst = false := by decide
  have h1 := (LX.semi h0).shut.letters (w := wFirst) (off_shut _) (by decide) (by decide) (k := 111) (.inr ⟨hfk, by decide, rfl⟩)
  have h2 := head_lex (al := r.1.2) h1.opn ⟨rfl, rfl⟩
  have h3 := hr.lx _ _ (LX.semi h2) (off_cons (by decide) _)
  have h4 : LX (61 :: _) _ := h3.sign (by decide)
  have h5 := (h4.letters (w := wFirst) (off_cons (by decide) _) (by decide) (by decide) (k := 111) (.inr ⟨hfk, by decide, rfl⟩)).sp.kw (off_blank _) wLet (by decide)
  have e : bareW ((r :: q).map Prod.fst) = wLet ++ (32 :: (wFirst ++ (61 :: (r.1.1.bare ++ (59 :: (headA r.1.2 ++ (40 :: (wFirst ++ (41 :: 59 :: bareR (q.map Prod.fst)))))))))) := by simp [bareW, wsLet, wLet]
  have e2 : polW (polA r q) = (107, wLet) :: (111, wFirst) :: (115, [61]) :: (r.2.2 ++ ((115, [59]) :: (107, if r.1.2 then wAllow else wDeny) :: (107, wIf) :: (115, [40]) :: (111, wFirst) :: (115, [41]) :: (115, [59]) :: polW (polR q))) := by simp [polW, polA, itemW, hW, wFirst]
  rw [e, e2]; exact h5
theorem textW_print (fl : List Int) {r : (Mk × Bool) × Sy × List (Nat × List UInt8)} {q : List ((Mk × Bool) × Sy × List (Nat × List UInt8))} (hr : RlS fl r.1.1 r.2.1 r.2.2) (hq : ∀ r ∈ q, RlS fl r.1.1 r.2.1 r.2.2) : printS 12 ((polA r q).map Prod.fst) = textW ((r :: q).map Prod.fst) := by
  have h := textR_print fl q hq
  have hp := hr.ms.plain
  unfold printS polA at *
  simp only [List.map_cons, List.flatMap_cons]
  rw [h, hp]
  have e1 : headS ⟨wFirst, false, r.2.1⟩ = wsLet ++ wFirst ++ wsEq := rfl
  have e2 : headS ⟨[], r.1.2, firstSy⟩ = headA r.1.2 := rfl
  have e3 : plainS 12 firstSy = wFirst := rfl
  rw [e1, e2, e3]
  simp [textW]
theorem polA_rd (fl : List Int) {r : (Mk × Bool) × Sy × List (Nat × List UInt8)} {q : List ((Mk × Bool) × Sy × List (Nat × List UInt8))} (hr : RlS fl r.1.1 r.2.1 r.2.2) (hq : ∀ r ∈ q, RlS fl r.1.1 r.2.1 r.2.2) : ∀ p ∈ polA r q, RdS 12 6 p.2 p.1.sy ∧ (p.1.name ≠ [] → p.1.allow = false) := by
  intro p hp
  rcases List.mem_cons.1 hp with rfl | hp
  · exact ⟨hr.ms.rd, fun _ => rfl⟩
  rcases List.mem_cons.1 hp with rfl | hp
  · exact ⟨((first_rd.1.out first_rd.2 (Nat.le_refl 6)).brackets).out (hd_brackets _) (Nat.le_refl 6), fun h => absurd rfl h⟩
  · obtain ⟨x, hx, rfl⟩ := List.mem_map.1 hp
    exact ⟨(hq x hx).ms.rd, fun h => absurd rfl h⟩
theorem polA_sh (fl : List Int) {r : (Mk × Bool) × Sy × List (Nat × List UInt8)} {q : List ((Mk × Bool) × Sy × List (Nat × List UInt8))} (hr : RlS fl r.1.1 r.2.1 r.2.2) (hq : ∀ r ∈ q, RlS fl r.1.1 r.2.1 r.2.2) : ∀ s ∈ (polA r q).map Prod.fst, ShS 12 s.sy ∧ NameOK s := by
  have hfs : ShS 12 firstSy := ⟨.inl ⟨rfl, .inr (.inl ⟨rfl, by decide, by decide, by decide, by decide⟩)⟩, by intro c hc; cases hc⟩
  intro s hs
  obtain ⟨p, hp, rfl⟩ := List.mem_map.1 hs
  rcases List.mem_cons.1 hp with rfl | hp
  · exact ⟨hr.ms.sh, .inr ⟨(by decide : ∀ c ∈ wFirst, isL c = true), (by decide : isKw wFirst = false), (by decide : wFirst.length ≤ 8), rfl⟩⟩
  rcases List.mem_cons.1 hp with rfl | hp
  · exact ⟨hfs, .inl rfl⟩
  · obtain ⟨x, hx, rfl⟩ := List.mem_map.1 hp
    exact ⟨(hq x hx).ms.sh, .inl rfl⟩
/-- What is asked of a rule. -/
structure RS1 (fl : List Int) (m : Mk) (s : Sy) : Prop where
  cnt : cS 12 s ≤ 47
  dep : dS 12 s ≤ 12
  own : ∀ g, ownS g 12 s = true
  ty : ∀ xs its, tyS xs its 12 s = 116
  tell : ∀ xs vals, tellS xs vals fl 12 s = m.told
theorem RlS.one {fl : List Int} {m : Mk} {s : Sy} {wb : List (Nat × List UInt8)} (h : RlS fl m s wb) (hm : MkOK fl 116 m) : RS1 fl m s :=
  ⟨by have := h.ms.few; have := hm.text; omega, Nat.le_trans h.ms.dep hm.deep, fun g => own_any g h.ms.own, h.ms.ty, h.ms.tell⟩
theorem first_one : cS 12 firstSy = 1 ∧ dS 12 firstSy = 1 := ⟨rfl, rfl⟩
theorem polA_ok (fl : List Int) {r : (Mk × Bool) × Sy × List (Nat × List UInt8)} {q : List ((Mk × Bool) × Sy × List (Nat × List UInt8))} (hr : RS1 fl r.1.1 r.2.1) (hq : ∀ r ∈ q, RS1 fl r.1.1 r.2.1) (hl : q.length ≤ 2) :
    OkS 12 ((polA r q).map Prod.fst) ∧ (meanS (((polA r q).map Prod.fst).map itmOf) fl 12 ((polA r q).map Prod.fst) [] 0).getD (false, 0) = saysW ((r :: q).map Prod.fst) 0 := by
  obtain ⟨⟨m, al⟩, s, wb⟩ := r
  simp only [] at hr
  have c1 := hr.cnt
  have d1 := hr.dep
  have t1 := hr.ty
  have o1 := hr.own
  have v1 := hr.tell
  have tf : ∀ (xs : List Itm) (its : List UInt8), tyS xs its 12 firstSy = UInt8.ofNat ((its.getD (letIx xs wFirst its.length).toNat 0).toNat) := fun xs its => rfl
  have of : ∀ g, ownS g 12 firstSy = g wFirst := fun g => rfl
  have vf : ∀ (xs : List Itm) (vals : List Int), tellS xs vals fl 12 firstSy = vals.getD (letIx xs wFirst vals.length).toNat 0 := fun xs vals => rfl
  obtain ⟨fc, fd⟩ := first_one
  match q, hq, hl with
  | [], _, _ =>
    refine ⟨⟨?_, ?_, ?_⟩, ?_⟩
    · simp [polA, polR, manyS, fc, fd, wFirst]; omega
    · simp [polA, polR, namesS, o1, of, goodIn, itmOf, letIx, wFirst]
    · simp [polA, polR, typesS, t1, tf, itmOf, letIx, wFirst]
    · simp [polA, polR, meanS, v1, vf, itmOf, letIx, wFirst, saysW]
      split <;> simp
  | [⟨⟨m2, al2⟩, s2, wb2⟩], hq, _ =>
    have h2 := hq ⟨⟨m2, al2⟩, s2, wb2⟩ (by simp)
    simp only [] at h2
    have c2 := h2.cnt
    have d2 := h2.dep
    have t2 := h2.ty
    have o2 := h2.own
    have v2 := h2.tell
    refine ⟨⟨?_, ?_, ?_⟩, ?_⟩
    · simp [polA, polR, manyS, fc, fd, wFirst]; omega
    · simp [polA, polR, namesS, o1, o2, of, goodIn, itmOf, letIx, wFirst]
    · simp [polA, polR, typesS, t1, t2, tf, itmOf, letIx, wFirst]
    · simp [polA, polR, meanS, v1, v2, vf, itmOf, letIx, wFirst, saysW]
      (repeat' split) <;> simp_all
  | [⟨⟨m2, al2⟩, s2, wb2⟩, ⟨⟨m3, al3⟩, s3, wb3⟩], hq, _ =>
    have h2 := hq ⟨⟨m2, al2⟩, s2, wb2⟩ (by simp)
    have h3 := hq ⟨⟨m3, al3⟩, s3, wb3⟩ (by simp)
    simp only [] at h2 h3
    have c2 := h2.cnt
    have d2 := h2.dep
    have t2 := h2.ty
    have o2 := h2.own
    have v2 := h2.tell
    have c3 := h3.cnt
    have d3 := h3.dep
    have t3 := h3.ty
    have o3 := h3.own
    have v3 := h3.tell
    refine ⟨⟨?_, ?_, ?_⟩, ?_⟩
    · simp [polA, polR, manyS, fc, fd, wFirst]; omega
    · simp [polA, polR, namesS, o1, o2, o3, of, goodIn, itmOf, letIx, wFirst]
    · simp [polA, polR, typesS, t1, t2, t3, tf, itmOf, letIx, wFirst]
    · simp [polA, polR, meanS, v1, v2, v3, vf, itmOf, letIx, wFirst, saysW]
      (repeat' split) <;> simp_all
theorem wits {fl : List Int} (q : List (Mk × Bool)) : Good3 fl q → ∃ Q : List ((Mk × Bool) × Sy × List (Nat × List UInt8)), Q.map Prod.fst = q ∧ ∀ r ∈ Q, RlS fl r.1.1 r.2.1 r.2.2 ∧ RS1 fl r.1.1 r.2.1 := by
  induction q with
  | nil => intro _; exact ⟨[], rfl, by simp⟩
  | cons r q ih =>
    intro h
    obtain ⟨Q, h1, h2⟩ := ih fun r hr => h r (by simp [hr])
    have hm := h r (by simp)
    obtain ⟨s, wb, hs⟩ := hm.rl
    refine ⟨(r, s, wb) :: Q, by simp [h1], fun x hx => ?_⟩
    rcases List.mem_cons.1 hx with rfl | hx
    · exact ⟨hs, hs.one hm⟩
    · exact h2 x hx
theorem textR_len {fl : List Int} (q : List (Mk × Bool)) : Good3 fl q → (textR q).length ≤ q.length * 151 ∧ (bareR q).length ≤ q.length * 152 := by
  induction q with
  | nil => intro _; simp [textR, bareR]
  | cons r q ih =>
    intro h
    obtain ⟨h1, h2⟩ := ih fun r hr => h r (by simp [hr])
    have hm := h r (by simp)
    have ht := hm.text
    have hb := hm.bare
    have ha : (headA r.2).length ≤ 9 := by cases r.2 <;> decide
    unfold textR bareR at *
    simp only [List.flatMap_cons, List.length_append, List.length_cons, List.length_nil]
    omega
/-- What is written is a policy, printed as such, that says so. -/
theorem written_ok {fl : List Int} {q : List (Mk × Bool)} (hq : Good3 fl q) (hl : q.length ≤ 3) :
    (readOf (textW q)).1 = (0, 0) ∧ textOf (textW q) = textW q ∧ meanOf (textW q) fl = saysW q 0 ∧ (readOf (bareW q)).1 = (0, 0) ∧ textOf (bareW q) = textW q ∧ meanOf (bareW q) fl = saysW q 0 := by
  cases q with
  | nil =>
    have h : OkS 12 [] := ⟨rfl, rfl, rfl⟩
    have e : textW [] = [] := rfl
    have e2 : bareW [] = [] := rfl
    have := text_pol (d := 12) (l := []) (pol := []) (by simp) LX.nil (by simp) h
    have m := mean_pol (d := 12) (l := []) (pol := []) fl (by simp) LX.nil (by simp) h
    rw [e, e2]
    exact ⟨this.1, this.2, m, this.1, this.2, m⟩
  | cons r q =>
    obtain ⟨Q, e, hQ⟩ := wits _ hq
    cases Q with
    | nil => simp at e
    | cons R Q =>
      simp at e
      obtain ⟨rfl, rfl⟩ := e
      have hR := hQ R (by simp)
      have hQ1 : ∀ r ∈ Q, RlS fl r.1.1 r.2.1 r.2.2 := fun r hr => (hQ r (by simp [hr])).1
      have hQ2 : ∀ r ∈ Q, RS1 fl r.1.1 r.2.1 := fun r hr => (hQ r (by simp [hr])).2
      have hlq : Q.length ≤ 2 := by simp at hl; omega
      obtain ⟨ok, ms⟩ := polA_ok fl hR.2 hQ2 hlq
      have hp := textW_print fl hR.1 hQ1
      have hx := bareW_lex fl hR.1 hQ1
      have hrd := polA_rd fl hR.1 hQ1
      have hsh := polA_sh fl hR.1 hQ1
      obtain ⟨k1, k2⟩ := textR_len (fl := fl) (Q.map Prod.fst) (fun r hr => hq r (by simp only [List.mem_cons]; exact .inr hr))
      have hm := hq R.1 (by simp)
      have ht := hm.text
      have hb := hm.bare
      have ha : (headA R.1.2).length ≤ 9 := by cases R.1.2 <;> decide
      simp only [List.map_cons] at hp hx ms
      simp only [List.length_map] at k1 k2
      have lt : (textW (R.1 :: Q.map Prod.fst)).length ≤ 1000 := by
        simp [textW, wsLet, wFirst, wsEq]; omega
      have lb : (bareW (R.1 :: Q.map Prod.fst)).length ≤ 1000 := by
        simp [bareW, wsLet, wFirst]; omega
      have b1 := text_pol lb hx hrd ok
      have b2 := mean_pol fl lb hx hrd ok
      have t0 := print_lex ((polA R Q).map Prod.fst) hsh
      rw [hp] at t0
      have trd := printed_rd hsh
      have ef := fst_map (pol := (polA R Q).map Prod.fst) (fun s => wordsF 12 s)
      have t1 := text_pol lt t0 trd (by rw [ef]; exact ok)
      have t2 := mean_pol fl lt t0 trd (by rw [ef]; exact ok)
      rw [ef] at t1 t2
      rw [hp] at t1 b1
      rw [ms] at t2 b2
      exact ⟨t1.1, t1.2, t2, b1.1, b1.2, b2⟩
end Go.Proofs.YtfkdailfcmnjlaaGreatDoor

namespace Go.Proofs.YtfkdailfcmnjlaaGreatDoor
open Go Go.RowKit
set_option maxRecDepth 100000
attribute [local go_sem ↓] Go.wp_at_zero Go.wp_at_succ

theorem dig_ex {n : Nat} (h : n < 10) : (ByteArray.mk #[48, 49, 50, 51, 52, 53, 54, 55, 56, 57]).extract n (n + 1) = ByteArray.mk #[UInt8.ofNat (48 + n)] := by
  have : n = 0 ∨ n = 1 ∨ n = 2 ∨ n = 3 ∨ n = 4 ∨ n = 5 ∨ n = 6 ∨ n = 7 ∨ n = 8 ∨ n = 9 := by omega
  rcases this with rfl | rfl | rfl | rfl | rfl | rfl | rfl | rfl | rfl | rfl <;> decide
set_option maxHeartbeats 1000000 in
theorem digits_any (f : Nat) : ∀ (n : Nat) (w : World), n < 10 ^ f → n ≤ 9223372036854775807 → 0 < f → f ≤ 30 → Calls Tryz.prog 70 #[.int .i64 n] w fun e w' => e = .returned (S (tensF f n)) ∧ Below w.heap.size w w' := by
  induction f with
  | zero => intro n w _ _ h; omega
  | succ f ih =>
    intro n w hn hm _ hf
    by_cases h : n < 10
    · have HE : Hid (tensF (f + 1) n = [UInt8.ofNat (48 + n)]) := by show _ = _; rw [tensF, if_pos h]
      generalize tensF (f + 1) n = r at *
      have hx := dig_ex h
      have hb : (0 : Int) ≤ (n : Int) ∧ (n : Int) ≤ (n : Int) + 1 ∧ (n : Int) + 1 ≤ 10 := by omega
      have hi : (n : Int) < 10 := by omega
      clear ih hn
      generalize UInt8.ofNat (48 + n) = d at *
      go_enter Tryz.func70, Tryz.ntmps70
      go_wp2_with fail
      go_ret
      exact ⟨by rw [HE.out]; rfl, by first | exact Below.refl _ _ | exact (Below.refl _ _).drew⟩
    · have HE : Hid (tensF (f + 1) n = tensF f (n / 10) ++ [UInt8.ofNat (48 + n % 10)]) := by show _ = _; rw [tensF, if_neg h]
      generalize tensF (f + 1) n = r at *
      have hf0 : 0 < f := by
        rcases Nat.eq_zero_or_pos f with rfl | h0
        · simp at hn; omega
        · exact h0
      rw [Nat.pow_succ] at hn
      have HI := fun w => ih (n / 10) w (by omega) (by omega) hf0 (by omega)
      have hl := tensF_len f (n / 10)
      have hx := dig_ex (n := n % 10) (by omega)
      have hi : ¬ (n : Int) < 10 := by omega
      have hq : IntKind.i64.wrap ((n / 10 : Nat) : Int) = ((n / 10 : Nat) : Int) := wrap_small (by omega) (by omega)
      have hq2 : (n : Int).tdiv 10 = ((n / 10 : Nat) : Int) := by
        rw [Int.tdiv_eq_ediv_of_nonneg (by omega)]; omega
      have ht : (n : Int).tmod 10 = ((n % 10 : Nat) : Int) := by
        rw [Int.tmod_eq_emod_of_nonneg (by omega)]; omega
      have hm9 : n % 10 < 10 := by omega
      generalize UInt8.ofNat (48 + n % 10) = d at *
      generalize n % 10 = m at *
      generalize tensF f (n / 10) = t at *
      generalize n / 10 = q at *
      clear ih hn
      have hb2 : (0 : Int) ≤ (m : Int) ∧ (m : Int) ≤ (m : Int) + 1 ∧ (m : Int) + 1 ≤ 10 := by omega
      have hs1 : ¬ 9223372036854775807 < t.length + 1 := by omega
      have hmw : IntKind.i64.wrap (m : Int) = (m : Int) := wrap_small (by omega) (by omega)
      have hmw1 : IntKind.i64.wrap ((m : Int) + 1) = (m : Int) + 1 := wrap_small (by omega) (by omega)
      have hmi : (0 : Int) ≤ (m : Int) := by omega
      have hmj : (m : Int) ≤ (m : Int) + 1 := by omega
      have hmk : (m : Int) + 1 ≤ 10 := by omega
      have hml : m + 1 ≤ 10 := by omega
      go_enter Tryz.func70, Tryz.ntmps70
      go_wp2_with fail
      go_region_with ((go_at_call 70; refine (HI _).mono ?_; rintro e w1 ⟨rfl, hb⟩))
      all_goals go_wp2_with fail
      all_goals go_ret
      all_goals refine ⟨by rw [HE.out]; exact congrArg (fun s => Ending.returned (Value.string s)) (rba_cat t [d]), ?_⟩
      all_goals first
        | exact hb
        | exact hb.drew
        | exact (Below.refl _ _).drew.trans hb
end Go.Proofs.YtfkdailfcmnjlaaGreatDoor

namespace Go.Proofs.YtfkdailfcmnjlaaGreatDoor
open Go Go.RowKit
set_option maxRecDepth 100000
attribute [local go_sem ↓] Go.wp_at_zero Go.wp_at_succ

/-- What the loan lies in. -/
structure LoanAt (w wx : World) (lb g1 g2 n m : Nat) (f1 f2 : Nat → List UInt8 × Int) : Prop where
  bl : Below w.heap.size w wx
  p1 : w.heap.size + 1 < g1
  p2 : w.heap.size + 1 < g2
  p3 : w.heap.size + 1 < lb
  n12 : g1 ≠ g2
  n13 : g1 ≠ lb
  n23 : g2 ≠ lb
  loan : wx.heap[lb]? = some (.cells #[.slice (some ⟨g1, 0, none⟩) (n + 8) (n + 8), .slice (some ⟨g2, 0, none⟩) (m + 8) (m + 8)] 106 (0, 0))
  row1 : PairRow wx g1 108 (n + 8) f1
  row2 : PairRow wx g2 110 (m + 8) f2
theorem LoanAt.set {w wx : World} {lb g1 g2 n m : Nat} {f1 f2 : Nat → List UInt8 × Int} (h : LoanAt w wx lb g1 g2 n m f1 f2) (j : Nat) (v : Value) : LoanAt w (wx.setCell ⟨w.heap.size + 1, j, none⟩ v) lb g1 g2 n m f1 f2 := by
  have e1 := h.p1
  have e2 := h.p2
  have e3 := h.p3
  exact ⟨h.bl.setCell (by simp) _, h.p1, h.p2, h.p3, h.n12, h.n13, h.n23, (Below.heap_setCell _ _ _ _ (by simp; omega)).trans h.loan, h.row1.of_block (Below.heap_setCell _ _ _ _ (by simp; omega)), h.row2.of_block (Below.heap_setCell _ _ _ _ (by simp; omega))⟩
theorem LoanAt.drew {w wx : World} {lb g1 g2 n m : Nat} {f1 f2 : Nat → List UInt8 × Int} (h : LoanAt w wx lb g1 g2 n m f1 f2) : LoanAt w wx.drew lb g1 g2 n m f1 f2 :=
  ⟨h.bl.drew, h.p1, h.p2, h.p3, h.n12, h.n13, h.n23, h.loan, h.row1.of_block rfl, h.row2.of_block rfl⟩
theorem LoanAt.below {w wx wy : World} {lb g1 g2 n m : Nat} {f1 f2 : Nat → List UInt8 × Int} (h : LoanAt w wx lb g1 g2 n m f1 f2) (hb : Below wx.heap.size wx wy) : LoanAt w wy lb g1 g2 n m f1 f2 := by
  obtain ⟨cs1, hc1, _⟩ := h.row1.blk
  obtain ⟨cs2, hc2, _⟩ := h.row2.blk
  exact ⟨h.bl.trans (hb.mono h.bl.size), h.p1, h.p2, h.p3, h.n12, h.n13, h.n23, (hb.block _ (lt_of_get h.loan)).trans h.loan, h.row1.of_block (hb.block _ (lt_of_get hc1)), h.row2.of_block (hb.block _ (lt_of_get hc2))⟩
end Go.Proofs.YtfkdailfcmnjlaaGreatDoor

namespace Go.Proofs.YtfkdailfcmnjlaaGreatDoor
open Go Go.RowKit
set_option maxRecDepth 100000

/-- Types are below four; a stack has none of those that are not known. -/
def Tys (l : List Nat) : Prop := ∀ t ∈ l, t < 4
def Tys1 (l : List Nat) : Prop := ∀ t ∈ l, 1 ≤ t ∧ t < 4
end Go.Proofs.YtfkdailfcmnjlaaGreatDoor

namespace Go.Proofs.YtfkdailfcmnjlaaGreatDoor
open Go Go.RowKit
set_option maxRecDepth 100000
attribute [local go_sem ↓] Go.wp_at_zero Go.wp_at_succ

/-- All but some blocks is as it was. -/
structure Only (F : Nat → Prop) (w w' : World) : Prop where
  os : w'.os = w.os
  tape : w'.tape = w.tape
  output : w'.output = w.output
  size : w.heap.size ≤ w'.heap.size
  block : ∀ k, k < w.heap.size → ¬ F k → w'.heap[k]? = w.heap[k]?
theorem Only.refl (F : Nat → Prop) (w : World) : Only F w w := ⟨rfl, rfl, rfl, Nat.le_refl _, fun _ _ _ => rfl⟩
theorem Only.trans {F G H : Nat → Prop} {a b c : World} (h : Only F a b) (k : Only G b c) (hF : ∀ i, i < a.heap.size → F i → H i) (hG : ∀ i, i < a.heap.size → G i → H i) : Only H a c :=
  ⟨k.os.trans h.os, k.tape.trans h.tape, k.output.trans h.output, Nat.le_trans h.size k.size, fun i hi hn => (k.block i (Nat.lt_of_lt_of_le hi h.size) (fun g => hn (hG i hi g))).trans (h.block i hi (fun f => hn (hF i hi f)))⟩
theorem Only.weak {F G : Nat → Prop} {a b : World} (h : Only F a b) (hF : ∀ i, i < a.heap.size → F i → G i) : Only G a b :=
  ⟨h.os, h.tape, h.output, h.size, fun i hi hn => h.block i hi (fun f => hn (hF i hi f))⟩
theorem Only.drew {F : Nat → Prop} {a b : World} (h : Only F a b) : Only F a b.drew := ⟨h.os, h.tape, h.output, h.size, h.block⟩
theorem Only.alloc {F : Nat → Prop} {a b : World} (h : Only F a b) (o : Obj) : Only F a (b.alloc o) :=
  ⟨h.os, h.tape, h.output, by have := h.size; simp; omega, fun i hi hn => (Below.heap_alloc b o i (Nat.lt_of_lt_of_le hi h.size)).trans (h.block i hi hn)⟩
theorem Only.setCell {F : Nat → Prop} {a b : World} (h : Only F a b) {p o : Nat} (hp : F p ∨ a.heap.size ≤ p) (v : Value) : Only F a (b.setCell ⟨p, o, none⟩ v) :=
  ⟨h.os, h.tape, h.output, by simpa using h.size, fun i hi hn => (Below.heap_setCell _ _ _ _ (by
    intro e; simp only [] at e; subst e; rcases hp with hp | hp
    · exact hn hp
    · omega)).trans (h.block i hi hn)⟩
theorem Only.grown {F : Nat → Prop} {a b c : World} (h : Only F a b) {row : Option Nat} (hg : b.grownBy c row) (hr : ∀ k, row = some k → F k ∨ a.heap.size ≤ k) : Only F a c :=
  ⟨hg.os.trans h.os, hg.tape.trans h.tape, hg.output.trans h.output, Nat.le_trans h.size hg.size, fun i hi hn => (hg.block i (Nat.lt_of_lt_of_le hi h.size) (fun e => by
    rcases hr i e.symm with hp | hp
    · exact hn hp
    · omega)).trans (h.block i hi hn)⟩
theorem Only.below {F : Nat → Prop} {a b : World} (h : Only F a b) {B : Nat} (hB : B ≤ a.heap.size) (hF : ∀ k, k < a.heap.size → F k → B ≤ k) : Below B a b :=
  ⟨h.os, h.tape, h.output, h.size, fun i hi => h.block i (by omega) (fun f => by have := hF i (by omega) f; omega)⟩
/-- A row of numbers that a value has for itself. -/
def IR (w : World) (e : TypeId) (v : Value) (l : List Int) : Prop := w.ownsRow 0 e 1 v l.length (l.map (Value.int .i64))
theorem IR.nil (w : World) (e : TypeId) : IR w e (.slice none 0 0) [] := World.ownsRow_nil _ _ _ _
theorem IR.sl {w : World} {e : TypeId} {v : Value} {l : List Int} (h : IR w e v l) : ∃ a cap, v = .slice a l.length cap := by
  obtain ⟨hl, h⟩ := h
  rcases h with ⟨rfl, h0⟩ | ⟨g, cap, cur, rfl, hb, hg, h1, h2, h3, h4⟩
  · exact ⟨none, 0, by rw [h0]⟩
  · exact ⟨_, _, rfl⟩
theorem IR.form {w : World} {e : TypeId} {v : Value} {l : List Int} (h : IR w e v l) (h0 : 0 < l.length) : ∃ g cap, v = .slice (some ⟨g, 0, none⟩) l.length cap ∧ g < w.heap.size := by
  obtain ⟨g, cap, e, _, hlt⟩ := World.ownsRow.form h h0
  exact ⟨g, cap, e, hlt⟩
theorem IR.cell {w : World} {e : TypeId} {g n cap : Nat} {l : List Int} (h : IR w e (.slice (some ⟨g, 0, none⟩) n cap) l) {k : Nat} (hk : k < l.length) : w.cell? ⟨g, k, none⟩ = some (.int .i64 (l.getD k 0)) := by
  have hn : n = l.length := by obtain ⟨a, c, e⟩ := h.sl; simp at e; exact e.2.1
  subst hn
  rw [World.ownsRow.cellAt h k (by omega)]
  simp [List.getD_eq_getElem?_getD, List.getElem?_eq_getElem hk]
theorem IR.only {w w' : World} {e : TypeId} {v : Value} {l : List Int} (h : IR w e v l) {F : Nat → Prop} (ho : Only F w w') (hn : ∀ g, v.ownBlock = some g → ¬ F g) : IR w' e v l :=
  ownsRow_of_block h (fun k hk => ho.block k (h.lt k hk).2 (hn k hk))
theorem IR.ne {w : World} {e ty : TypeId} {v : Value} {l : List Int} (h : IR w e v l) {p : Nat} {cs : Array Value} {z : Nat × Nat} (hp : w.heap[p]? = some (.cells cs ty z)) (hty : ty ≠ e) : v.ownBlock ≠ some p := fun hb => by
  obtain ⟨cs', h'⟩ := ownsRow_type h hb
  rw [hp] at h'; simp at h'; exact hty h'.2.1
theorem IR.set {w : World} {e : TypeId} {g cap : Nat} {l : List Int} (h : IR w e (.slice (some ⟨g, 0, none⟩) l.length cap) l) {j : Nat} (hj : j < l.length) (u : Int) : IR (w.setCell ⟨g, j, none⟩ (.int .i64 u)) e (.slice (some ⟨g, 0, none⟩) l.length cap) (l.set j u) := by
  obtain ⟨hl, h⟩ := h
  refine ⟨by simp, ?_⟩
  rcases h with ⟨h, _⟩ | ⟨g', cap', cur, h, h1, h2, h3, h4, h5, h6⟩
  · simp at h
  · simp only [Value.slice.injEq, Option.some.injEq, Addr.mk.injEq, and_true, true_and] at h
    obtain ⟨rfl, rfl⟩ := h
    refine .inr ⟨g, cap, cur.setIfInBounds j (.int .i64 u), by simp, h1, heap_setCell_same w g j _ _ _ h2, by simpa using h3, h4, by simpa using h5, ?_⟩
    rw [List.map_set, ← h6]
    simp [List.take_set]
end Go.Proofs.YtfkdailfcmnjlaaGreatDoor

namespace Go.Proofs.YtfkdailfcmnjlaaGreatDoor
open Go Go.RowKit
set_option maxRecDepth 100000
attribute [local go_sem ↓] Go.wp_at_zero Go.wp_at_succ

/-- A set in memory: the stack (the lowest first), the cells as far as something was learnt. -/
structure SetAt (w : World) (p : Nat) (vs vc : Value) (st c : List Int) : Prop where
  blk : w.heap[p]? = some (.cells #[vs, vc] 289 (0, 0))
  st : IR w 220 vs st
  cl : IR w 220 vc c
  ne : ∀ b, vs.ownBlock = some b → vc.ownBlock ≠ some b
/-- Its blocks. -/
def Foot (p : Nat) (vs vc : Value) (b : Nat) : Prop := b = p ∨ vs.ownBlock = some b ∨ vc.ownBlock = some b
theorem SetAt.lt {w : World} {p : Nat} {vs vc : Value} {st c : List Int} (h : SetAt w p vs vc st c) {b : Nat} (hb : Foot p vs vc b) : b < w.heap.size := by
  rcases hb with rfl | hb | hb
  · exact lt_of_get h.blk
  · exact (h.st.lt b hb).2
  · exact (h.cl.lt b hb).2
theorem SetAt.only {w w' : World} {p : Nat} {vs vc : Value} {st c : List Int} (h : SetAt w p vs vc st c) {F : Nat → Prop} (ho : Only F w w') (hF : ∀ b, Foot p vs vc b → ¬ F b) : SetAt w' p vs vc st c :=
  ⟨(ho.block p (lt_of_get h.blk) (hF p (.inl rfl))).trans h.blk, h.st.only ho (fun g hg => hF g (.inr (.inl hg))), h.cl.only ho (fun g hg => hF g (.inr (.inr hg))), h.ne⟩
theorem SetAt.drew {w : World} {p : Nat} {vs vc : Value} {st c : List Int} (h : SetAt w p vs vc st c) : SetAt w.drew p vs vc st c := ⟨h.blk, h.st, h.cl, h.ne⟩
/-- What an operation on a set leaves. -/
def SetOut (w w' : World) (p : Nat) (vs vc : Value) (st c : List Int) : Prop :=
  ∃ vs' vc', SetAt w' p vs' vc' st c ∧ Only (Foot p vs vc) w w' ∧ ∀ b, Foot p vs' vc' b → Foot p vs vc b ∨ w.heap.size ≤ b
theorem SetOut.refl {w : World} {p : Nat} {vs vc : Value} {st c : List Int} (h : SetAt w p vs vc st c) : SetOut w w p vs vc st c := ⟨vs, vc, h, Only.refl _ _, fun _ hb => .inl hb⟩
theorem SetOut.then {w w1 w2 : World} {p : Nat} {vs vc vs1 vc1 : Value} {st2 c2 : List Int} (ho : Only (Foot p vs vc) w w1) (hf : ∀ b, Foot p vs1 vc1 b → Foot p vs vc b ∨ w.heap.size ≤ b) (h2 : SetOut w1 w2 p vs1 vc1 st2 c2) : SetOut w w2 p vs vc st2 c2 := by
  obtain ⟨vs2, vc2, hs, ho2, hf2⟩ := h2
  refine ⟨vs2, vc2, hs, ho.trans ho2 (fun _ _ h => h) (fun i hi h => ?_), fun b hb => ?_⟩
  · rcases hf i h with h | h
    · exact h
    · omega
  · rcases hf2 b hb with h | h
    · exact hf b h
    · right; have := ho.size; omega
end Go.Proofs.YtfkdailfcmnjlaaGreatDoor

namespace Go.Proofs.YtfkdailfcmnjlaaGreatDoor
open Go Go.RowKit
set_option maxRecDepth 100000
attribute [local go_sem ↓] Go.wp_at_zero Go.wp_at_succ

theorem SetOut.only {w w' : World} {p : Nat} {vs vc : Value} {st c : List Int} (h : SetOut w w' p vs vc st c) : Only (Foot p vs vc) w w' := by
  obtain ⟨_, _, _, h, _⟩ := h; exact h
theorem SetOut.alloc {w w' : World} {p : Nat} {vs vc : Value} {st c : List Int} {o : Obj} (h : SetOut (w.alloc o) w' p vs vc st c) : SetOut w w' p vs vc st c :=
  SetOut.then ((Only.refl _ w).alloc o) (fun _ hb => .inl hb) h
end Go.Proofs.YtfkdailfcmnjlaaGreatDoor

namespace Go.Proofs.YtfkdailfcmnjlaaGreatDoor
open Go Go.RowKit
set_option maxRecDepth 100000
attribute [local go_sem ↓] Go.wp_at_zero Go.wp_at_succ

def insO (op : Nat) (n tw pl : Int) : Obj := .cells #[.int .i64 op, .int .i64 n, .int .i64 tw, .int .i64 pl] 247 (0, 0)
/-- What stands at the beginning of a change: the instruction's block is laid. -/
structure ChStart (w w1 : World) (p : Nat) (vs vc : Value) (st c : List Int) (op : Nat) (n tw pl : Int) : Prop where
  set : SetAt w1 p vs vc st c
  far : ∀ b, Foot p vs vc b → b < w.heap.size
  blk : w1.heap[w.heap.size]? = some (insO op n tw pl)
  siz : w.heap.size < w1.heap.size
  out : ∀ w' st c, SetOut w1 w' p vs vc st c → SetOut w w' p vs vc st c
  only : ∀ w', Only (Foot p vs vc) w1 w' → Only (Foot p vs vc) w w'
theorem ChStart.cells {w w1 : World} {p : Nat} {vs vc : Value} {st c : List Int} {op : Nat} {n tw pl : Int} (h : ChStart w w1 p vs vc st c op n tw pl) : w1.cell? ⟨w.heap.size, 0, none⟩ = some (.int .i64 op) ∧ w1.cell? ⟨w.heap.size, 1, none⟩ = some (.int .i64 n) ∧ w1.cell? ⟨w.heap.size, 2, none⟩ = some (.int .i64 tw) := by
  have hc := fun j => cell_of_row w1 _ j _ _ _ h.blk
  exact ⟨hc 0, hc 1, hc 2⟩
theorem SetOut.drew {w w' : World} {p : Nat} {vs vc : Value} {st c : List Int} (h : SetOut w w' p vs vc st c) : SetOut w w'.drew p vs vc st c := by
  obtain ⟨vs', vc', h1, h2, h3⟩ := h
  exact ⟨vs', vc', h1.drew, h2.drew, h3⟩
end Go.Proofs.YtfkdailfcmnjlaaGreatDoor

namespace Go.Proofs.YtfkdailfcmnjlaaGreatDoor
open Go Go.RowKit
set_option maxRecDepth 100000
attribute [local go_sem ↓] Go.wp_at_zero Go.wp_at_succ

/-- The table of effects. -/
def effL : List Int := [0, 0, 0, 0, 0, 1, 0, 0, 2, 0, 0, 3, 0, 0, 0, 0, 0, 0, 0, 0, 0, 2, 1, 1, 2, 1, 1, 0, 0, 0, 2, 1, 2, 2, 1, 2, 1, 2, 2, 2, 2, 2, 2, 2, 2, 1, 2, 0, 0, 0, 0, 0, 0, 0, 0, 0, 0]
def Ef (w : World) : Prop := ∀ j, j < 57 → w.cell? ⟨1, j, none⟩ = some (.int .i64 (effL.getD j 0))
theorem Ef.below {w w' : World} (h : Ef w) {B : Nat} (hB : 1 < B) (hb : Below B w w') : Ef w' := fun k hk => by rw [hb.cell (p := ⟨1, k, none⟩) hB]; exact h k hk
end Go.Proofs.YtfkdailfcmnjlaaGreatDoor

namespace Go.Proofs.YtfkdailfcmnjlaaGreatDoor
open Go Go.RowKit
set_option maxRecDepth 100000

/-- A stack's types as they lie in memory, the lowest first. -/
def stI (l : List Nat) : List Int := l.reverse.map fun (t : Nat) => (t : Int)
/-- What is known, as it lies in memory. -/
structure KnIs (k : Kn) (st c : List Int) : Prop where
  st : st = stI k.st
  len : c.length ≤ k.cl.length
  cl : ∀ i, c.getD i 0 = (k.cl.getD i 0 : Nat)
end Go.Proofs.YtfkdailfcmnjlaaGreatDoor

namespace Go.Proofs.YtfkdailfcmnjlaaGreatDoor
open Go Go.RowKit
set_option maxRecDepth 100000
attribute [local go_sem ↓] Go.wp_at_zero Go.wp_at_succ

/-- What is known at the places that may still be come tj, in memory; whose each block is. -/
structure ComeAt (w : World) (B g lo : Nat) (O : Nat → Nat) (come : List (Option Kn)) : Prop where
  blk : ∃ cs, w.heap[g]? = some (.cells cs 285 (0, 0)) ∧ cs.size = come.length
  non : ∀ j, lo ≤ j → j < come.length → come.getD j none = none → w.cell? ⟨g, j, none⟩ = some (.pointer none)
  som : ∀ j, lo ≤ j → j < come.length → ∀ k, come.getD j none = some k → ∃ p vs vc st c, w.cell? ⟨g, j, none⟩ = some (.pointer (some ⟨p, 0, none⟩)) ∧ SetAt w p vs vc st c ∧ KnIs k st c ∧ ∀ b, Foot p vs vc b → O b = j + 1
  own : O g = 0
  low : ∀ b, O b ≠ 0 → B ≤ b
  lowg : B ≤ g
  siz : B ≤ w.heap.size
end Go.Proofs.YtfkdailfcmnjlaaGreatDoor

namespace Go.Proofs.YtfkdailfcmnjlaaGreatDoor
open Go Go.RowKit
set_option maxRecDepth 100000
attribute [local go_sem ↓] Go.wp_at_zero Go.wp_at_succ

theorem ComeAt.lt {w : World} {B g lo : Nat} {O : Nat → Nat} {come : List (Option Kn)} (h : ComeAt w B g lo O come) : g < w.heap.size := by
  obtain ⟨cs, hc, _⟩ := h.blk; exact lt_of_get hc
/-- What bringing leaves. -/
def ComeOut (O : Nat → Nat) (w w' : World) (B g lo : Nat) (come : List (Option Kn)) (i p : Nat) (vs vc : Value) (st c : List Int) : Prop :=
  ∃ O', ComeAt w' B g lo O' come ∧ SetAt w' p vs vc st c ∧ (∀ b, Foot p vs vc b → O' b = i + 1) ∧ Below B w w' ∧ ∀ b, b < w.heap.size → b ≠ g → O b = 0 → O' b = 0 ∧ w'.heap[b]? = w.heap[b]?
theorem ComeAt.below {w w' : World} {B g lo j : Nat} {O : Nat → Nat} {come : List (Option Kn)} (h : ComeAt w B g lo O come) (ho : Only (fun b => b = g ∨ O b = j + 1) w w') : Below B w w' :=
  ho.below h.siz (fun b _ hb => by
    rcases hb with rfl | hb
    · exact h.lowg
    · exact h.low b (by omega))
end Go.Proofs.YtfkdailfcmnjlaaGreatDoor

namespace Go.Proofs.YtfkdailfcmnjlaaGreatDoor
open Go Go.RowKit
set_option maxRecDepth 100000

/-- Where a jump comes tw, as the program keeps it. -/
def toOf (ins : List Ins) (x : Ins) : Int := if x.op = 15 ∨ x.op = 16 then (((jumpTo ins x).getD 0 : Nat) : Int) else 0
/-- A code in memory. -/
structure CodeAt (w : World) (cp gi cap cells depth : Nat) (ins : List Ins) : Prop where
  blk : w.heap[cp]? = some (.cells #[.int .i64 cells, .slice (some ⟨gi, 0, none⟩) ins.length cap, .int .i64 depth] 253 (0, 0))
  op : ∀ i, i < ins.length → w.cell? ⟨gi, i * 4, none⟩ = some (.int .i64 ((ins.getD i noIns).op : Nat))
  num : ∀ i, i < ins.length → w.cell? ⟨gi, i * 4 + 1, none⟩ = some (.int .i64 (ins.getD i noIns).n)
  tos : ∀ i, i < ins.length → w.cell? ⟨gi, i * 4 + 2, none⟩ = some (.int .i64 (toOf ins (ins.getD i noIns)))
  pls : ∀ i, i < ins.length → w.cell? ⟨gi, i * 4 + 3, none⟩ = some (.int .i64 ((ins.getD i noIns).pl : Nat))
theorem CodeAt.below {w w' : World} {cp gi cap cells depth : Nat} {ins : List Ins} (h : CodeAt w cp gi cap cells depth ins) (hb : Below w.heap.size w w') : CodeAt w' cp gi cap cells depth ins := by
  have hc : ∀ {o : Nat} {v : Value}, w.cell? ⟨gi, o, none⟩ = some v → w'.cell? ⟨gi, o, none⟩ = some v := fun {o v} e => by
    rw [hb.cell (World.block_lt_of_cell? w _ e)]; exact e
  exact ⟨(hb.block cp (lt_of_get h.blk)).trans h.blk, fun i hi => hc (h.op i hi), fun i hi => hc (h.num i hi), fun i hi => hc (h.tos i hi), fun i hi => hc (h.pls i hi)⟩
/-- What is known is of types. -/
def ComeTy (cells : Nat) (come : List (Option Kn)) : Prop := ∀ j k, come.getD j none = some k → Tys1 k.st ∧ Tys k.cl ∧ k.cl.length = cells ∧ k.st.length ≤ 24
theorem ComeTy.set {cells : Nat} {come : List (Option Kn)} (h : ComeTy cells come) {j : Nat} {k : Kn} (hk : Tys1 k.st ∧ Tys k.cl ∧ k.cl.length = cells ∧ k.st.length ≤ 24) : ComeTy cells (come.set j (some k)) := fun i k' e => by
  by_cases hij : j = i
  · subst hij
    by_cases hl : j < come.length
    · rw [getD_set_eq hl] at e; obtain rfl := Option.some.inj e; exact hk
    · rw [List.set_eq_of_length_le (by omega)] at e; exact h j k' e
  · rw [getD_set_ne hij] at e; exact h i k' e
/-- Between the ways of an instruction. -/
structure InI (w wi : World) (cells : Nat) (ins : List Ins) (i p : Nat) (vs vc : Value) (st c : List Int) (v : Value) (L : List Int) (k : Kn) (come : List (Option Kn)) (leads : List (Option Nat)) (m : Nat) (O : Nat → Nat) (come' : List (Option Kn)) : Prop where
  at_ : ComeAt wi w.heap.size w.heap.size (i + 1) O come'
  len : come'.length = ins.length
  set : SetAt wi p vs vc st c
  own : ∀ b, Foot p vs vc b → O b = i + 1
  row : IR wi 3 v L
  rowO : ∀ b, v.ownBlock = some b → O b = 0
  bel : Below w.heap.size w wi
  bri : bringK come k leads = bringK come' k (leads.drop m)
  typ : ComeTy cells come'
theorem InI.next {w wi w' : World} {cells : Nat} {ins : List Ins} {i p : Nat} {vs vc : Value} {st c : List Int} {v : Value} {L : List Int} {k : Kn} {come : List (Option Kn)} {leads : List (Option Nat)} {m : Nat} {O : Nat → Nat} {come' : List (Option Kn)} (h : InI w wi cells ins i p vs vc st c v L k come leads m O come') {j : Nat} {kk : Kn}
    (hout : ComeOut O wi w' w.heap.size w.heap.size (i + 1) (come'.set j (some kk)) i p vs vc st c) (hb : bringK come' k (leads.drop m) = bringK (come'.set j (some kk)) k (leads.drop (m + 1))) (hk : Tys1 kk.st ∧ Tys kk.cl ∧ kk.cl.length = cells ∧ kk.st.length ≤ 24) : ∃ O', InI w w' cells ins i p vs vc st c v L k come leads (m + 1) O' (come'.set j (some kk)) := by
  obtain ⟨O', h1, h2, h3, h4, h5⟩ := hout
  obtain ⟨cs, hc, _⟩ := h.at_.blk
  have hg : v.ownBlock ≠ some w.heap.size := h.row.ne hc (by decide)
  have hr : ∀ b, v.ownBlock = some b → O' b = 0 ∧ w'.heap[b]? = wi.heap[b]? := fun b hb => h5 b (h.row.lt b hb).2 (fun e => hg (by rw [← e]; exact hb)) (h.rowO b hb)
  exact ⟨O', h1, by simpa using h.len, h2, h3, ownsRow_of_block h.row (fun b hb => (hr b hb).2), fun b hb => (hr b hb).1, h.bel.trans h4, h.bri.trans hb, h.typ.set hk⟩
end Go.Proofs.YtfkdailfcmnjlaaGreatDoor

namespace Go.Proofs.YtfkdailfcmnjlaaGreatDoor
open Go Go.RowKit
set_option maxRecDepth 100000
attribute [local go_sem ↓] Go.wp_at_zero Go.wp_at_succ

/-- A row of instructions in memory, whatever their jumps come tw. -/
structure RowQ (w : World) (gi n : Nat) (fo fn ft fp : Nat → Int) : Prop where
  op : ∀ i, i < n → w.cell? ⟨gi, i * 4, none⟩ = some (.int .i64 (fo i))
  num : ∀ i, i < n → w.cell? ⟨gi, i * 4 + 1, none⟩ = some (.int .i64 (fn i))
  tos : ∀ i, i < n → w.cell? ⟨gi, i * 4 + 2, none⟩ = some (.int .i64 (ft i))
  pls : ∀ i, i < n → w.cell? ⟨gi, i * 4 + 3, none⟩ = some (.int .i64 (fp i))
theorem RowQ.below {w w' : World} {gi n : Nat} {fo fn ft fp : Nat → Int} (h : RowQ w gi n fo fn ft fp) (hb : Below w.heap.size w w') : RowQ w' gi n fo fn ft fp := by
  have hc : ∀ {o : Nat} {v : Value}, w.cell? ⟨gi, o, none⟩ = some v → w'.cell? ⟨gi, o, none⟩ = some v := fun {o v} e => by
    rw [hb.cell (World.block_lt_of_cell? w _ e)]; exact e
  exact ⟨fun i hi => hc (h.op i hi), fun i hi => hc (h.num i hi), fun i hi => hc (h.tos i hi), fun i hi => hc (h.pls i hi)⟩
end Go.Proofs.YtfkdailfcmnjlaaGreatDoor

namespace Go.Proofs.YtfkdailfcmnjlaaGreatDoor
open Go Go.RowKit
set_option maxRecDepth 100000
attribute [local go_sem ↓] Go.wp_at_zero Go.wp_at_succ

theorem RowQ.put {w : World} {gi n : Nat} {fo fn ft ft' fp : Nat → Int} (h : RowQ w gi n fo fn ft fp) {k : Nat} {x : Int} (hk : k < n) (hx : ft' k = x) (ho : ∀ i, i < n → i ≠ k → ft' i = ft i) : RowQ (w.setCell ⟨gi, k * 4 + 2, none⟩ (.int .i64 x)) gi n fo fn ft' fp := by
  refine ⟨fun i hi => ?_, fun i hi => ?_, fun i hi => ?_, fun i hi => ?_⟩
  · rw [cell_set_off _ _ _ _ _ (by omega)]; exact h.op i hi
  · rw [cell_set_off _ _ _ _ _ (by omega)]; exact h.num i hi
  · by_cases e : i = k
    · subst e; rw [cell_set_same _ _ _ _ (by rw [h.tos i hi]; rfl), hx]
    · rw [cell_set_off _ _ _ _ _ (by omega), ho i hi e]; exact h.tos i hi
  · rw [cell_set_off _ _ _ _ _ (by omega)]; exact h.pls i hi
theorem RowQ.weak {w : World} {gi n : Nat} {fo fn ft ft' fp : Nat → Int} (h : RowQ w gi n fo fn ft fp) (ho : ∀ i, i < n → ft' i = ft i) : RowQ w gi n fo fn ft' fp :=
  ⟨h.op, h.num, fun i hi => by rw [ho i hi]; exact h.tos i hi, h.pls⟩
end Go.Proofs.YtfkdailfcmnjlaaGreatDoor

namespace Go.Proofs.YtfkdailfcmnjlaaGreatDoor
open Go Go.RowKit
set_option maxRecDepth 100000
attribute [local go_sem ↓] Go.wp_at_zero Go.wp_at_succ

/-- Instructions whose jumps weren't looked for, in memory. -/
def ic0 (l : List Ins) : List Value := l.flatMap fun x => [.int .i64 (x.op : Nat), .int .i64 x.n, .int .i64 0, .int .i64 (x.pl : Nat)]
theorem ic0_snoc (l : List Ins) (x : Ins) : ic0 (l ++ [x]) = ic0 l ++ [.int .i64 (x.op : Nat), .int .i64 x.n, .int .i64 0, .int .i64 (x.pl : Nat)] := by simp [ic0]
/-- Between the rounds of reading. -/
structure RdI (w wr : World) (b : List UInt8) (a : Nat) (D : Option (List Ins)) (pre : List Ins) (v : Value) : Prop where
  bel : Below w.heap.size w wr
  blk : wr.heap[w.heap.size]? = some (.cells #[.int .i64 (byteAt b 2 : Nat), v, .int .i64 (byteAt b 1 : Nat)] 253 (0, 0))
  row : wr.ownsRow w.heap.size 247 4 v pre.length (ic0 pre)
  dcd : ∃ f, b.length < a + f ∧ D = (dec f b a).map (pre ++ ·)
  len : pre.length + 3 ≤ a
  lo : a ≤ b.length
theorem RdI.at_ {w wr w3 : World} {b : List UInt8} {a : Nat} {D : Option (List Ins)} {pre : List Ins} {v : Value} (h : RdI w wr b a D pre v) (h3 : Below wr.heap.size wr w3) : w3.heap[w.heap.size]? = some (.cells #[.int .i64 (byteAt b 2 : Nat), v, .int .i64 (byteAt b 1 : Nat)] 253 (0, 0)) ∧ w3.ownsRow w.heap.size 247 4 v pre.length (ic0 pre) ∧ Below w.heap.size w w3 ∧ w.heap.size < wr.heap.size :=
  ⟨(h3.block _ (lt_of_get h.blk)).trans h.blk, ownsRow_below h.row h3, h.bel.trans (h3.mono h.bel.size), lt_of_get h.blk⟩
theorem row_apart {w : World} {base cp : Nat} {v : Value} {n : Nat} {xs cs : List Value} (h : w.ownsRow base 247 4 v n xs) (hc : w.heap[cp]? = some (.cells cs.toArray 253 (0, 0))) : some cp ≠ v.ownBlock := fun e => by
  obtain ⟨cs', h'⟩ := ownsRow_type h e.symm
  rw [hc] at h'; simp at h'
theorem RdI.next {w wr w3 w4 : World} {b : List UInt8} {a a' : Nat} {D : Option (List Ins)} {pre : List Ins} {v v' : Value} {x : Ins} {o' : Obj} (h : RdI w wr b a D pre v) (h3 : Below wr.heap.size wr w3) (hgrow : (w3.alloc o').grownBy w4 v.ownBlock) (hown : w4.ownsRow w.heap.size 247 4 v' (pre.length + 1) (ic0 pre ++ [.int .i64 (x.op : Nat), .int .i64 x.n, .int .i64 0, .int .i64 (x.pl : Nat)]))
    (hd : ∃ f, b.length < a' + f ∧ D = (dec f b a').map ((pre ++ [x]) ++ ·)) (ha : a + 1 ≤ a') (ha2 : a' ≤ b.length) : RdI w (w4.setCell ⟨w.heap.size, 1, none⟩ v') b a' D (pre ++ [x]) v' := by
  obtain ⟨q1, q2, q3, q4⟩ := h.at_ h3
  have hs := h3.size
  have hne := row_apart (cs := [_, _, _]) q2 q1
  have hblk : w4.heap[w.heap.size]? = _ := (hgrow.block _ (by rw [World.size_alloc]; omega) hne).trans ((Below.heap_alloc w3 o' _ (by omega)).trans q1)
  have hne2 := row_apart (cs := [_, _, _]) hown hblk
  refine ⟨?_, ?_, ?_, hd, by have := h.len; simp; omega, ha2⟩
  · have hb3 : Below w.heap.size w (w3.alloc o') := q3.alloc q3.size _
    exact (Below.grown hb3 hgrow hb3.size (fun k hk => (q2.lt k hk).1)).setCell (by simp) _
  · rw [heap_setCell_same w4 _ 1 _ _ _ hblk]; rfl
  · rw [List.length_append, ic0_snoc]
    exact ownsRow_setCell_other hown (a := ⟨w.heap.size, 1, none⟩) (fun e => hne2 e.symm) _
end Go.Proofs.YtfkdailfcmnjlaaGreatDoor

namespace Go.Proofs.YtfkdailfcmnjlaaGreatDoor
open Go Go.RowKit
set_option maxRecDepth 100000
attribute [local go_sem ↓] Go.wp_at_zero Go.wp_at_succ

/-- The machine's state: the stack (the lowest first), the cells, the next instruction, has it ended, the verdict. -/
structure MS where
  st : List Int
  cl : List Int
  next : Int
  ended : Bool
  al : Bool
  ru : Int
  stp : Int
def macC (vs vc : Value) (fl : List Int) (s : MS) : Array Value := #[vs, vc, .int .i64 (fl.getD 0 0), .int .i64 (fl.getD 1 0), .int .i64 (fl.getD 2 0), .int .i64 (fl.getD 3 0), .int .i64 (fl.getD 4 0), .int .i64 (fl.getD 5 0), .int .i64 (fl.getD 6 0), .int .i64 (fl.getD 7 0), .int .i64 (fl.getD 8 0), .int .i64 s.next, .bool s.ended, .bool s.al, .int .i64 s.ru, .int .i64 s.stp]
structure MacAt (w : World) (p : Nat) (vs vc : Value) (fl : List Int) (s : MS) : Prop where
  blk : w.heap[p]? = some (.cells (macC vs vc fl s) 257 (0, 0))
  st : IR w 112 vs s.st
  cl : IR w 112 vc s.cl
  ne : ∀ b, vs.ownBlock = some b → vc.ownBlock ≠ some b
theorem MacAt.lt {w : World} {p : Nat} {vs vc : Value} {fl : List Int} {s : MS} (h : MacAt w p vs vc fl s) {b : Nat} (hb : Foot p vs vc b) : b < w.heap.size := by
  rcases hb with rfl | hb | hb
  · exact lt_of_get h.blk
  · exact (h.st.lt b hb).2
  · exact (h.cl.lt b hb).2
theorem MacAt.only {w w' : World} {p : Nat} {vs vc : Value} {fl : List Int} {s : MS} (h : MacAt w p vs vc fl s) {F : Nat → Prop} (ho : Only F w w') (hF : ∀ b, Foot p vs vc b → ¬ F b) : MacAt w' p vs vc fl s :=
  ⟨(ho.block p (lt_of_get h.blk) (hF p (.inl rfl))).trans h.blk, h.st.only ho (fun g hg => hF g (.inr (.inl hg))), h.cl.only ho (fun g hg => hF g (.inr (.inr hg))), h.ne⟩
theorem MacAt.drew {w : World} {p : Nat} {vs vc : Value} {fl : List Int} {s : MS} (h : MacAt w p vs vc fl s) : MacAt w.drew p vs vc fl s := ⟨h.blk, h.st, h.cl, h.ne⟩
def MOut (w w' : World) (p : Nat) (vs vc : Value) (fl : List Int) (s : MS) : Prop :=
  ∃ vs', MacAt w' p vs' vc fl s ∧ Only (Foot p vs vc) w w' ∧ ∀ b, Foot p vs' vc b → Foot p vs vc b ∨ w.heap.size ≤ b
theorem MOut.refl {w : World} {p : Nat} {vs vc : Value} {fl : List Int} {s : MS} (h : MacAt w p vs vc fl s) : MOut w w p vs vc fl s := ⟨vs, h, Only.refl _ _, fun _ hb => .inl hb⟩
theorem MOut.then {w w1 w2 : World} {p : Nat} {vs vc vs1 : Value} {fl : List Int} {s2 : MS} (ho : Only (Foot p vs vc) w w1) (hf : ∀ b, Foot p vs1 vc b → Foot p vs vc b ∨ w.heap.size ≤ b) (h2 : MOut w1 w2 p vs1 vc fl s2) : MOut w w2 p vs vc fl s2 := by
  obtain ⟨vs2, hs, ho2, hf2⟩ := h2
  refine ⟨vs2, hs, ho.trans ho2 (fun _ _ h => h) (fun i hi h => ?_), fun b hb => ?_⟩
  · rcases hf i h with h | h
    · exact h
    · omega
  · rcases hf2 b hb with h | h
    · exact hf b h
    · right; have := ho.size; omega
theorem MOut.only {w w' : World} {p : Nat} {vs vc : Value} {fl : List Int} {s : MS} (h : MOut w w' p vs vc fl s) : Only (Foot p vs vc) w w' := by
  obtain ⟨_, _, h, _⟩ := h; exact h
theorem MOut.drew {w w' : World} {p : Nat} {vs vc : Value} {fl : List Int} {s : MS} (h : MOut w w' p vs vc fl s) : MOut w w'.drew p vs vc fl s := by
  obtain ⟨vs', h1, h2, h3⟩ := h
  exact ⟨vs', h1.drew, h2.drew, h3⟩
theorem mty_ne : 257 ≠ 112 := by decide
/-- A machine's number or truth is written. -/
theorem MOut.put {w w1 : World} {p : Nat} {vs vc : Value} {fl : List Int} {s s' : MS} (h : MOut w w1 p vs vc fl s) (o : Nat) (v : Value) (hs : ∀ vs vc, (macC vs vc fl s).setIfInBounds o v = macC vs vc fl s') (h1 : s'.st = s.st) (h2 : s'.cl = s.cl) : MOut w (w1.setCell ⟨p, o, none⟩ v) p vs vc fl s' := by
  obtain ⟨vs1, h, ho1, hf1⟩ := h
  refine MOut.then ho1 hf1 ?_
  have ho : Only (fun b => b = p) w1 (w1.setCell ⟨p, o, none⟩ v) := (Only.refl (fun b => b = p) w1).setCell (.inl rfl) _
  refine ⟨vs1, ⟨by rw [heap_setCell_same w1 p o _ _ _ h.blk, hs], ?_, ?_, h.ne⟩, ho.weak (fun i _ hi => .inl hi), fun b hb => .inl hb⟩
  · rw [h1]; exact h.st.only ho (fun g hg e => h.st.ne h.blk mty_ne (by rw [← e]; exact hg))
  · rw [h2]; exact h.cl.only ho (fun g hg e => h.cl.ne h.blk mty_ne (by rw [← e]; exact hg))
theorem MOut.cells {w w1 : World} {p : Nat} {vs vc : Value} {fl : List Int} {s : MS} (h : MOut w w1 p vs vc fl s) : w1.cell? ⟨p, 11, none⟩ = some (.int .i64 s.next) ∧ w1.cell? ⟨p, 12, none⟩ = some (.bool s.ended) ∧ w1.cell? ⟨p, 13, none⟩ = some (.bool s.al) ∧ w1.cell? ⟨p, 14, none⟩ = some (.int .i64 s.ru) ∧ w1.cell? ⟨p, 15, none⟩ = some (.int .i64 s.stp) ∧ ∀ o, w1.frozen? ⟨p, o, none⟩ = false := by
  obtain ⟨vs1, h, _, _⟩ := h
  have hc := fun j => cell_of_row w1 p j _ _ _ h.blk
  exact ⟨hc 11, hc 12, hc 13, hc 14, hc 15, fun o => by simp [World.frozen?, h.blk]⟩
end Go.Proofs.YtfkdailfcmnjlaaGreatDoor

namespace Go.Proofs.YtfkdailfcmnjlaaGreatDoor
open Go Go.RowKit
set_option maxRecDepth 100000
attribute [local go_sem ↓] Go.wp_at_zero Go.wp_at_succ

/-- Which of three a raw number speaks of. -/
def pick3 (c : Int) : Nat := ((if c < 0 then -(c + 1) else c) % 3).toNat
theorem pick3_lt (c : Int) : pick3 c < 3 := by unfold pick3; omega
set_option maxHeartbeats 2000000 in
theorem pick_any {c : Int} (hc : In64 c) (w : World) : Calls Tryz.prog 36 #[.int .i64 c, .int .i64 3] w fun e w' => e = .returned (.int .i64 (pick3 c : Nat)) ∧ w' = w := by
  have HR : Hid (((pick3 c : Nat) : Int) = (if c < 0 then -(c + 1) else c) % 3) := by show _ = _; unfold pick3; omega
  generalize pick3 c = R at *
  unfold In64 at hc
  obtain ⟨h1, h2⟩ := hc
  by_cases h0 : c < 0
  · have HR2 : Hid ((R : Int) = (-(c + 1)) % 3) := by have := HR.out; rw [if_pos h0] at this; exact this
    have hz : (0 : Int) ≤ -(c + 1) := by omega
    have hw1 : IntKind.i64.wrap (c + 1) = c + 1 := by rw [IntKind.wrap_i64]; omega
    have hw2 : IntKind.i64.wrap (-(c + 1)) = -(c + 1) := by rw [IntKind.wrap_i64]; omega
    have ht : (-(c + 1)).tmod 3 = (-(c + 1)) % 3 := Int.tmod_eq_emod_of_nonneg hz
    clear HR
    go_enter Tryz.func36, Tryz.ntmps36
    go_wp2
    go_ret
    refine ⟨ret_int ?_, rfl⟩
    first | exact HR2.out.symm | (simp [ht, HR2.out]; done) | (have := HR2.out; omega)
  · have HR2 : Hid ((R : Int) = c % 3) := by have := HR.out; rw [if_neg h0] at this; exact this
    have hz : (0 : Int) ≤ c := by omega
    have ht : c.tmod 3 = c % 3 := Int.tmod_eq_emod_of_nonneg hz
    clear HR
    go_enter Tryz.func36, Tryz.ntmps36
    go_wp2
    go_ret
    refine ⟨ret_int ?_, rfl⟩
    first | exact HR2.out.symm | (simp [ht, HR2.out]; done) | (have := HR2.out; omega)
/-- A scene. -/
structure Scn where
  sn : Int
  tg : Int
  wa : Int
  nd : Int
  wh : Int
  l0 : Int
  l1 : Int
  l2 : Int
  i0 : Int
  i1 : Int
  i2 : Int
  a0 : Bool
  a1 : Bool
  a2 : Bool
  df : Int
  op : Bool
def scC (c : Scn) : Array Value := #[.int .i64 c.sn, .int .i64 c.tg, .int .i64 c.wa, .int .i64 c.nd, .int .i64 c.wh, .int .i64 c.l0, .int .i64 c.l1, .int .i64 c.l2, .int .i64 c.i0, .int .i64 c.i1, .int .i64 c.i2, .bool c.a0, .bool c.a1, .bool c.a2, .int .i64 c.df, .bool c.op]
structure ScnIn (c : Scn) : Prop where
  sn : In64 c.sn
  tg : In64 c.tg
  nd : In64 c.nd
  wh : In64 c.wh
  l0 : In64 c.l0
  l1 : In64 c.l1
  l2 : In64 c.l2
  i0 : In64 c.i0
  i1 : In64 c.i1
  i2 : In64 c.i2
  df : In64 c.df
end Go.Proofs.YtfkdailfcmnjlaaGreatDoor

namespace Go.Proofs.YtfkdailfcmnjlaaGreatDoor
open Go Go.RowKit
set_option maxRecDepth 100000
attribute [local go_sem ↓] Go.wp_at_zero Go.wp_at_succ

def lvA (c : Scn) (i : Nat) : Int := if i = 0 then c.l0 else if i = 1 then c.l1 else c.l2
def isA (c : Scn) (i : Nat) : Int := if i = 0 then c.i0 else if i = 1 then c.i1 else c.i2
def abA (c : Scn) (i : Nat) : Bool := if i = 0 then c.a0 else if i = 1 then c.a1 else c.a2
structure StI (w wr : World) (c : Scn) (lv mv : Value) (ls ms : List (List UInt8 × Int)) : Prop where
  bel : Below w.heap.size w wr
  scn : wr.heap[w.heap.size]? = some (.cells (scC c) 37 (0, 0))
  res : wr.heap[w.heap.size + 1]? = some (.cells #[.slice none 0 0, .int .i64 0, .slice none 0 0, .bool false] 50 (0, 0))
  blk : wr.heap[w.heap.size + 1 + 1]? = some (.cells #[lv, .int .i64 c.df, mv, .bool c.op] 50 (0, 0))
  rl : wr.ownsRow w.heap.size 108 2 lv ls.length (pcells ls)
  rm : wr.ownsRow w.heap.size 110 2 mv ms.length (pcells ms)
theorem row_ne {w : World} {base e size n k : Nat} {v : Value} {xs : List Value} {cs : Array Value} {ty : TypeId} {z : Nat × Nat} (h : w.ownsRow base e size v n xs) (hc : w.heap[k]? = some (.cells cs ty z)) (hty : ty ≠ e) : some k ≠ v.ownBlock := fun e' => by
  obtain ⟨cs', h'⟩ := ownsRow_type h e'.symm
  rw [hc] at h'; simp at h'; exact hty h'.2.1
theorem StI.grown {w w3 w4 : World} {c : Scn} {lv mv : Value} {ls ms : List (List UInt8 × Int)} (h : StI w w3 c lv mv ls ms) {o' : Obj} {v : Value} (hgrow : (w3.alloc o').grownBy w4 v.ownBlock) (h0 : ∀ k, v.ownBlock = some k → w.heap.size ≤ k) (h1 : ∀ k cs ty z, w3.heap[k]? = some (.cells cs ty z) → ty = 37 ∨ ty = 50 → some k ≠ v.ownBlock) :
    Below w.heap.size w w4 ∧ w4.heap[w.heap.size]? = some (.cells (scC c) 37 (0, 0)) ∧ w4.heap[w.heap.size + 1]? = some (.cells #[.slice none 0 0, .int .i64 0, .slice none 0 0, .bool false] 50 (0, 0)) ∧ w4.heap[w.heap.size + 1 + 1]? = some (.cells #[lv, .int .i64 c.df, mv, .bool c.op] 50 (0, 0)) := by
  have hb3 : Below w.heap.size w (w3.alloc o') := h.bel.alloc h.bel.size _
  have hk : ∀ k o, w3.heap[k]? = some o → some k ≠ v.ownBlock → w4.heap[k]? = some o := fun k o ho hn => ((hgrow.block _ (by rw [World.size_alloc]; have := lt_of_get ho; omega) hn).trans (Below.heap_alloc w3 o' _ (lt_of_get ho))).trans ho
  exact ⟨Below.grown hb3 hgrow hb3.size h0, hk _ _ h.scn (h1 _ _ _ _ h.scn (.inl rfl)), hk _ _ h.res (h1 _ _ _ _ h.res (.inr rfl)), hk _ _ h.blk (h1 _ _ _ _ h.blk (.inr rfl))⟩
theorem row_sl {w : World} {base e size n : Nat} {v : Value} {xs : List Value} (h : w.ownsRow base e size v n xs) : ∃ a cap, v = .slice a n cap := by
  rcases h.2 with ⟨h, h0⟩ | ⟨g, c, _, h, _⟩
  · exact ⟨none, 0, by rw [h, h0]⟩
  · exact ⟨_, _, h⟩
theorem StI.cells {w w3 : World} {c : Scn} {lv mv : Value} {ls ms : List (List UInt8 × Int)} (h : StI w w3 c lv mv ls ms) : w3.cell? ⟨w.heap.size + 1 + 1, 0, none⟩ = some lv ∧ w3.cell? ⟨w.heap.size + 1 + 1, 2, none⟩ = some mv ∧ ∀ j, w3.cell? ⟨w.heap.size, j, none⟩ = (scC c)[j]? :=
  ⟨cell_of_row w3 _ 0 _ _ _ h.blk, cell_of_row w3 _ 2 _ _ _ h.blk, fun j => cell_of_row w3 _ j _ _ _ h.scn⟩
end Go.Proofs.YtfkdailfcmnjlaaGreatDoor

namespace Go.Proofs.YtfkdailfcmnjlaaGreatDoor
open Go Go.RowKit
set_option maxRecDepth 100000
attribute [local go_sem ↓] Go.wp_at_zero Go.wp_at_succ

def lvV (c : Scn) (n : Int) : Int := if abA c (pick3 n) = false then lvA c (pick3 n) else if pick3 n ≠ 1 then 77 else c.df
def isV (c : Scn) (n : Int) : Int := if abA c (pick3 n) = false then knownI (isA c (pick3 n)) else if pick3 n ≠ 1 then 4 else 0
set_option maxHeartbeats 4000000 in
theorem klevel_any {c : Scn} {n : Int} (hn : In64 n) (w : World) : Calls Tryz.prog 121 #[.agg (scC c), .int .i64 n] w fun e w' => e = .returned (.int .i64 (lvV c n)) ∧ Below w.heap.size w w' := by
  have W1 := fun w => pick_any hn w
  have hlt := pick3_lt n
  unfold lvV
  generalize pick3 n = k at *
  obtain ⟨sn, tg, wa, nd, wh, l0, l1, l2, i0, i1, i2, a0, a1, a2, df, op⟩ := c
  unfold scC abA lvA
  simp only []
  have hk : k = 0 ∨ k = 1 ∨ k = 2 := by omega
  have HB : Hid (∀ o, Below w.heap.size w (w.alloc o)) := fun o => (Below.refl _ _).alloc (Nat.le_refl _) _
  rcases hk with rfl | rfl | rfl
  · cases a0
    all_goals
      go_enter Tryz.func121, Tryz.ntmps121
      go_wp2_with (
        go_at_call 36
        refine (W1 _).mono ?_
        rintro e w' ⟨rfl, rfl⟩)
      go_ret
      exact ⟨rfl, HB.out _⟩
  · cases a1
    all_goals
      go_enter Tryz.func121, Tryz.ntmps121
      go_wp2_with (
        go_at_call 36
        refine (W1 _).mono ?_
        rintro e w' ⟨rfl, rfl⟩)
      go_ret
      exact ⟨rfl, HB.out _⟩
  · cases a2
    all_goals
      go_enter Tryz.func121, Tryz.ntmps121
      go_wp2_with (
        go_at_call 36
        refine (W1 _).mono ?_
        rintro e w' ⟨rfl, rfl⟩)
      go_ret
      exact ⟨rfl, HB.out _⟩
set_option maxHeartbeats 4000000 in
theorem kis_any {c : Scn} {n : Int} (hn : In64 n) (w : World) : Calls Tryz.prog 122 #[.agg (scC c), .int .i64 n] w fun e w' => e = .returned (.int .i64 (isV c n)) ∧ Below w.heap.size w w' := by
  have W1 := fun w => pick_any hn w
  have W2 := fun w => kknown_any (isA c (pick3 n)) w
  have hlt := pick3_lt n
  unfold isV
  generalize pick3 n = k at *
  generalize hkn : knownI (isA c k) = y at *
  have HKN : Hid _ := hkn
  clear hkn
  obtain ⟨sn, tg, wa, nd, wh, l0, l1, l2, i0, i1, i2, a0, a1, a2, df, op⟩ := c
  unfold scC abA at *
  unfold isA at W2
  simp only [] at *
  have hk : k = 0 ∨ k = 1 ∨ k = 2 := by omega
  have HB : Hid (∀ o, Below w.heap.size w (w.alloc o)) := fun o => (Below.refl _ _).alloc (Nat.le_refl _) _
  rcases hk with rfl | rfl | rfl
  · cases a0
    all_goals
      go_enter Tryz.func122, Tryz.ntmps122
      go_wp2_with (first
        | (go_at_call 36; refine (W1 _).mono ?_; rintro e w' ⟨rfl, rfl⟩)
        | (go_at_call 123; refine (W2 _).mono ?_; rintro e w' ⟨rfl, rfl⟩))
      go_ret
      exact ⟨rfl, HB.out _⟩
  · cases a1
    all_goals
      go_enter Tryz.func122, Tryz.ntmps122
      go_wp2_with (first
        | (go_at_call 36; refine (W1 _).mono ?_; rintro e w' ⟨rfl, rfl⟩)
        | (go_at_call 123; refine (W2 _).mono ?_; rintro e w' ⟨rfl, rfl⟩))
      go_ret
      exact ⟨rfl, HB.out _⟩
  · cases a2
    all_goals
      go_enter Tryz.func122, Tryz.ntmps122
      go_wp2_with (first
        | (go_at_call 36; refine (W1 _).mono ?_; rintro e w' ⟨rfl, rfl⟩)
        | (go_at_call 123; refine (W2 _).mono ?_; rintro e w' ⟨rfl, rfl⟩))
      go_ret
      exact ⟨rfl, HB.out _⟩
end Go.Proofs.YtfkdailfcmnjlaaGreatDoor
