/-
  Conditions asked by jumps: lists of open jumps put together; words, and, or. Conditions asked by jumps: and, or; an if. Conditions asked by jumps: an if. Conditions laid and asked, however deep. An item laid as instructions.
-/
import Derived.Test.YtfkdailfcmnjlaaGreatDoorCompiles01
import Derived.Test.YtfkdailfcmnjlaaGreatDoorCompiles02
import Derived.Test.YtfkdailfcmnjlaaGreatDoorCompiles04
import Derived.Test.YtfkdailfcmnjlaaGreatDoorCompiles05
import Derived.Test.YtfkdailfcmnjlaaGreatDoorCompiles06
import Derived.Test.YtfkdailfcmnjlaaGreatDoorCompiles07
import Derived.Test.YtfkdailfcmnjlaaGreatDoorCompiles08
import Derived.Test.YtfkdailfcmnjlaaGreatDoorCompiles09
import Derived.Test.YtfkdailfcmnjlaaGreatDoorCompiles10
import Derived.Test.YtfkdailfcmnjlaaGreatDoorCompiles11
import Derived.Test.YtfkdailfcmnjlaaGreatDoorCompiles12
import Derived.Test.YtfkdailfcmnjlaaGreatDoorCompiles13
import Derived.Test.YtfkdailfcmnjlaaGreatDoorCompiles14
import Derived.Test.YtfkdailfcmnjlaaGreatDoorCompiles15
import Derived.Test.YtfkdailfcmnjlaaGreatDoorCompiles16
import Derived.Test.YtfkdailfcmnjlaaGreatDoorCompiles17
import Derived.Test.YtfkdailfcmnjlaaGreatDoorCompiles18
import Derived.Test.YtfkdailfcmnjlaaGreatDoorCompiles19
import Derived.Test.YtfkdailfcmnjlaaGreatDoorCompiles20
import Derived.Test.YtfkdailfcmnjlaaGreatDoorCompiles21
import Derived.Test.YtfkdailfcmnjlaaGreatDoorCompiles22
import Derived.Test.YtfkdailfcmnjlaaGreatDoorCompiles23
import Derived.Test.YtfkdailfcmnjlaaGreatDoorCompiles24
import Derived.Test.YtfkdailfcmnjlaaGreatDoorCompiles25
import Derived.Test.YtfkdailfcmnjlaaGreatDoorCompiles26
import Derived.Test.YtfkdailfcmnjlaaGreatDoorCompiles27
import Derived.Test.YtfkdailfcmnjlaaGreatDoorCompiles28
import Derived.Test.YtfkdailfcmnjlaaGreatDoorCompiles29
import Derived.Test.YtfkdailfcmnjlaaGreatDoorCompiles30
import Derived.Test.YtfkdailfcmnjlaaGreatDoorCompiles31
import Derived.Test.YtfkdailfcmnjlaaGreatDoorCompiles32
import Derived.Test.YtfkdailfcmnjlaaGreatDoorCompiles34
import Derived.Test.YtfkdailfcmnjlaaGreatDoorCompiles35
import Derived.Test.YtfkdailfcmnjlaaGreatDoorCompiles37
import Derived.Test.YtfkdailfcmnjlaaGreatDoorCompiles38
import Derived.Test.YtfkdailfcmnjlaaGreatDoorCompiles39
import Derived.Test.YtfkdailfcmnjlaaGreatDoorCompiles40
import Derived.Test.YtfkdailfcmnjlaaGreatDoorCompiles41
import Derived.Test.YtfkdailfcmnjlaaGreatDoorCompiles42
import Derived.Test.YtfkdailfcmnjlaaGreatDoorCompiles43
import Derived.Test.YtfkdailfcmnjlaaGreatDoorLays
import Derived.Test.YtfkdailfcmnjlaaGreatDoorLays2
import Derived.Deep.Upon
import Derived.WalkKit
import Derived.Deep.QuietTactic
import Derived.BigQuiet
import Derived.WalkSpells
import GoSem.Op.String
import Derived.Deep.AppendLies
import Derived.Deep.RegionHeld3
import Derived.Deep.DrawnRows
import Derived.Deep.RegionHeldLaw
import Derived.Deep.RegionLaw
import Derived.Lib.ParseIntBCases
import Derived.Deep.OwnRows
import Derived.Lib.LaidTab
import Derived.Lib.AppendIntMem
import Derived.Shelf.Strings.Builder1
import Derived.Laws.CopyOwn
import Derived.Deep.DeepCutAuto
import Derived.WalkSmall
import Derived.Lib.AppendZerosOnto
set_option linter.unusedVariables false
set_option linter.unusedSimpArgs false
namespace Go.Proofs.YtfkdailfcmnjlaaGreatDoor
open Go Go.RowKit
set_option maxRecDepth 100000
attribute [local go_sem ↓] Go.wp_at_zero Go.wp_at_succ

/-- Numbers appended to numbers. -/
theorem run_app {w : World} {v1 v2 : Value} {l1 l2 : List Int} (h1 : IR w 3 v1 l1) (h2 : IR w 3 v2 l2) (hlen : l1.length + l2.length ≤ 10000) (ty : TypeId) :
    ∃ v3 w', (Builtin.append_ #[38, 38] ty #[v1, v2]).run Tryz.prog w = .ok v3 w' ∧ IR w' 3 v3 (l1 ++ l2) ∧ Only (fun b => v1.ownBlock = some b) w w' ∧ ∀ g, v3.ownBlock = some g → v1.ownBlock = some g ∨ w.heap.size ≤ g := by
  obtain ⟨i0, hi, hz⟩ := Option.map_eq_some_iff.1 info_int
  simp only [Prod.mk.injEq] at hz
  obtain ⟨hz0, hz1, hz2⟩ := hz
  by_cases he : l2 = []
  · subst he
    obtain ⟨a2, c2, rfl⟩ := h2.sl
    obtain ⟨a1, c1, rfl⟩ := h1.sl
    have hle : l1.length ≤ c1 := by
      obtain ⟨_, hr⟩ := h1
      rcases hr with ⟨e, h0⟩ | ⟨g, cap, cur, e, _, _, h3, _⟩
      · simp at e; omega
      · simp at e; omega
    have hs : Src Tryz.prog i0.size 38 (.slice a2 0 c2) 0 [] w := by
      cases a2 with
      | none => exact Src.ofNil (w := w) Tryz.underlying38 c2
      | some a => exact Src.ofSlice (w := w) Tryz.underlying38 a 0 c2 [] (by simp) (fun j u hu => by simp at hu) (fun u hu => by simp at hu)
    exact ⟨_, w, run_append_nothing w 38 38 ty 3 i0 Tryz.underlying38 hi a1 l1.length c1 hle _ hs, by rw [List.append_nil]; exact h1, Only.refl _ _, fun g hg => .inl hg⟩
  · have hp : 0 < l2.length := by
      cases l2 with
      | nil => exact absurd rfl he
      | cons x r => simp
    obtain ⟨g2, c2, rfl, hg2⟩ := h2.form hp
    obtain ⟨g, cap, w', hr, hown, hgrow, hat, hlt⟩ := run_append_lies (P := Tryz.prog) w 38 ty 0 3 i0 _ 1 8 Tryz.underlying38 hi hz0 hz1 hz2 (by rfl) (by decide) v1 l1.length (l1.map (Value.int .i64)) h1 ⟨g2, 0, none⟩ l2.length c2 (l2.map (Value.int .i64)) (by simp) (fun j u hu => by
        have hj : j < l2.length := by
          have := (List.getElem?_eq_some_iff.1 hu).1
          simpa using this
        have hc := h2.cell hj
        rw [Addr.add_mid]
        simp only [Nat.zero_add]
        rw [hc, ← hu]
        simp [List.getElem?_map, List.getElem?_eq_getElem hj, List.getD_eq_getElem?_getD]) (fun u hu => by
        obtain ⟨x, _, rfl⟩ := List.mem_map.1 hu
        rfl) hp (by unfold maxLen; omega) (by omega) (Nat.zero_le _) w.heap.size rfl
    refine ⟨_, w', hr, ?_, ?_, ?_⟩
    · unfold IR
      rw [List.length_append, List.map_append]
      exact hown
    · exact (Only.refl _ w).grown hgrow (fun k hk => .inl hk)
    · intro g' hg'
      simp [Value.ownBlock] at hg'
      subst hg'
      rcases hat with h | h
      · exact .inl h
      · right; omega
theorem wpList_app {w : World} {ops : Array Oper} {rest : List Oper} {o : Oper} {a : Act} {Q : Exit → Act → World → Prop} (hgd : o.guard = none) (s x : Operand) (ho : o.op = .call { callee := .builtin .append, args := #[s, x], argTypes := #[38, 38] })
    {v1 v2 : Value} {l1 l2 : List Int} (hs : a.eval s = v1) (hx : a.eval x = v2) (h1 : IR w 3 v1 l1) (h2 : IR w 3 v2 l2) (hlen : l1.length + l2.length ≤ 10000)
    (h : ∀ v3 w', IR w' 3 v3 (l1 ++ l2) → Only (fun b => v1.ownBlock = some b) w w' → (∀ g, v3.ownBlock = some g → v1.ownBlock = some g ∨ w.heap.size ≤ g) → wpList Tryz.prog ops Q rest (a.put o.dst v3) w') : wpList Tryz.prog ops Q (o :: rest) a w :=
  wpList_plain hgd fun _ hK => by
    obtain ⟨v3, w', hr, q1, q2, q3⟩ := run_app h1 h2 hlen o.type
    unfold Oper.wp execOp
    simp only [ho, resolve, invoke, builtin, Sem.run_bind, Sem.run_pure, Result.andThen_ok, List.map_toArray, List.map_cons, List.map_nil, hs, hx, hr]
    exact hK _ _ (h v3 w' q1 q2 q3)
/-- The layer stands where only a row of numbers has turned. -/
theorem LyW.row {F : Nat → Prop} {w0 w w' : World} {lp : Nat} {jmp : Bool} {v : Value} {l : List L3} {dep cells : Nat} (h : LyW F w0 w lp jmp v l dep cells) {v1 : Value} {l1 : List Int} (h1 : IR w 3 v1 l1) (ho : Only (fun b => v1.ownBlock = some b) w w') : LyAt w' lp jmp v l dep cells :=
  h.at_.only ho (fun b hb hF => by
    rcases hb with rfl | hb
    · exact h1.ne h.at_.blk (by decide) hF
    · obtain ⟨cs, hc⟩ := ownsRow_type h.at_.row hb
      exact h1.ne hc (by decide) hF)
/-- The same, from a call on: the row is a new one. -/
theorem LyOut.row {w w1 w2 : World} {lp : Nat} {jmp : Bool} {v : Value} {l : List L3} {dep cells : Nat} (h : LyOut w w1 lp jmp v l dep cells) {v1 : Value} {l1 : List Int} (h1 : IR w1 3 v1 l1) (hn : ∀ g, v1.ownBlock = some g → w.heap.size ≤ g) (ho : Only (fun b => v1.ownBlock = some b) w1 w2) : LyOut w w2 lp jmp v l dep cells := by
  obtain ⟨v', a1, o1, f1⟩ := h
  refine ⟨v', a1.only ho (fun b hb hF => ?_), o1.trans ho (fun _ _ h => h) (fun i hi hF => ?_), f1⟩
  · rcases hb with rfl | hb
    · exact h1.ne a1.blk (by decide) hF
    · obtain ⟨cs, hc⟩ := ownsRow_type a1.row hb
      exact h1.ne hc (by decide) hF
  · have := hn i hF; omega
set_option maxHeartbeats 4000000 in
theorem jumpAtOnce_any {w : World} {lp : Nat} {jmp : Bool} {v : Value} {l : List L3} {dep cells : Nat} (h : LyAt w lp jmp v l dep cells) (hl : l.length ≤ 5000) (does : Bool) :
    Calls Tryz.prog 182 #[.pointer (some ⟨lp, 0, none⟩), .bool does] w fun e w' => ∃ jv, e = .returned jv ∧ IR w' 3 jv ((if does then [l.length] else []).map fun j => ((j : Nat) : Int)) ∧ (∀ g, jv.ownBlock = some g → w.heap.size ≤ g) ∧ LyOut w w' lp jmp v (l ++ (if does then [⟨16, 0, 0⟩] else [])) dep cells := by
  cases does with
  | false =>
    have HL : Hid (LyOut w w lp jmp v (l ++ []) dep cells) := by
      show LyOut _ _ _ _ _ _ _ _
      rw [List.append_nil]; exact LyOut.refl h
    clear h
    go_enter Tryz.func182, Tryz.ntmps182
    go_wp2_with fail
    go_ret
    exact ⟨_, rfl, IR.nil _ _, fun g hg => by simp [Value.ownBlock] at hg, by first | exact HL.out | (have hx := HL.out; rw [List.append_nil] at hx; exact hx)⟩
  | true =>
    have W1 := add_any 16 0 h hl
    clear h
    go_enter Tryz.func182, Tryz.ntmps182
    go_wp2_with fail
    refine W1.mono ?_
    rintro e w1 ⟨rfl, hout⟩
    have HO : Hid (LyOut w w1 lp jmp v (l ++ [⟨16, 0, 0⟩]) dep cells) := hout
    clear W1 hout
    have HI : Hid _ := ir_new w1 (l.length : Nat)
    go_wp2_with fail
    go_ret
    refine ⟨_, rfl, HI.out, fun g hg => ?_, ?_⟩
    · simp [Value.ownBlock] at hg
      obtain ⟨_, _, o1, _⟩ := HO.out
      have := o1.size
      omega
    · obtain ⟨v', a1, o1, f1⟩ := HO.out
      exact ⟨v', ⟨(Below.heap_alloc _ _ _ (lt_of_get a1.blk)).trans a1.blk, a1.row.alloc _⟩, o1.alloc _, f1⟩
end Go.Proofs.YtfkdailfcmnjlaaGreatDoor

namespace Go.Proofs.YtfkdailfcmnjlaaGreatDoor
open Go Go.RowKit
set_option maxRecDepth 100000
attribute [local go_sem ↓] Go.wp_at_zero Go.wp_at_succ

/-- What the layer has come to since a call began. -/
structure LyF (F : Nat → Prop) (w0 w : World) (v : Value) (wi : World) (lp : Nat) (jmp : Bool) (vi : Value) (li : List L3) (dep cells : Nat) : Prop where
  ly : LyW F w0 wi lp jmp vi li dep cells
  only : Only (fun b => b = lp ∨ v.ownBlock = some b) w wi
  own : ∀ b, vi.ownBlock = some b → v.ownBlock = some b ∨ w.heap.size ≤ b
section
variable {F : Nat → Prop} {w0 w wi wj : World} {v vi : Value} {lp : Nat} {jmp : Bool} {li lj : List L3} {dep cells dj cj : Nat}
theorem LyF.start (h : LyW F w0 w lp jmp v li dep cells) : LyF F w0 w v w lp jmp v li dep cells := ⟨h, Only.refl _ _, fun _ h => .inl h⟩
theorem LyF.out (h : LyF F w0 w v wi lp jmp vi li dep cells) : LyOut w wi lp jmp v li dep cells := ⟨vi, h.ly.at_, h.only, h.own⟩
theorem LyF.next (h : LyF F w0 w v wi lp jmp vi li dep cells) (ho : LyOut wi wj lp jmp vi lj dj cj) :
    ∃ vj, LyF F w0 w v wj lp jmp vj lj dj cj ∧ (∀ {jv : Value} {js : List Int}, IR wi 3 jv js → IR wj 3 jv js) ∧ wi.heap.size ≤ wj.heap.size := by
  obtain ⟨vj, a1, o1, f1⟩ := ho
  have hb : Only F w0 wj := h.ly.bel.trans o1 (fun _ _ h => h) (fun k hk0 hk => by
    rcases hk with rfl | hk
    · exact h.ly.lp0.resolve_right (by omega)
    · exact (h.ly.own k hk).resolve_right (by omega))
  refine ⟨vj, ⟨⟨a1, h.ly.lp0, fun g hg => ?_, hb⟩, h.only.trans o1 (fun _ _ h => h) (fun i hi hF => ?_), fun b hb' => ?_⟩, fun {jv js} hj => hj.only o1 (fun g hg hF => ?_), o1.size⟩
  · rcases f1 g hg with h1 | h1
    · exact h.ly.own g h1
    · right; have := h.ly.bel.size; omega
  · rcases hF with hF | hF
    · exact .inl hF
    · rcases h.own i hF with h1 | h1
      · exact .inr h1
      · omega
  · rcases f1 b hb' with h1 | h1
    · exact h.own b h1
    · right; have := h.only.size; omega
  · rcases hF with rfl | hF
    · exact hj.ne h.ly.at_.blk (by decide) hg
    · obtain ⟨cs, hc⟩ := ownsRow_type h.ly.at_.row hF
      exact hj.ne hc (by decide) hg
theorem LyF.row (h : LyF F w0 w v wi lp jmp vi li dep cells) {v1 : Value} {l1 : List Int} (h1 : IR wi 3 v1 l1) (hn : ∀ g, v1.ownBlock = some g → w.heap.size ≤ g) (hw : w0.heap.size ≤ w.heap.size) (ho : Only (fun b => v1.ownBlock = some b) wi wj) : LyF F w0 w v wj lp jmp vi li dep cells := by
  refine ⟨⟨h.ly.row h1 ho, h.ly.lp0, h.ly.own, h.ly.bel.trans ho (fun _ _ h => h) (fun k hk0 hk => by have := hn k hk; omega)⟩, h.only.trans ho (fun _ _ h => h) (fun i hi hF => ?_), h.own⟩
  have := hn i hF; omega
theorem LyF.below (h : LyF F w0 w v wi lp jmp vi li dep cells) (hb : Below wi.heap.size wi wj) : LyF F w0 w v wj lp jmp vi li dep cells :=
  ⟨h.ly.below hb, h.only.trans (Only.of_below (F := fun b => b = lp ∨ v.ownBlock = some b) hb) (fun _ _ h => h) (fun _ _ h => h), h.own⟩
end
theorem ir_below {w w' : World} {e : TypeId} {v : Value} {l : List Int} (h : IR w e v l) (hb : Below w.heap.size w w') : IR w' e v l := ownsRow_below h hb
set_option maxHeartbeats 4000000 in
theorem joined_ok {jmp : Bool} {d : Nat} (HJ : JumpOK jmp d) {F : Nat → Prop} {t : Tr} {w0 w : World} {lp b bn dep cells : Nat} {v : Value} {l : List L3} {this : Bool} (hw : WfT (d + 1) t) (hk : t.k = 17 ∨ t.k = 18) (hj : byJ jmp t.k = true) (hT : TrF F (d + 1) w0 b t) (h : LyW F w0 w lp jmp v l dep cells) (hsz : l.length + szG jmp (d + 1) (some this) t ≤ 4900) (hbn : bn + (d + 1) ≤ 1000) (hdp : dep ≤ 1000) :
    Calls Tryz.prog 183 #[.pointer (some ⟨lp, 0, none⟩), .bool this, .bool (decide (t.k = 17)), .pointer (some ⟨b, 0, none⟩), .int .i64 bn] w fun e w' => ∃ jv, e = .returned jv ∧ IR w' 3 jv ((jdx jmp (d + 1) this t l.length).map fun j => ((j : Nat) : Int)) ∧ (∀ g, jv.ownBlock = some g → w.heap.size ≤ g) ∧ LyOut w w' lp jmp v (l ++ gE jmp (d + 1) (some this) t l.length) (max dep (dpG jmp (d + 1) (some this) t bn)) cells := by
  obtain ⟨eg, es, ed, ej⟩ := join_gE (jmp := jmp) (d := d) (p := l.length) (this := this) hj hk
  rw [es] at hsz
  rw [ed, eg, ej]
  clear es ed eg ej
  have hl2 : t.kids.length = 2 := by
    rcases hw.1 with ⟨h1, _⟩ | ⟨h1, _⟩ | ⟨h1, _⟩ | ⟨_, _, _, h2⟩
    · unfold leafK at h1; omega
    · omega
    · omega
    · rw [h2]; rfl
  generalize decide (t.k = 17) = s at *
  obtain ⟨pl, nm, u, bl, HN, HK⟩ := tr_node hT
  obtain ⟨g, cap, HF⟩ := node_under HN (by omega)
  rw [hl2] at HF
  have FC : Hid (∀ W, Only F w0 W → W.cell? ⟨b, 4, none⟩ = some (.slice (some ⟨g, 0, none⟩) 2 cap) ∧ W.cell? ⟨g, 0, none⟩ = some (.pointer (some ⟨bl 0, 0, none⟩)) ∧ W.cell? ⟨g, 1, none⟩ = some (.pointer (some ⟨bl 1, 0, none⟩))) := fun W hb => ⟨(HF W hb).2.1, (HF W hb).2.2 0 (by omega), (HF W hb).2.2 1 (by omega)⟩
  have hw0 := kid_wf hw (j := 0) (by omega)
  have HW1 : Hid _ := kid_wf hw (j := 1) (by omega)
  have HT1 : Hid _ := HK 1 (by omega)
  have W1 := HJ (this := s) (bn := bn) hw0 (HK 0 (by omega)) h (by omega) (by omega) hdp
  obtain ⟨c4, q0, _⟩ := FC.out w h.bel
  have lA := gE_len jmp d (some s) (t.kid 0) l.length
  have lB := gE_len jmp d (some this) (t.kid 1) (l.length + szG jmp d (some s) (t.kid 0))
  have hd0 := dpG_le jmp d (some s) (t.kid 0) bn
  have hja := @jdx_in jmp d (t.kid 0) s l.length
  have hjl := @jdx_len jmp d (t.kid 0) s l.length
  have hjl2 := @jdx_len jmp d (t.kid 1) this (l.length + szG jmp d (some s) (t.kid 0))
  have HS : Hid _ := gen_set (jmp := jmp) d (t := t.kid 0) (k := ⟨[], []⟩) (this := s) (pre := l) (post := gE jmp d (some this) (t.kid 1) (l.length + szG jmp d (some s) (t.kid 0))) (p := l.length) (l.length + szG jmp d (some s) (t.kid 0) + szG jmp d (some this) (t.kid 1)) hw0 rfl
  have HB : Hid (LyF F w0 w v w lp jmp v l dep cells) := LyF.start h
  have hz0 : w0.heap.size ≤ w.heap.size := h.bel.size
  have HJA : Hid _ := hja
  clear h HN HK hT hw HF hw0 hj hk hja
  have em : max (max dep (dpG jmp d (some s) (t.kid 0) bn)) (dpG jmp d (some this) (t.kid 1) bn) = max dep (max (dpG jmp d (some s) (t.kid 0) bn) (dpG jmp d (some this) (t.kid 1) bn)) := by omega
  have EM : Hid _ := em
  clear em
  by_cases hs : this = s
  · subst hs
    rw [if_pos rfl, if_pos rfl]
    go_enter Tryz.func183, Tryz.ntmps183
    go_wp2_with fail
    refine W1.mono ?_
    rintro e w1 ⟨jv1, rfl, hir1, hfr1, hout1⟩
    obtain ⟨v1, h1, _, z1⟩ := HB.out.next hout1
    have W2 := HJ (this := this) (bn := bn) HW1.out HT1.out h1.ly (by rw [List.length_append, lA]; omega) (by omega) (by omega)
    rw [List.length_append, lA] at W2
    obtain ⟨d4, _, d1⟩ := FC.out w1 h1.ly.bel
    have HB1 : Hid _ := h1
    have HI1 : Hid _ := hir1
    have HF1 : Hid _ := hfr1
    clear W1 hout1 c4 q0 h1 hir1 hfr1 HB
    go_wp2_with fail
    refine W2.mono ?_
    rintro e w2 ⟨jv2, rfl, hir2, hfr2, hout2⟩
    obtain ⟨v2, h2, k2, z2⟩ := HB1.out.next hout2
    have HI12 := k2 HI1.out
    have L2l : (l ++ gE jmp d (some this) (t.kid 0) l.length ++ gE jmp d (some this) (t.kid 1) (l.length + szG jmp d (some this) (t.kid 0))).length = l.length + szG jmp d (some this) (t.kid 0) + szG jmp d (some this) (t.kid 1) := by simp only [List.length_append, lA, lB]
    have W3 := comeHere_any (jv := jv1) (js := jdx jmp d this (t.kid 0) l.length) h2.ly.at_ (by rw [L2l]; omega) (by omega) HI12 (fun j hj => by have := HJA.out j hj; rw [L2l]; omega)
    rw [L2l] at W3
    have HB2 : Hid _ := h2
    have HI2 : Hid _ := hir2
    have HIA : Hid _ := HI12
    have HF2 : Hid (∀ g, jv2.ownBlock = some g → w.heap.size ≤ g) := fun g hg => by have := hfr2 g hg; omega
    clear W2 hout2 d4 d1 h2 k2 hir2 hfr2 HI12 HI1 HB1 L2l lA lB
    clear W3
    go_wp2_with (at_builtin; go_must (refine wpList_app (by rfl) _ _ (by rfl) (by rfl) (by rfl) HIA.out HI2.out (by simp only [List.length_map]; omega) ?_); intro jv3 w3 q1 q2 q3; have Q1 : Hid _ := q1; have Q2 : Hid _ := q2; have Q3 : Hid _ := q3; clear q1 q2 q3)
    go_ret
    refine ⟨_, rfl, ?_, fun g hg => ?_, ?_⟩
    · rw [List.map_append]; exact Q1.out
    · rcases Q3.out g hg with h1 | h1
      · exact HF1.out g h1
      · omega
    · have hf := ((HB2.out.row HIA.out HF1.out hz0 Q2.out).out)
      rw [EM.out, List.append_assoc] at hf
      exact hf
  · have hs1 : (this == s) = false := by simpa using hs
    rw [if_neg hs, if_neg hs]
    clear hs
    go_enter Tryz.func183, Tryz.ntmps183
    go_wp2_with fail
    refine W1.mono ?_
    rintro e w1 ⟨jv1, rfl, hir1, hfr1, hout1⟩
    obtain ⟨v1, h1, _, z1⟩ := HB.out.next hout1
    have W2 := HJ (this := this) (bn := bn) HW1.out HT1.out h1.ly (by rw [List.length_append, lA]; omega) (by omega) (by omega)
    rw [List.length_append, lA] at W2
    obtain ⟨d4, _, d1⟩ := FC.out w1 h1.ly.bel
    have HB1 : Hid _ := h1
    have HI1 : Hid _ := hir1
    have HF1 : Hid _ := hfr1
    clear W1 hout1 c4 q0 h1 hir1 hfr1 HB
    go_wp2_with fail
    refine W2.mono ?_
    rintro e w2 ⟨jv2, rfl, hir2, hfr2, hout2⟩
    obtain ⟨v2, h2, k2, z2⟩ := HB1.out.next hout2
    have HI12 := k2 HI1.out
    have L2l : (l ++ gE jmp d (some s) (t.kid 0) l.length ++ gE jmp d (some this) (t.kid 1) (l.length + szG jmp d (some s) (t.kid 0))).length = l.length + szG jmp d (some s) (t.kid 0) + szG jmp d (some this) (t.kid 1) := by simp only [List.length_append, lA, lB]
    have W3 := comeHere_any (jv := jv1) (js := jdx jmp d s (t.kid 0) l.length) h2.ly.at_ (by rw [L2l]; omega) (by omega) HI12 (fun j hj => by have := HJA.out j hj; rw [L2l]; omega)
    rw [L2l] at W3
    have HB2 : Hid _ := h2
    have HI2 : Hid _ := hir2
    have HIA : Hid _ := HI12
    have HF2 : Hid (∀ g, jv2.ownBlock = some g → w.heap.size ≤ g) := fun g hg => by have := hfr2 g hg; omega
    clear W2 hout2 d4 d1 h2 k2 hir2 hfr2 HI12 HI1 HB1 L2l lA lB
    go_wp2_with fail
    refine W3.mono ?_
    rintro e w3 ⟨rfl, hout3⟩
    obtain ⟨v3, h3, k3, z3⟩ := HB2.out.next hout3
    have HI3 : Hid _ := k3 HI2.out
    have HB3 : Hid _ := h3
    clear W3 hout3 h3 k3
    go_wp2_with fail
    go_ret
    refine ⟨_, rfl, HI3.out, HF2.out, ?_⟩
    have hf := HB3.out.out
    have ea : l ++ gE jmp d (some s) (t.kid 0) l.length ++ gE jmp d (some this) (t.kid 1) (l.length + szG jmp d (some s) (t.kid 0)) = l ++ ((gen jmp d (some s) (t.kid 0) ⟨[], []⟩ l.length 0).map er ++ gE jmp d (some this) (t.kid 1) (l.length + szG jmp d (some s) (t.kid 0))) := by
      show l ++ (gen jmp d (some s) (t.kid 0) ⟨[], []⟩ l.length 0).map er ++ _ = _
      simp
    rw [EM.out, ea, HS.out] at hf
    exact hf
end Go.Proofs.YtfkdailfcmnjlaaGreatDoor

namespace Go.Proofs.YtfkdailfcmnjlaaGreatDoor
open Go Go.RowKit
set_option maxRecDepth 100000
attribute [local go_sem ↓] Go.wp_at_zero Go.wp_at_succ

set_option maxHeartbeats 4000000 in
theorem chosen_ok {jmp : Bool} {d : Nat} (HJ : JumpOK jmp d) {F : Nat → Prop} {t : Tr} {w0 w : World} {lp b bn dep cells : Nat} {v : Value} {l : List L3} {this : Bool} (hw : WfT (d + 1) t) (hk : t.k = 14) (hj : byJ jmp t.k = true) (hT : TrF F (d + 1) w0 b t) (h : LyW F w0 w lp jmp v l dep cells) (hsz : l.length + szG jmp (d + 1) (some this) t ≤ 4900) (hbn : bn + (d + 1) ≤ 1000) (hdp : dep ≤ 1000) :
    Calls Tryz.prog 184 #[.pointer (some ⟨lp, 0, none⟩), .bool this, .pointer (some ⟨b, 0, none⟩), .int .i64 bn] w fun e w' => ∃ jv, e = .returned jv ∧ IR w' 3 jv ((jdx jmp (d + 1) this t l.length).map fun j => ((j : Nat) : Int)) ∧ (∀ g, jv.ownBlock = some g → w.heap.size ≤ g) ∧ LyOut w w' lp jmp v (l ++ gE jmp (d + 1) (some this) t l.length) (max dep (dpG jmp (d + 1) (some this) t bn)) cells := by
  obtain ⟨eg, es, ed, ej⟩ := if_gE (jmp := jmp) (d := d) (p := l.length) (this := this) hj hk
  rw [es] at hsz
  rw [ed, eg, ej]
  clear es ed eg ej
  have hl3 : t.kids.length = 3 := by
    rcases hw.1 with ⟨h1, _⟩ | ⟨h1, _⟩ | ⟨_, _, _, _, h2⟩ | ⟨h1, _⟩
    · unfold leafK at h1; omega
    · omega
    · rw [h2]; rfl
    · unfold twoK at h1; omega
  obtain ⟨pl, nm, u, bl, HN, HK⟩ := tr_node hT
  obtain ⟨g, cap, HF⟩ := node_under HN (by omega)
  rw [hl3] at HF
  have FC : Hid (∀ W, Only F w0 W → W.cell? ⟨b, 4, none⟩ = some (.slice (some ⟨g, 0, none⟩) 3 cap) ∧ W.cell? ⟨g, 0, none⟩ = some (.pointer (some ⟨bl 0, 0, none⟩)) ∧ W.cell? ⟨g, 1, none⟩ = some (.pointer (some ⟨bl 1, 0, none⟩)) ∧ W.cell? ⟨g, 2, none⟩ = some (.pointer (some ⟨bl 2, 0, none⟩))) := fun W hb => ⟨(HF W hb).2.1, (HF W hb).2.2 0 (by omega), (HF W hb).2.2 1 (by omega), (HF W hb).2.2 2 (by omega)⟩
  have hw0 := kid_wf hw (j := 0) (by omega)
  have HW1 : Hid _ := kid_wf hw (j := 1) (by omega)
  have HT1 : Hid _ := HK 1 (by omega)
  have HW2 : Hid _ := kid_wf hw (j := 2) (by omega)
  have HT2 : Hid _ := HK 2 (by omega)
  have W1 := HJ (this := false) (bn := bn) hw0 (HK 0 (by omega)) h (by omega) (by omega) hdp
  obtain ⟨c4, q0, _, _⟩ := FC.out w h.bel
  have lA := gE_len jmp d (some false) (t.kid 0) l.length
  have lB := gE_len jmp d (some this) (t.kid 1) (l.length + szG jmp d (some false) (t.kid 0))
  have hd0 := dpG_le jmp d (some false) (t.kid 0) bn
  have hd1 := dpG_le jmp d (some this) (t.kid 1) bn
  have HLI : Hid _ := list_if (jmp := jmp) (d := d) (a := t.kid 0) (b := t.kid 1) (c := t.kid 2) (m := some this) (l := l) (p := l.length) rfl hw0
  have hja := @jdx_in jmp d (t.kid 0) false l.length
  have hjl := @jdx_len jmp d (t.kid 0) false l.length
  have hjl1 := @jdx_len jmp d (t.kid 1) this (l.length + szG jmp d (some false) (t.kid 0))
  have hjl2 := @jdx_len jmp d (t.kid 2) this (l.length + szG jmp d (some false) (t.kid 0) + szG jmp d (some this) (t.kid 1) + 1)
  have HB : Hid (LyF F w0 w v w lp jmp v l dep cells) := LyF.start h
  have hz0 : w0.heap.size ≤ w.heap.size := h.bel.size
  have HJA : Hid _ := hja
  have em : max (max (max dep (dpG jmp d (some false) (t.kid 0) bn)) (dpG jmp d (some this) (t.kid 1) bn)) (dpG jmp d (some this) (t.kid 2) bn) = max dep (max (dpG jmp d (some false) (t.kid 0) bn) (max (dpG jmp d (some this) (t.kid 1) bn) (dpG jmp d (some this) (t.kid 2) bn))) := by omega
  have EM : Hid _ := em
  clear h HN HK hT hw HF hw0 hj hk hja em
  go_enter Tryz.func184, Tryz.ntmps184
  go_wp2_with fail
  refine W1.mono ?_
  rintro e w1 ⟨jv1, rfl, hir1, _, hout1⟩
  obtain ⟨v1, h1, _, z1⟩ := HB.out.next hout1
  have W2 := HJ (this := this) (bn := bn) HW1.out HT1.out h1.ly (by rw [List.length_append, lA]; omega) (by omega) (by omega)
  rw [List.length_append, lA] at W2
  obtain ⟨d4, _, d1, _⟩ := FC.out w1 h1.ly.bel
  have HB1 : Hid _ := h1
  have HI1 : Hid _ := hir1
  clear W1 hout1 c4 q0 h1 hir1 HB
  go_wp2_with fail
  refine W2.mono ?_
  rintro e w2 ⟨jv2, rfl, hir2, hfr2, hout2⟩
  obtain ⟨v2, h2, k2, z2⟩ := HB1.out.next hout2
  have HI12 : Hid _ := k2 HI1.out
  have W3 := add_any 16 0 h2.ly.at_ (by simp only [List.length_append, lA, lB]; omega)
  obtain ⟨ix, hix⟩ : ∃ ix : Nat, l.length + szG jmp d (some false) (t.kid 0) + szG jmp d (some this) (t.kid 1) = ix := ⟨_, rfl⟩
  have hJ : (l ++ gE jmp d (some false) (t.kid 0) l.length ++ gE jmp d (some this) (t.kid 1) (l.length + szG jmp d (some false) (t.kid 0))).length = ix := by
    simp only [List.length_append, lA, lB]; exact hix
  rw [hJ] at W3
  have HIX : Hid _ := hix
  have HB2 : Hid _ := h2
  have HI2 : Hid _ := hir2
  have HF2 : Hid (∀ g, jv2.ownBlock = some g → w.heap.size ≤ g) := fun g hg => by have := hfr2 g hg; omega
  clear W2 hout2 d4 d1 h2 k2 hir2 hfr2 HI1 HB1 hJ hix
  go_wp2_with fail
  refine W3.mono ?_
  rintro e w3 ⟨rfl, hout3⟩
  obtain ⟨v3, h3, k3, z3⟩ := HB2.out.next hout3
  have L3l : (l ++ gE jmp d (some false) (t.kid 0) l.length ++ gE jmp d (some this) (t.kid 1) (l.length + szG jmp d (some false) (t.kid 0)) ++ [(⟨16, 0, 0⟩ : L3)]).length = l.length + szG jmp d (some false) (t.kid 0) + szG jmp d (some this) (t.kid 1) + 1 := by
    simp only [List.length_append, lA, lB, List.length_cons, List.length_nil]
  have W4 := comeHere_any (jv := jv1) (js := jdx jmp d false (t.kid 0) l.length) h3.ly.at_ (by rw [L3l]; omega) (by omega) (k3 HI12.out) (fun j hj => by have := HJA.out j hj; rw [L3l]; omega)
  rw [L3l] at W4
  have HB3 : Hid _ := h3
  have HI23 : Hid _ := k3 HI2.out
  clear W3 hout3 k3 h3 HI2 HI12 HB2
  go_wp2_with fail
  refine W4.mono ?_
  rintro e w4 ⟨rfl, hout4⟩
  obtain ⟨v4, h4, k4, z4⟩ := HB3.out.next hout4
  have L4l := setAll_len (jdx jmp d false (t.kid 0) l.length) (l ++ gE jmp d (some false) (t.kid 0) l.length ++ gE jmp d (some this) (t.kid 1) (l.length + szG jmp d (some false) (t.kid 0)) ++ [(⟨16, 0, 0⟩ : L3)]) (l.length + szG jmp d (some false) (t.kid 0) + szG jmp d (some this) (t.kid 1) + 1)
  rw [L3l] at L4l
  have W5 := HJ (this := this) (bn := bn) HW2.out HT2.out h4.ly (by rw [L4l]; omega) (by omega) (by omega)
  rw [L4l] at W5
  obtain ⟨d4, _, _, d2⟩ := FC.out w4 h4.ly.bel
  have HB4 : Hid _ := h4
  have HI24 : Hid _ := k4 HI23.out
  clear W4 hout4 k4 h4 HI23 HB3
  go_wp2_with fail
  refine W5.mono ?_
  rintro e w5 ⟨jv3, rfl, hir3, hfr3, hout5⟩
  obtain ⟨v5, h5, k5, z5⟩ := HB4.out.next hout5
  have HI25 : Hid _ := k5 HI24.out
  have HI3 : Hid _ := hir3
  have HB5 : Hid _ := h5
  have L5l : (setAll (l ++ gE jmp d (some false) (t.kid 0) l.length ++ gE jmp d (some this) (t.kid 1) (l.length + szG jmp d (some false) (t.kid 0)) ++ [(⟨16, 0, 0⟩ : L3)]) (jdx jmp d false (t.kid 0) l.length) (l.length + szG jmp d (some false) (t.kid 0) + szG jmp d (some this) (t.kid 1) + 1) ++ gE jmp d (some this) (t.kid 2) (l.length + szG jmp d (some false) (t.kid 0) + szG jmp d (some this) (t.kid 1) + 1)).length = l.length + szG jmp d (some false) (t.kid 0) + szG jmp d (some this) (t.kid 1) + 1 + szG jmp d (some this) (t.kid 2) := by
    rw [List.length_append, L4l, gE_len]
  have HL5 : Hid _ := L5l
  clear W5 hout5 k5 h5 hir3 hfr3 HI24 HB4 d4 d2 L5l L4l L3l lA lB
  go_wp2_with (at_builtin; go_must (refine wpList_app (by rfl) _ _ (by rfl) (by rfl) (by rfl) HI25.out HI3.out (by simp only [List.length_map]; omega) ?_); intro jv4 w6 q1 q2 q3; have h6 := HB5.out.row HI25.out HF2.out hz0 q2; have z6 := q2.size; have Q1 : Hid _ := q1; have Q3 : Hid _ := q3; have HB6 : Hid _ := h6; clear q1 q2 q3 h6)
  have hbA : Below w6.heap.size w6 (w6.alloc (.cells #[.int .i64 (ix : Nat)] 3)) := (Below.refl _ _).alloc (Nat.le_refl _) _
  have h7 := HB6.out.below hbA
  have Q17 := ir_below Q1.out hbA
  have W6 := comeHere_any (js := [ix]) h7.ly.at_ (by rw [HL5.out]; omega) (by simp) (ir_new w6 _) (fun j hj => by simp only [List.mem_singleton] at hj; have := HIX.out; rw [hj, HL5.out]; omega)
  have HB7 : Hid _ := h7
  have HQ17 : Hid _ := Q17
  clear hbA h7 Q17
  refine W6.mono ?_
  rintro e w7 ⟨rfl, hout7⟩
  obtain ⟨v8, h8, k8, z8⟩ := HB7.out.next hout7
  have HI8 : Hid _ := k8 HQ17.out
  have HB8 : Hid _ := h8
  clear W6 hout7 h8 k8
  go_wp2_with fail
  go_ret
  refine ⟨_, rfl, ?_, fun g hg => ?_, ?_⟩
  · rw [List.map_append]; exact HI8.out
  · rcases Q3.out g hg with h1 | h1
    · exact HF2.out g h1
    · omega
  · have hf := HB8.out.out
    rw [setAll_one, HL5.out, ← HIX.out, HLI.out, EM.out] at hf
    exact hf
end Go.Proofs.YtfkdailfcmnjlaaGreatDoor

namespace Go.Proofs.YtfkdailfcmnjlaaGreatDoor
open Go Go.RowKit
set_option maxRecDepth 100000
attribute [local go_sem ↓] Go.wp_at_zero Go.wp_at_succ

set_option maxHeartbeats 4000000 in
theorem ask_ok {jmp : Bool} {d : Nat} (HL : LayOK jmp (d + 1)) {F : Nat → Prop} {t : Tr} {w0 w : World} {lp b bn dep cells : Nat} {v : Value} {l : List L3} {this : Bool} (hw : WfT (d + 1) t) (hj : byJ jmp t.k = false) (hT : TrF F (d + 1) w0 b t) (h : LyW F w0 w lp jmp v l dep cells) (hsz : l.length + szG jmp (d + 1) (some this) t ≤ 4900) (hbn : bn + (d + 1) ≤ 1000) (hdp : dep ≤ 1000) :
    Calls Tryz.prog 134 #[.pointer (some ⟨lp, 0, none⟩), .bool this, .pointer (some ⟨b, 0, none⟩), .int .i64 bn] w fun e w' => ∃ jv, e = .returned jv ∧ IR w' 3 jv ((jdx jmp (d + 1) this t l.length).map fun j => ((j : Nat) : Int)) ∧ (∀ g, jv.ownBlock = some g → w.heap.size ≤ g) ∧ LyOut w w' lp jmp v (l ++ gE jmp (d + 1) (some this) t l.length) (max dep (dpG jmp (d + 1) (some this) t bn)) cells := by
  rw [ask_sz hj] at hsz
  rw [ask_gE hj, ask_dp hj, ask_jdx hj]
  obtain ⟨pl, nm, u, bl, HN, HK⟩ := tr_node hT
  have c0 := (HN w h.bel).cc.c0
  have p0 : w.cell? ⟨lp, 0, none⟩ = some (.bool jmp) := cell_of_row w lp 0 _ _ _ h.at_.blk
  have W1 := HL (bn := bn) hw hT h (by cases this <;> simp at hsz <;> omega) hbn hdp
  have lA := gE_len jmp (d + 1) none t l.length
  have HB : Hid (LyF F w0 w v w lp jmp v l dep cells) := LyF.start h
  have hb : jmp = true → ((t.k : Int) == 20) = false ∧ ((t.k : Int) == 21) = false ∧ ((t.k : Int) == 19) = false ∧ ((t.k : Int) == 18) = false ∧ ((t.k : Int) == 17) = false ∧ ((t.k : Int) == 14) = false := fun e => by
    unfold byJ at hj
    rw [e] at hj
    simp at hj
    refine ⟨?_, ?_, ?_, ?_, ?_, ?_⟩ <;> (simp; omega)
  generalize gE jmp (d + 1) none t l.length = A at *
  generalize szG jmp (d + 1) none t = sA at *
  generalize dpG jmp (d + 1) none t bn = dA at *
  clear h HN HK hT hw hj
  generalize t.k = k at *
  cases this with
  | false =>
    simp only [Bool.false_eq_true, if_false, List.nil_append, Nat.add_zero] at hsz ⊢
    have HW2 : Hid (∀ (w1 : World) (v1 : Value), LyF F w0 w v w1 lp jmp v1 (l ++ A) (max dep dA) cells → Calls Tryz.prog 93 #[.pointer (some ⟨lp, 0, none⟩), .int .i64 15, .int .i64 0] w1 fun e w' => e = .returned (.int .i64 ((l.length + sA : Nat) : Int)) ∧ LyOut w1 w' lp jmp v1 (l ++ A ++ [⟨15, 0, 0⟩]) (max dep dA) cells) := fun w1 v1 h1 => by
      have := add_any 15 0 h1.ly.at_ (by rw [List.length_append, lA]; omega)
      rw [List.length_append, lA] at this
      exact this
    clear lA
    generalize l.length + sA = ix at *
    cases jmp with
    | false =>
      clear hb
      go_enter Tryz.func134, Tryz.ntmps134
      go_wp2_with fail
      refine W1.mono ?_
      rintro e w1 ⟨rfl, hout1⟩
      obtain ⟨v1, h1, _, z1⟩ := HB.out.next hout1
      have W2 := HW2.out w1 v1 h1
      have HB1 : Hid _ := h1
      clear W1 hout1 h1 HW2
      go_wp2_with fail
      refine W2.mono ?_
      rintro e w2 ⟨rfl, hout2⟩
      obtain ⟨v2, h2, _, z2⟩ := HB1.out.next hout2
      have HB2 : Hid _ := h2
      clear W2 hout2 h2
      have HI : Hid _ := ir_new w2 (ix : Nat)
      go_wp2_with fail
      go_ret
      refine ⟨_, rfl, HI.out, fun g hg => ?_, ?_⟩
      · simp [Value.ownBlock] at hg; omega
      · have hf := (HB2.out.below ((Below.refl _ _).alloc (Nat.le_refl _) (.cells #[.int .i64 (ix : Nat)] 3))).out
        rw [List.append_assoc] at hf
        exact hf
    | true =>
      obtain ⟨b1, b2, b3, b4, b5, b6⟩ := hb rfl
      clear hb
      go_enter Tryz.func134, Tryz.ntmps134
      go_wp2_with fail
      refine W1.mono ?_
      rintro e w1 ⟨rfl, hout1⟩
      obtain ⟨v1, h1, _, z1⟩ := HB.out.next hout1
      have W2 := HW2.out w1 v1 h1
      have HB1 : Hid _ := h1
      clear W1 hout1 h1 HW2
      go_wp2_with fail
      refine W2.mono ?_
      rintro e w2 ⟨rfl, hout2⟩
      obtain ⟨v2, h2, _, z2⟩ := HB1.out.next hout2
      have HB2 : Hid _ := h2
      clear W2 hout2 h2
      have HI : Hid _ := ir_new w2 (ix : Nat)
      go_wp2_with fail
      go_ret
      refine ⟨_, rfl, HI.out, fun g hg => ?_, ?_⟩
      · simp [Value.ownBlock] at hg; omega
      · have hf := (HB2.out.below ((Below.refl _ _).alloc (Nat.le_refl _) (.cells #[.int .i64 (ix : Nat)] 3))).out
        rw [List.append_assoc] at hf
        exact hf
  | true =>
    simp only [if_true] at hsz ⊢
    have HW2 : Hid (∀ (w1 : World) (v1 : Value), LyF F w0 w v w1 lp jmp v1 (l ++ A) (max dep dA) cells → Calls Tryz.prog 93 #[.pointer (some ⟨lp, 0, none⟩), .int .i64 12, .int .i64 0] w1 fun e w' => e = .returned (.int .i64 ((l.length + sA : Nat) : Int)) ∧ LyOut w1 w' lp jmp v1 (l ++ A ++ [⟨12, 0, 0⟩]) (max dep dA) cells) := fun w1 v1 h1 => by
      have := add_any 12 0 h1.ly.at_ (by rw [List.length_append, lA]; omega)
      rw [List.length_append, lA] at this
      exact this
    have HW3 : Hid (∀ (w1 : World) (v1 : Value), LyF F w0 w v w1 lp jmp v1 (l ++ A ++ [⟨12, 0, 0⟩]) (max dep dA) cells → Calls Tryz.prog 93 #[.pointer (some ⟨lp, 0, none⟩), .int .i64 15, .int .i64 0] w1 fun e w' => e = .returned (.int .i64 ((l.length + sA + 1 : Nat) : Int)) ∧ LyOut w1 w' lp jmp v1 (l ++ A ++ [⟨12, 0, 0⟩] ++ [⟨15, 0, 0⟩]) (max dep dA) cells) := fun w1 v1 h1 => by
      have := add_any 15 0 h1.ly.at_ (by simp only [List.length_append, lA, List.length_cons, List.length_nil]; omega)
      rw [List.length_append, List.length_append, lA] at this
      exact this
    clear lA
    generalize hi1 : l.length + sA + 1 = ix at *
    generalize l.length + sA = iy at *
    clear hi1
    cases jmp with
    | false =>
      clear hb
      go_enter Tryz.func134, Tryz.ntmps134
      go_wp2_with fail
      refine W1.mono ?_
      rintro e w1 ⟨rfl, hout1⟩
      obtain ⟨v1, h1, _, z1⟩ := HB.out.next hout1
      have W2 := HW2.out w1 v1 h1
      have HB1 : Hid _ := h1
      clear W1 hout1 h1 HW2
      go_wp2_with fail
      refine W2.mono ?_
      rintro e w2 ⟨rfl, hout2⟩
      obtain ⟨v2, h2, _, z2⟩ := HB1.out.next hout2
      have W3 := HW3.out w2 v2 h2
      have HB2 : Hid _ := h2
      clear W2 hout2 h2 HW3
      go_wp2_with fail
      refine W3.mono ?_
      rintro e w3 ⟨rfl, hout3⟩
      obtain ⟨v3, h3, _, z3⟩ := HB2.out.next hout3
      have HB3 : Hid _ := h3
      clear W3 hout3 h3
      have HI : Hid _ := ir_new w3 (ix : Nat)
      go_wp2_with fail
      go_ret
      refine ⟨_, rfl, HI.out, fun g hg => ?_, ?_⟩
      · simp [Value.ownBlock] at hg; omega
      · have hf := (HB3.out.below ((Below.refl _ _).alloc (Nat.le_refl _) (.cells #[.int .i64 (ix : Nat)] 3))).out
        rw [List.append_assoc, List.append_assoc] at hf
        exact hf
    | true =>
      obtain ⟨b1, b2, b3, b4, b5, b6⟩ := hb rfl
      clear hb
      go_enter Tryz.func134, Tryz.ntmps134
      go_wp2_with fail
      refine W1.mono ?_
      rintro e w1 ⟨rfl, hout1⟩
      obtain ⟨v1, h1, _, z1⟩ := HB.out.next hout1
      have W2 := HW2.out w1 v1 h1
      have HB1 : Hid _ := h1
      clear W1 hout1 h1 HW2
      go_wp2_with fail
      refine W2.mono ?_
      rintro e w2 ⟨rfl, hout2⟩
      obtain ⟨v2, h2, _, z2⟩ := HB1.out.next hout2
      have W3 := HW3.out w2 v2 h2
      have HB2 : Hid _ := h2
      clear W2 hout2 h2 HW3
      go_wp2_with fail
      refine W3.mono ?_
      rintro e w3 ⟨rfl, hout3⟩
      obtain ⟨v3, h3, _, z3⟩ := HB2.out.next hout3
      have HB3 : Hid _ := h3
      clear W3 hout3 h3
      have HI : Hid _ := ir_new w3 (ix : Nat)
      go_wp2_with fail
      go_ret
      refine ⟨_, rfl, HI.out, fun g hg => ?_, ?_⟩
      · simp [Value.ownBlock] at hg; omega
      · have hf := (HB3.out.below ((Below.refl _ _).alloc (Nat.le_refl _) (.cells #[.int .i64 (ix : Nat)] 3))).out
        rw [List.append_assoc, List.append_assoc] at hf
        exact hf
set_option maxHeartbeats 4000000 in
theorem jump_ok {jmp : Bool} {d : Nat} (HL : LayOK jmp d) (HJ : JumpOK jmp d) : JumpOK jmp (d + 1) := by
  intro F t w0 w lp b bn dep cells v l this hw hT h hsz hbn hdp
  cases hj : byJ jmp t.k with
  | false => exact ask_ok (lay_ok HL HJ) hw hj hT h hsz hbn hdp
  | true =>
    obtain rfl : jmp = true := by unfold byJ at hj; simp at hj; exact hj.1
    obtain ⟨pl, nm, u, bl, HN, HK⟩ := tr_node hT
    have c0 := (HN w h.bel).cc.c0
    have p0 : w.cell? ⟨lp, 0, none⟩ = some (.bool true) := cell_of_row w lp 0 _ _ _ h.at_.blk
    by_cases h2 : t.k = 20 ∨ t.k = 21
    · obtain ⟨eg, _, ed, ej⟩ := word_gE (jmp := true) (d := d) (p := l.length) (this := this) hj h2
      rw [ed, eg, ej]
      have eb : max dep 0 = dep := by omega
      rw [eb]
      clear ed eg ej eb
      rcases h2 with h2 | h2
      · cases this
        · have ee : ¬ (false = decide (t.k = 20)) := by rw [h2]; decide
          rw [if_neg ee, if_neg ee]
          have W1 := jumpAtOnce_any h.at_ (by omega) false
          simp only [Bool.false_eq_true, if_false] at W1
          rw [h2] at c0
          clear h HN HK hT hw ee hsz hj
          go_enter Tryz.func134, Tryz.ntmps134
          go_wp2_with fail
          refine W1.mono ?_
          rintro e w1 hx
          obtain ⟨jv, rfl, x1, x2, x3⟩ := hx
          have HX : Hid _ := And.intro x1 (And.intro x2 x3)
          clear x1 x2 x3 W1
          go_wp2_with fail
          go_ret
          exact ⟨_, rfl, HX.out.1, HX.out.2.1, by first | exact HX.out.2.2 | (have hx := HX.out.2.2; rw [List.append_nil] at hx; exact hx)⟩
        · have ee : (true = decide (t.k = 20)) := by rw [h2]; decide
          rw [if_pos ee, if_pos ee]
          have W1 := jumpAtOnce_any h.at_ (by omega) true
          simp only [if_true] at W1
          rw [h2] at c0
          clear h HN HK hT hw ee hsz hj
          go_enter Tryz.func134, Tryz.ntmps134
          go_wp2_with fail
          refine W1.mono ?_
          rintro e w1 hx
          obtain ⟨jv, rfl, x1, x2, x3⟩ := hx
          have HX : Hid _ := And.intro x1 (And.intro x2 x3)
          clear x1 x2 x3 W1
          go_wp2_with fail
          go_ret
          exact ⟨_, rfl, HX.out.1, HX.out.2.1, by first | exact HX.out.2.2 | (have hx := HX.out.2.2; rw [List.append_nil] at hx; exact hx)⟩
      · cases this
        · have ee : (false = decide (t.k = 20)) := by rw [h2]; decide
          rw [if_pos ee, if_pos ee]
          have W1 := jumpAtOnce_any h.at_ (by omega) true
          simp only [if_true] at W1
          rw [h2] at c0
          clear h HN HK hT hw ee hsz hj
          go_enter Tryz.func134, Tryz.ntmps134
          go_wp2_with fail
          refine W1.mono ?_
          rintro e w1 hx
          obtain ⟨jv, rfl, x1, x2, x3⟩ := hx
          have HX : Hid _ := And.intro x1 (And.intro x2 x3)
          clear x1 x2 x3 W1
          go_wp2_with fail
          go_ret
          exact ⟨_, rfl, HX.out.1, HX.out.2.1, by first | exact HX.out.2.2 | (have hx := HX.out.2.2; rw [List.append_nil] at hx; exact hx)⟩
        · have ee : ¬ (true = decide (t.k = 20)) := by rw [h2]; decide
          rw [if_neg ee, if_neg ee]
          have W1 := jumpAtOnce_any h.at_ (by omega) false
          simp only [Bool.false_eq_true, if_false] at W1
          rw [h2] at c0
          clear h HN HK hT hw ee hsz hj
          go_enter Tryz.func134, Tryz.ntmps134
          go_wp2_with fail
          refine W1.mono ?_
          rintro e w1 hx
          obtain ⟨jv, rfl, x1, x2, x3⟩ := hx
          have HX : Hid _ := And.intro x1 (And.intro x2 x3)
          clear x1 x2 x3 W1
          go_wp2_with fail
          go_ret
          exact ⟨_, rfl, HX.out.1, HX.out.2.1, by first | exact HX.out.2.2 | (have hx := HX.out.2.2; rw [List.append_nil] at hx; exact hx)⟩
    by_cases h3 : t.k = 19
    · obtain ⟨eg, es, ed, ej⟩ := not_gE (jmp := true) (d := d) (p := l.length) (this := this) hj h3
      rw [es] at hsz
      rw [ed, eg, ej]
      have hl1 : t.kids.length = 1 := by
        rcases hw.1 with ⟨h1, _⟩ | ⟨_, _, h4⟩ | ⟨h1, _⟩ | ⟨h1, _⟩
        · unfold leafK at h1; omega
        · rw [h4]; rfl
        · omega
        · unfold twoK at h1; omega
      obtain ⟨g, cap, HF⟩ := node_under HN (by omega)
      rw [hl1] at HF
      obtain ⟨_, c4, hg⟩ := HF w h.bel
      have q0 := hg 0 (by omega)
      have W1 := HJ (this := !this) (bn := bn) (kid_wf hw (j := 0) (by omega)) (HK 0 (by omega)) h (by omega) (by omega) hdp
      rw [h3] at c0
      clear HF hg h HN HK hT hw es ed eg ej hsz hj h2
      go_enter Tryz.func134, Tryz.ntmps134
      go_wp2_with fail
      refine W1.mono ?_
      rintro e w1 hx
      obtain ⟨jv, rfl, x1, x2, x3⟩ := hx
      have HX : Hid _ := And.intro x1 (And.intro x2 x3)
      clear x1 x2 x3 W1
      go_wp2_with fail
      go_ret
      exact ⟨_, rfl, HX.out.1, HX.out.2.1, HX.out.2.2⟩
    by_cases h4 : t.k = 14
    · have W1 := chosen_ok (this := this) HJ hw h4 hj hT h hsz hbn hdp
      rw [h4] at c0
      clear h HN HK hT hw hsz hj h2 h3
      go_enter Tryz.func134, Tryz.ntmps134
      go_wp2_with fail
      refine W1.mono ?_
      rintro e w1 hx
      obtain ⟨jv, rfl, x1, x2, x3⟩ := hx
      have HX : Hid _ := And.intro x1 (And.intro x2 x3)
      clear x1 x2 x3 W1
      go_wp2_with fail
      go_ret
      exact ⟨_, rfl, HX.out.1, HX.out.2.1, HX.out.2.2⟩
    · have h5 : t.k = 17 ∨ t.k = 18 := by unfold byJ at hj; simp at hj; omega
      have W1 := joined_ok (this := this) HJ hw h5 hj hT h hsz hbn hdp
      clear h HN HK hT hw hsz hj h2 h3 h4
      rcases h5 with h5 | h5
      · have e17 : decide (t.k = 17) = true := by simp [h5]
        rw [e17] at W1
        rw [h5] at c0
        clear h5 e17
        go_enter Tryz.func134, Tryz.ntmps134
        go_wp2_with fail
        refine W1.mono ?_
        rintro e w1 hx
        obtain ⟨jv, rfl, x1, x2, x3⟩ := hx
        have HX : Hid _ := And.intro x1 (And.intro x2 x3)
        clear x1 x2 x3 W1
        go_wp2_with fail
        go_ret
        exact ⟨_, rfl, HX.out.1, HX.out.2.1, HX.out.2.2⟩
      · have e17 : decide (t.k = 17) = false := by simp [h5]
        rw [e17] at W1
        rw [h5] at c0
        clear h5 e17
        go_enter Tryz.func134, Tryz.ntmps134
        go_wp2_with fail
        refine W1.mono ?_
        rintro e w1 hx
        obtain ⟨jv, rfl, x1, x2, x3⟩ := hx
        have HX : Hid _ := And.intro x1 (And.intro x2 x3)
        clear x1 x2 x3 W1
        go_wp2_with fail
        go_ret
        exact ⟨_, rfl, HX.out.1, HX.out.2.1, HX.out.2.2⟩
/-- Laying and asking, however deep. -/
theorem layers (jmp : Bool) (d : Nat) : LayOK jmp d ∧ JumpOK jmp d := by
  induction d with
  | zero => exact ⟨fun {_ _ _ _ _ _ _ _ _ _ _} h => h.elim, fun {_ _ _ _ _ _ _ _ _ _ _ _} h => h.elim⟩
  | succ d ih => exact ⟨lay_ok ih.1 ih.2, jump_ok ih.1 ih.2⟩
end Go.Proofs.YtfkdailfcmnjlaaGreatDoor

namespace Go.Proofs.YtfkdailfcmnjlaaGreatDoor
open Go Go.RowKit
set_option maxRecDepth 100000
attribute [local go_sem ↓] Go.wp_at_zero Go.wp_at_succ

/-- The instructions of an item. -/
def iE (jmp : Bool) (d : Nat) (x : ItT) (p : Nat) : List L3 :=
  if x.kind = 11 then gE jmp d none x.c p ++ [⟨5, x.wh, 0⟩] else (gen jmp d (some false) x.c ⟨[], []⟩ p (p + szG jmp d (some false) x.c + 1)).map er ++ [⟨verdictOp x.kind, x.wh, 0⟩]
def iD (jmp : Bool) (d : Nat) (x : ItT) : Nat := dpG jmp d (if x.kind = 11 then none else some false) x.c 0
def iS (jmp : Bool) (d : Nat) (x : ItT) : Nat := szG jmp d (if x.kind = 11 then none else some false) x.c + 1
theorem iE_len (jmp : Bool) (d : Nat) (x : ItT) (p : Nat) : (iE jmp d x p).length = iS jmp d x := by
  unfold iE iS
  by_cases h : x.kind = 11
  · rw [if_pos h, if_pos h, List.length_append, gE_len]; rfl
  · rw [if_neg h, if_neg h, List.length_append, gen_er_len]; rfl
/-- A block of another kind stays. -/
theorem LyOut.keep {w w' : World} {lp : Nat} {jmp : Bool} {v : Value} {l l' : List L3} {dep cells dep' cells' : Nat} (h : LyAt w lp jmp v l dep cells) (ho : LyOut w w' lp jmp v l' dep' cells') {ib : Nat} {cs : Array Value} {T : TypeId} {z : Nat × Nat} (hb : w.heap[ib]? = some (.cells cs T z)) (h1 : T ≠ 194) (h2 : T ≠ 247) : w'.heap[ib]? = some (.cells cs T z) := by
  obtain ⟨v', _, o1, _⟩ := ho
  refine (o1.block _ (lt_of_get hb) (fun hF => ?_)).trans hb
  rcases hF with rfl | hF
  · have := h.blk
    rw [hb] at this
    simp at this
    exact h1 this.2.1
  · obtain ⟨cs', hc⟩ := ownsRow_type h.row hF
    rw [hb] at hc
    simp at hc
    exact h2 hc.2.1
/-- How many cells there are, told anew. -/
theorem LyOut.cells {w w1 : World} {lp : Nat} {jmp : Bool} {v : Value} {l : List L3} {dep cells : Nat} (h : LyOut w w1 lp jmp v l dep cells) (x : Nat) : LyOut w (w1.setCell ⟨lp, 3, none⟩ (.int .i64 (x : Nat))) lp jmp v l dep x := by
  obtain ⟨v1, a1, o1, f1⟩ := h
  refine ⟨v1, ⟨?_, ?_⟩, o1.setCell (.inl (.inl rfl)) _, f1⟩
  · rw [heap_setCell_same w1 lp 3 _ _ _ a1.blk]; rfl
  · exact ownsRow_setCell_other a1.row (a := ⟨lp, 3, none⟩) a1.ne _
set_option maxHeartbeats 4000000 in
theorem layItem_any {F : Nat → Prop} {jmp : Bool} {d : Nat} {x : ItT} {w0 w : World} {lp b dep cells : Nat} {v : Value} {l : List L3} {a1 a2 a3 a4 a5 a6 a7 : Value} (o1 : a1.oneCell' = true) (o2 : a2.oneCell' = true) (o3 : a3.oneCell' = true) (o4 : a4.oneCell' = true) (o5 : a5.oneCell' = true) (o6 : a6.oneCell' = true) (o7 : a7.oneCell' = true)
    (hkd : x.kind = 11 ∨ x.kind = 12 ∨ x.kind = 13) (hwh : x.wh ≤ 255) (hw : WfT d x.c) (hT : TrF F d w0 b x.c) (h : LyW F w0 w lp jmp v l dep cells) (hsz : l.length + iS jmp d x ≤ 4900) (hd : d ≤ 1000) (hdp : dep ≤ 1000) :
    Calls Tryz.prog 92 #[.pointer (some ⟨lp, 0, none⟩), .agg #[.int .i64 x.kind, a1, a2, a3, a4, a5, a6, a7, .int .i64 x.wh, .pointer (some ⟨b, 0, none⟩)]] w fun e w' => e = .returned (.tuple #[]) ∧ LyOut w w' lp jmp v (l ++ iE jmp d x l.length) (max dep (iD jmp d x)) (if x.kind = 11 then x.wh + 1 else cells) := by
  obtain ⟨HL, HJ⟩ := layers jmp d
  have hbA : Below w.heap.size w (w.alloc (.cells #[.int .i64 x.kind, a1, a2, a3, a4, a5, a6, a7, .int .i64 x.wh, .pointer (some ⟨b, 0, none⟩)] 163)) := (Below.refl _ _).alloc (Nat.le_refl _) _
  have hit : (w.alloc (.cells #[.int .i64 x.kind, a1, a2, a3, a4, a5, a6, a7, .int .i64 x.wh, .pointer (some ⟨b, 0, none⟩)] 163)).heap[w.heap.size]? = some (.cells #[.int .i64 x.kind, a1, a2, a3, a4, a5, a6, a7, .int .i64 x.wh, .pointer (some ⟨b, 0, none⟩)] 163 (0, 0)) := heap_alloc_new w _
  have h1 := (LyF.start h).below hbA
  generalize hwA : w.alloc (.cells #[.int .i64 x.kind, a1, a2, a3, a4, a5, a6, a7, .int .i64 x.wh, .pointer (some ⟨b, 0, none⟩)] 163) = wA at *
  have c0 : wA.cell? ⟨w.heap.size, 0, none⟩ = some (.int .i64 x.kind) := cell_of_row wA _ 0 _ _ _ hit
  have c9 : wA.cell? ⟨w.heap.size, 9, none⟩ = some (.pointer (some ⟨b, 0, none⟩)) := cell_of_row wA _ 9 _ _ _ hit
  have HW : Hid _ := hwA
  have HIT : Hid _ := hit
  have HB1 : Hid _ := h1
  by_cases h11 : x.kind = 11
  · have W1 := HL (bn := 0) hw hT h1.ly (by unfold iS at hsz; rw [if_pos h11] at hsz; omega) (by omega) hdp
    have lA := gE_len jmp d none x.c l.length
    have HE : Hid (iE jmp d x l.length = gE jmp d none x.c l.length ++ [⟨5, x.wh, 0⟩] ∧ iD jmp d x = dpG jmp d none x.c 0) := ⟨by unfold iE; rw [if_pos h11], by unfold iD; rw [if_pos h11]⟩
    have hs2 : l.length + szG jmp d none x.c ≤ 4900 := by unfold iS at hsz; rw [if_pos h11] at hsz; omega
    rw [HE.out.1, HE.out.2, if_pos h11]
    have hi11 : ((x.kind : Int) == 11) = true := by simp; omega
    clear HE h hit h1 hwA hbA HL HJ hw hT hsz h11 hkd
    go_enter Tryz.func92, Tryz.ntmps92
    go_wp2_with fail
    rw [HW.out]
    refine W1.mono ?_
    rintro e w1 ⟨rfl, hout1⟩
    obtain ⟨v1, h1, _, z1⟩ := HB1.out.next hout1
    have hit1 := LyOut.keep HB1.out.ly.at_ hout1 HIT.out (by decide) (by decide)
    have c8 : w1.cell? ⟨w.heap.size, 8, none⟩ = some (.int .i64 x.wh) := cell_of_row w1 _ 8 _ _ _ hit1
    have W2 := add_any 5 x.wh h1.ly.at_ (by rw [List.length_append, lA]; omega)
    have HB2 : Hid _ := h1
    have HIT1 : Hid _ := hit1
    clear W1 hout1 h1 hit1 c0 c9 lA
    generalize (l ++ gE jmp d none x.c l.length).length = ix at *
    go_wp2_with fail
    refine W2.mono ?_
    rintro e w2 ⟨rfl, hout2⟩
    obtain ⟨v2, h2, _, z2⟩ := HB2.out.next hout2
    have hit2 := LyOut.keep HB2.out.ly.at_ hout2 HIT1.out (by decide) (by decide)
    have d8 : w2.cell? ⟨w.heap.size, 8, none⟩ = some (.int .i64 x.wh) := cell_of_row w2 _ 8 _ _ _ hit2
    have p3 : w2.cell? ⟨lp, 3, none⟩ = some (.int .i64 (cells : Nat)) := cell_of_row w2 lp 3 _ _ _ h2.ly.at_.blk
    have pf : w2.frozen? ⟨lp, 3, none⟩ = false := by simp [World.frozen?, h2.ly.at_.blk]
    have HB3 : Hid _ := h2
    clear W2 hout2 h2 hit2 c8
    go_wp2_with fail
    refine bodyPost_ret (v := .tuple #[]) (by simp [results, Tryz.results92, go_sem]) rfl ?_
    refine ⟨rfl, ?_⟩
    have hf := LyOut.cells HB3.out.out (x.wh + 1)
    rw [List.append_assoc] at hf
    exact hf
  · have W1 := HJ (this := false) (bn := 0) hw hT h1.ly (by unfold iS at hsz; rw [if_neg h11] at hsz; omega) (by omega) hdp
    have lA := gE_len jmp d (some false) x.c l.length
    have HE : Hid (iE jmp d x l.length = (gen jmp d (some false) x.c ⟨[], []⟩ l.length (l.length + szG jmp d (some false) x.c + 1)).map er ++ [⟨verdictOp x.kind, x.wh, 0⟩] ∧ iD jmp d x = dpG jmp d (some false) x.c 0) := ⟨by unfold iE; rw [if_neg h11], by unfold iD; rw [if_neg h11]⟩
    have hs2 : l.length + szG jmp d (some false) x.c + 1 ≤ 4900 := by unfold iS at hsz; rw [if_neg h11] at hsz; omega
    have hja := @jdx_in jmp d x.c false l.length
    have hjl := @jdx_len jmp d x.c false l.length
    have HS : Hid _ := gen_set (jmp := jmp) d (t := x.c) (k := ⟨[], []⟩) (this := false) (pre := l) (post := [⟨verdictOp x.kind, x.wh, 0⟩]) (p := l.length) (l.length + szG jmp d (some false) x.c + 1) hw rfl
    rw [HE.out.1, HE.out.2, if_neg h11]
    have hi11 : ((x.kind : Int) == 11) = false := by simp; omega
    have hk2 : x.kind = 12 ∨ x.kind = 13 := by omega
    have W3 := fun W => verdict_any x.kind hk2 W
    have HJA : Hid _ := hja
    clear HE h hit h1 hwA hbA HL HJ hw hT hsz h11 hkd hja hk2
    generalize hvo : verdictOp x.kind = vo at *
    have HVO : Hid _ := hvo
    clear hvo
    go_enter Tryz.func92, Tryz.ntmps92
    go_wp2_with fail
    rw [HW.out]
    refine W1.mono ?_
    rintro e w1 ⟨jv, rfl, hir1, _, hout1⟩
    obtain ⟨v1, h1, _, z1⟩ := HB1.out.next hout1
    have hit1 := LyOut.keep HB1.out.ly.at_ hout1 HIT.out (by decide) (by decide)
    have e0 : w1.cell? ⟨w.heap.size, 0, none⟩ = some (.int .i64 x.kind) := cell_of_row w1 _ 0 _ _ _ hit1
    have e8 : w1.cell? ⟨w.heap.size, 8, none⟩ = some (.int .i64 x.wh) := cell_of_row w1 _ 8 _ _ _ hit1
    have hdr : LyF F w0 w v w1.drew lp jmp v1 (l ++ gE jmp d (some false) x.c l.length) (max dep (dpG jmp d (some false) x.c 0)) cells := h1.below ((Below.refl _ _).drew)
    have W2 := add_any vo x.wh hdr.ly.at_ (by rw [List.length_append, lA]; omega)
    have HB2 : Hid _ := hdr
    have HIT1 : Hid (w1.drew.heap[w.heap.size]? = _) := hit1
    have HI1 : Hid _ := ir_below hir1 ((Below.refl _ w1).drew)
    have L2l : (l ++ gE jmp d (some false) x.c l.length ++ [(⟨vo, x.wh, 0⟩ : L3)]).length = l.length + szG jmp d (some false) x.c + 1 := by simp only [List.length_append, lA, List.length_cons, List.length_nil]
    have HL2 : Hid _ := L2l
    have KP : Hid (∀ w2, LyOut w1.drew w2 lp jmp v1 (l ++ gE jmp d (some false) x.c l.length ++ [⟨vo, x.wh, 0⟩]) (max dep (dpG jmp d (some false) x.c 0)) cells → w2.cell? ⟨w.heap.size, 0, none⟩ = some (.int .i64 x.kind) ∧ w2.cell? ⟨w.heap.size, 8, none⟩ = some (.int .i64 x.wh)) := fun w2 ho => by
      have hit2 := LyOut.keep HB2.out.ly.at_ ho HIT1.out (by decide) (by decide)
      exact ⟨cell_of_row w2 _ 0 _ _ _ hit2, cell_of_row w2 _ 8 _ _ _ hit2⟩
    have hS0 : w1.cell? ⟨w.heap.size, 0, none⟩ = some (.int .i64 x.kind) ∧ w1.cell? ⟨w.heap.size, 8, none⟩ = some (.int .i64 x.wh) := ⟨e0, e8⟩
    clear W1 hout1 h1 hit1 c0 c9 lA hir1 hdr L2l
    generalize (l ++ gE jmp d (some false) x.c l.length).length = ix at *
    go_wp2_with fail
    go_region_held3 (fun W => W.cell? ⟨w.heap.size, 0, none⟩ = some (.int .i64 x.kind) ∧ W.cell? ⟨w.heap.size, 8, none⟩ = some (.int .i64 x.wh)) (first | assumption | exact hS0 | exact KP.out _ (by assumption) | go_keep)
      (first
        | (go_at_call 135; refine (W3 _).mono ?_; rintro e w' ⟨rfl, hw'⟩; have hw2 := hw'.symm; clear hw'; subst hw2)
        | (go_at_call 93; refine W2.mono ?_; rintro e w2 ⟨rfl, hout2⟩))
    all_goals
      obtain ⟨v2, h2, k2, z2⟩ := HB2.out.next hout2
      have W4 := comeHere_any (jv := jv) (js := jdx jmp d false x.c l.length) h2.ly.at_ (by rw [HL2.out]; omega) (by omega) (k2 HI1.out) (fun j hj => by have := HJA.out j hj; rw [HL2.out]; omega)
      rw [HL2.out] at W4
      have HB3 : Hid _ := h2
      clear h2 k2 hout2 W2
      go_wp2_with fail
      refine W4.mono ?_
      rintro e w3 ⟨rfl, hout3⟩
      obtain ⟨v3, h3, _, z3⟩ := HB3.out.next hout3
      have HB4 : Hid _ := h3
      clear W4 hout3 h3
      go_wp2_with fail
      go_end0
      refine ⟨rfl, ?_⟩
      have hf := HB4.out.out
      have ea : l ++ gE jmp d (some false) x.c l.length ++ [(⟨vo, x.wh, 0⟩ : L3)] = l ++ ((gen jmp d (some false) x.c ⟨[], []⟩ l.length 0).map er ++ [⟨vo, x.wh, 0⟩]) := by
        show l ++ (gen jmp d (some false) x.c ⟨[], []⟩ l.length 0).map er ++ _ = _
        simp
      rw [ea, HS.out] at hf
      exact hf
end Go.Proofs.YtfkdailfcmnjlaaGreatDoor
