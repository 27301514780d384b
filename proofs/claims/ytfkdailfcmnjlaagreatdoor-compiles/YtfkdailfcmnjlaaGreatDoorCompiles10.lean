/-
  The reference's reader: 'adds'. The reference's functions 'value' and 'signs'. The reference's reader of conditions: what its recursive methods do, by the plain reader's calls. The reference's method 'condition' answers as the plain reader does, if what it calls does. The reference's method 'one' answers as the plain reader does, if what it calls does. The reference's method 'level' answers as the plain reader does at the levels 5 and 2, if what it calls does.
-/
import Derived.Test.YtfkdailfcmnjlaaGreatDoorCompiles01
import Derived.Test.YtfkdailfcmnjlaaGreatDoorCompiles04
import Derived.Test.YtfkdailfcmnjlaaGreatDoorCompiles05
import Derived.Test.YtfkdailfcmnjlaaGreatDoorCompiles06
import Derived.Test.YtfkdailfcmnjlaaGreatDoorCompiles07
import Derived.Test.YtfkdailfcmnjlaaGreatDoorCompiles08
import Derived.Test.YtfkdailfcmnjlaaGreatDoorCompiles09
import Derived.Deep.RegionLaw
import Derived.WalkKit
import Derived.Deep.QuietTactic
import Derived.BigQuiet
import Derived.WalkSpells
import GoSem.Op.String
import Derived.Deep.AppendLies
import Derived.Deep.RegionHeld3
import Derived.Deep.DrawnRows
import Derived.Deep.RegionHeldLaw
set_option linter.unusedVariables false
set_option linter.unusedSimpArgs false
namespace Go.Proofs.YtfkdailfcmnjlaaGreatDoor
open Go Go.RowKit
set_option maxRecDepth 100000
attribute [local go_sem ↓] Go.wp_at_zero Go.wp_at_succ

theorem info_part : (Tryz.prog.info? 169).map (fun i => (i.zero, i.size, i.bytes)) = some (some (.agg #[.int .u8 0, .string ⟨#[]⟩, .int .i64 0, .slice none 0 0, .int .i64 0]), 5, 64) := by kernel_rfl

def partV (p : PartS) : Value := .agg #[.int .u8 p.tok.k, S p.tok.text, .int .i64 p.tok.pl, p.sv, .int .i64 p.n]

theorem SubsOK.one {w : World} {p : PartS} (h : SubsOK w p) : p.sv.oneCell' = true := by
  rcases h with ⟨_, e⟩ | ⟨sb, e, _⟩ <;> rw [e] <;> rfl

theorem one5 (k : Nat) (t : List UInt8) (pl : Nat) (sv : Value) (n : Int) (h : sv.oneCell' = true) : ∀ u ∈ [Value.int .u8 k, S t, .int .i64 pl, sv, .int .i64 n], u.oneCell' = true := by
  intro u hu
  simp at hu
  rcases hu with rfl | rfl | rfl | rfl | rfl
  · rfl
  · rfl
  · rfl
  · exact h
  · rfl
theorem far2 {w w1 : World} {o1 o2 : Obj} {row : Option Nat} {b : Nat} (hg : (((w.alloc o1).alloc o2).drew).grownBy w1 row) (hb : b < w.heap.size) (hne : some b ≠ row) (j : Nat) :
    w1.cell? ⟨b, j, none⟩ = w.cell? ⟨b, j, none⟩ ∧ w1.frozen? ⟨b, j, none⟩ = w.frozen? ⟨b, j, none⟩ := by
  have h : w1.heap[b]? = w.heap[b]? := by
    rw [hg.block b (by simp; omega) hne]
    exact (Below.heap_alloc (w.alloc o1) o2 b (by simp; omega)).trans (Below.heap_alloc w o1 b hb)
  exact ⟨World.cell?_of_block (a := ⟨b, j, none⟩) h, World.frozen?_of_block (a := ⟨b, j, none⟩) h⟩
theorem news_two (w : World) (o : Obj) (cs : List Value) (t : TypeId) : ∀ j u, cs[j]? = some u → (((w.alloc o).alloc (.cells cs.toArray t)).drew).cell? ((⟨w.heap.size + 1, 0, none⟩ : Addr).add j) = some u := by
  have h := World.news_of_block (w := ((w.alloc o).alloc (.cells cs.toArray t)).drew) (B := w.heap.size + 1) (cs := cs.toArray) (t := t) (fr := (0, 0)) (by have e := heap_alloc_new (w.alloc o) (.cells cs.toArray t); rw [World.size_alloc] at e; exact e)
  simpa using h

theorem SubsOK.of {w w' : World} {p : PartS} (h : SubsOK w p) (hb : ∀ (k : Nat) (cs : Array Value), w.heap[k]? = some (.cells cs 3 (0, 0)) → w'.heap[k]? = w.heap[k]?) : SubsOK w' p := by
  rcases h with e | ⟨sb, e, hh⟩
  · exact .inl e
  · exact .inr ⟨sb, e, by rw [hb sb _ hh]; exact hh⟩

theorem RS.added {B rb gl cl : Nat} {ts : List Tok} {s : St} {w w1 : World} (h : RS B rb gl cl ts s w) (p : PartS) (hp : SubsOK w p) (hs : s.ps.length + 1 ≤ s.i) {o1 o2 : Obj} {gg cap : Nat}
    (hg : (((w.alloc o1).alloc o2).drew).grownBy w1 s.pv.ownBlock)
    (hown : w1.ownsRow B 169 5 (.slice (some ⟨gg, 0, none⟩) (s.ps.length + 1) cap) (s.ps.length + 1) (partCells s.ps ++ [.int .u8 p.tok.k, S p.tok.text, .int .i64 p.tok.pl, p.sv, .int .i64 p.n]))
    (hat : s.pv.ownBlock = some gg ∨ gg = w.heap.size + 2) :
    RS B rb gl cl ts { s with ps := s.ps ++ [p], pv := .slice (some ⟨gg, 0, none⟩) (s.ps.length + 1) cap } (w1.setCell ⟨rb, 2, none⟩ (.slice (some ⟨gg, 0, none⟩) (s.ps.length + 1) cap)) ∧
    Fr rb s.pv (.slice (some ⟨gg, 0, none⟩) (s.ps.length + 1) cap) w (w1.setCell ⟨rb, 2, none⟩ (.slice (some ⟨gg, 0, none⟩) (s.ps.length + 1) cap)) := by
  have hw : ∀ k, k < w.heap.size → some k ≠ s.pv.ownBlock → w1.heap[k]? = w.heap[k]? := fun k hk hne => by
    rw [hg.block k (by simp; omega) hne]
    exact (Below.heap_alloc (w.alloc o1) o2 k (by simp; omega)).trans (Below.heap_alloc w o1 k hk)
  have ht : ∀ (k : Nat) (cs : Array Value) (e : TypeId), w.heap[k]? = some (.cells cs e (0, 0)) → e ≠ 169 → some k ≠ s.pv.ownBlock := fun k cs e hk he hh => by
    obtain ⟨cs', hc⟩ := ownsRow_type h.parts hh.symm
    rw [hk] at hc; simp at hc; exact he hc.2
  have hrb := lt_of_get h.rd
  have hrd1 : w1.heap[rb]? = some (.cells #[.slice (some ⟨gl, 0, none⟩) ts.length cl, .int .i64 s.i, s.pv, .bool s.bad] 149 (0, 0)) := by
    rw [hw rb hrb (ht rb _ _ h.rd (by decide))]; exact h.rd
  have ho : ∀ k v, k ≠ rb → (w1.setCell ⟨rb, 2, none⟩ v).heap[k]? = w1.heap[k]? := fun k v hk => Below.heap_setCell _ _ _ _ hk
  have hsub : ∀ (v : Value) (k : Nat) (cs : Array Value) (e : TypeId), w.heap[k]? = some (.cells cs e (0, 0)) → e ≠ 169 → e ≠ 149 → (w1.setCell ⟨rb, 2, none⟩ v).heap[k]? = w.heap[k]? := fun v k cs e hk he he2 => by
    rw [ho k v (fun hh => by subst hh; rw [h.rd] at hk; simp at hk; exact he2 hk.2.symm), hw k (lt_of_get hk) (ht k cs e hk he)]
  refine ⟨⟨?_, ?_, ?_, ?_, h.hb, h.hi, h.hn, h.fin, by simpa using hs⟩, ⟨hg.os, hg.tape, hg.output, ?_, ?_, ?_⟩⟩
  · rw [heap_setCell_same w1 rb 2 _ _ _ hrd1]; simp
  · obtain ⟨cs, hc⟩ := ownsRow_type h.words (k := gl) rfl
    refine ownsRow_of_block h.words fun k hk => ?_
    simp [Value.ownBlock] at hk; subst hk
    exact hsub _ _ cs _ hc (by decide) (by decide)
  · have h2 : w1.ownsRow B 169 5 (.slice (some ⟨gg, 0, none⟩) (s.ps.length + 1) cap) (s.ps ++ [p]).length (partCells (s.ps ++ [p])) := by
      rw [partCells_snoc]; simpa using hown
    refine ownsRow_of_block h2 fun k hk => ho k _ fun e => ?_
    subst e
    obtain ⟨cs, hc⟩ := ownsRow_type h2 hk
    rw [hrd1] at hc; simp at hc
  · intro q hq
    have hq' : SubsOK w q := by
      simp at hq
      rcases hq with hq | hq
      · exact h.subs q hq
      · rw [hq]; exact hp
    exact hq'.of fun k cs hk => hsub _ k cs _ hk (by decide) (by decide)
  · have := hg.size; simp at this ⊢; omega
  · intro k hk h1 h2
    rw [ho k _ h1, hw k hk h2]
  · rcases hat with e | e
    · exact .inl e.symm
    · exact .inr ⟨gg, rfl, by omega⟩

set_option maxHeartbeats 2000000 in
theorem adds_any {B rb gl cl : Nat} {ts : List Tok} {s : St} {w : World} (h : RS B rb gl cl ts s w) (p : PartS) (hp : SubsOK w p) (hB : B ≤ w.heap.size) (hs : s.ps.length + 1 ≤ s.i) :
    Calls Tryz.prog 160 #[.pointer (some ⟨rb, 0, none⟩), partV p] w fun e w' => e = .returned (.int .i64 s.ps.length) ∧ ∃ pv', RS B rb gl cl ts { s with ps := s.ps ++ [p], pv := pv' } w' ∧ Fr rb s.pv pv' w w' := by
  obtain ⟨i0, hi, hz0, hz1, hz2⟩ := info_parts info_part
  have hrb := lt_of_get h.rd
  obtain ⟨c0, c1, c2, c3⟩ := h.cells
  have hf := h.free
  have hone := hp.one
  have hlen : s.ps.length ≤ 2000 := by have := h.hi; have := h.hn; omega
  have hne : some rb ≠ s.pv.ownBlock := fun e => by
    obtain ⟨cs, hc⟩ := ownsRow_type h.parts e.symm
    rw [h.rd] at hc; simp at hc
  have hnb : some w.heap.size ≠ s.pv.ownBlock := fun e => by
    have := (h.parts.lt _ e.symm).2
    omega
  have n0 := World.new_ne w _ c2
  have hrb1 : rb < w.heap.size + 1 := by omega
  have hrb2 : rb < w.heap.size + 1 + 1 := by omega
  unfold partV
  go_enter Tryz.func160, Tryz.ntmps160
  go_wp2_with fail
  go_region_law
    ((refine step_append_lies _ (by rfl) _ _ _ (by rfl) B 169 i0 _ 5 64 Tryz.underlying88 hi hz0 hz1 hz2 rfl (by omega) s.pv s.ps.length (partCells s.ps) (by rfl) (((h.parts.alloc _).alloc _).drew)
        ⟨w.heap.size + 1, 0, none⟩ 1 1 [.int .u8 p.tok.k, S p.tok.text, .int .i64 p.tok.pl, p.sv, .int .i64 p.n] (by rfl) (by rfl) (news_two w _ _ _) (one5 _ _ _ _ _ hone)
        (by omega) (by unfold maxLen; omega) (by omega) (by simp; omega) (w.heap.size + 2) (by simp) ?_; intro gg cap w1 hown1 hgrow hat hlt; have e1 := (far2 hgrow hrb hne 2).1.trans c2; have e2 := (far2 hgrow hrb hne 2).2.trans (hf 2)))
  all_goals
    go_wp2
    go_ret
    exact ⟨ret_int (by omega), .slice (some ⟨gg, 0, none⟩) (s.ps.length + 1) cap, h.added p hp hs hgrow hown1 hat⟩
end Go.Proofs.YtfkdailfcmnjlaaGreatDoor

namespace Go.Proofs.YtfkdailfcmnjlaaGreatDoor
open Go Go.RowKit
set_option maxRecDepth 100000

set_option maxHeartbeats 400000 in
theorem signs_any (n : Nat) (w : World) (hn : n ≤ 10) : Calls Tryz.prog 221 #[.int .i64 n] w (fun e w' => NewStrs (signsOf n) e w w') := by
  by_cases h0 : n = 0
  · subst h0
    go_enter Tryz.func221, Tryz.ntmps221
    go_wp2
    go_ret
    exact newStrs_alloc w _ _ _ rfl rfl
  by_cases h1 : n = 1
  · subst h1
    go_enter Tryz.func221, Tryz.ntmps221
    go_wp2
    go_ret
    exact newStrs_alloc w _ _ _ rfl rfl
  by_cases h3 : n = 3
  · subst h3
    go_enter Tryz.func221, Tryz.ntmps221
    go_wp2
    go_ret
    exact newStrs_alloc w _ _ _ rfl rfl
  · have hs : Hid (signsOf n = [[43], [45]]) := by show _ = _; unfold signsOf; rw [if_neg h0, if_neg h1, if_neg h3]
    have b0 : ((n : Int) == 0) = false := by simp; omega
    have b1 : ((n : Int) == 1) = false := by simp; omega
    have b3 : ((n : Int) == 3) = false := by simp; omega
    go_enter Tryz.func221, Tryz.ntmps221
    go_wp2
    go_ret
    rw [hs.out]
    exact newStrs_alloc w _ _ _ rfl rfl

theorem val_int {k : IntKind} {a b : Int} (h : a = b) : Value.int k a = .int k b := by rw [h]
theorem dv_mono (l : List UInt8) (k : Nat) : dv 0 (l.take k) ≤ dv 0 l := by
  induction l generalizing k with
  | nil => simp
  | cons c l ih =>
    cases k with
    | zero => simp [dv]
    | succ k =>
      rw [List.take_succ_cons, dv_cons, dv_cons, dv_acc (l.take k), dv_acc l (0 * 10 + (c.toNat - 48))]
      have h1 : (10 : Nat) ^ (l.take k).length ≤ 10 ^ l.length := Nat.pow_le_pow_right (by decide) (List.length_take_le' _ _)
      have h2 := ih k
      have h3 := Nat.mul_le_mul_left (0 * 10 + (c.toNat - 48)) h1
      omega
theorem dv_snoc (l : List UInt8) (c : UInt8) : dv 0 (l ++ [c]) = dv 0 l * 10 + (c.toNat - 48) := by
  unfold dv; rw [List.foldl_append]; rfl
theorem dv_take (l : List UInt8) (k : Nat) (h : k < l.length) : dv 0 (l.take (k + 1)) = dv 0 (l.take k) * 10 + (l[k].toNat - 48) := by
  rw [List.take_succ_eq_append_getElem h, dv_snoc]

set_option maxHeartbeats 1000000 in
theorem value_any (s : List UInt8) (w : World) (hl : s.length ≤ 1000) (hd : ∀ c ∈ s, isD c = true) (hb : decVal s ≤ 9223372036854775807) :
    Calls Tryz.prog 248 #[S s] w fun e w' => e = .returned (.int .i64 (decVal s)) ∧ w' = w := by
  have HB : Hid (dv 0 s ≤ 9223372036854775807) := hb
  clear hb
  go_enter Tryz.func248, Tryz.ntmps248
  go_wp2
  go_loop [3, 4] (fun n i => ∃ k : Nat, k ≤ s.length ∧ i = .int .i64 k ∧ n = .int .i64 (dv 0 (s.take k))) (fun _ i => s.length - (intOf i).toNat)
  case atStart => exact ⟨0, Nat.zero_le _, rfl, by simp [dv]⟩
  case round =>
    obtain ⟨k, hk, rfl, rfl⟩ := hrel
    by_cases hlt : k < s.length
    · have ht := dv_take s k hlt
      have hm := dv_mono s (k + 1)
      have hdk := isD_le (hd s[k] (List.getElem_mem hlt))
      have h9 := HB.out
      have c1 : (48 : Int) ≤ (((ByteArray.mk s.toArray)[k]'hlt).toNat : Int) := Int.ofNat_le.2 hdk.1
      have c2 : (((ByteArray.mk s.toArray)[k]'hlt).toNat : Int) ≤ 57 := Int.ofNat_le.2 hdk.2
      generalize hv : dv 0 (s.take k) = v at *
      have hv2 : (v : Int) ≤ 922337203685477580 := by omega
      have hv3 : (v : Int) * 10 + ((((ByteArray.mk s.toArray)[k]'hlt).toNat : Int) - 48) ≤ 9223372036854775807 := by
        have : (((ByteArray.mk s.toArray)[k]'hlt).toNat : Int) = (s[k].toNat : Int) := rfl
        omega
      have HT : Hid (dv 0 (s.take (k + 1)) = v * 10 + (s[k].toNat - 48)) := ht
      clear ht hm hdk h9 hv
      go_wp2
      refine ⟨⟨k + 1, by omega, by go_num, ?_⟩, by simp [intOf]; omega⟩
      rw [HT.out]
      refine val_int ?_
      have e : (((ByteArray.mk s.toArray)[k]'hlt).toNat : Int) = (s[k].toNat : Int) := rfl
      omega
    · go_wp2
      go_ret
      refine ⟨ret_int ?_, rfl⟩
      rw [List.take_of_length_le (by omega)]; rfl
end Go.Proofs.YtfkdailfcmnjlaaGreatDoor

namespace Go.Proofs.YtfkdailfcmnjlaaGreatDoor
open Go Go.RowKit
set_option maxRecDepth 100000
attribute [local go_sem ↓] Go.wp_at_zero Go.wp_at_succ

def toPt (p : PartS) : Pt := ⟨p.tok, p.subs⟩
/-- The numbers of the parts are those of their words. -/
def NumsOK (s : St) : Prop := ∀ p ∈ s.ps, p.n = numOf p.tok

/-- What a method that reads a condition leaves. -/
def Left (B rb gl cl : Nat) (ts : List Tok) (s : St) (w : World) (r : Rd) (e : Ending) (w' : World) : Prop :=
  ∃ s' : St, RS B rb gl cl ts s' w' ∧ Fr rb s.pv s'.pv w w' ∧ (s.ps.length ≤ s'.ps.length ∧ s'.ps.length + s.i ≤ s.ps.length + s'.i) ∧ s'.i = r.i ∧
    ((r.ok = true ∧ s'.bad = false ∧ NumsOK s' ∧ s'.ps.map toPt = r.L ∧ e = .returned (.int .i64 r.top)) ∨ (r.ok = false ∧ s'.bad = true ∧ ∃ n : Nat, e = .returned (.int .i64 n)))

/-- The loads of the next word. -/
theorem next_word {B rb gl cl : Nat} {ts : List Tok} {s : St} {w : World} (h : RS B rb gl cl ts s w) :
    w.cell? ⟨gl, s.i * 3, none⟩ = some (.int .u8 (tokAt ts s.i).k) ∧ w.cell? ⟨gl, s.i * 3 + 1, none⟩ = some (S (tokAt ts s.i).text) ∧ w.cell? ⟨gl, s.i * 3 + 2, none⟩ = some (.int .i64 (tokAt ts s.i).pl) := h.word s.i h.hi

set_option maxHeartbeats 1000000 in
/-- In a reader that can go on no more 'level' answers 0. -/
theorem level_bad {B rb gl cl : Nat} {ts : List Tok} {s : St} {w : World} (h : RS B rb gl cl ts s w) (hb : s.bad = true) (n : Nat) :
    Calls Tryz.prog 159 #[.pointer (some ⟨rb, 0, none⟩), .int .i64 n] w fun e w' => e = .returned (.int .i64 0) ∧ w' = w := by
  obtain ⟨c0, c1, c2, c3⟩ := h.cells
  rw [hb] at c3
  go_enter Tryz.func159, Tryz.ntmps159
  go_wp2_with fail
  go_ret
  exact ⟨rfl, rfl⟩

abbrev wordObj (t : Tok) : Obj := .cells #[.int .u8 t.k, S t.text, .int .i64 t.pl] 151

theorem below_word (w : World) (o : Obj) : Below w.heap.size w (w.alloc o).drew := ((Below.refl _ _).alloc (Nat.le_refl _) _).drew

set_option maxHeartbeats 1000000 in
theorem condition_bad {B rb gl cl : Nat} {ts : List Tok} {s : St} {w : World} (h : RS B rb gl cl ts s w) (hb : s.bad = true) :
    Calls Tryz.prog 115 #[.pointer (some ⟨rb, 0, none⟩)] w fun e w' => e = .returned (.int .i64 0) ∧ Below w.heap.size w w' := by
  obtain ⟨c0, c1, c2, c3⟩ := h.cells
  obtain ⟨k0, k1, k2⟩ := next_word h
  have hi := h.hi
  have hn := h.hn
  have b1 : (0 : Int) ≤ (s.i : Int) := by omega
  have b2 : (s.i : Int) < (ts.length : Int) := by omega
  have n0 := World.new_ne w _ c0
  have n1 := World.new_ne w _ c1
  have m0 := World.new_ne w _ k0
  have m1 := World.new_ne w _ k1
  have m2 := World.new_ne w _ k2
  have HB : Hid _ := hb
  clear hb c2 c3
  go_enter Tryz.func115, Tryz.ntmps115
  go_wp2_with fail
  go_region_held (fun w' => w'.cell? ⟨rb, 0, none⟩ = some (.slice (some ⟨gl, 0, none⟩) ts.length cl) ∧ w'.cell? ⟨rb, 1, none⟩ = some (.int .i64 s.i) ∧ w'.cell? ⟨gl, s.i * 3, none⟩ = some (.int .u8 (tokAt ts s.i).k) ∧ w'.cell? ⟨gl, s.i * 3 + 1, none⟩ = some (S (tokAt ts s.i).text) ∧ w'.cell? ⟨gl, s.i * 3 + 2, none⟩ = some (.int .i64 (tokAt ts s.i).pl)) (go_keep) (fail)
  rename_i hHeld
  clear hHeld
  have h1 := h.below (below_word w (wordObj (tokAt ts s.i)))
  clear c0 c1 k0 k1 k2 n0 n1 m0 m1 m2
  go_wp2_with fail
  refine (sees_any h1 wIf).mono ?_
  rintro e w2 ⟨rfl, hb2⟩
  have h2 := h1.below hb2
  have e0 : seesB s.bad (tokAt ts s.i) wIf = false := by unfold seesB; rw [HB.out]; rfl
  rw [e0]
  clear e0
  go_wp2_with fail
  refine (level_bad h2 HB.out 0).mono ?_
  rintro e w3 ⟨rfl, rfl⟩
  go_wp2_with fail
  go_ret
  exact ⟨rfl, (below_word w _).trans (hb2.mono (by simp))⟩

/-- A reader that can go on, or not, and what a call of 'condition' then answers. -/
def May (f : Nat) (ts : List Tok) (s : St) (r : Rd) : Prop := (s.bad = true ∧ r.ok = false ∧ r.i = s.i) ∨ (s.bad = false ∧ NumsOK s ∧ P f 6 ts s.i (s.ps.map toPt) 0 = some r)

/-- Of a number of calls: 'condition' and 'level' answer as the plain reader does. -/
def Reads (f : Nat) : Prop := ∀ (B rb gl cl : Nat) (ts : List Tok) (s : St) (w : World) (r : Rd), RS B rb gl cl ts s w → (∀ t ∈ ts, TokOK t) → B ≤ w.heap.size →
  (May f ts s r → Calls Tryz.prog 115 #[.pointer (some ⟨rb, 0, none⟩)] w (Left B rb gl cl ts s w r)) ∧
  (∀ n, n ≤ 5 → s.bad = false → NumsOK s → P f n ts s.i (s.ps.map toPt) 0 = some r → Calls Tryz.prog 159 #[.pointer (some ⟨rb, 0, none⟩), .int .i64 n] w (Left B rb gl cl ts s w r))

theorem left_bad {B rb gl cl : Nat} {ts : List Tok} {s : St} {w w' : World} {r : Rd} (h : RS B rb gl cl ts s w) (hb : s.bad = true) (hr : r.ok = false) (hi : r.i = s.i) (n : Nat) (hw : Below w.heap.size w w') : Left B rb gl cl ts s w r (.returned (.int .i64 n)) w' :=
  ⟨s, h.below hw, Fr.of_below hw, ⟨Nat.le_refl _, Nat.le_refl _⟩, hi.symm, .inr ⟨hr, hb, n, rfl⟩⟩

/-- Behind 'condition' and a word that must follow: what the next 'condition' meets. -/
theorem may_next {f : Nat} {ts : List Tok} {s2 : St} {a b : Rd} {x : List UInt8} (hi : s2.i = a.i) (hs : (a.ok = true ∧ s2.bad = false ∧ NumsOK s2 ∧ s2.ps.map toPt = a.L) ∨ (a.ok = false ∧ s2.bad = true)) (hn : Nx f ts a b x) : May f ts (mustSt ts s2 x) b := by
  unfold Nx at hn
  unfold mustSt seesB
  rcases hs with ⟨h1, h2, h3, h4⟩ | ⟨h1, h2⟩
  · rw [h2, hi]
    by_cases hw : isW (tokAt ts a.i) x = true
    · rw [if_pos ⟨h1, hw⟩] at hn
      rw [if_pos (by simp [hw])]
      exact .inr ⟨rfl, h3, by simp only; rw [h4]; exact hn⟩
    · rw [if_neg (fun e => hw e.2)] at hn
      rw [if_neg (by simpa using hw)]
      exact .inl ⟨rfl, hn.1, by simp [hn.2]⟩
  · rw [if_neg (fun e => by rw [h1] at e; simp at e)] at hn
    rw [h2, if_neg (by simp)]
    exact .inl ⟨rfl, hn.1, by simp [hn.2, hi]⟩
theorem must_ps (ts : List Tok) (s : St) (x : List UInt8) : (mustSt ts s x).ps = s.ps ∧ (mustSt ts s x).pv = s.pv ∧ s.i ≤ (mustSt ts s x).i := by
  unfold mustSt; split <;> simp
end Go.Proofs.YtfkdailfcmnjlaaGreatDoor

namespace Go.Proofs.YtfkdailfcmnjlaaGreatDoor
open Go Go.RowKit
set_option maxRecDepth 100000
attribute [local go_sem ↓] Go.wp_at_zero Go.wp_at_succ

/-- A block that is neither the reader nor its parts' row stands. -/
theorem Fr.far {rb : Nat} {pv pv' : Value} {w w' : World} (h : Fr rb pv pv' w w') {k : Nat} {o : Obj} (hk : w.heap[k]? = some o) (h1 : k ≠ rb) (h2 : some k ≠ pv.ownBlock) : w'.heap[k]? = some o := by
  rw [h.block k (lt_of_get hk) h1 h2]; exact hk

theorem left_st {B rb gl cl : Nat} {ts : List Tok} {s : St} {w w' : World} {r : Rd} {e : Ending} (h : Left B rb gl cl ts s w r e w') :
    ∃ (s' : St) (n : Nat), e = .returned (.int .i64 n) ∧ RS B rb gl cl ts s' w' ∧ Fr rb s.pv s'.pv w w' ∧ (s.ps.length ≤ s'.ps.length ∧ s'.ps.length + s.i ≤ s.ps.length + s'.i) ∧ Hid (s'.i = r.i) ∧
      Hid ((r.ok = true ∧ s'.bad = false ∧ NumsOK s' ∧ s'.ps.map toPt = r.L) ∨ (r.ok = false ∧ s'.bad = true)) ∧ Hid (r.ok = true → n = r.top) := by
  obtain ⟨s', h1, h2, h3, h4, h5⟩ := h
  rcases h5 with ⟨a, b, c, d, rfl⟩ | ⟨a, b, n, rfl⟩
  · exact ⟨s', r.top, rfl, h1, h2, h3, h4, .inl ⟨a, b, c, d⟩, fun _ => rfl⟩
  · exact ⟨s', n, rfl, h1, h2, h3, h4, .inr ⟨a, b⟩, fun hh => by rw [a] at hh; simp at hh⟩

/-- A block at or above what was there is none of the reader's parts' row. -/
theorem own_ne {B rb gl cl : Nat} {ts : List Tok} {s : St} {w : World} (h : RS B rb gl cl ts s w) {k : Nat} {o : Obj} (hk : w.heap[k]? = some o) (ht : ∀ cs, o ≠ .cells cs 169 (0, 0)) : some k ≠ s.pv.ownBlock := fun e => by
  obtain ⟨cs, hc⟩ := ownsRow_type h.parts e.symm
  rw [hk] at hc; simp at hc; exact ht cs hc

theorem left_fin {s' : St} {r : Rd} {n : Nat} (st : (r.ok = true ∧ s'.bad = false ∧ NumsOK s' ∧ s'.ps.map toPt = r.L) ∨ (r.ok = false ∧ s'.bad = true)) (ht : r.ok = true → n = r.top) :
    (r.ok = true ∧ s'.bad = false ∧ NumsOK s' ∧ s'.ps.map toPt = r.L ∧ Ending.returned (.int .i64 (n : Int)) = .returned (.int .i64 r.top)) ∨ (r.ok = false ∧ s'.bad = true ∧ ∃ m : Nat, Ending.returned (.int .i64 (n : Int)) = .returned (.int .i64 m)) := by
  rcases st with ⟨a, b, c, d⟩ | ⟨a, b⟩
  · exact .inl ⟨a, b, c, d, by rw [ht a]⟩
  · exact .inr ⟨a, b, n, rfl⟩
theorem numOf_w {t : Tok} {x : List UInt8} (h : isW t x = true) : numOf t = 0 := by
  unfold isW at h; simp at h
  unfold numOf; rw [if_neg (by omega)]
theorem nums_snoc {ps : List PartS} {p : PartS} (h : ∀ q ∈ ps, q.n = numOf q.tok) (hp : p.n = numOf p.tok) : ∀ q ∈ ps ++ [p], q.n = numOf q.tok := by
  intro q hq
  simp at hq
  rcases hq with hq | rfl
  · exact h q hq
  · exact hp

set_option maxHeartbeats 4000000 in
theorem condition_if {f : Nat} (ih : Reads f) {B rb gl cl : Nat} {ts : List Tok} {s : St} {w : World} {r : Rd} (h : RS B rb gl cl ts s w) (hts : ∀ t ∈ ts, TokOK t) (hB : B ≤ w.heap.size)
    (hgood : s.bad = false) (hnum : NumsOK s) (hP : P (f + 1) 6 ts s.i (s.ps.map toPt) 0 = some r) (hw : isW (tokAt ts s.i) wIf = true) :
    Calls Tryz.prog 115 #[.pointer (some ⟨rb, 0, none⟩)] w (Left B rb gl cl ts s w r) := by
  obtain ⟨a, b, c, hPa, hNb, hNc, hrc, hri, hrp⟩ := if_split hP hw
  obtain ⟨c0, c1, c2, c3⟩ := h.cells
  obtain ⟨k0, k1, k2⟩ := next_word h
  have hi := h.hi
  have hn := h.hn
  have b1 : (0 : Int) ≤ (s.i : Int) := by omega
  have b2 : (s.i : Int) < (ts.length : Int) := by omega
  have n0 := World.new_ne w _ c0
  have n1 := World.new_ne w _ c1
  have m0 := World.new_ne w _ k0
  have m1 := World.new_ne w _ k1
  have m2 := World.new_ne w _ k2
  have e0 : Hid (seesB s.bad (tokAt ts s.i) wIf = true) := by show _ = _; unfold seesB; rw [hgood, hw]; rfl
  have hnx := sees_next h e0.out
  have H1 : Hid _ := hPa
  have H2 : Hid _ := hgood
  have H3 : Hid _ := hw
  have H4 : Hid _ := hrc
  have H5 : Hid _ := hri
  have H6 : Hid _ := hrp
  clear hP hPa hgood hw hrc hri hrp c2 c3
  go_enter Tryz.func115, Tryz.ntmps115
  go_wp2_with fail
  go_region_held (fun w' => w'.cell? ⟨rb, 0, none⟩ = some (.slice (some ⟨gl, 0, none⟩) ts.length cl) ∧ w'.cell? ⟨rb, 1, none⟩ = some (.int .i64 s.i) ∧ w'.cell? ⟨gl, s.i * 3, none⟩ = some (.int .u8 (tokAt ts s.i).k) ∧ w'.cell? ⟨gl, s.i * 3 + 1, none⟩ = some (S (tokAt ts s.i).text) ∧ w'.cell? ⟨gl, s.i * 3 + 2, none⟩ = some (.int .i64 (tokAt ts s.i).pl)) (go_keep) (fail)
  rename_i hHeld
  clear hHeld
  have h1 := h.below (below_word w (wordObj (tokAt ts s.i)))
  have hbox : ((w.alloc (wordObj (tokAt ts s.i))).drew).heap[w.heap.size]? = some (wordObj (tokAt ts s.i)) := heap_alloc_new w _
  clear c0 c1 k0 k1 k2 n0 n1 m0 m1 m2
  go_wp2_with fail
  refine (sees_any h1 wIf).mono ?_
  rintro e w2 ⟨rfl, hb2⟩
  have h2 := h1.below hb2
  rw [e0.out]
  obtain ⟨c0, c1, c2, c3⟩ := h2.cells
  have hf := h2.free
  have hx : (s.i : Int) + 1 ≤ 2000 := by omega
  go_wp2_with fail
  have hrb := lt_of_get h.rd
  have h3 := h2.next hnx.1
  have hsz2 : w.heap.size + 1 ≤ w2.heap.size := by have := hb2.size; simpa using this
  have F3 : Fr rb s.pv s.pv w (w2.setCell ⟨rb, 1, none⟩ (.int .i64 ((s.i : Int) + 1))) := (Fr.of_below ((below_word w _).trans (hb2.mono (by simp)))).set hrb _ _
  have hbox3 : (w2.setCell ⟨rb, 1, none⟩ (.int .i64 ((s.i : Int) + 1))).heap[w.heap.size]? = some (wordObj (tokAt ts s.i)) := by
    rw [Below.heap_setCell _ _ _ _ (by simp; omega), hb2.block _ (by simp)]; exact hbox
  have hs3 : w.heap.size < (w2.setCell ⟨rb, 1, none⟩ (.int .i64 ((s.i : Int) + 1))).heap.size := by simp; omega
  clear h1 h2 hbox c0 c1 c2 c3 hf hb2 hsz2
  generalize w2.setCell ⟨rb, 1, none⟩ (.int .i64 ((s.i : Int) + 1)) = w3 at *
  refine ((ih B rb gl cl ts { s with i := s.i + 1 } w3 a h3 hts (by omega)).1 (.inr ⟨H2.out, hnum, H1.out⟩)).mono ?_
  rintro e w4 hL
  obtain ⟨s4, n4, rfl, h4, F4, g4, i4, st4, top4⟩ := left_st hL
  have hs4 := F4.size
  have hbox4 := F4.far hbox3 (by omega) (own_ne h3 hbox3 (by simp))
  clear hL
  go_wp2_with fail
  refine (must_any h4 wThen).mono ?_
  rintro e w5 ⟨rfl, h5, F5⟩
  have hs5 := F5.size
  have hbox5 := F5.far hbox4 (by omega) (own_ne h4 hbox4 (by simp))
  go_wp2_with fail
  refine ((ih B rb gl cl ts _ w5 b h5 hts (by omega)).1 (may_next i4.out st4.out hNb)).mono ?_
  rintro e w6 hL
  obtain ⟨s6, n6, rfl, h6, F6, g6, i6, st6, top6⟩ := left_st hL
  have hs6 := F6.size
  have hbox6 := F6.far hbox5 (by omega) (own_ne h5 hbox5 (by simp))
  clear hL
  go_wp2_with fail
  refine (must_any h6 wElse).mono ?_
  rintro e w7 ⟨rfl, h7, F7⟩
  have hs7 := F7.size
  have hbox7 := F7.far hbox6 (by omega) (own_ne h6 hbox6 (by simp))
  go_wp2_with fail
  refine ((ih B rb gl cl ts _ w7 c h7 hts (by omega)).1 (may_next i6.out st6.out hNc)).mono ?_
  rintro e w8 hL
  obtain ⟨s8, n8, rfl, h8, F8, g8, i8, st8, top8⟩ := left_st hL
  have hs8 := F8.size
  have hbox8 := F8.far hbox7 (by omega) (own_ne h7 hbox7 (by simp))
  have q0 := cell_of_row w8 w.heap.size 0 _ _ _ hbox8
  have q1 := cell_of_row w8 w.heap.size 1 _ _ _ hbox8
  have q2 := cell_of_row w8 w.heap.size 2 _ _ _ hbox8
  obtain ⟨p5, v5, j5⟩ := must_ps ts s4 wThen
  obtain ⟨p7, v7, j7⟩ := must_ps ts s6 wElse
  have F : Fr rb s.pv s8.pv w w8 := (((F3.trans F4).trans F5).trans ((v5 ▸ F6).trans F7)).trans (v7 ▸ F8)
  have g : s.ps.length ≤ s8.ps.length ∧ s8.ps.length + (s.i + 1) ≤ s.ps.length + s8.i := by rw [p5] at g6; rw [p7] at g8; omega
  clear hL hbox3 hbox4 hbox5 hbox6 hbox7 hbox8 F3 F4 F5 F6 F7 F8 p5 v5 j5 p7 v7 j7 g4 g6 g8 h3 h4 h5 h6 h7
  go_wp2_with fail
  refine (adds_any (h8.below ((Below.refl _ _).alloc (Nat.le_refl _) _)) ⟨tokAt ts s.i, [n4, n6, n8], 0, .slice (some ⟨w8.heap.size, 0, none⟩) 3 3⟩ (.inr ⟨w8.heap.size, rfl, heap_alloc_new w8 _⟩) (by simp; omega) (by have := h.few; omega)).mono ?_
  rintro e w9 ⟨rfl, pv9, h9, F9⟩
  go_wp2_with fail
  go_ret
  refine ⟨_, h9, F.trans ((Fr.of_below ((Below.refl _ _).alloc (Nat.le_refl _) _)).trans F9), by simp; omega, ?_, ?_⟩
  · exact i8.out.trans H5.out.symm
  · rcases st8.out with ⟨ok, good, nums, hL⟩ | ⟨ok, bad⟩
    · obtain ⟨ha, hb, rfl⟩ := H6.out ok
      refine .inl ⟨rfl, good, nums_snoc nums (by rw [numOf_w H3.out]), ?_, ?_⟩
      · simp [put, toPt, hL, top4.out ha, top6.out hb, top8.out ok]
      · exact ret_int (by simp [put, ← hL])
    · exact .inr ⟨H4.out.trans ok, bad, s8.ps.length, rfl⟩

set_option maxHeartbeats 2000000 in
theorem condition_no {f : Nat} (ih : Reads f) {B rb gl cl : Nat} {ts : List Tok} {s : St} {w : World} {r : Rd} (h : RS B rb gl cl ts s w) (hts : ∀ t ∈ ts, TokOK t) (hB : B ≤ w.heap.size)
    (hgood : s.bad = false) (hnum : NumsOK s) (hP : P (f + 1) 6 ts s.i (s.ps.map toPt) 0 = some r) (hw : ¬ isW (tokAt ts s.i) wIf = true) :
    Calls Tryz.prog 115 #[.pointer (some ⟨rb, 0, none⟩)] w (Left B rb gl cl ts s w r) := by
  have HP : Hid _ := if_not hP hw
  have e0 : Hid (seesB s.bad (tokAt ts s.i) wIf = false) := by show _ = _; unfold seesB; rw [hgood]; simpa using hw
  have H2 : Hid _ := hgood
  clear hP hw hgood
  obtain ⟨c0, c1, c2, c3⟩ := h.cells
  obtain ⟨k0, k1, k2⟩ := next_word h
  have hi := h.hi
  have hn := h.hn
  have b1 : (0 : Int) ≤ (s.i : Int) := by omega
  have b2 : (s.i : Int) < (ts.length : Int) := by omega
  have n0 := World.new_ne w _ c0
  have n1 := World.new_ne w _ c1
  have m0 := World.new_ne w _ k0
  have m1 := World.new_ne w _ k1
  have m2 := World.new_ne w _ k2
  clear c2 c3
  go_enter Tryz.func115, Tryz.ntmps115
  go_wp2_with fail
  go_region_held (fun w' => w'.cell? ⟨rb, 0, none⟩ = some (.slice (some ⟨gl, 0, none⟩) ts.length cl) ∧ w'.cell? ⟨rb, 1, none⟩ = some (.int .i64 s.i) ∧ w'.cell? ⟨gl, s.i * 3, none⟩ = some (.int .u8 (tokAt ts s.i).k) ∧ w'.cell? ⟨gl, s.i * 3 + 1, none⟩ = some (S (tokAt ts s.i).text) ∧ w'.cell? ⟨gl, s.i * 3 + 2, none⟩ = some (.int .i64 (tokAt ts s.i).pl)) (go_keep) (fail)
  rename_i hHeld
  clear hHeld
  have h1 := h.below (below_word w (wordObj (tokAt ts s.i)))
  clear c0 c1 k0 k1 k2 n0 n1 m0 m1 m2
  go_wp2_with fail
  refine (sees_any h1 wIf).mono ?_
  rintro e w2 ⟨rfl, hb2⟩
  have h2 := h1.below hb2
  have hbw : Below w.heap.size w w2 := (below_word w _).trans (hb2.mono (by simp))
  rw [e0.out]
  go_wp2_with fail
  have hsz := hbw.size
  refine ((ih B rb gl cl ts s w2 r h2 hts (by omega)).2 0 (by omega) H2.out hnum HP.out).mono ?_
  rintro e w3 hL
  obtain ⟨s3, n3, rfl, h3, F3, g3, i3, st3, top3⟩ := left_st hL
  go_wp2_with fail
  go_ret
  refine ⟨s3, h3, (Fr.of_below hbw).trans F3, g3, i3.out, ?_⟩
  exact left_fin st3.out top3.out

theorem condition_step {f : Nat} (ih : Reads f) {B rb gl cl : Nat} {ts : List Tok} {s : St} {w : World} {r : Rd} (h : RS B rb gl cl ts s w) (hts : ∀ t ∈ ts, TokOK t) (hB : B ≤ w.heap.size)
    (hm : May (f + 1) ts s r) : Calls Tryz.prog 115 #[.pointer (some ⟨rb, 0, none⟩)] w (Left B rb gl cl ts s w r) := by
  rcases hm with ⟨hb, hr, hi⟩ | ⟨hgood, hnum, hP⟩
  · refine (condition_bad h hb).mono ?_
    rintro e w' ⟨rfl, hw⟩
    exact left_bad h hb hr hi 0 hw
  · by_cases hw : isW (tokAt ts s.i) wIf = true
    · exact condition_if ih h hts hB hgood hnum hP hw
    · exact condition_no ih h hts hB hgood hnum hP hw
end Go.Proofs.YtfkdailfcmnjlaaGreatDoor

namespace Go.Proofs.YtfkdailfcmnjlaaGreatDoor
open Go Go.RowKit
set_option maxRecDepth 100000
attribute [local go_sem ↓] Go.wp_at_zero Go.wp_at_succ

theorem set_far (w : World) (a b i j : Nat) (v : Value) (h : a ≠ b) : (w.setCell ⟨a, i, none⟩ v).cell? ⟨b, j, none⟩ = w.cell? ⟨b, j, none⟩ := World.cell?_setCell_other _ _ _ _ (by simp [h])

set_option maxHeartbeats 2000000 in
theorem one_paren {f : Nat} (ih : Reads f) {B rb gl cl : Nat} {ts : List Tok} {s : St} {w : World} {r : Rd} (h : RS B rb gl cl ts s w) (hts : ∀ t ∈ ts, TokOK t) (hB : B ≤ w.heap.size)
    (hgood : s.bad = false) (hnum : NumsOK s) (hP : P (f + 1) 5 ts s.i (s.ps.map toPt) 0 = some r) (hw : isW (tokAt ts s.i) [40] = true) :
    Calls Tryz.prog 220 #[.pointer (some ⟨rb, 0, none⟩)] w (Left B rb gl cl ts s w r) := by
  obtain ⟨a, hPa, hr⟩ := one_open hP hw
  have H1 : Hid _ := hPa
  have H2 : Hid _ := hgood
  have HR : Hid _ := hr
  have e0 : Hid (seesB s.bad (tokAt ts s.i) [40] = true) := by show _ = _; unfold seesB; rw [hgood, hw]; rfl
  have hnx := sees_next h e0.out
  clear hP hPa hr hgood hw
  obtain ⟨c0, c1, c2, c3⟩ := h.cells
  obtain ⟨k0, k1, k2⟩ := next_word h
  have hi := h.hi
  have hn := h.hn
  have b1 : (0 : Int) ≤ (s.i : Int) := by omega
  have b2 : (s.i : Int) < (ts.length : Int) := by omega
  have n0 := World.new_ne w _ c0
  have n1 := World.new_ne w _ c1
  have m0 := World.new_ne w _ k0
  have m1 := World.new_ne w _ k1
  have m2 := World.new_ne w _ k2
  clear c2 c3
  go_enter Tryz.func220, Tryz.ntmps220
  go_wp2_with fail
  go_region_held (fun w' => w'.cell? ⟨rb, 0, none⟩ = some (.slice (some ⟨gl, 0, none⟩) ts.length cl) ∧ w'.cell? ⟨rb, 1, none⟩ = some (.int .i64 s.i) ∧ w'.cell? ⟨gl, s.i * 3, none⟩ = some (.int .u8 (tokAt ts s.i).k) ∧ w'.cell? ⟨gl, s.i * 3 + 1, none⟩ = some (S (tokAt ts s.i).text) ∧ w'.cell? ⟨gl, s.i * 3 + 2, none⟩ = some (.int .i64 (tokAt ts s.i).pl)) (go_keep) (fail)
  rename_i hHeld
  clear hHeld
  have h1 := h.below (below_word w (wordObj (tokAt ts s.i)))
  have hbox : ((w.alloc (wordObj (tokAt ts s.i))).drew).heap[w.heap.size]? = some (wordObj (tokAt ts s.i)) := heap_alloc_new w _
  clear c0 c1 k0 k1 k2 n0 n1 m0 m1 m2
  go_wp2_with fail
  refine (sees_any h1 [40]).mono ?_
  rintro e w2 ⟨rfl, hb2⟩
  have h2 := h1.below hb2
  have hbw : Below w.heap.size w w2 := (below_word w _).trans (hb2.mono (by simp))
  have hsz := hbw.size
  rw [e0.out]
  obtain ⟨c0, c1, c2, c3⟩ := h2.cells
  have hf := h2.free
  have hx : (s.i : Int) + 1 ≤ 2000 := by omega
  go_wp2_with fail
  have hrb := lt_of_get h.rd
  have h3 := h2.next hnx.1
  have F3 : Fr rb s.pv s.pv w (w2.setCell ⟨rb, 1, none⟩ (.int .i64 ((s.i : Int) + 1))) := (Fr.of_below hbw).set hrb _ _
  have hs3 := F3.size
  clear h1 h2 hbox c0 c1 c2 c3 hf hb2 hbw hsz
  generalize w2.setCell ⟨rb, 1, none⟩ (.int .i64 ((s.i : Int) + 1)) = w3 at *
  refine ((ih B rb gl cl ts { s with i := s.i + 1 } w3 a h3 hts (by omega)).1 (.inr ⟨H2.out, hnum, H1.out⟩)).mono ?_
  rintro e w4 hL
  obtain ⟨s4, n4, rfl, h4, F4, g4, i4, st4, top4⟩ := left_st hL
  clear hL
  go_wp2_with fail
  refine (must_any h4 [41]).mono ?_
  rintro e w5 ⟨rfl, h5, F5⟩
  go_wp2_with fail
  go_ret
  obtain ⟨p5, v5, j5⟩ := must_ps ts s4 [41]
  refine ⟨_, h5, (F3.trans F4).trans (v5.symm ▸ F5), by rw [p5]; omega, ?_⟩
  have h45 := i4.out
  have hst := st4.out
  have htop := top4.out
  rcases HR.out with ⟨ok, hw, rfl⟩ | ⟨hno, hr1, hr2⟩
  · rcases hst with ⟨_, good, nums, hL⟩ | ⟨hh, _⟩
    · have e5 : mustSt ts s4 [41] = { s4 with i := s4.i + 1 } := by unfold mustSt seesB; rw [good, h45, if_pos (by simp [hw])]
      rw [e5]
      refine ⟨by simp [h45], .inl ⟨ok, good, nums, hL, ?_⟩⟩
      exact ret_int (by rw [htop ok])
    · rw [hh] at ok; simp at ok
  · have e5 : mustSt ts s4 [41] = { s4 with bad := true } := by
      unfold mustSt seesB
      rw [if_neg]
      rcases hst with ⟨ok, good, _, _⟩ | ⟨_, hb⟩
      · rw [good, h45]; simp; simpa using fun e => hno ⟨ok, e⟩
      · rw [hb]; simp
    rw [e5]
    exact ⟨by simp [h45, hr2], .inr ⟨hr1, rfl, n4, rfl⟩⟩

theorem one_fin {B rb gl cl : Nat} {ts : List Tok} {s : St} {w w6 w9 : World} {r : Rd} {o : Obj} {n : Int} {pv : Value} {v : Value} (hnum : NumsOK s) (hg : s.bad = false) (ha : alone (tokAt ts s.i) = true) (hn : n = numOf (tokAt ts s.i))
    (hr : (alone (tokAt ts s.i) = true ∧ r = ⟨true, s.i + 1, s.ps.map toPt ++ [⟨tokAt ts s.i, []⟩], (s.ps.map toPt).length⟩) ∨ (alone (tokAt ts s.i) = false ∧ r = ⟨false, s.i, [], 0⟩))
    (h9 : RS B rb gl cl ts { i := s.i + 1, pv := pv, ps := s.ps ++ [⟨tokAt ts s.i, [], n, v⟩], bad := s.bad } w9) (F6 : Fr rb s.pv s.pv w w6) (F9 : Fr rb s.pv pv (w6.alloc o) w9) :
    Left B rb gl cl ts s w r (.returned (.int .i64 s.ps.length)) w9 := by
  rcases hr with ⟨_, rfl⟩ | ⟨hno, _⟩
  · refine ⟨_, h9, (F6.trans (Fr.of_below ((Below.refl _ _).alloc (Nat.le_refl _) _))).trans F9, by simp; omega, rfl, .inl ⟨rfl, hg, nums_snoc hnum hn, by simp [toPt], ?_⟩⟩
    exact ret_int (by simp)
  · rw [ha] at hno; simp at hno

theorem one_bad {B rb gl cl : Nat} {ts : List Tok} {s : St} {w w9 : World} {r : Rd} (ha : alone (tokAt ts s.i) = false)
    (hr : (alone (tokAt ts s.i) = true ∧ r = ⟨true, s.i + 1, s.ps.map toPt ++ [⟨tokAt ts s.i, []⟩], (s.ps.map toPt).length⟩) ∨ (alone (tokAt ts s.i) = false ∧ r = ⟨false, s.i, [], 0⟩))
    (h9 : RS B rb gl cl ts { s with bad := true } w9) (F9 : Fr rb s.pv s.pv w w9) : Left B rb gl cl ts s w r (.returned (.int .i64 0)) w9 := by
  rcases hr with ⟨hno, _⟩ | ⟨_, rfl⟩
  · rw [ha] at hno; simp at hno
  · exact ⟨_, h9, F9, by simp, rfl, .inr ⟨rfl, rfl, 0, rfl⟩⟩

set_option maxHeartbeats 4000000 in
theorem one_word {B rb gl cl : Nat} {ts : List Tok} {s : St} {w : World} {r : Rd} (h : RS B rb gl cl ts s w) (hts : ∀ t ∈ ts, TokOK t) (hB : B ≤ w.heap.size)
    (hgood : s.bad = false) (hnum : NumsOK s) (hw : ¬ isW (tokAt ts s.i) [40] = true)
    (hr : (alone (tokAt ts s.i) = true ∧ r = ⟨true, s.i + 1, s.ps.map toPt ++ [⟨tokAt ts s.i, []⟩], (s.ps.map toPt).length⟩) ∨ (alone (tokAt ts s.i) = false ∧ r = ⟨false, s.i, [], 0⟩)) :
    Calls Tryz.prog 220 #[.pointer (some ⟨rb, 0, none⟩)] w (Left B rb gl cl ts s w r) := by
  have H2 : Hid _ := hgood
  have HR : Hid _ := hr
  have e0 : Hid (seesB s.bad (tokAt ts s.i) [40] = false) := by show _ = _; unfold seesB; rw [hgood]; simpa using hw
  clear hr hgood hw
  obtain ⟨c0, c1, c2, c3⟩ := h.cells
  obtain ⟨k0, k1, k2⟩ := next_word h
  have hi := h.hi
  have hn := h.hn
  have b1 : (0 : Int) ≤ (s.i : Int) := by omega
  have b2 : (s.i : Int) < (ts.length : Int) := by omega
  have n0 := World.new_ne w _ c0
  have n1 := World.new_ne w _ c1
  have m0 := World.new_ne w _ k0
  have m1 := World.new_ne w _ k1
  have m2 := World.new_ne w _ k2
  clear c2 c3
  go_enter Tryz.func220, Tryz.ntmps220
  go_wp2_with fail
  go_region_held (fun w' => w'.cell? ⟨rb, 0, none⟩ = some (.slice (some ⟨gl, 0, none⟩) ts.length cl) ∧ w'.cell? ⟨rb, 1, none⟩ = some (.int .i64 s.i) ∧ w'.cell? ⟨gl, s.i * 3, none⟩ = some (.int .u8 (tokAt ts s.i).k) ∧ w'.cell? ⟨gl, s.i * 3 + 1, none⟩ = some (S (tokAt ts s.i).text) ∧ w'.cell? ⟨gl, s.i * 3 + 2, none⟩ = some (.int .i64 (tokAt ts s.i).pl)) (go_keep) (fail)
  rename_i hHeld
  clear hHeld
  have h1 := h.below (below_word w (wordObj (tokAt ts s.i)))
  have hbox : ((w.alloc (wordObj (tokAt ts s.i))).drew).heap[w.heap.size]? = some (wordObj (tokAt ts s.i)) := heap_alloc_new w _
  clear c0 c1 k0 k1 k2 n0 n1 m0 m1 m2
  go_wp2_with fail
  refine (sees_any h1 [40]).mono ?_
  rintro e w2 ⟨rfl, hb2⟩
  have h2 := h1.below hb2
  have hbw : Below w.heap.size w w2 := (below_word w _).trans (hb2.mono (by simp))
  have hsz := hbw.size
  rw [e0.out]
  have hbx2 : w2.heap[w.heap.size]? = some (wordObj (tokAt ts s.i)) := by rw [hb2.block _ (by simp)]; exact hbox
  have q0 := cell_of_row w2 w.heap.size 0 _ _ _ hbx2
  have q1 := cell_of_row w2 w.heap.size 1 _ _ _ hbx2
  have q2 := cell_of_row w2 w.heap.size 2 _ _ _ hbx2
  have hlt2 := lt_of_get hbx2
  clear h1 hbox hb2
  simp only [List.getElem?_toArray, List.getElem?_cons_zero, List.getElem?_cons_succ] at q0 q1 q2
  go_wp2_with fail
  go_region_held3 (fun w' => w'.cell? ⟨w.heap.size, 1, none⟩ = some (S (tokAt ts s.i).text))
    (first | go_keep | (rw [hb1.cell (p := ⟨w.heap.size, 1, none⟩) (by simp <;> omega)]; first | assumption | (simp [*]; done)))
    (first
      | (go_at_call 89; refine (members_any _).mono ?_; rintro e w1 ⟨x1, rfl, hc1, hb1, hl1, hs1⟩)
      | (go_at_call 87; refine (index_any kMembers _ x1 _ (by decide) hc1).mono ?_; rintro e w1 ⟨rfl, rfl⟩))
  rename_i hHeld
  clear hHeld
  have hb3 : Below w2.heap.size w2 w1 := (Below.refl _ _).drew.trans hb1
  have h3 := h2.below hb3
  have hbx3 : w1.heap[w.heap.size]? = some (wordObj (tokAt ts s.i)) := by rw [hb3.block _ hlt2]; exact hbx2
  have q1 := cell_of_row w1 w.heap.size 1 _ _ _ hbx3
  have hlt3 := lt_of_get hbx3
  have hbw3 := hbw.trans (hb3.mono hsz)
  clear q0 q2 h2 hbx2 hlt2 hb1 hc1 hl1 hs1 hb3
  simp only [List.getElem?_toArray, List.getElem?_cons_zero, List.getElem?_cons_succ] at q1
  go_wp2_with fail
  go_region_held3 (fun w' => w'.cell? ⟨w.heap.size, 1, none⟩ = some (S (tokAt ts s.i).text))
    (first | go_keep | (rw [hb5.cell (p := ⟨w.heap.size, 1, none⟩) (by simp <;> omega)]; first | assumption | (simp [*]; done)))
    (first
      | (go_at_call 88; refine (fields_any _).mono ?_; rintro e w5 ⟨x5, rfl, hc5, hb5, hl5, hs5⟩)
      | (go_at_call 87; refine (index_any kFields _ x5 _ (by decide) hc5).mono ?_; rintro e w5 ⟨rfl, rfl⟩))
  rename_i hHeld
  clear hHeld
  have hb6 : Below w1.heap.size w1 w5 := (Below.refl _ _).drew.trans hb5
  have h5 := h3.below hb6
  have hbx5 : w5.heap[w.heap.size]? = some (wordObj (tokAt ts s.i)) := by rw [hb6.block _ hlt3]; exact hbx3
  have q0 := cell_of_row w5 w.heap.size 0 _ _ _ hbx5
  have q1 := cell_of_row w5 w.heap.size 1 _ _ _ hbx5
  have q2 := cell_of_row w5 w.heap.size 2 _ _ _ hbx5
  have hbw5 := hbw3.trans (hb6.mono hbw3.size)
  obtain ⟨c0, c1, c2, c3⟩ := h5.cells
  have hf := h5.free
  have i1 := idx_ge kMembers (tokAt ts s.i).text
  have i2 := idx_ge kFields (tokAt ts s.i).text
  have hx : (s.i : Int) + 1 ≤ 2000 := by omega
  clear h3 hbx3 hb5 hc5 hl5 hs5 hb6 hbw3 hlt3
  simp only [List.getElem?_toArray, List.getElem?_cons_zero, List.getElem?_cons_succ] at q0 q1 q2
  generalize hM : idx kMembers (tokAt ts s.i).text = m at *
  generalize hF : idx kFields (tokAt ts s.i).text = n at *
  have HM : Hid _ := hM
  have HF : Hid _ := hF
  clear hM hF
  have hlt5 := lt_of_get hbx5
  have hrb := lt_of_get h.rd
  have hset : ∀ v j, (w5.setCell ⟨rb, 1, none⟩ v).cell? ⟨w.heap.size, j, none⟩ = w5.cell? ⟨w.heap.size, j, none⟩ := fun v j => set_far w5 rb w.heap.size 1 j v (by omega)
  have hfin : Hid ((tokAt ts s.i).k ≠ 101 → s.i + 1 < ts.length) := fun hk => by
    rcases Nat.lt_or_ge (s.i + 1) ts.length with h3 | h3
    · exact h3
    · exact absurd (h.fin s.i (by omega)) hk
  have hmem : Hid (TokOK (tokAt ts s.i)) := hts _ (by unfold tokAt; rw [List.getD_eq_getElem?_getD, List.getElem?_eq_getElem hi]; exact List.getElem_mem hi)
  have hal : (tokAt ts s.i).k = 110 → alone (tokAt ts s.i) = true := fun e => by unfold alone; rw [e]; rfl
  have hal2 : (tokAt ts s.i).k = 111 → alone (tokAt ts s.i) = true := fun e => by unfold alone; rw [e]; rfl
  have hal3 : (tokAt ts s.i).k = 107 → alone (tokAt ts s.i) = (decide (0 ≤ m) || decide (0 ≤ n) || (tokAt ts s.i).text == wTrue || (tokAt ts s.i).text == wFalse) := fun e => by unfold alone; rw [e, HM.out, HF.out]; rfl
  have hal4 : (tokAt ts s.i).k ≠ 107 → (tokAt ts s.i).k ≠ 110 → (tokAt ts s.i).k ≠ 111 → alone (tokAt ts s.i) = false := fun e1 e2 e3 => by unfold alone; simp [e1, e2, e3]
  have HA1 : Hid _ := hal
  have HA2 : Hid _ := hal2
  have HA3 : Hid _ := hal3
  have HA4 : Hid _ := hal4
  clear hal hal2 hal3 hal4
  have F6 : Hid (Fr rb s.pv s.pv w (w5.setCell ⟨rb, 1, none⟩ (.int .i64 ((s.i : Int) + 1)))) := (Fr.of_below hbw5).set hrb _ _
  have hbs := hbw5.size
  by_cases hk : (tokAt ts s.i).k = 110
  · have hk1 : (((tokAt ts s.i).k : Int) == 107) = false := by simp; omega
    have hk2 : (((tokAt ts s.i).k : Int) == 110) = true := by simp; omega
    have hk3 : (((tokAt ts s.i).k : Int) != 110) = false := by simp; omega
    have HK : Hid _ := hk
    clear hk
    have h6 : Hid (RS B rb gl cl ts { s with i := s.i + 1 } (w5.setCell ⟨rb, 1, none⟩ (.int .i64 ((s.i : Int) + 1)))) := h5.next (hfin.out (by rw [HK.out]; decide))
    have hd := hmem.out.2 HK.out
    go_wp2_with fail
    refine (value_any _ _ hmem.out.1 hd.1 hd.2).mono ?_
    rintro e w6 ⟨rfl, rfl⟩
    clear hd
    go_wp2_with fail
    refine (adds_any (h6.out.below ((Below.refl _ _).alloc (Nat.le_refl _) _)) ⟨tokAt ts s.i, [], decVal (tokAt ts s.i).text, .slice none 0 0⟩ (.inl ⟨rfl, rfl⟩) (by simp; omega) (by have := h.few; simp; omega)).mono ?_
    rintro e w9 ⟨rfl, pv9, h9, F9⟩
    go_wp2_with fail
    go_ret
    exact one_fin hnum H2.out (HA1.out HK.out) (by unfold numOf; rw [if_pos HK.out]) HR.out h9 F6.out F9
  · by_cases hk5 : (tokAt ts s.i).k = 111
    · have hk1 : (((tokAt ts s.i).k : Int) == 107) = false := by simp; omega
      have hk2 : (((tokAt ts s.i).k : Int) == 110) = false := by simp; omega
      have hk3 : (((tokAt ts s.i).k : Int) != 110) = true := by simp; omega
      have hk4 : (((tokAt ts s.i).k : Int) != 111) = false := by simp; omega
      have HK : Hid _ := hk5
      clear hk5 hk
      have h6 : Hid (RS B rb gl cl ts { s with i := s.i + 1 } (w5.setCell ⟨rb, 1, none⟩ (.int .i64 ((s.i : Int) + 1)))) := h5.next (hfin.out (by rw [HK.out]; decide))
      go_wp2_with fail
      refine (adds_any (h6.out.below ((Below.refl _ _).alloc (Nat.le_refl _) _)) ⟨tokAt ts s.i, [], 0, .slice none 0 0⟩ (.inl ⟨rfl, rfl⟩) (by simp; omega) (by have := h.few; simp; omega)).mono ?_
      rintro e w9 ⟨rfl, pv9, h9, F9⟩
      go_wp2_with fail
      go_ret
      exact one_fin hnum H2.out (HA2.out HK.out) (by unfold numOf; rw [if_neg (by rw [HK.out]; decide)]) HR.out h9 F6.out F9
    · by_cases hk7 : (tokAt ts s.i).k = 107
      · have hk1 : (((tokAt ts s.i).k : Int) == 107) = true := by simp; omega
        have hk2 : (((tokAt ts s.i).k : Int) == 110) = false := by simp; omega
        have hk3 : (((tokAt ts s.i).k : Int) != 110) = true := by simp; omega
        have hk4 : (((tokAt ts s.i).k : Int) != 111) = true := by simp; omega
        have HK : Hid _ := hk7
        have hA3 := HA3.out hk7
        clear hk7 hk5 hk
        by_cases hm : 0 ≤ m
        · have hA : Hid (alone (tokAt ts s.i) = true) := by show _ = _; rw [hA3]; simp [hm]
          clear hA3
          have h6 : Hid (RS B rb gl cl ts { s with i := s.i + 1 } (w5.setCell ⟨rb, 1, none⟩ (.int .i64 ((s.i : Int) + 1)))) := h5.next (hfin.out (by rw [HK.out]; decide))
          go_wp2_with fail
          refine (adds_any (h6.out.below ((Below.refl _ _).alloc (Nat.le_refl _) _)) ⟨tokAt ts s.i, [], 0, .slice none 0 0⟩ (.inl ⟨rfl, rfl⟩) (by simp; omega) (by have := h.few; simp; omega)).mono ?_
          rintro e w9 ⟨rfl, pv9, h9, F9⟩
          go_wp2_with fail
          go_ret
          exact one_fin hnum H2.out hA.out (by unfold numOf; rw [if_neg (by rw [HK.out]; decide)]) HR.out h9 F6.out F9
        have hm' : m < 0 := by omega
        by_cases hn' : 0 ≤ n
        · have hA : Hid (alone (tokAt ts s.i) = true) := by show _ = _; rw [hA3]; simp [hn']
          clear hA3
          have h6 : Hid (RS B rb gl cl ts { s with i := s.i + 1 } (w5.setCell ⟨rb, 1, none⟩ (.int .i64 ((s.i : Int) + 1)))) := h5.next (hfin.out (by rw [HK.out]; decide))
          go_wp2_with fail
          refine (adds_any (h6.out.below ((Below.refl _ _).alloc (Nat.le_refl _) _)) ⟨tokAt ts s.i, [], 0, .slice none 0 0⟩ (.inl ⟨rfl, rfl⟩) (by simp; omega) (by have := h.few; simp; omega)).mono ?_
          rintro e w9 ⟨rfl, pv9, h9, F9⟩
          go_wp2_with fail
          go_ret
          exact one_fin hnum H2.out hA.out (by unfold numOf; rw [if_neg (by rw [HK.out]; decide)]) HR.out h9 F6.out F9
        have hn2 : n < 0 := by omega
        cases ht : ((tokAt ts s.i).text == wTrue) with
        | true =>
          have hA : Hid (alone (tokAt ts s.i) = true) := by show _ = _; rw [hA3, ht]; simp
          have ht' : ((tokAt ts s.i).text == [116, 114, 117, 101]) = true := ht
          clear hA3 ht
          have h6 : Hid (RS B rb gl cl ts { s with i := s.i + 1 } (w5.setCell ⟨rb, 1, none⟩ (.int .i64 ((s.i : Int) + 1)))) := h5.next (hfin.out (by rw [HK.out]; decide))
          go_wp2_with fail
          refine (adds_any (h6.out.below ((Below.refl _ _).alloc (Nat.le_refl _) _)) ⟨tokAt ts s.i, [], 0, .slice none 0 0⟩ (.inl ⟨rfl, rfl⟩) (by simp; omega) (by have := h.few; simp; omega)).mono ?_
          rintro e w9 ⟨rfl, pv9, h9, F9⟩
          go_wp2_with fail
          go_ret
          exact one_fin hnum H2.out hA.out (by unfold numOf; rw [if_neg (by rw [HK.out]; decide)]) HR.out h9 F6.out F9
        | false =>
          have ht' : ((tokAt ts s.i).text == [116, 114, 117, 101]) = false := ht
          cases ht2 : ((tokAt ts s.i).text == wFalse) with
          | true =>
            have hA : Hid (alone (tokAt ts s.i) = true) := by show _ = _; rw [hA3, ht2]; simp
            have ht3 : ((tokAt ts s.i).text == [102, 97, 108, 115, 101]) = true := ht2
            clear hA3 ht ht2
            have h6 : Hid (RS B rb gl cl ts { s with i := s.i + 1 } (w5.setCell ⟨rb, 1, none⟩ (.int .i64 ((s.i : Int) + 1)))) := h5.next (hfin.out (by rw [HK.out]; decide))
            go_wp2_with fail
            refine (adds_any (h6.out.below ((Below.refl _ _).alloc (Nat.le_refl _) _)) ⟨tokAt ts s.i, [], 0, .slice none 0 0⟩ (.inl ⟨rfl, rfl⟩) (by simp; omega) (by have := h.few; simp; omega)).mono ?_
            rintro e w9 ⟨rfl, pv9, h9, F9⟩
            go_wp2_with fail
            go_ret
            exact one_fin hnum H2.out hA.out (by unfold numOf; rw [if_neg (by rw [HK.out]; decide)]) HR.out h9 F6.out F9
          | false =>
            have hA : Hid (alone (tokAt ts s.i) = false) := by show _ = _; rw [hA3, ht, ht2]; simp; omega
            have ht3 : ((tokAt ts s.i).text == [102, 97, 108, 115, 101]) = false := ht2
            clear hA3 ht ht2
            go_wp2_with fail
            go_ret
            exact one_bad hA.out HR.out h5.fails ((Fr.of_below hbw5).set hrb _ _)
      · have hk1 : (((tokAt ts s.i).k : Int) == 107) = false := by simp; omega
        have hk3 : (((tokAt ts s.i).k : Int) != 110) = true := by simp; omega
        have hk4 : (((tokAt ts s.i).k : Int) != 111) = true := by simp; omega
        have hA : Hid (alone (tokAt ts s.i) = false) := HA4.out hk7 hk hk5
        clear hk7 hk5 hk
        go_wp2_with fail
        go_ret
        exact one_bad hA.out HR.out h5.fails ((Fr.of_below hbw5).set hrb _ _)

theorem one_step {f : Nat} (ih : Reads f) {B rb gl cl : Nat} {ts : List Tok} {s : St} {w : World} {r : Rd} (h : RS B rb gl cl ts s w) (hts : ∀ t ∈ ts, TokOK t) (hB : B ≤ w.heap.size)
    (hgood : s.bad = false) (hnum : NumsOK s) (hP : P (f + 1) 5 ts s.i (s.ps.map toPt) 0 = some r) :
    Calls Tryz.prog 220 #[.pointer (some ⟨rb, 0, none⟩)] w (Left B rb gl cl ts s w r) := by
  by_cases hw : isW (tokAt ts s.i) [40] = true
  · exact one_paren ih h hts hB hgood hnum hP hw
  · exact one_word h hts hB hgood hnum hw (one_alone hP hw)
end Go.Proofs.YtfkdailfcmnjlaaGreatDoor

namespace Go.Proofs.YtfkdailfcmnjlaaGreatDoor
open Go Go.RowKit
set_option maxRecDepth 100000
attribute [local go_sem ↓] Go.wp_at_zero Go.wp_at_succ

set_option maxHeartbeats 2000000 in
theorem level_five {f : Nat} (ih : Reads f) {B rb gl cl : Nat} {ts : List Tok} {s : St} {w : World} {r : Rd} (h : RS B rb gl cl ts s w) (hts : ∀ t ∈ ts, TokOK t) (hB : B ≤ w.heap.size)
    (hgood : s.bad = false) (hnum : NumsOK s) (hP : P (f + 1) 5 ts s.i (s.ps.map toPt) 0 = some r) :
    Calls Tryz.prog 159 #[.pointer (some ⟨rb, 0, none⟩), .int .i64 5] w (Left B rb gl cl ts s w r) := by
  obtain ⟨c0, c1, c2, c3⟩ := h.cells
  rw [hgood] at c3
  have H2 : Hid _ := hgood
  have HP : Hid _ := hP
  clear hgood hP
  go_enter Tryz.func159, Tryz.ntmps159
  go_wp2_with fail
  refine (one_step ih h hts hB H2.out hnum HP.out).mono ?_
  rintro e w3 hL
  obtain ⟨s3, n3, rfl, h3, F3, g3, i3, st3, top3⟩ := left_st hL
  go_wp2_with fail
  go_ret
  exact ⟨s3, h3, F3, g3, i3.out, left_fin st3.out top3.out⟩

set_option maxHeartbeats 2000000 in
theorem level_two_no {f : Nat} (ih : Reads f) {B rb gl cl : Nat} {ts : List Tok} {s : St} {w : World} {r : Rd} (h : RS B rb gl cl ts s w) (hts : ∀ t ∈ ts, TokOK t) (hB : B ≤ w.heap.size)
    (hgood : s.bad = false) (hnum : NumsOK s) (hP : P (f + 1) 2 ts s.i (s.ps.map toPt) 0 = some r) (hw : ¬ isW (tokAt ts s.i) wNot = true) :
    Calls Tryz.prog 159 #[.pointer (some ⟨rb, 0, none⟩), .int .i64 2] w (Left B rb gl cl ts s w r) := by
  have HP : Hid _ := not_no hP hw
  have e0 : Hid (seesB s.bad (tokAt ts s.i) wNot = false) := by show _ = _; unfold seesB; rw [hgood]; simpa using hw
  have H2 : Hid _ := hgood
  clear hP hw hgood
  obtain ⟨c0, c1, c2, c3⟩ := h.cells
  obtain ⟨k0, k1, k2⟩ := next_word h
  have hi := h.hi
  have hn := h.hn
  have b1 : (0 : Int) ≤ (s.i : Int) := by omega
  have b2 : (s.i : Int) < (ts.length : Int) := by omega
  have n0 := World.new_ne w _ c0
  have n1 := World.new_ne w _ c1
  have m0 := World.new_ne w _ k0
  have m1 := World.new_ne w _ k1
  have m2 := World.new_ne w _ k2
  rw [H2.out] at c3
  go_enter Tryz.func159, Tryz.ntmps159
  go_wp2_with fail
  go_region_held (fun w' => w'.cell? ⟨rb, 0, none⟩ = some (.slice (some ⟨gl, 0, none⟩) ts.length cl) ∧ w'.cell? ⟨rb, 1, none⟩ = some (.int .i64 s.i) ∧ w'.cell? ⟨gl, s.i * 3, none⟩ = some (.int .u8 (tokAt ts s.i).k) ∧ w'.cell? ⟨gl, s.i * 3 + 1, none⟩ = some (S (tokAt ts s.i).text) ∧ w'.cell? ⟨gl, s.i * 3 + 2, none⟩ = some (.int .i64 (tokAt ts s.i).pl)) (go_keep) (fail)
  rename_i hHeld
  clear hHeld
  have h1 := h.below (below_word w (wordObj (tokAt ts s.i)))
  have hbox : ((w.alloc (wordObj (tokAt ts s.i))).drew).heap[w.heap.size]? = some (wordObj (tokAt ts s.i)) := heap_alloc_new w _
  clear c0 c1 c2 c3 k0 k1 k2 n0 n1 m0 m1 m2
  go_wp2_with fail
  refine (sees_any h1 wNot).mono ?_
  rintro e w2 ⟨rfl, hb2⟩
  have h2 := h1.below hb2
  have hbw : Below w.heap.size w w2 := (below_word w _).trans (hb2.mono (by simp))
  have hsz := hbw.size
  rw [e0.out]
  go_wp2_with fail
  refine ((ih B rb gl cl ts s w2 r h2 hts (by omega)).2 3 (by omega) H2.out hnum HP.out).mono ?_
  rintro e w3 hL
  obtain ⟨s3, n3, rfl, h3, F3, g3, i3, st3, top3⟩ := left_st hL
  go_wp2_with fail
  go_ret
  exact ⟨s3, h3, (Fr.of_below hbw).trans F3, g3, i3.out, left_fin st3.out top3.out⟩

set_option maxHeartbeats 4000000 in
theorem level_two_yes {f : Nat} (ih : Reads f) {B rb gl cl : Nat} {ts : List Tok} {s : St} {w : World} {r : Rd} (h : RS B rb gl cl ts s w) (hts : ∀ t ∈ ts, TokOK t) (hB : B ≤ w.heap.size)
    (hgood : s.bad = false) (hnum : NumsOK s) (hP : P (f + 1) 2 ts s.i (s.ps.map toPt) 0 = some r) (hw : isW (tokAt ts s.i) wNot = true) :
    Calls Tryz.prog 159 #[.pointer (some ⟨rb, 0, none⟩), .int .i64 2] w (Left B rb gl cl ts s w r) := by
  obtain ⟨a, hPa, hra, hri, hrp⟩ := not_yes hP hw
  have e0 : Hid (seesB s.bad (tokAt ts s.i) wNot = true) := by show _ = _; unfold seesB; rw [hgood, hw]; rfl
  have hnx := sees_next h e0.out
  have H1 : Hid _ := hPa
  have H2 : Hid _ := hgood
  have H3 : Hid _ := hw
  have H4 : Hid _ := hra
  have H5 : Hid _ := hri
  have H6 : Hid _ := hrp
  clear hP hPa hgood hw hra hri hrp
  obtain ⟨c0, c1, c2, c3⟩ := h.cells
  obtain ⟨k0, k1, k2⟩ := next_word h
  have hi := h.hi
  have hn := h.hn
  have b1 : (0 : Int) ≤ (s.i : Int) := by omega
  have b2 : (s.i : Int) < (ts.length : Int) := by omega
  have n0 := World.new_ne w _ c0
  have n1 := World.new_ne w _ c1
  have m0 := World.new_ne w _ k0
  have m1 := World.new_ne w _ k1
  have m2 := World.new_ne w _ k2
  rw [H2.out] at c3
  go_enter Tryz.func159, Tryz.ntmps159
  go_wp2_with fail
  go_region_held (fun w' => w'.cell? ⟨rb, 0, none⟩ = some (.slice (some ⟨gl, 0, none⟩) ts.length cl) ∧ w'.cell? ⟨rb, 1, none⟩ = some (.int .i64 s.i) ∧ w'.cell? ⟨gl, s.i * 3, none⟩ = some (.int .u8 (tokAt ts s.i).k) ∧ w'.cell? ⟨gl, s.i * 3 + 1, none⟩ = some (S (tokAt ts s.i).text) ∧ w'.cell? ⟨gl, s.i * 3 + 2, none⟩ = some (.int .i64 (tokAt ts s.i).pl)) (go_keep) (fail)
  rename_i hHeld
  clear hHeld
  have h1 := h.below (below_word w (wordObj (tokAt ts s.i)))
  have hbox : ((w.alloc (wordObj (tokAt ts s.i))).drew).heap[w.heap.size]? = some (wordObj (tokAt ts s.i)) := heap_alloc_new w _
  clear c0 c1 c2 c3 k0 k1 k2 n0 n1 m0 m1 m2
  go_wp2_with fail
  refine (sees_any h1 wNot).mono ?_
  rintro e w2 ⟨rfl, hb2⟩
  have h2 := h1.below hb2
  have hbw : Below w.heap.size w w2 := (below_word w _).trans (hb2.mono (by simp))
  have hsz := hbw.size
  rw [e0.out]
  obtain ⟨c0, c1, c2, c3⟩ := h2.cells
  have hf := h2.free
  have hx : (s.i : Int) + 1 ≤ 2000 := by omega
  go_wp2_with fail
  have hrb := lt_of_get h.rd
  have h3 := h2.next hnx.1
  have F3 : Fr rb s.pv s.pv w (w2.setCell ⟨rb, 1, none⟩ (.int .i64 ((s.i : Int) + 1))) := (Fr.of_below hbw).set hrb _ _
  have hbox3 : (w2.setCell ⟨rb, 1, none⟩ (.int .i64 ((s.i : Int) + 1))).heap[w.heap.size]? = some (wordObj (tokAt ts s.i)) := by
    rw [Below.heap_setCell _ _ _ _ (by simp; omega), hb2.block _ (by simp)]; exact hbox
  have hs3 := F3.size
  clear h1 h2 hbox c0 c1 c2 c3 hf hb2 hbw hsz
  generalize w2.setCell ⟨rb, 1, none⟩ (.int .i64 ((s.i : Int) + 1)) = w3 at *
  refine ((ih B rb gl cl ts { s with i := s.i + 1 } w3 a h3 hts (by omega)).2 2 (by omega) H2.out hnum H1.out).mono ?_
  rintro e w4 hL
  obtain ⟨s4, n4, rfl, h4, F4, g4, i4, st4, top4⟩ := left_st hL
  have hs4 := F4.size
  have hbox4 := F4.far hbox3 (by omega) (own_ne h3 hbox3 (by simp))
  have q0 := cell_of_row w4 w.heap.size 0 _ _ _ hbox4
  have q1 := cell_of_row w4 w.heap.size 1 _ _ _ hbox4
  have q2 := cell_of_row w4 w.heap.size 2 _ _ _ hbox4
  have F : Fr rb s.pv s4.pv w w4 := F3.trans F4
  clear hL hbox3 hbox4 F3 F4 h3
  go_wp2_with fail
  refine (adds_any (h4.below ((Below.refl _ _).alloc (Nat.le_refl _) _)) ⟨tokAt ts s.i, [n4], 0, .slice (some ⟨w4.heap.size, 0, none⟩) 1 1⟩ (.inr ⟨w4.heap.size, rfl, heap_alloc_new w4 _⟩) (by simp; omega) (by have := h.few; omega)).mono ?_
  rintro e w9 ⟨rfl, pv9, h9, F9⟩
  go_wp2_with fail
  go_ret
  refine ⟨_, h9, F.trans ((Fr.of_below ((Below.refl _ _).alloc (Nat.le_refl _) _)).trans F9), by simp; omega, ?_, ?_⟩
  · exact i4.out.trans H5.out.symm
  · rcases st4.out with ⟨ok, good, nums, hL⟩ | ⟨ok, bad⟩
    · have hr := H6.out ok
      subst hr
      refine .inl ⟨rfl, good, nums_snoc nums (by rw [numOf_w H3.out]), ?_, ?_⟩
      · simp [put, toPt, hL, top4.out ok]
      · exact ret_int (by simp [put, ← hL])
    · exact .inr ⟨H4.out.trans ok, bad, s4.ps.length, rfl⟩
end Go.Proofs.YtfkdailfcmnjlaaGreatDoor
