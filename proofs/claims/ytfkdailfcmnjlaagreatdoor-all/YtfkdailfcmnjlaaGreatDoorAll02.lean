/-
  A part.
-/
import Derived.Test.YtfkdailfcmnjlaaGreatDoorAll01
import Derived.Test.YtfkdailfcmnjlaaGreatDoorProg
import Derived.WalkKit
import Derived.Deep.QuietTactic
import Derived.BigQuiet
import Derived.WalkSpells
set_option linter.all false
set_option maxHeartbeats 40000000
set_option maxRecDepth 1000000
namespace Go.Proofs.YtfkdailfcmnjlaaGreatDoor
open Go Go.RowKit Tryz
abbrev S (l:List UInt8):Value:= .string ⟨l.toArray⟩
variable {a b k}
set_option maxHeartbeats 400000 in
theorem iL (ss : List (List UInt8)) (s : List UInt8) (b : Nat) (w : World) (hl : ss.length <= 1000)
    (hc :∀ i, i < ss.length -> w.cell? ⟨b, i, none⟩ = some (S (ss.getD i []))) :
    Calls prog 87 #[Sq b ss.length ss.length, S s] w λe w' => e = .returned (Iq (dx ss s)) /\ w' = w := by
  go_enter func87, ntmps87
  go_wp2
  go_loop [5] (λi => ∃ k : Nat, k <= ss.length /\ i = Iq k /\ dx ss s = (if dx (ss.drop k) s < 0 then -1 else dx (ss.drop k) s + k)) (λi => ss.length - (intOf i).toNat)
  case atStart =>
    refine ⟨0, QA _, rfl, ?_⟩;have := jx ss s;simp; omega
  case round =>
    obtain ⟨k, hk, rfl, hi⟩ := hrel;have hd := Ay ss s k;have H : Hid _ := hi;have HD : Hid _ := hd;clear hi hd;have hcell : k < ss.length -> w.cell? ⟨b, k, none⟩ = some (S (ss.getD k [])) := λh => hc k h
    go_wp2
    · go_ret
      have hd := HD.out ‹_›;refine ⟨?_, rfl⟩;rw [H.out, hd];simp [*]
    · refine ⟨⟨k + 1, by omega, by go_num, ?_⟩, by simp [intOf]; omega⟩
      rw [H.out, HD.out ‹_›];have := jx (ss.drop (k + 1)) s;simp [*]
      split <;> omega
    · go_ret
      refine ⟨?_, rfl⟩;rw [H.out, QG (by omega)]
      simp [dx]
theorem iG (h:a=b):Ending.returned (.bool a)= .returned (.bool b):=by rw[h]
theorem da (h:a=b):Ending.returned (.int k a)= .returned (.int k b):=by rw[h]
def rJ (l:List (List UInt8)) (e:Ending) (w w':World):Prop:=
 ∃b,e= .returned (.slice (some ⟨b,0,none⟩) l.length l.length)/\(∀i,i<l.length->w'.cell? ⟨b,i,none⟩=some (S (l.getD i [])))/\Below w.heap.size w w'/\w.heap.size<=b/\b<w'.heap.size
theorem gO (w:World) (l) (cs) (v) (z:v= Sq w.heap.size l.length l.length) (h:cs=(l.map S).toArray):
 rJ l (.returned v) w (w.alloc (.cells cs 9)):=by
 subst h z;refine⟨w.heap.size,rfl,?_,(Qq _ _).alloc (Qn _) _,Qn _,by simp⟩
 intro i D;simp[D]
theorem mH (w:World):Calls prog 89 #[] w (λe w'=>rJ dy e w w'):=by
 go_enter func89,ntmps89
 go_wp2
 go_ret;exact gO w dy _ _ rfl rfl
theorem oa (w:World):Calls prog 88 #[] w (λe w'=>rJ dC e w w'):=by
 go_enter func88,ntmps88
 go_wp2
 go_ret;exact gO w dC _ _ rfl rfl
theorem CR (w:World):Calls prog 219 #[] w (λe w'=>rJ nW e w w'):=by
 go_enter func219,ntmps219
 go_wp2
 go_ret;exact gO w nW _ _ rfl rfl
theorem xC (s) (w):Calls prog 158 #[S s] w (λe w'=>e= .returned (.bool (qU s))/\Below w.heap.size w w'):=by
 go_enter func158,ntmps158;go_wp2_with fail;apply(mH _).mono;rintro e O ⟨Z,rfl,D,z,aa,ab⟩;go_wp2_with fail;apply(iL dy s Z O (by decide) D).mono
 rintro e O ⟨rfl,rfl⟩;go_wp2_with fail;apply(oa _).mono;rintro e R ⟨b2,rfl,E,G,ac,ad⟩;go_wp2_with fail;apply(iL dC s b2 R (by decide) E).mono
 rintro e R ⟨rfl,rfl⟩;go_wp2_with fail;apply(CR _).mono;rintro e J ⟨b3,rfl,I,U,ae,af⟩;go_wp2_with fail;apply(iL nW s b3 J (by decide) I).mono
 rintro e J ⟨rfl,rfl⟩;have hb:=z.trans ((G.mono z.size).trans (U.mono (QV z.size G.size)));have i1:=jx dy s;have i2:=jx dC s;have i3:=jx nW s;generalize V:dx dy s=m1 at*;generalize Y:dx dC s=m2 at*;generalize h3:dx nW s=m3 at*;have H:Hid (qU s=(decide (0<=m1)||decide (0<=m2)||decide (0<=m3))):=by show _=_;rw[<-V,<-Y,<-h3];rfl
 go_wp2
 all_goals go_ret
 all_goals refine⟨?_,hb⟩
 all_goals exact iG (by rw[H.out]<;>simp[*])
end Go.Proofs.YtfkdailfcmnjlaaGreatDoor
