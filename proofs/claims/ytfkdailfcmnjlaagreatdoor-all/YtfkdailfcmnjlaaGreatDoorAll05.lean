/-
  A part.
-/
import Derived.Test.YtfkdailfcmnjlaaGreatDoorAll04
import Derived.Deep.AppendLies
set_option linter.all false
set_option maxHeartbeats 40000000
set_option maxRecDepth 1000000
namespace Go.Proofs.YtfkdailfcmnjlaaGreatDoor
open Go Go.RowKit Tryz
variable {a t c w w' base e size v n xs G I E J}
theorem FP:(prog.info? 151).map (λi=>(i.zero,i.size,i.bytes))=some (some (.agg #[.int .u8 0,.string ⟨#[]⟩,Iq 0]),3,32):=by kernel_rfl
def iH (ts:List Tok):List Value:=ts.flatMap λt=>[.int .u8 t.k,S t.text,Iq t.pl]
theorem qC (ts) (t):iH (ts++[t])=iH ts++[.int .u8 t.k,S t.text,Iq t.pl]:=by simp[iH]
theorem oQ (w:World) (a b c) (t):∀j u,[a,b,c][j]?=some u->(w.alloc (.cells #[a,b,c] t)).cell? ((⟨w.heap.size,0,none⟩:Addr).add j)=some u:=by
 intro j u z;match j,z with
 |0,z=>simp at z;subst z;simp[Addr.add]
 |1,z=>simp at z;subst z;simp[Addr.add]
 |2,z=>simp at z;subst z;simp[Addr.add]
 |j+3,z=>simp at z
theorem l9 {l:LB} (E:a<l.length) (h:fk l a=some t):1<=t.text.length/\a+t.text.length<=l.length/\t.pl=a/\t.k<=255:=by
 unfold fk at h;have G:=jW jk l a (by omega)
 have D:=jW jn l a (by omega)
 split at h
 ·split at h
  ·simp at h
  simp at h;subst h;refine⟨?_,?_,rfl,by simp⟩<;>simp only[pQ l a _ G]<;>omega
 split at h
 ·split at h
  ·simp at h;subst h;refine⟨?_,?_,rfl,by simp⟩<;>simp only[pQ l a _ D]<;>omega
  split at h
  ·simp at h;subst h;refine⟨?_,?_,rfl,by simp⟩<;>simp only[pQ l a _ D]<;>omega
  simp at h
 rw[Ql E] at h;simp only at h;split at h
 ·split at h
  ·simp at h;subst h;rename_i h3;have:a+1<l.length:=by
    rcases Rq (a+1) l.length with z|z
    ·exact z
    rw[Qi,QC z] at h3;simp at h3
   simp;omega
  simp at h;subst h;simp;omega
 split at h
 ·simp at h;subst h;simp;omega
 simp at h
def Jm (l:List UInt8) (w:World) (e:Ending) (w':World):Prop:=
 Below w.heap.size w w'/\match kP (l.length+1) l 0 with
 |(ts,none)=> ∃g cap,e= .returned (.tuple #[.slice (some ⟨g,0,none⟩) ts.length cap,Iq (-1)])/\w'.ownsRow w.heap.size 151 3 (.slice (some ⟨g,0,none⟩) ts.length cap) ts.length (iH ts)
 |(_,some p)=>e= .returned (.tuple #[.slice none 0 0,Iq p])
theorem Jn (h:(c.toNat:Int)=32):kM c=true:=by unfold kM;simp;omega
theorem NL (h:((c.toNat:Int)==32)=true\/((c.toNat:Int)==10)=true):kM c=true:=by unfold kM;simp at h⊢;omega
theorem Jo (h:((c.toNat:Int)==32)=false/\((c.toNat:Int)==10)=false):kM c=false:=by unfold kM;simp at h⊢;omega
theorem cD (h:w.ownsRow base e size v n xs) (I:Bl w w'):w'.ownsRow base e size v n xs:=by
 obtain⟨J,z⟩:=h;refine⟨J,?_⟩;rcases z with z|⟨g,cap,D,a,b,c,d⟩
 ·exact .inl z
 refine .inr ⟨g,cap,D,a,b,?_,d⟩;rw[I.block g ?_];exact c;rcases Rq g w.heap.size with E|G
 ·exact E
 rw[RY G] at c;cases c
theorem uC (w:World) (o) (a b c) (t):∀j u,[a,b,c][j]?=some u->((w.alloc o).alloc (.cells #[a,b,c] t)).cell? ((⟨w.heap.size+1,0,none⟩:Addr).add j)=some u:=by
 have h:=oQ (w.alloc o) a b c t;rw[Qw] at h;exact h
theorem L4 {z E:World} (D:z.ownsRow base e size v n xs) (J:((z.alloc G).alloc I).grownBy E v.ownBlock) (i):
 E.cell? ⟨z.heap.size,i,none⟩=(z.alloc G).cell? ⟨z.heap.size,i,none⟩:=by
 rw[J.cell_far ⟨z.heap.size,i,none⟩ (by simp;omega) (λh=>by have:=(D.lt _ h.symm).2;simp at this)]
 exact World.cell?_alloc_past _ _ _ (by simp)
theorem yj (z:Bl w E) (D:E.ownsRow w.heap.size e size v n xs) (O:((E.alloc I).alloc J).grownBy G v.ownBlock):Bl w G:=by
 have U:=z.size;exact Tz ((z.alloc (by omega) _).alloc (by simp;omega) _) O (by simp;omega) (λj R=>(D.lt _ R).1)
theorem gP (z:Bl w E) (D:E.ownsRow w.heap.size e size v n xs) (J:(E.alloc I).grownBy G v.ownBlock):Bl w G:=by
 have R:=z.size;exact Tz (z.alloc (by omega) _) J (by simp;omega) (λj O=>(D.lt _ O).1)
theorem AN (l:LB) (k f j) (E:0<f) (G:j<l.length) (z:dm kM l k=j) (D:fk l j=none):kP f l k=([],some j):=by
 obtain⟨f,rfl⟩:∃f',f=f'+1:=⟨f - 1,by omega⟩
 rw[kP,z,Qj (by omega),D]
theorem AO (l:LB) (k f j) (t) (E:j<l.length) (z:dm kM l k=j) (D:fk l j=some t):kP (f+1) l k=(t::(kP f l (j+t.text.length)).1,(kP f l (j+t.text.length)).2):=by
 rw[kP,z,Qj (by omega),D]
theorem EX (l:LB) (k f) (D:0<f) (z:dm kM l k=l.length):kP f l k=([⟨101,[],l.length⟩],none):=by
 obtain⟨f,rfl⟩:∃f',f=f'+1:=⟨f - 1,by omega⟩
 rw[kP,z,Qo (by omega)]
set_option maxHeartbeats 2000000 in
theorem yl (l : List UInt8) (w : World) (hl : l.length <= 1000) :
    Calls prog 60 #[S l] w λe w' => Jm l w e w' := by
  obtain ⟨i0, hi, hz0, hz1, hz2⟩ := Ry FP;go_enter func60, ntmps60;go_wp2
  go_loopw [4, 5] (λv a wr => ∃ (ts : List Tok) (k f : Nat), k <= l.length /\ ts.length <= k /\ a = Iq k /\ l.length - k < f /\ Hid (kP (l.length + 1) l 0 = (ts ++ (kP f l k).1, (kP f l k).2)) /\ wr.ownsRow w.heap.size 151 3 v ts.length (iH ts) /\ Below w.heap.size w wr) (λ_ a _ => l.length - (intOf a).toNat)
  case atStart => exact ⟨[], 0, l.length + 1, by omega, by simp, rfl, by omega, rfl, QX _ _ _ _, Qq _ _⟩
  case round =>
    obtain ⟨ts, k, f, hk, htk, rfl, hf, HS, hown, hbw⟩ := hrel;go_wp2
    go_loop [5] (λi => ∃ j : Nat, k <= j /\ j <= l.length /\ i = Iq j /\ Hid (dm kM l k = dm kM l j)) (λi => l.length - (intOf i).toNat)
    case atStart => exact ⟨k, by omega, by omega, rfl, rfl⟩
    case round =>
      obtain ⟨j, hkj, hj, rfl, HB⟩ := hrel
      by_cases hlt : j < l.length
      · cases hwt : fk l j with
        | none =>
          have HW : Hid _ := hwt;clear hwt;go_wp2_with fail
          case roundEnd =>
            refine ⟨⟨j + 1, by omega, by omega, by go_num, ?_⟩, by simp [intOf]; omega⟩
            show _ = _; rw [HB.out]; exact fJ kM l j hlt (Jn ‹_›)
          case roundEnd =>
            refine ⟨⟨j + 1, by omega, by omega, by go_num, ?_⟩, by simp [intOf]; omega⟩
            show _ = _; rw [HB.out]; exact fJ kM l j hlt (NL ‹_›)
          have hsj : Hid (dm kM l k = j) := by show _ = _; rw [HB.out]; exact lL kM l j hlt (Jo ‹_›)
          apply(AM l j wr hl hlt).mono;rintro e w1 ⟨ha, hb⟩;unfold gI at ha;rw [HW.out] at ha;obtain ⟨k', s', p', rfl⟩ := ha;go_wp2
          go_ret2
          refine ⟨(hbw.trans (hb.mono hbw.size)).alloc (by have := hb.size; have := hbw.size; omega) _, ?_⟩
          rw [HS.out, AN l k f j (by omega) hlt hsj.out HW.out]
          rfl
        | some t =>
          have HW : Hid _ := hwt;obtain ⟨ht1, ht2, ht3, ht4⟩ := l9 hlt hwt;have H3 : Hid _ := ht3;clear ht3;clear hwt;go_wp2_with fail
          case roundEnd =>
            refine ⟨⟨j + 1, by omega, by omega, by go_num, ?_⟩, by simp [intOf]; omega⟩
            show _ = _; rw [HB.out]; exact fJ kM l j hlt (Jn ‹_›)
          case roundEnd =>
            refine ⟨⟨j + 1, by omega, by omega, by go_num, ?_⟩, by simp [intOf]; omega⟩
            show _ = _; rw [HB.out]; exact fJ kM l j hlt (NL ‹_›)
          have hsj : Hid (dm kM l k = j) := by show _ = _; rw [HB.out]; exact lL kM l j hlt (Jo ‹_›)
          apply(AM l j wr hl hlt).mono;rintro e w1 ⟨ha, hb⟩;unfold gI at ha;rw [HW.out] at ha;subst ha;unfold NJ;have hbw1 : Below w.heap.size w w1 := hbw.trans (hb.mono hbw.size);have hown1 := cD hown hb;have hs1 := hb.size;have hs0 := hbw.size
          go_wp2_with (
            at_builtin
            go_must (refine wpList_append_lies _ (by rfl) _ _ 144 (by rfl) w.heap.size 151 i0 (.agg #[.int .u8 0, .string ⟨#[]⟩, Iq 0]) 3 32 underlying144 hi hz0 hz1 hz2 (by rfl) (by decide) _ _ _ (by rfl) ((hown1.alloc _).alloc _) ⟨w1.heap.size + 1, 0, none⟩ 1 1 [.int .u8 t.k, S t.text, Iq t.pl] (by rfl) (by rfl) (uC _ _ _ _ _ _) (λx hx => by simp at hx; rcases hx with rfl | rfl | rfl <;> rfl) (by decide) (by unfold maxLen; omega) (by omega) (by simp; omega) _ rfl ?_)
            intro g cap w3 hown3 hgrow3 hat hlt3;have hc1 := L4 hown1 hgrow3 1;have hbw3 := yj hbw1 hown1 hgrow3
            clear hgrow3 hat)
          go_roundw
          case rel =>
            obtain ⟨f, rfl⟩ :∃ f', f = f' + 1 := ⟨f - 1, by omega⟩
            refine ⟨ts ++ [t], j + t.text.length, f, ht2, by simp; omega, by go_num, by omega, ?_, ?_, hbw3⟩
            · show _ = _
              rw [HS.out, AO l k f j t hlt hsj.out HW.out]; simp
            · rw [qC]; simpa using hown3
          case measure => simp [intOf]; omega
      · have hjl : j = l.length := by omega
        subst hjl
        go_wp2_with (
          at_builtin
          go_must (refine wpList_append_lies _ (by rfl) _ _ 144 (by rfl) w.heap.size 151 i0 (.agg #[.int .u8 0, .string ⟨#[]⟩, Iq 0]) 3 32 underlying144 hi hz0 hz1 hz2 (by rfl) (by decide) _ _ _ (by rfl) (hown.alloc _) ⟨wr.heap.size, 0, none⟩ 1 1 [.int .u8 101, S [], Iq l.length] (by rfl) (by rfl) (oQ _ _ _ _ _) (λx hx => by simp at hx; rcases hx with rfl | rfl | rfl <;> rfl) (by decide) (by unfold maxLen; omega) (by omega) (by simp; have := hbw.size; omega) _ rfl ?_)
          intro g cap w3 hown3 hgrow3 hat hlt3)
        go_ret2
        refine ⟨gP hbw hown hgrow3, ?_⟩;rw [HS.out, EX l k f (by omega) (by rw [HB.out]; exact lY kM l _ (by omega))]
        exact ⟨g, cap, by simp, by rw [qC]; simpa using hown3⟩
end Go.Proofs.YtfkdailfcmnjlaaGreatDoor
