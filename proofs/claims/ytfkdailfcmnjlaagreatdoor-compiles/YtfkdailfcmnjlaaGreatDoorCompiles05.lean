/-
  A part.
-/
import Derived.Test.YtfkdailfcmnjlaaGreatDoorCompiles03
import Derived.Test.YtfkdailfcmnjlaaGreatDoorCompiles04
set_option linter.all false
set_option maxHeartbeats 40000000
set_option maxRecDepth 1000000
namespace Go.Proofs.YtfkdailfcmnjlaaGreatDoor
open Go Go.RowKit Tryz
section
variable {c b W z p a}
theorem tQ (t) (a b):binOp .gtr t (.string a) (.string b)=pure (.bool (!Op.bytesLess a.toList b.toList&&!a.toList==b.toList)):=by simp[binOp,Op.stringOp]
attribute [local go_sem] tQ
theorem Qw (h:((c.toNat:Int)==48)=b):yb c=b:=by
 unfold yb;rw[<-h,Ts];simp;omega
theorem BC (s:LB) (k):((ByteArray.mk s.toArray).extract k s.length).toList=s.drop k:=by
 rw[ByteArray.extract_mk,T3];exact Sz (by simp)
theorem Hb (s:LB) (k) (h:de yb s 0=k):lH s=(decide (19<s.length - k)||(decide (s.length - k=19)&&Ph (s.drop k) yO)):=by
 unfold lH;rw[h];simp
theorem yQ (s:LB) (k) (h:de yb s 0=k):
 (19<s.length - k->lH s=true)/\(s.length - k<=19-> ¬s.length - k=19->lH s=false)/\(s.length - k=19->lH s=Ph (s.drop k) yO):=by
 rw[Hb s k h];refine⟨λz=>by simp[z],λz D=>?_,λz=>by simp[z]⟩
 simp[D];omega
set_option maxHeartbeats 400000 in
theorem yR (s : List UInt8) (w : World) (hs : s.length <= 1000) :
    Calls prog 157 #[S s] w λe w' => e = .returned (.bool (lH s)) /\ w' = w := by
  go_enter func157, ntmps157
  go_wp2
  go_loop [3] (λi => ∃ k : Nat, k <= s.length /\ i = Iq k /\ de yb s 0 = de yb s k) (λi => s.length - (intOf i).toNat)
  case atStart => exact ⟨0, R0 _, rfl, rfl⟩
  case round =>
    obtain ⟨k, hk, rfl, hi⟩ := hrel;have H : Hid _ := hi;clear hi
    by_cases hlt : k < s.length
    · go_wp2
      · refine ⟨⟨k + 1, by omega, by go_num, ?_⟩, by simp [intOf]; omega⟩
        rw [H.out]; exact fX yb s k hlt (Qw ‹_›)
      all_goals
        have hf := yQ s k (by rw [H.out]; exact lR yb s k hlt (Qw ‹_›))
        go_ret;refine ⟨iN ?_, rfl⟩
      · rw [hf.2.2 (by omega)]
        rw [BC]; rfl
      · rw [hf.2.1 (by omega) (by omega)]
        simp; omega
      · exact (hf.1 (by omega)).symm
    · have hstop := mj yb s k (by omega)
      have hf : Hid _ := yQ s k (by rw [H.out, hstop])
      clear hstop
      go_wp2
      go_ret;refine ⟨iN ?_, rfl⟩;rw [hf.out.2.1 (by omega) (by omega)]
      simp; omega
theorem gC (l:LB) (a b):(ByteArray.mk l.toArray).extract a b=⟨(cut l a b).toArray⟩:=ByteArray.extract_mk l a b
theorem ql (l:LB) (a b) (h:b<=l.length):(cut l a b).length=b - a:=by
 unfold cut;simp;omega
theorem BD (p) (l:LB) (a):∀c∈cut l a (de p l a),p c=true:=by
 intro c z;unfold cut de at z;have D:a+((l.drop a).takeWhile p).length - a=((l.drop a).takeWhile p).length:=by omega
 rw[D] at z;have E:(l.drop a).take ((l.drop a).takeWhile p).length=(l.drop a).takeWhile p:=by
  have:=(List.takeWhile_prefix (l:=l.drop a) p);exact(Uu.1 this).symm
 rw[E] at z;have h3:=UW (p:=p) (l:=l.drop a);exact TL.1 h3 c z
theorem Qx (z:48<=(c.toNat:Int)) (D:(c.toNat:Int)<=57):im c=true:=by
 unfold im;simp;omega
theorem Qy (z:(c.toNat:Int)<48):im c=false:=by
 unfold im;simp;omega
theorem Qz (z:57<(c.toNat:Int)):im c=false:=by
 unfold im;simp;omega
theorem QA (z:97<=(c.toNat:Int)) (D:(c.toNat:Int)<=122):ig c=true:=by
 unfold ig;simp;omega
theorem QB (z:(c.toNat:Int)<97):ig c=false:=by
 unfold ig;simp;omega
theorem QC (z:122<(c.toNat:Int)):ig c=false:=by
 unfold ig;simp;omega
def Pj (t:Tok):Value:= .agg #[.int .u8 t.k,S t.text,Iq t.pl]
def gP (l:List UInt8) (a:Nat) (e:Ending):Prop:=match fv l a with
 |some t=>e= .returned (.tuple #[Pj t,.bool true])
 |none=> ∃k s p,e= .returned (.tuple #[.agg #[.int .u8 k,S s,Iq p],.bool false])
theorem KT (l:LB) (a D:Nat) (h:fv l a=if big (cut l a D)=true then none else some ⟨110,cut l a D,a⟩) (z:lH (cut l a D)=big (cut l a D)):
 gP l a (.returned (.tuple #[.agg #[.int .u8 110,S (cut l a D),Iq a],.bool (!lH (cut l a D))])):=by
 unfold gP;rw[h,z];cases big (cut l a D)
 ·rfl
 exact⟨110,_,a,rfl⟩
theorem sA (l:LB) (a) (t:Tok) (h:fv l a=some t):gP l a (.returned (.tuple #[Pj t,.bool true])):=by
 unfold gP;rw[h]
theorem Gg (l:LB) (a:Nat) (k) (s:LB) (p) (h:fv l a=none):gP l a (.returned (.tuple #[.agg #[.int .u8 k,S s,Iq p],.bool false])):=by
 unfold gP;rw[h];exact⟨k,s,p,rfl⟩
theorem QD (D:Bl W z):(∀b o,b<W.heap.size->z.cell? ⟨b,o,none⟩=W.cell? ⟨b,o,none⟩)/\(∀b o,b<W.heap.size->z.frozen? ⟨b,o,none⟩=W.frozen? ⟨b,o,none⟩):=
 ⟨λb o h=>D.cell h,λb o h=>D.frozen h⟩
theorem dc (w:World) (b i) (v) (h:(w.cell? ⟨b,i,none⟩).isSome=true):Cq ((w.setCell ⟨b,i,none⟩ v)) b i v:=by
 cases e:w.cell? ⟨b,i,none⟩ with
 |none=>rw[e] at h;simp at h
 |some u=>exact World.cell?_setCell_same _ _ _ e
theorem cN (w:World) (b i j) (v) (h:i≠j):(w.setCell ⟨b,i,none⟩ v).cell? ⟨b,j,none⟩=w.cell? ⟨b,j,none⟩:=
 TR _ _ _ _ (by simp[h])
theorem fD (w:World) (b i j) (v) (h:(w.cell? ⟨b,j,none⟩).isSome=true):((w.setCell ⟨b,i,none⟩ v).cell? ⟨b,j,none⟩).isSome=true:=by
 by_cases e:i=j
 ·subst e;rw[dc _ _ _ _ h];rfl
 rw[cN _ _ _ _ _ e];exact h
set_option maxHeartbeats 1000000 in
theorem KU (l : List UInt8) (a : Nat) (w : World) (hl : l.length <= 1000) (ha : a < l.length) (hd : a < de im l a) :
    Calls prog 112 #[S l, Iq a] w λe w' => gP l a e /\ Below w.heap.size w w' := by
  have hwa : Hid (fv l a = if big (cut l a (de im l a)) then none else some ⟨110, cut l a (de im l a), a⟩) := by
    show _ = _; unfold fv; rw [RK hd]
  have hle := kj im l a (by omega)
  have hgb : Hid _ := D7 _ (BD im l a);generalize hD : de im l a = D at *;have HD : Hid _ := hD;clear hD;go_enter func112, ntmps112;go_wp2
  go_loop [6] (λi => ∃ k : Nat, a <= k /\ k <= l.length /\ i = Iq k /\ D = de im l k) (λi => l.length - (intOf i).toNat)
  case atStart => exact ⟨a, RL _, by omega, rfl, HD.out.symm⟩
  case round =>
    obtain ⟨k, hak, hk, rfl, hi⟩ := hrel;have H : Hid _ := hi;clear hi
    by_cases hlt : k < l.length
    · go_wp2_with fail
      case roundEnd =>
        refine ⟨⟨k + 1, by omega, by omega, by go_num, ?_⟩, by simp [intOf]; omega⟩
        rw [H.out]; exact fX im l k hlt (Qx ‹_› ‹_›)
      all_goals
        have hstop : D = k := by rw [H.out]; exact lR im l k hlt (by first | exact Qy ‹_› | exact Qz ‹_›)
        subst hstop
        try (exfalso; omega)
      all_goals
        rw [gC];apply(yR (cut l a D) _ (by rw [ql l a D hle]; omega)).mono
        rintro e w1 ⟨rfl, rfl⟩;go_wp2;exact RU (v := .tuple #[.agg #[.int .u8 110, S (cut l a D), Iq a], .bool (!lH (cut l a D))]) (by simp [results, results112, go_sem, gC]) rfl ⟨KT l a D hwa.out hgb.out, (RP _ _).alloc (RL _) _⟩
    · have hstop : D = k := by rw [H.out]; exact mj im l k (by omega)
      subst hstop;go_wp2_with fail;rw [gC];apply(yR (cut l a D) _ (by rw [ql l a D hle]; omega)).mono
      rintro e w1 ⟨rfl, rfl⟩;go_wp2;exact RU (v := .tuple #[.agg #[.int .u8 110, S (cut l a D), Iq a], .bool (!lH (cut l a D))]) (by simp [results, results112, go_sem, gC]) rfl ⟨KT l a D hwa.out hgb.out, (RP _ _).alloc (RL _) _⟩
theorem BE {l:LB} (z:a<l.length) (h: ¬a<de p l a):p l[a]=false:=by
 cases e:p l[a] with
 |false=>rfl
 |true=>exact absurd (by rw[fX p l a z e];have:=qj p l (a+1);omega) h
theorem QE (h:im c=false):(c.toNat:Int)<48\/57<(c.toNat:Int):=by
 unfold im at h;simp at h;omega
theorem QF (h:ig c=false):(c.toNat:Int)<97\/122<(c.toNat:Int):=by
 unfold ig at h;simp at h;omega
end
variable {a w b}
theorem wg (h:Below b a w) (u v x):Below b a (((w.setCell ⟨b,0,none⟩ u).setCell ⟨b,1,none⟩ v).setCell ⟨b,2,none⟩ x):=
 ((h.setCell (RL _) u).setCell (RL _) v).setCell (RL _) x
theorem Pk (l:LB) (a D) (E: ¬ml (cut l a D)=true) (h:fv l a=if ml (cut l a D)=true then some ⟨107,cut l a D,a⟩ else if D - a<=8 then some ⟨111,cut l a D,a⟩ else none) (G:a<=D):
 gP l a (.returned (.tuple #[.agg #[.int .u8 111,S (cut l a D),Iq a],.bool (decide ((D:Int) - a<=8))])):=by
 rw[RH E] at h;by_cases z:D - a<=8
 ·rw[RK z] at h;rw[Sr (by omega)]
  exact sA l a _ h
 rw[RH z] at h;rw[Sc (by omega)]
 exact Gg l a _ _ _ h
set_option maxHeartbeats 1000000 in
theorem Hc (l : LB) (a : Nat) (w : World) (hl : l.length <= 1000) (ha : a < l.length) (hd : ¬ a < de im l a) (hL : a < de ig l a) :
    Calls prog 112 #[S l, Iq a] w λe w' => gP l a e /\ Bl w w' := by
  have hwa : fv l a = (if ml (cut l a (de ig l a)) then some ⟨107, cut l a (de ig l a), a⟩
     else if de ig l a - a <= 8 then some ⟨111, cut l a (de ig l a), a⟩ else none) := by
    unfold fv; rw [RH hd, RK hL]
  have hle := kj ig l a (by omega)
  have hla : ig l[a] = true := by
    cases e : ig l[a] with
    | true => rfl
    | false => exact absurd hL (by rw [lR ig l a ha e]; omega)
  have hnd : (97 : Int) <= (((ByteArray.mk l.toArray)[a]'ha).toNat : Int) := by
    have h : 97 <= l[a].toNat := by unfold ig at hla; simp at hla; omega
    exact Int.ofNat_le.2 h
  generalize hD : de ig l a = D at *;have HD : Hid _ := hD;have HW : Hid _ := hwa;clear hD hd hwa hla;go_enter func112, ntmps112;go_wp2;go_loop [6] (λi => i = Iq a) (λ_ => 0)
  case atStart => exact rfl
  case round =>
    subst hrel
    all_goals
      go_wp2;go_loop [6] (λi => ∃ k : Nat, a <= k /\ k <= l.length /\ i = Iq k /\ D = de ig l k) (λi => l.length - (intOf i).toNat)
      case atStart => exact ⟨a, RL _, by omega, rfl, HD.out.symm⟩
    all_goals
      obtain ⟨k, hak, hk, rfl, hi⟩ := hrel;have H : Hid _ := hi;clear hi hnd;by_cases hlt : k < l.length
    all_goals go_wp2_with fail
    all_goals try (case roundEnd =>
        refine ⟨⟨k + 1, by omega, by omega, by go_num, ?_⟩, by simp [intOf]; omega⟩
        rw [H.out]; exact fX ig l k hlt (QA ‹_› ‹_›))
    all_goals
      have hstop : D = k := by
        rw [H.out]
        first
        | exact lR ig l k hlt (by first | exact QB ‹_› | exact QC ‹_›)
        | exact mj ig l k (by omega)
      subst hstop;try (exfalso; omega)
    all_goals
      rw [gC];apply(yg (cut l a D) _).mono;rintro e w1 ⟨rfl, hb⟩;obtain ⟨hc, hf⟩ := QD hb;have hz : w.heap.size < w1.heap.size := by have := hb.size; simp at this; omega
    all_goals
      by_cases hkw : ml (cut l a D) = true
    all_goals
      have hbb : Below w.heap.size w w1 := ((RP _ _).alloc (RL _) _).trans (hb.mono (by simp))
      go_wp2
    all_goals first
      | exact RU (v := .tuple #[.agg #[.int .u8 107, S (cut l a D), Iq a], .bool true]) (by simp [results, results112, go_sem, gC, hc, hz, dc, cN, fD]) rfl ⟨sA l a ⟨107, cut l a D, a⟩ (by rw [HW.out, RK hkw]), wg hbb _ _ _⟩
      | exact RU (v := .tuple #[.agg #[.int .u8 111, S (cut l a D), Iq a], .bool (decide ((D : Int) - a <= 8))]) (by simp [results, results112, go_sem, gC, hc, hz, dc, cN, fD]) rfl ⟨Pk l a D hkw HW.out (by omega), wg hbb _ _ _⟩
theorem Nr (l:LB) (a) (z:a<l.length) (D: ¬a<de im l a) (E: ¬a<de ig l a):fv l a=
 if l[a].toNat=60 then(if(l.getD (a+1) 0).toNat=61 then some ⟨115,[60,61],a⟩ else some ⟨115,[60],a⟩)
 else if l[a].toNat=40\/l[a].toNat=41\/l[a].toNat=59\/l[a].toNat=43\/l[a].toNat=45\/l[a].toNat=61 then some ⟨115,[l[a]],a⟩
 else none:=by
 unfold fv;rw[RH D,RH E,RI z]
theorem Q8 {c:UInt8} {k:Nat} (h:(c.toNat==(k:Int))=true):c.toNat=k:=by simp at h;omega
theorem OM {c:UInt8} {k:Nat} (h:(c.toNat==(k:Int))=false): ¬c.toNat=k:=by simp at h;omega
theorem Ns (l:LB) (a) (z:a<l.length):cut l a (a+1)=[l[a]]:=by
 unfold cut;rw[R5 z,show a+1 - a=1 from by omega];rfl
def wm (l:List UInt8) (a) (I:a<l.length):Prop:=fv l a=
 if l[a].toNat=60 then(if(l.getD (a+1) 0).toNat=61 then some ⟨115,[60,61],a⟩ else some ⟨115,[60],a⟩)
 else if l[a].toNat=40\/l[a].toNat=41\/l[a].toNat=59\/l[a].toNat=43\/l[a].toNat=45\/l[a].toNat=61 then some ⟨115,[l[a]],a⟩
 else none
theorem tR (l:LB) (a) (z:a<l.length) (k:Nat) (D:wm l a z) (E:k=40\/k=41\/k=59\/k=43\/k=45\/k=61) (h:((l[a].toNat)==(k:Int))=true):
 gP l a (.returned (.tuple #[.agg #[.int .u8 115,S [l[a]],Iq a],.bool true])):=by
 have e:=Q8 h;refine sA l a ⟨115,[l[a]],a⟩ ?_;rw[D,RH (by omega),RK (by omega)]
theorem QG (l:LB) (a) (z:a<l.length) (D:wm l a z) (h:((l[a].toNat:Int)==(60:Nat))=true) (E:a+1<l.length) (G:((l[a+1].toNat:Int)==(61:Nat))=true):
 gP l a (.returned (.tuple #[.agg #[.int .u8 115,S [60,61],Iq a],.bool true])):=by
 refine sA l a ⟨115,[60,61],a⟩ ?_;rw[D,RK (Q8 h),RK (by rw[RG,RI E];exact Q8 G)]
theorem ON (l:LB) (a) (D:a<l.length) (E:wm l a D) (h:((l[a].toNat:Int)==(60:Nat))=true) (z:l.length<=a+1\/ ∃z,((l[a+1].toNat:Int)==(61:Nat))=false):
 gP l a (.returned (.tuple #[.agg #[.int .u8 115,S [60],Iq a],.bool true])):=by
 refine sA l a ⟨115,[60],a⟩ ?_;rw[E,RK (Q8 h)];rcases z with z|⟨z,G⟩
 ·rw[RH (by rw[RG,R2 z];decide)]
 rw[RH (by rw[RG,RI z];exact OM G)]
theorem QH (l:LB) (a) (R:a<l.length) (U:wm l a R) (z:((l[a].toNat:Int)==(60:Nat))=false) (D:((l[a].toNat:Int)==(40:Nat))=false) (E:((l[a].toNat:Int)==(41:Nat))=false)
 (G:((l[a].toNat:Int)==(59:Nat))=false) (I:((l[a].toNat:Int)==(43:Nat))=false) (J:((l[a].toNat:Int)==(45:Nat))=false) (O:((l[a].toNat:Int)==(61:Nat))=false):
 gP l a (.returned (.tuple #[.agg #[.int .u8 0,S [],Iq 0],.bool false])):=by
 refine Gg l a 0 [] 0 ?_;have:=OM z;have:=OM D;have:=OM E;have:=OM G;have:=OM I;have:=OM J;have:=OM O;rw[U,RH (by omega),RH (by omega)]
set_option maxHeartbeats 1000000 in
theorem He (l : List UInt8) (a : Nat) (w : World) (hl : l.length <= 1000) (ha : a < l.length) (hd : ¬ a < de im l a) (hL : ¬ a < de ig l a) :
    Calls prog 112 #[S l, Iq a] w λe w' => gP l a e /\ Below w.heap.size w w' := by
  have hwa : Hid (wm l a ha) := Nr l a ha hd hL;have hnd : (((ByteArray.mk l.toArray)[a]'ha).toNat : Int) < 48 \/ 57 < (((ByteArray.mk l.toArray)[a]'ha).toNat : Int) := QE (BE ha hd);have hnl : (((ByteArray.mk l.toArray)[a]'ha).toNat : Int) < 97 \/ 122 < (((ByteArray.mk l.toArray)[a]'ha).toNat : Int) := QF (BE ha hL);clear hd hL;go_enter func112, ntmps112;go_wp2
  go_loop [6] (λi => i = Iq a) (λ_ => 0)
  case atStart => exact rfl
  case round =>
    subst hrel;rcases hnd with hnd | hnd
    all_goals
      go_wp2
      go_loop [6] (λi => i = Iq a) (λ_ => 0)
      case atStart => exact rfl
    all_goals
      subst hrel;rcases hnl with hnl | hnl
    all_goals try (exfalso; omega)
    all_goals go_wp2_with fail
    all_goals first
      | (refine RU (v := .tuple #[.agg #[.int .u8 115, S [l[a]], Iq a], .bool true]) (by simp [results, results112, go_sem, gC, Ns l a ha]) rfl ⟨?_, (RP _ _).alloc (RL _) _⟩; first | exact tR l a ha 40 hwa.out (by decide) ‹_› | exact tR l a ha 41 hwa.out (by decide) ‹_› | exact tR l a ha 59 hwa.out (by decide) ‹_› | exact tR l a ha 43 hwa.out (by decide) ‹_› | exact tR l a ha 45 hwa.out (by decide) ‹_› | exact tR l a ha 61 hwa.out (by decide) ‹_›)
      | exact RU (v := .tuple #[.agg #[.int .u8 115, S [60, 61], Iq a], .bool true]) (by simp [results, results112, go_sem]) rfl ⟨QG l a ha hwa.out ‹_› (by omega) ‹_›, (RP _ _).alloc (RL _) _⟩
      | exact RU (v := .tuple #[.agg #[.int .u8 115, S [60], Iq a], .bool true]) (by simp [results, results112, go_sem]) rfl ⟨ON l a ha hwa.out ‹_› (.inl (by omega)), (RP _ _).alloc (RL _) _⟩
      | exact RU (v := .tuple #[.agg #[.int .u8 115, S [60], Iq a], .bool true]) (by simp [results, results112, go_sem]) rfl ⟨ON l a ha hwa.out ‹_› (.inr ⟨by omega, ‹_›⟩), (RP _ _).alloc (RL _) _⟩
      | exact RU (v := .tuple #[.agg #[.int .u8 0, S [], Iq 0], .bool false]) (by simp [results, results112, go_sem]) rfl ⟨QH l a ha hwa.out ‹_› ‹_› ‹_› ‹_› ‹_› ‹_› ‹_›, (RP _ _).alloc (RL _) _⟩
theorem BF (l) (a:Nat) (w:World) (q:l.length<=1000) (z:a<l.length):
 Calls prog 112 #[S l,Iq a] w λe w'=>gP l a e/\Below w.heap.size w w':=by
 by_cases A:a<de im l a
 ·exact KU l a w q z A
 ·by_cases D:a<de ig l a
  ·exact Hc l a w q z A D
  ·exact He l a w q z A D
end Go.Proofs.YtfkdailfcmnjlaaGreatDoor
