/-
  A part.
-/
import Derived.Test.YtfkdailfcmnjlaaGreatDoorAll02
import Derived.Test.YtfkdailfcmnjlaaGreatDoorAll03
set_option linter.all false
set_option maxHeartbeats 40000000
set_option maxRecDepth 1000000
namespace Go.Proofs.YtfkdailfcmnjlaaGreatDoor
open Go Go.RowKit Tryz
section
variable {c b W z p a}
theorem sS (t) (a b):binOp .gtr t (.string a) (.string b)=pure (.bool (!Op.bytesLess a.toList b.toList&&!a.toList==b.toList)):=by simp[binOp,Op.stringOp]
attribute [local go_sem] sS
theorem OX (h:((c.toNat:Int)==48)=b):xy c=b:=by
 unfold xy;rw[<-h,RE];simp;omega
theorem AJ (s:LB) (k):((ByteArray.mk s.toArray).extract k s.length).toList=s.drop k:=by
 rw[ByteArray.extract_mk,Sf];exact Q4 (by simp)
theorem FM (s:LB) (k) (h:dm xy s 0=k):kZ s=(decide (19<s.length - k)||(decide (s.length - k=19)&&NI (s.drop k) yd)):=by
 unfold kZ;rw[h];simp
theorem yh (s:LB) (k) (h:dm xy s 0=k):
 (19<s.length - k->kZ s=true)/\(s.length - k<=19-> ¬s.length - k=19->kZ s=false)/\(s.length - k=19->kZ s=NI (s.drop k) yd):=by
 rw[FM s k h];refine⟨λz=>by simp[z],λz D=>?_,λz=>by simp[z]⟩
 simp[D];omega
set_option maxHeartbeats 400000 in
theorem yi (s : List UInt8) (w : World) (hs : s.length <= 1000) :
    Calls prog 157 #[S s] w λe w' => e = .returned (.bool (kZ s)) /\ w' = w := by
  go_enter func157, ntmps157
  go_wp2
  go_loop [3] (λi => ∃ k : Nat, k <= s.length /\ i = Iq k /\ dm xy s 0 = dm xy s k) (λi => s.length - (intOf i).toNat)
  case atStart => exact ⟨0, QA _, rfl, rfl⟩
  case round =>
    obtain ⟨k, hk, rfl, hi⟩ := hrel;have H : Hid _ := hi;clear hi
    by_cases hlt : k < s.length
    · go_wp2
      · refine ⟨⟨k + 1, by omega, by go_num, ?_⟩, by simp [intOf]; omega⟩
        rw [H.out]; exact fJ xy s k hlt (OX ‹_›)
      all_goals
        have hf := yh s k (by rw [H.out]; exact lL xy s k hlt (OX ‹_›))
        go_ret;refine ⟨iG ?_, rfl⟩
      · rw [hf.2.2 (by omega)]
        rw [AJ]; rfl
      · rw [hf.2.1 (by omega) (by omega)]
        simp; omega
      · exact (hf.1 (by omega)).symm
    · have hstop := lY xy s k (by omega)
      have hf : Hid _ := yh s k (by rw [H.out, hstop])
      clear hstop
      go_wp2
      go_ret;refine ⟨iG ?_, rfl⟩;rw [hf.out.2.1 (by omega) (by omega)]
      simp; omega
theorem gm (l:LB) (a b):(ByteArray.mk l.toArray).extract a b=⟨(cut l a b).toArray⟩:=ByteArray.extract_mk l a b
theorem pQ (l:LB) (a b) (h:b<=l.length):(cut l a b).length=b - a:=by
 unfold cut;simp;omega
theorem AK (p) (l:LB) (a):∀c∈cut l a (dm p l a),p c=true:=by
 intro c z;unfold cut dm at z;have D:a+((l.drop a).takeWhile p).length - a=((l.drop a).takeWhile p).length:=by omega
 rw[D] at z;have E:(l.drop a).take ((l.drop a).takeWhile p).length=(l.drop a).takeWhile p:=by
  have:=(List.takeWhile_prefix (l:=l.drop a) p);exact(SN.1 this).symm
 rw[E] at z;have h3:=List.all_takeWhile (p:=p) (l:=l.drop a);exact Sk.1 h3 c z
theorem OY (z:48<=(c.toNat:Int)) (D:(c.toNat:Int)<=57):jk c=true:=by
 unfold jk;simp;omega
theorem OZ (z:(c.toNat:Int)<48):jk c=false:=by
 unfold jk;simp;omega
theorem O0 (z:57<(c.toNat:Int)):jk c=false:=by
 unfold jk;simp;omega
theorem O1 (z:97<=(c.toNat:Int)) (D:(c.toNat:Int)<=122):jn c=true:=by
 unfold jn;simp;omega
theorem O3 (z:(c.toNat:Int)<97):jn c=false:=by
 unfold jn;simp;omega
theorem O4 (z:122<(c.toNat:Int)):jn c=false:=by
 unfold jn;simp;omega
def NJ (t:Tok):Value:= .agg #[.int .u8 t.k,S t.text,Iq t.pl]
def gI (l:List UInt8) (a:Nat) (e:Ending):Prop:=match fk l a with
 |some t=>e= .returned (.tuple #[NJ t,.bool true])
 |none=> ∃k s p,e= .returned (.tuple #[.agg #[.int .u8 k,S s,Iq p],.bool false])
theorem Jk (l:LB) (a D:Nat) (h:fk l a=if big (cut l a D)=true then none else some ⟨110,cut l a D,a⟩) (z:kZ (cut l a D)=big (cut l a D)):
 gI l a (.returned (.tuple #[.agg #[.int .u8 110,S (cut l a D),Iq a],.bool (!kZ (cut l a D))])):=by
 unfold gI;rw[h,z];cases big (cut l a D)
 ·rfl
 exact⟨110,_,a,rfl⟩
theorem rK (l:LB) (a) (t:Tok) (h:fk l a=some t):gI l a (.returned (.tuple #[NJ t,.bool true])):=by
 unfold gI;rw[h]
theorem EW (l:LB) (a:Nat) (k) (s:LB) (p) (h:fk l a=none):gI l a (.returned (.tuple #[.agg #[.int .u8 k,S s,Iq p],.bool false])):=by
 unfold gI;rw[h];exact⟨k,s,p,rfl⟩
theorem O5 (D:Bl W z):(∀b o,b<W.heap.size->z.cell? ⟨b,o,none⟩=W.cell? ⟨b,o,none⟩)/\(∀b o,b<W.heap.size->z.frozen? ⟨b,o,none⟩=W.frozen? ⟨b,o,none⟩):=
 ⟨λb o h=>D.cell h,λb o h=>D.frozen h⟩
theorem cY (w:World) (b i) (v) (h:(w.cell? ⟨b,i,none⟩).isSome=true):Cq ((w.setCell ⟨b,i,none⟩ v)) b i v:=by
 cases e:w.cell? ⟨b,i,none⟩ with
 |none=>rw[e] at h;simp at h
 |some u=>exact World.cell?_setCell_same _ _ _ e
theorem cN (w:World) (b i j) (v) (h:i≠j):(w.setCell ⟨b,i,none⟩ v).cell? ⟨b,j,none⟩=w.cell? ⟨b,j,none⟩:=
 R5 _ _ _ _ (by simp[h])
theorem eY (w:World) (b i j) (v) (h:(w.cell? ⟨b,j,none⟩).isSome=true):((w.setCell ⟨b,i,none⟩ v).cell? ⟨b,j,none⟩).isSome=true:=by
 by_cases e:i=j
 ·subst e;rw[cY _ _ _ _ h];rfl
 rw[cN _ _ _ _ _ e];exact h
set_option maxHeartbeats 1000000 in
theorem Jl (l : List UInt8) (a : Nat) (w : World) (hl : l.length <= 1000) (ha : a < l.length) (hd : a < dm jk l a) :
    Calls prog 112 #[S l, Iq a] w λe w' => gI l a e /\ Below w.heap.size w w' := by
  have hwa : Hid (fk l a = if big (cut l a (dm jk l a)) then none else some ⟨110, cut l a (dm jk l a), a⟩) := by
    show _ = _; unfold fk; rw [Qo hd]
  have hle := jW jk l a (by omega)
  have hgb : Hid _ := CS _ (AK jk l a);generalize hD : dm jk l a = D at *;have HD : Hid _ := hD;clear hD;go_enter func112, ntmps112;go_wp2
  go_loop [6] (λi => ∃ k : Nat, a <= k /\ k <= l.length /\ i = Iq k /\ D = dm jk l k) (λi => l.length - (intOf i).toNat)
  case atStart => exact ⟨a, Qn _, by omega, rfl, HD.out.symm⟩
  case round =>
    obtain ⟨k, hak, hk, rfl, hi⟩ := hrel;have H : Hid _ := hi;clear hi
    by_cases hlt : k < l.length
    · go_wp2_with fail
      case roundEnd =>
        refine ⟨⟨k + 1, by omega, by omega, by go_num, ?_⟩, by simp [intOf]; omega⟩
        rw [H.out]; exact fJ jk l k hlt (OY ‹_› ‹_›)
      all_goals
        have hstop : D = k := by rw [H.out]; exact lL jk l k hlt (by first | exact OZ ‹_› | exact O0 ‹_›)
        subst hstop
        try (exfalso; omega)
      all_goals
        rw [gm];apply(yi (cut l a D) _ (by rw [pQ l a D hle]; omega)).mono
        rintro e w1 ⟨rfl, rfl⟩;go_wp2;exact Qs (v := .tuple #[.agg #[.int .u8 110, S (cut l a D), Iq a], .bool (!kZ (cut l a D))]) (by simp [results, results112, go_sem, gm]) rfl ⟨Jk l a D hwa.out hgb.out, (Qq _ _).alloc (Qn _) _⟩
    · have hstop : D = k := by rw [H.out]; exact lY jk l k (by omega)
      subst hstop;go_wp2_with fail;rw [gm];apply(yi (cut l a D) _ (by rw [pQ l a D hle]; omega)).mono
      rintro e w1 ⟨rfl, rfl⟩;go_wp2;exact Qs (v := .tuple #[.agg #[.int .u8 110, S (cut l a D), Iq a], .bool (!kZ (cut l a D))]) (by simp [results, results112, go_sem, gm]) rfl ⟨Jk l a D hwa.out hgb.out, (Qq _ _).alloc (Qn _) _⟩
theorem AL {l:LB} (z:a<l.length) (h: ¬a<dm p l a):p l[a]=false:=by
 cases e:p l[a] with
 |false=>rfl
 |true=>exact absurd (by rw[fJ p l a z e];have:=pM p l (a+1);omega) h
theorem O6 (h:jk c=false):(c.toNat:Int)<48\/57<(c.toNat:Int):=by
 unfold jk at h;simp at h;omega
theorem O7 (h:jn c=false):(c.toNat:Int)<97\/122<(c.toNat:Int):=by
 unfold jn at h;simp at h;omega
end
variable {a w b}
theorem vm (h:Below b a w) (u v x):Below b a (((w.setCell ⟨b,0,none⟩ u).setCell ⟨b,1,none⟩ v).setCell ⟨b,2,none⟩ x):=
 ((h.setCell (Qn _) u).setCell (Qn _) v).setCell (Qn _) x
theorem NK (l:LB) (a D) (E: ¬qU (cut l a D)=true) (h:fk l a=if qU (cut l a D)=true then some ⟨107,cut l a D,a⟩ else if D - a<=8 then some ⟨111,cut l a D,a⟩ else none) (G:a<=D):
 gI l a (.returned (.tuple #[.agg #[.int .u8 111,S (cut l a D),Iq a],.bool (decide ((D:Int) - a<=8))])):=by
 rw[Qj E] at h;by_cases z:D - a<=8
 ·rw[Qo z] at h;rw[QZ (by omega)]
  exact rK l a _ h
 rw[Qj z] at h;rw[QM (by omega)]
 exact EW l a _ _ _ h
set_option maxHeartbeats 1000000 in
theorem FN (l : LB) (a : Nat) (w : World) (hl : l.length <= 1000) (ha : a < l.length) (hd : ¬ a < dm jk l a) (hL : a < dm jn l a) :
    Calls prog 112 #[S l, Iq a] w λe w' => gI l a e /\ Bl w w' := by
  have hwa : fk l a = (if qU (cut l a (dm jn l a)) then some ⟨107, cut l a (dm jn l a), a⟩
     else if dm jn l a - a <= 8 then some ⟨111, cut l a (dm jn l a), a⟩ else none) := by
    unfold fk; rw [Qj hd, Qo hL]
  have hle := jW jn l a (by omega)
  have hla : jn l[a] = true := by
    cases e : jn l[a] with
    | true => rfl
    | false => exact absurd hL (by rw [lL jn l a ha e]; omega)
  have hnd : (97 : Int) <= (((ByteArray.mk l.toArray)[a]'ha).toNat : Int) := by
    have h : 97 <= l[a].toNat := by unfold jn at hla; simp at hla; omega
    exact Int.ofNat_le.2 h
  generalize hD : dm jn l a = D at *;have HD : Hid _ := hD;have HW : Hid _ := hwa;clear hD hd hwa hla;go_enter func112, ntmps112;go_wp2;go_loop [6] (λi => i = Iq a) (λ_ => 0)
  case atStart => exact rfl
  case round =>
    subst hrel
    all_goals
      go_wp2;go_loop [6] (λi => ∃ k : Nat, a <= k /\ k <= l.length /\ i = Iq k /\ D = dm jn l k) (λi => l.length - (intOf i).toNat)
      case atStart => exact ⟨a, Qn _, by omega, rfl, HD.out.symm⟩
    all_goals
      obtain ⟨k, hak, hk, rfl, hi⟩ := hrel;have H : Hid _ := hi;clear hi hnd;by_cases hlt : k < l.length
    all_goals go_wp2_with fail
    all_goals try (case roundEnd =>
        refine ⟨⟨k + 1, by omega, by omega, by go_num, ?_⟩, by simp [intOf]; omega⟩
        rw [H.out]; exact fJ jn l k hlt (O1 ‹_› ‹_›))
    all_goals
      have hstop : D = k := by
        rw [H.out]
        first
        | exact lL jn l k hlt (by first | exact O3 ‹_› | exact O4 ‹_›)
        | exact lY jn l k (by omega)
      subst hstop;try (exfalso; omega)
    all_goals
      rw [gm];apply(xC (cut l a D) _).mono;rintro e w1 ⟨rfl, hb⟩;obtain ⟨hc, hf⟩ := O5 hb;have hz : w.heap.size < w1.heap.size := by have := hb.size; simp at this; omega
    all_goals
      by_cases hkw : qU (cut l a D) = true
    all_goals
      have hbb : Below w.heap.size w w1 := ((Qq _ _).alloc (Qn _) _).trans (hb.mono (by simp))
      go_wp2
    all_goals first
      | exact Qs (v := .tuple #[.agg #[.int .u8 107, S (cut l a D), Iq a], .bool true]) (by simp [results, results112, go_sem, gm, hc, hz, cY, cN, eY]) rfl ⟨rK l a ⟨107, cut l a D, a⟩ (by rw [HW.out, Qo hkw]), vm hbb _ _ _⟩
      | exact Qs (v := .tuple #[.agg #[.int .u8 111, S (cut l a D), Iq a], .bool (decide ((D : Int) - a <= 8))]) (by simp [results, results112, go_sem, gm, hc, hz, cY, cN, eY]) rfl ⟨NK l a D hkw HW.out (by omega), vm hbb _ _ _⟩
theorem LZ (l:LB) (a) (z:a<l.length) (D: ¬a<dm jk l a) (E: ¬a<dm jn l a):fk l a=
 if l[a].toNat=60 then(if(l.getD (a+1) 0).toNat=61 then some ⟨115,[60,61],a⟩ else some ⟨115,[60],a⟩)
 else if l[a].toNat=40\/l[a].toNat=41\/l[a].toNat=59\/l[a].toNat=43\/l[a].toNat=45\/l[a].toNat=61 then some ⟨115,[l[a]],a⟩
 else none:=by
 unfold fk;rw[Qj D,Qj E,Ql z]
theorem PH {c:UInt8} {k:Nat} (h:(c.toNat==(k:Int))=true):c.toNat=k:=by simp at h;omega
theorem Ni {c:UInt8} {k:Nat} (h:(c.toNat==(k:Int))=false): ¬c.toNat=k:=by simp at h;omega
theorem L0 (l:LB) (a) (z:a<l.length):cut l a (a+1)=[l[a]]:=by
 unfold cut;rw[QF z,show a+1 - a=1 from by omega];rfl
def vn (l:List UInt8) (a) (I:a<l.length):Prop:=fk l a=
 if l[a].toNat=60 then(if(l.getD (a+1) 0).toNat=61 then some ⟨115,[60,61],a⟩ else some ⟨115,[60],a⟩)
 else if l[a].toNat=40\/l[a].toNat=41\/l[a].toNat=59\/l[a].toNat=43\/l[a].toNat=45\/l[a].toNat=61 then some ⟨115,[l[a]],a⟩
 else none
theorem sU (l:LB) (a) (z:a<l.length) (k:Nat) (D:vn l a z) (E:k=40\/k=41\/k=59\/k=43\/k=45\/k=61) (h:((l[a].toNat)==(k:Int))=true):
 gI l a (.returned (.tuple #[.agg #[.int .u8 115,S [l[a]],Iq a],.bool true])):=by
 have e:=PH h;refine rK l a ⟨115,[l[a]],a⟩ ?_;rw[D,Qj (by omega),Qo (by omega)]
theorem O8 (l:LB) (a) (z:a<l.length) (D:vn l a z) (h:((l[a].toNat:Int)==(60:Nat))=true) (E:a+1<l.length) (G:((l[a+1].toNat:Int)==(61:Nat))=true):
 gI l a (.returned (.tuple #[.agg #[.int .u8 115,S [60,61],Iq a],.bool true])):=by
 refine rK l a ⟨115,[60,61],a⟩ ?_;rw[D,Qo (PH h),Qo (by rw[Qi,Ql E];exact PH G)]
theorem Nj (l:LB) (a) (D:a<l.length) (E:vn l a D) (h:((l[a].toNat:Int)==(60:Nat))=true) (z:l.length<=a+1\/ ∃z,((l[a+1].toNat:Int)==(61:Nat))=false):
 gI l a (.returned (.tuple #[.agg #[.int .u8 115,S [60],Iq a],.bool true])):=by
 refine rK l a ⟨115,[60],a⟩ ?_;rw[E,Qo (PH h)];rcases z with z|⟨z,G⟩
 ·rw[Qj (by rw[Qi,QC z];decide)]
 rw[Qj (by rw[Qi,Ql z];exact Ni G)]
theorem O9 (l:LB) (a) (R:a<l.length) (U:vn l a R) (z:((l[a].toNat:Int)==(60:Nat))=false) (D:((l[a].toNat:Int)==(40:Nat))=false) (E:((l[a].toNat:Int)==(41:Nat))=false)
 (G:((l[a].toNat:Int)==(59:Nat))=false) (I:((l[a].toNat:Int)==(43:Nat))=false) (J:((l[a].toNat:Int)==(45:Nat))=false) (O:((l[a].toNat:Int)==(61:Nat))=false):
 gI l a (.returned (.tuple #[.agg #[.int .u8 0,S [],Iq 0],.bool false])):=by
 refine EW l a 0 [] 0 ?_;have:=Ni z;have:=Ni D;have:=Ni E;have:=Ni G;have:=Ni I;have:=Ni J;have:=Ni O;rw[U,Qj (by omega),Qj (by omega)]
set_option maxHeartbeats 1000000 in
theorem FO (l : List UInt8) (a : Nat) (w : World) (hl : l.length <= 1000) (ha : a < l.length) (hd : ¬ a < dm jk l a) (hL : ¬ a < dm jn l a) :
    Calls prog 112 #[S l, Iq a] w λe w' => gI l a e /\ Below w.heap.size w w' := by
  have hwa : Hid (vn l a ha) := LZ l a ha hd hL;have hnd : (((ByteArray.mk l.toArray)[a]'ha).toNat : Int) < 48 \/ 57 < (((ByteArray.mk l.toArray)[a]'ha).toNat : Int) := O6 (AL ha hd);have hnl : (((ByteArray.mk l.toArray)[a]'ha).toNat : Int) < 97 \/ 122 < (((ByteArray.mk l.toArray)[a]'ha).toNat : Int) := O7 (AL ha hL);clear hd hL;go_enter func112, ntmps112;go_wp2
  go_loop [6] (λi => i = Iq a) (λ_ => 0)
  case atStart => exact rfl
  case round =>
    subst hrel;rcases hnd with hnd | hnd
    all_goals
      go_wp2
      go_loop [6] (λi => i = Iq a) (λ_ => 0)
      case atStart => exact rfl
    all_goals
      subst hrel;rcases hnl with hnl | hnl
    all_goals try (exfalso; omega)
    all_goals go_wp2_with fail
    all_goals first
      | (refine Qs (v := .tuple #[.agg #[.int .u8 115, S [l[a]], Iq a], .bool true]) (by simp [results, results112, go_sem, gm, L0 l a ha]) rfl ⟨?_, (Qq _ _).alloc (Qn _) _⟩; first | exact sU l a ha 40 hwa.out (by decide) ‹_› | exact sU l a ha 41 hwa.out (by decide) ‹_› | exact sU l a ha 59 hwa.out (by decide) ‹_› | exact sU l a ha 43 hwa.out (by decide) ‹_› | exact sU l a ha 45 hwa.out (by decide) ‹_› | exact sU l a ha 61 hwa.out (by decide) ‹_›)
      | exact Qs (v := .tuple #[.agg #[.int .u8 115, S [60, 61], Iq a], .bool true]) (by simp [results, results112, go_sem]) rfl ⟨O8 l a ha hwa.out ‹_› (by omega) ‹_›, (Qq _ _).alloc (Qn _) _⟩
      | exact Qs (v := .tuple #[.agg #[.int .u8 115, S [60], Iq a], .bool true]) (by simp [results, results112, go_sem]) rfl ⟨Nj l a ha hwa.out ‹_› (.inl (by omega)), (Qq _ _).alloc (Qn _) _⟩
      | exact Qs (v := .tuple #[.agg #[.int .u8 115, S [60], Iq a], .bool true]) (by simp [results, results112, go_sem]) rfl ⟨Nj l a ha hwa.out ‹_› (.inr ⟨by omega, ‹_›⟩), (Qq _ _).alloc (Qn _) _⟩
      | exact Qs (v := .tuple #[.agg #[.int .u8 0, S [], Iq 0], .bool false]) (by simp [results, results112, go_sem]) rfl ⟨O9 l a ha hwa.out ‹_› ‹_› ‹_› ‹_› ‹_› ‹_› ‹_›, (Qq _ _).alloc (Qn _) _⟩
theorem AM (l) (a:Nat) (w:World) (q:l.length<=1000) (z:a<l.length):
 Calls prog 112 #[S l,Iq a] w λe w'=>gI l a e/\Below w.heap.size w w':=by
 by_cases A:a<dm jk l a
 ·exact Jl l a w q z A
 ·by_cases D:a<dm jn l a
  ·exact FN l a w q z A D
  ·exact FO l a w q z A D
end Go.Proofs.YtfkdailfcmnjlaaGreatDoor
