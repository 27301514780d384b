/-
  A part.
-/
import Derived.Test.YtfkdailfcmnjlaaGreatDoorAll37
import Derived.Test.YtfkdailfcmnjlaaGreatDoorAll38
import Derived.Test.YtfkdailfcmnjlaaGreatDoorAll40
set_option linter.all false
set_option maxHeartbeats 40000000
set_option maxRecDepth 1000000
namespace Go.Proofs.YtfkdailfcmnjlaaGreatDoor
open Go Go.RowKit Tryz
attribute [local go_sem ↓] Go.wp_at_zero Go.wp_at_succ
variable {c w W q z A cs H cv rv o I J C D E e s lv X a}
theorem I3 (J:dn c) {n:Nat} (hn:0<n) (X:n<=9223372036854775807) (w):Calls prog 54 #[Iq c,Iq n] w λe w'=>(∃k,k<n/\e= .returned (Iq k))/\w'=w:=by
 unfold dn at J;obtain⟨h1,h2⟩:=J;have Y: ¬(n:Int)=0:=by omega
 have z:∀x:Int,0<=x-> ∃R:Nat,R<n/\x.tmod (n:Int)=(R:Int)/\IntKind.i64.wrap (R:Int)=(R:Int):=λx U=>by
  have e:=Tk (b:=n) U;have a:=TG x (b:=(n:Int)) (by omega)
  have b:=Int.emod_lt_of_pos x (b:=n) (by omega)
  exact⟨(x %n).toNat,by omega,by rw[e];omega,by rw[Q0];omega⟩
 by_cases h0:c<0
 ·have aa:IntKind.i64.wrap (c+1)=c+1:=by rw[Q0];omega
  have ab:IntKind.i64.wrap (-(c+1))= -(c+1):=by rw[Q0];omega
  obtain⟨R,A,C,q⟩:=z (-(c+1)) (by omega)
  have D:Hid (R<n):=A;go_enter func54,ntmps54;go_wp2;go_ret;exact⟨⟨R,D.out,by first|rfl|simp[C,q]⟩,rfl⟩
 obtain⟨R,A,C,q⟩:=z c (by omega)
 have D:Hid (R<n):=A;go_enter func54,ntmps54;go_wp2;go_ret;exact⟨⟨R,D.out,by first|rfl|simp[C,q]⟩,rfl⟩
def kj (w W:World) (A n:Nat):Prop:= ∃C D cs,iU w W A C D cs/\n<=cs.length/\cs.length<=n+1
theorem iU.out (h:iU w W q z A cs):kj w W q cs.length:=⟨z,A,cs,h,Qn _,Nat.le_succ _⟩
abbrev LV (k n:Int) (s q z:List UInt8) (A C wh:Int) (lv:Value) (D:Int) (mv:Value) (E:Bool):Obj:= .cells #[.int .i64 k,.int .i64 n,S s,S q,S z,.int .i64 A,.int .i64 C,.int .i64 wh,lv,.int .i64 D,mv,.bool E] 79 (0,0)
theorem xx (h:iU w W H cv rv cs) (hW:Wd w) (hT:Tb w) (z:qR w o) (hk:o.kind=1\/o.kind=2\/o.kind=3):
 Calls prog 30 #[Pq H,.agg (yY o)] W λe w'=>e= .returned (.bool true)/\kj w w' H cs.length:=by
 have I:=λC q=>D4 o.s C (hW.below q) z.hs
 have J:=λC q=>D8 o.s C (hW.below q) (hT.below q) z.hs
 have O:=λC q=>Hl o.s o.e o.t C (hW.below q) z.hs (z.p1.below q) (z.p2.below q) z.l1 z.l2 z.wa (He o.e o.t z.nd z.wh z.df z.lv)
 have aa:o.lv.oneCell'=true:=by obtain⟨_,a,c,e,_⟩:=z.p1;rw[e];rfl
 have ab:o.mv.oneCell'=true:=by obtain⟨_,a,c,e,_⟩:=z.p2;rw[e];rfl
 have D:Hid (∀ob,iU w (W.alloc ob) H cv rv cs):=λob=>h.below ((Qq _ _).alloc (Qn _) _)
 unfold yY xN lh at*;obtain⟨k,n,s,⟨R,U,V,X,wh⟩,⟨ls,Y,ms,Z⟩,lv,mv⟩:=o;simp only[] at*;rcases hk with rfl|rfl|rfl
 ·go_enter func30,ntmps30;go_wp2_with fail;have A:=D.out (LV 1 n s R U V X wh lv Y mv Z);apply(I _ A.bel).mono;rintro en w1 ⟨rfl,q⟩;have E:=Hi (A.below q).out;go_wp2_with fail;go_ret;exact⟨rfl,E.out⟩
 ·go_enter func30,ntmps30;go_wp2_with fail;have A:=D.out (LV 2 n s R U V X wh lv Y mv Z);apply(J _ A.bel).mono;rintro en w1 ⟨rfl,q⟩;have E:=Hi (A.below q).out;go_wp2_with fail;go_ret;exact⟨rfl,E.out⟩
 go_enter func30,ntmps30;go_wp2_with fail;have A:=D.out (LV 3 n s R U V X wh lv Y mv Z);apply(O _ A.bel).mono;rintro en w1 ⟨rfl,q⟩;have E:=Hi (A.below q).out;go_wp2_with fail;go_ret;exact⟨rfl,E.out⟩
theorem Oz (h:iU w W q z A cs) (C:Ef w) (D:cs.length<=1000000000000) (Z:o.kind=4):
 Calls prog 30 #[Pq q,.agg (yY o)] W λe w'=>e= .returned (.bool true)/\kj w w' q cs.length:=by
 have E:=λW' (h:iU w W' q z A cs)=>tZ h (C.below C.pos h.bel) D o.s
 have H:Hid (∀I,iU w (W.alloc I) q z A cs):=λI=>h.below ((Qq _ _).alloc (Qn _) _)
 unfold yY at*;obtain⟨k,n,s,⟨sn,tg,wa,nd,wh⟩,⟨ls,df,ms,op⟩,lv,mv⟩:=o;simp only[] at*;subst Z;go_enter func30,ntmps30;go_wp2_with fail;have J:=H.out (LV 4 n s sn tg wa nd wh lv df mv op);apply(E _ J).mono;rintro en w1 ⟨rfl,O,R,U,V,X,Y,_⟩;have H1:Hid (kj w w1 q cs.length):=⟨O,R,U,V,X,Y⟩;go_wp2_with fail;go_ret;exact⟨rfl,H1.out⟩
theorem OA (h:iU w W z I J cs) (hW:Wd w) (O:Ef w) (hn:cs.length<=1000000000000) (R:qR w o) (hk:o.kind=5):
 Calls prog 30 #[Pq z,.agg (yY o)] W λe w'=>e= .returned (.bool true)/\kj w w' z cs.length:=by
 have W1:=λq hb=>As o.s o.n q (hW.below hb) R.hs
 have W2:=λq=>yo o.s q R.hs
 have D:=λq=>uW (cF o.s).1.1 (jf o.s) q
 have W4:=λq (h:iU w q z I J cs) (b:LB)=>tZ h (O.below O.pos h.bel) hn b
 have H0:Hid (∀ob,iU w (W.alloc ob) z I J cs):=λob=>h.below ((Qq _ _).alloc (Qn _) _)
 have hb:=jf o.s;generalize Ar o.s o.n=r at*;generalize (cF o.s).1.1=x at*;generalize (cF o.s).1.2=y at*;unfold yY at*;obtain⟨k,n,s,⟨U,V,X,Y,wh⟩,⟨ls,Z,ms,op⟩,lv,mv⟩:=o;simp only[] at*;subst hk;go_enter func30,ntmps30;go_wp2_with fail;have h1:=H0.out (LV 5 n s U V X Y wh lv Z mv op);have k0:W.heap.size<(W.alloc (LV 5 n s U V X Y wh lv Z mv op)).heap.size:=by simp
 have k1:=Qp W (LV 5 n s U V X Y wh lv Z mv op);apply(W1 _ h1.bel).mono;rintro E w1 ⟨rfl,A⟩;have C:=h1.below A;have k2:=(A.block _ k0).trans k1;have c2:=Qm w1 _ 2 _ _ _ k2;have H2:=Hi C;go_wp2_with fail;apply(W2 _).mono;rintro E w2 ⟨rfl,H⟩;have H3:=Hi (H2.out.below H);by_cases hx:x=0
 ·subst hx;go_wp2_with fail;apply(D _).mono;rintro E w3 ⟨rfl,rfl⟩;go_wp2_with fail;apply(W4 _ H3.out r).mono;rintro E w4 ⟨rfl,aa,ab,ac,C,l1,l2,_⟩;have H4:Hid (kj w w4 z cs.length):=⟨aa,ab,ac,C,l1,l2⟩;go_wp2_with fail;go_ret;exact⟨rfl,H4.out⟩
 have e1:(x==0)=false:=by
  have: ¬x=0:=by omega
  simpa using this
 have e2:(x !=0)=true:=by
  have: ¬x=0:=by omega
  simpa using this
 go_wp2_with fail;apply(D _).mono;rintro E w3 ⟨rfl,rfl⟩;go_wp2_with fail;go_ret;exact⟨rfl,H3.out.out⟩
theorem OB (h:iU w W q A C cs) (D: ¬(o.kind=1\/o.kind=2\/o.kind=3\/o.kind=4\/o.kind=5\/o.kind=6)):
 Calls prog 30 #[Pq q,.agg (yY o)] W λe w'=>e= .returned (.bool true)/\kj w w' q cs.length:=by
 have E:Hid (∀z,kj w (W.alloc z) q cs.length):=λz=>(h.below ((Qq _ _).alloc (Qn _) _)).out
 unfold yY at*;obtain⟨k,n,s,⟨H,I,J,O,wh⟩,⟨R,U,V,X⟩,lv,mv⟩:=o;simp only[not_or] at*;obtain⟨Y,Z,k3,k4,k5,k6⟩:=D;go_enter func30,ntmps30;go_wp2;go_ret;exact⟨rfl,E.out _⟩
theorem iU.judged (h:iU w W C D E cs) (H:c∈cs) {mv} (I:dc lv s.levels w) (J:dc mv s.members w) (O:s.levels.length<=5900000000000) (R:s.members.length<=5900000000000) (U:dn e.wants) (A:dL (dz e s)):
 Calls prog 31 #[Pq c.lp,Pq c.rp,xN e,lh lv mv s] W λV w'=>V= .returned (.bool true)/\Bl W w':=by
 have z:=h.ok c H;obtain⟨a,r,q,X,_⟩:=J6 z.ld A;exact EN e s W z.ld z.lpb z.code z.rpb X (I.below h.bel) (J.below h.bel) O R U A
theorem iU.rows (h:iU w W X H I cs) (A:0<cs.length):∃g c q C,H= Sq g cs.length c/\I= Sq q cs.length C/\g<W.heap.size/\q<W.heap.size/\
 ∀k,k<cs.length-> ∃x∈cs,Cq W g k (Pq x.lp)/\Cq W q k (Pq x.rp):=by
 obtain⟨g,c,rfl,_,_⟩:=World.ownsRow.form h.crow A;obtain⟨q,C,rfl,_,_⟩:=World.ownsRow.form h.rrow A;have z:∀k,k<cs.length-> ∃x∈cs,W.cell? ⟨g,k,none⟩=some (Pq x.lp)/\W.cell? ⟨q,k,none⟩=some (Pq x.rp):=λk D=>by
  refine⟨cs[k],QD D,?_,?_⟩
  ·have:=Rs h.crow k (by omega)
   rw[this];simp[jM,D]
  have:=Rs h.rrow k (by omega)
  rw[this];simp[jM,D]
 obtain⟨x,_,Y,Z⟩:=z 0 A;exact⟨g,c,q,C,rfl,rfl,Qk W _ Y,Qk W _ Z,z⟩
abbrev PN (q:World) (p z g c m:Nat) (n:Int) (W:World):Prop:=Below q.heap.size q W/\W.cell? ⟨p,1,none⟩=some (.int .i64 n)/\W.cell? ⟨z,0,none⟩=some (.slice (some ⟨g,0,none⟩) m c)
abbrev OR (q:World) (p z g c A D m C l r:Nat) (E H:List UInt8) (I J wh:Int) (lv:Value) (O:Int) (mv:Value) (R:Bool) (W:World):Prop:=Below q.heap.size q W/\W.cell? ⟨z,0,none⟩=some (.slice (some ⟨g,0,none⟩) m c)/\W.cell? ⟨z,1,none⟩=some (.slice (some ⟨A,0,none⟩) m D)/\W.cell? ⟨g,C,none⟩=some (.pointer (some ⟨l,0,none⟩))/\W.cell? ⟨A,C,none⟩=some (.pointer (some ⟨r,0,none⟩))/\W.cell? ⟨p,3,none⟩=some (S E)/\W.cell? ⟨p,4,none⟩=some (S H)/\W.cell? ⟨p,5,none⟩=some (.int .i64 I)/\W.cell? ⟨p,6,none⟩=some (.int .i64 J)/\W.cell? ⟨p,7,none⟩=some (.int .i64 wh)/\W.cell? ⟨p,8,none⟩=some lv/\W.cell? ⟨p,9,none⟩=some (.int .i64 O)/\W.cell? ⟨p,10,none⟩=some mv/\W.cell? ⟨p,11,none⟩=some (.bool R)
theorem OC (h:iU w W q cv rv cs) (h0:0<cs.length) (hn:cs.length<=1000000000000) (A:qR w o) (hk:o.kind=6):
 Calls prog 30 #[Pq q,.agg (yY o)] W λe w'=>e= .returned (.bool true)/\kj w w' q cs.length:=by
 have W1:=λD=>I3 A.n h0 (by omega) D
 have W2:=λD (c:lK) (hc:c∈cs) (h:iU w D q cv rv cs)=>h.judged hc A.p1 A.p2 A.l1 A.l2 A.wa (Cy o.e o.t A.nd A.wh A.df A.lv)
 have aj:o.lv.oneCell'=true:=by obtain⟨_,a,c,e,_⟩:=A.p1;rw[e];rfl
 have ak:o.mv.oneCell'=true:=by obtain⟨_,a,c,e,_⟩:=A.p2;rw[e];rfl
 have H0:Hid (∀ob,iU w (W.alloc ob) q cv rv cs):=λob=>h.below ((Qq _ _).alloc (Qn _) _)
 have aa:=be h.blk;have d0:Cq W q 0 cv:=Qm W _ 0 _ _ _ h.blk;have d1:Cq W q 1 rv:=Qm W _ 1 _ _ _ h.blk;obtain⟨g,c,U,Y,rfl,rfl,hg,ab,ac⟩:=h.rows h0;have HK:=Hi ac;have q1:q≠W.heap.size:=by omega
 have q2:W.heap.size≠q:=by omega
 unfold yY xN lh at*;obtain⟨k,n,s,⟨E,H,I,J,wh⟩,⟨ls,O,ms,R⟩,lv,mv⟩:=o;simp only[] at*;subst hk;go_enter func30,ntmps30;go_upto_region 16 with fail;go_name_world z ad;have V:=H0.out (LV 6 n s E H I J wh lv O mv R);have kb:=Qp W (LV 6 n s E H I J wh lv O mv R);have Z:Bl W (W.alloc (LV 6 n s E H I J wh lv O mv R)):=(Qq _ _).alloc (Qn _) _;rw[ad] at V kb Z;have b0:=(Z.cell aa).trans d0;have b1:=(Z.cell aa).trans d1;have ae:Hid (∀k,k<cs.length-> ∃x∈cs,Cq z g k (Pq x.lp)/\Cq z U k (Pq x.rp)):=λk hk=>by
  obtain⟨x,hx,e1,e2⟩:=HK.out k hk;exact⟨x,hx,(Z.cell hg).trans e1,(Z.cell ab).trans e2⟩
 have C:=λj=>Qm z W.heap.size j _ _ _ kb
 have c1:=C 1;have H1:=Hi (And.intro V kb);simp only[Qx,Qy,Qv] at c1;generalize W.heap.size=p at*;have ag:PN z p q g c cs.length n z:=⟨Qq _ _,c1,b0⟩;have KD:Hid (∀W,PN z p q g c cs.length n W->PN z p q g c cs.length n W.drew):=λW h=>⟨h.1.drew,h.2⟩
 go_region_held3 (PN z p q g c cs.length n) (first|exact KD.out _ (by assumption)|assumption|go_keep) ((go_at_call 54;refine(W1 _).mono ?_;rintro en w2 ⟨⟨X,ah,rfl⟩,rfl⟩))
 rename_i hHeld;obtain⟨x,hx,e1,e2⟩:=ae.out X ah;obtain⟨V,kb⟩:=H1.out;have W3:=λD hb=>W2 D x hx (V.below hb)
 have C:=λj=>Qm z p j _ _ _ kb
 have ai:OR z p q g c U Y cs.length X x.lp x.rp E H I J wh lv O mv R z.drew:=⟨(Qq _ _).drew,hHeld.2.2,b1,e1,e2,C 3,C 4,C 5,C 6,C 7,C 8,C 9,C 10,C 11⟩;have K7:Hid (∀W,OR z p q g c U Y cs.length X x.lp x.rp E H I J wh lv O mv R W->OR z p q g c U Y cs.length X x.lp x.rp E H I J wh lv O mv R W.drew):=λW h=>⟨h.1.drew,h.2⟩
 have KP:Hid (∀W D,OR z p q g c U Y cs.length X x.lp x.rp E H I J wh lv O mv R W->Bl W D->OR z p q g c U Y cs.length X x.lp x.rp E H I J wh lv O mv R D):=λW D hS hb=>by
  obtain⟨af,a0,a1,a2,a3,a4,a5,a6,a7,a8,a9,am,an,ao⟩:=hS;refine⟨af.trans (hb.mono af.size),?_,?_,?_,?_,?_,?_,?_,?_,?_,?_,?_,?_,?_⟩
  all_goals (rw[hb.cell (Qk W _ (by assumption))];assumption)
 have HA:=Hi V;go_upto_region 17 with fail;go_region_held3 (OR z p q g c U Y cs.length X x.lp x.rp E H I J wh lv O mv R) (first|exact K7.out _ (by assumption)|exact KP.out _ _ (by assumption) (by assumption)|assumption|go_keep) ((go_at_call 31;refine(W3 _ (by exact SL (by assumption))).mono ?_;rintro en w2 ⟨rfl,hO⟩))
 rename_i hHeld;have HO:=Hi (HA.out.below hHeld.1).out;go_wp2_with fail;go_ret;exact⟨rfl,HO.out⟩
theorem LH (h:iU w W z E H cs) (hW:Wd w) (A:Tb w) (D:Ef w) (I:0<cs.length) (C:cs.length<=1000000000000) (q:qR w o):
 Calls prog 30 #[Pq z,.agg (yY o)] W λe w'=>e= .returned (.bool true)/\kj w w' z cs.length:=by
 by_cases c:o.kind=1\/o.kind=2\/o.kind=3\/o.kind=4\/o.kind=5\/o.kind=6
 ·rcases c with c|c|c|c|c|c
  ·exact xx h hW A q (.inl c)
  ·exact xx h hW A q (.inr (.inl c))
  ·exact xx h hW A q (.inr (.inr c))
  ·exact Oz h D C c
  ·exact OA h hW D C q c
  exact OC h I C q c
 exact OB h c
def OD (w W:World) (D i:Nat):Prop:= ∃E H cs,iU w W D E H cs/\0<cs.length/\cs.length<=i+1
abbrev OS (q:World) (z g c A C m l r:Nat) (W:World):Prop:=Below q.heap.size q W/\W.cell? ⟨z,0,none⟩=some (.slice (some ⟨g,0,none⟩) m c)/\W.cell? ⟨z,1,none⟩=some (.slice (some ⟨A,0,none⟩) m C)/\W.cell? ⟨g,0,none⟩=some (.pointer (some ⟨l,0,none⟩))/\W.cell? ⟨A,0,none⟩=some (.pointer (some ⟨r,0,none⟩))
theorem ER:fD [71,1,0,2,1,15,0,2,17,7,18,0]≠none:=by decide
theorem Nd {len cap} (hW:Wd w) (hT:Tb w) (hE:Ef w) (hs:Lz w a len A) (hl:len<=1000000000000):
 Calls prog 10 #[.slice a len cap] w λe w'=>e= .returned (.bool true)/\Bl w w':=by
 have C:Bl w (w.alloc (.cells #[.slice none 0 0,.slice none 0 0] 76 (0,0))):=(Qq _ _).alloc (Qn _) _;have aa:iU w (w.alloc (.cells #[.slice none 0 0,.slice none 0 0] 76 (0,0))) w.heap.size (.slice none 0 0) (.slice none 0 0) []:=⟨Qp w _,⟨rfl,.inl ⟨rfl,rfl⟩⟩,⟨rfl,.inl ⟨rfl,rfl⟩⟩,λ_=>⟨rfl,rfl⟩,λc X=>(by cases X),C,Qn _⟩
 have W1:=tZ aa (hE.below hE.pos C) (by decide) [71,1,0,2,1,15,0,2,17,7,18,0]
 have W2:∀(W:World) (k:Nat) (D E:Value) (cs:List lK),k<len->iU w W w.heap.size D E cs->0<cs.length->cs.length<=k+1->Calls prog 30 #[Pq w.heap.size,.agg (yY (A k))] W λe w'=>e= .returned (.bool true)/\kj w w' w.heap.size cs.length:=λW k D E cs hk h H z=>LH h hW hT hE H (by omega) (hs.ok k hk)
 have Y:dn 0:=by unfold dn;decide
 have Z:=λ(W:World) (D E:Value) (cs:List lK) (c:lK) (X:c∈cs) (h:iU w W w.heap.size D E cs)=>h.judged X (e:=⟨[],[],0,0,0⟩) (s:=⟨[],0,[],false⟩) (lv:= .slice none 0 0) (mv:= .slice none 0 0) ⟨by decide,none,0,rfl,λi hi=>by simp at hi⟩ ⟨by decide,none,0,rfl,λi hi=>by simp at hi⟩ (by decide) (by decide) Y (Cy _ _ Y Y Y (by simp))
 have HS:Hid (Lz w a len A):=hs;have HF:=Hi ER;unfold xN lh S at Z;unfold S at W1;simp only[] at Z;go_enter func10,ntmps10;go_wp2_with fail;apply W1.mono;rintro en w1 ⟨rfl,D,E,cs,z,l1,l2,H⟩;have HL:Hid (OD w w1 w.heap.size 0):=⟨D,E,cs,z,H HF.out,by simpa using l2⟩
 go_wp2_with fail;go_loopw [4,5] (λov iv wr=> ∃k:Nat,k<=len/\iv= Iq k/\ov= .bool true/\Hid (OD w wr w.heap.size k)) (λ_ iv _=>len - (intOf iv).toNat)
 case atStart=>exact⟨0,by omega,rfl,rfl,HL.out⟩
 case round=>
  obtain⟨k,hk,rfl,rfl,HI⟩:=hrel;obtain⟨D,E,cs,z,H,X⟩:=HI.out;by_cases O:k<len
  ·obtain⟨b,o,rfl,R⟩:=HS.out.at_ k O;have U:=W2 wr k D E cs O z H X;have q:∀{j:Nat} {v:Value},j<12->(yY (A k))[j]?=some v->Cq wr b (o+k*12+j) v:=λ{j v} hj e=>by
    have h2:=(R j hj).trans e;exact(z.bel.cell (Qk w _ h2)).trans h2
   have c0:=q (j:=0) (by decide) rfl
   have c1:=q (j:=1) (by decide) rfl
   have c2:=q (j:=2) (by decide) rfl
   have c3:=q (j:=3) (by decide) rfl
   have c4:=q (j:=4) (by decide) rfl
   have c5:=q (j:=5) (by decide) rfl
   have c6:=q (j:=6) (by decide) rfl
   have c7:=q (j:=7) (by decide) rfl
   have c8:=q (j:=8) (by decide) rfl
   have c9:=q (j:=9) (by decide) rfl
   have c10:=q (j:=10) (by decide) rfl
   have c11:=q (j:=11) (by decide) rfl
   rw[S2] at c0;have ai:(k:Int)<(len:Int):=by omega
   have b0:(0:Int)<=(k:Int):=by omega
   unfold yY at U;go_wp2_with fail;apply U.mono;rintro en w2 ⟨rfl,ab,ac,ad,h2,l1,l2⟩;have H2:Hid (OD w w2 w.heap.size (k+1)):=⟨ab,ac,ad,h2,by omega,by omega⟩
   go_wp2_with fail;go_roundw
   case rel=>first|exact⟨k+1,by omega,by simp,by simp,H2.out⟩|((repeat apply Exists.intro);exact⟨⟨k+1,by omega,by simp,by simp,H2.out⟩,rfl⟩)
   case measure=>simp[intOf];omega
  obtain rfl:k=len:=by omega
  obtain⟨g,c,I,J,rfl,rfl,hg,ae,q⟩:=z.rows H;obtain⟨x,hx,e1,e2⟩:=q 0 H;have U:=λV (hb:Bl wr V)=>Z V _ _ cs x hx (z.below hb)
  have d0:Cq wr w.heap.size 0 (Sq g cs.length c):=Qm wr _ 0 _ _ _ z.blk;have d1:Cq wr w.heap.size 1 (Sq I cs.length J):=Qm wr _ 1 _ _ _ z.blk;have af:OS wr w.heap.size g c I J cs.length x.lp x.rp wr:=⟨Qq _ _,d0,d1,e1,e2⟩;have KD:Hid (∀W,OS wr w.heap.size g c I J cs.length x.lp x.rp W->OS wr w.heap.size g c I J cs.length x.lp x.rp W.drew):=λW h=>⟨h.1.drew,h.2⟩
  have KP:Hid (∀W V,OS wr w.heap.size g c I J cs.length x.lp x.rp W->Bl W V->OS wr w.heap.size g c I J cs.length x.lp x.rp V):=λW V hS hb=>by
   obtain⟨C,a0,a1,a2,a3⟩:=hS;refine⟨C.trans (hb.mono C.size),?_,?_,?_,?_⟩
   all_goals (rw[hb.cell (Qk W _ (by assumption))];assumption)
  have HB:=Hi z.bel;go_upto_region 7 with fail;go_region_held3 (OS wr w.heap.size g c I J cs.length x.lp x.rp) (first|exact KD.out _ (by assumption)|exact KP.out _ _ (by assumption) (by assumption)|assumption|go_keep) ((go_at_call 31;refine(U _ (by exact SL (by assumption))).mono ?_;rintro en w2 ⟨rfl,hO⟩))
  rename_i hHeld;have HO:=Hi (HB.out.trans (hHeld.1.mono HB.out.size));go_wp2_with fail;go_ret;exact⟨rfl,HO.out⟩
end Go.Proofs.YtfkdailfcmnjlaaGreatDoor
