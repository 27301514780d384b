/-
  A part.
-/
import Derived.Test.YtfkdailfcmnjlaaGreatDoorMeant21a
import Derived.Shelf.Abstract
set_option linter.unusedVariables false
set_option linter.unusedSimpArgs false
set_option maxHeartbeats 40000000
set_option maxRecDepth 1000000
set_option maxHeartbeats 40000000
set_option maxRecDepth 1000000
namespace Go.Proofs.YtfkdailfcmnjlaaGreatDoor
open Go Go.RowKit Tryz
attribute [local go_sem ↓] Go.wp_at_zero Go.wp_at_succ
variable {z G E l:List (List UInt8×Int)} {w W J U:World} {p n k e size:Nat} {vc O D R Z v:Value} {s2:MS} {b:List UInt8} {V I Y o:Obj} {x:Int}
variable {c:jV}
theorem l5 (a:Mk) (x:List UInt8) (b:Mk) (t:Int) (ha:a.text.length≤1000∧a.bare.length≤1000∧a.deep≤100) (hb:b.text.length≤1000∧b.bare.length≤1000∧b.deep≤100) (hx:x.length≤10) (w:World):Calls prog 73 #[pB a,S x,pB b,Iq t] w fun e w'=>e= .returned (pB (fO a x b t))∧Below w.heap.size w w':=by
 have W1:=fun w=>xx a.deep b.deep 0 (by omega) (by omega) (by omega) w
 have HD:Hid (max (max a.deep b.deep) 0+1=(fO a x b t).deep):=by show _=max a.deep b.deep+1;omega
 rw[HD.out] at W1;have HT:Hid ((fO a x b t).text=[40]++a.text++[32]++x++[32]++b.text++[41]):=rfl;have ad:Hid ((fO a x b t).bare=[40]++a.bare++[41]++x++[40]++b.bare++[41]):=rfl;have HV:Hid ((fO a x b t).told=t):=rfl;generalize fO a x b t=r at*;obtain⟨at_,D,av,I⟩:=a;obtain⟨E,G,bv,J⟩:=b;simp only[] at*;clear HD;unfold pB;simp only[];obtain⟨z,O⟩:∃z,((w.alloc (.cells #[S at_,S D,Iq av,Iq (I:Nat)] 104)).alloc (.cells #[S E,S G,Iq bv,Iq (J:Nat)] 104)).alloc (.cells #[.string ⟨#[]⟩,.string ⟨#[]⟩,Iq 0,Iq 0] 104)=z:=⟨_,rfl⟩;have aa:Below w.heap.size w z:=by rw[←O];exact(((ZA _ _).alloc (Zw _) _).alloc (by simp) _).alloc (by simp;omega) _
 have ab:z.heap[w.heap.size]?=some (.cells #[S at_,S D,Iq av,Iq (I:Nat)] 104 (0,0)):=by rw[←O];exact(ZE _ _ _ (by simp;omega)).trans ((ZE _ _ _ (by simp)).trans (Zy w _))
 have ac:z.heap[w.heap.size+1]?=some (.cells #[S E,S G,Iq bv,Iq (J:Nat)] 104 (0,0)):=by
  rw[←O];refine(ZE _ _ _ (by simp)).trans ?_
  have:=Zy (w.alloc (.cells #[S at_,S D,Iq av,Iq (I:Nat)] 104)) (.cells #[S E,S G,Iq bv,Iq (J:Nat)] 104);rw[ZB] at this;exact this
 have Z:z.heap[w.heap.size+1+1]?=some (.cells #[.string ⟨#[]⟩,.string ⟨#[]⟩,Iq 0,Iq 0] 104 (0,0)):=by
  rw[←O];have:=Zy ((w.alloc (.cells #[S at_,S D,Iq av,Iq (I:Nat)] 104)).alloc (.cells #[S E,S G,Iq bv,Iq (J:Nat)] 104)) (.cells #[.string ⟨#[]⟩,.string ⟨#[]⟩,Iq 0,Iq 0] 104);rw[ZB,ZB] at this;exact this
 have q0:=fun j=>Zz z _ j _ _ _ ab
 have q1:=fun j=>Zz z _ j _ _ _ ac
 have q2:=fun j=>Zz z _ j _ _ _ Z
 have qf:∀o,z.frozen? ⟨w.heap.size+1+1,o,none⟩=false:=fun o=>by simp[World.frozen?,Z]
 have ah:Below (w.heap.size+1+1) z z∧Cq z w.heap.size 0 (S at_)∧Cq z w.heap.size 1 (S D)∧Cq z w.heap.size 3 (Iq (I:Nat))∧Cq z (w.heap.size+1) 0 (S E)∧Cq z (w.heap.size+1) 1 (S G)∧Cq z (w.heap.size+1) 3 (Iq (J:Nat)):=⟨ZA _ _,q0 0,q0 1,q0 3,q1 0,q1 1,q1 3⟩;have r0:=q2 0;have g0:=qf 0;have r1:=q2 1;have g1:=qf 1;have r2:=q2 2;have g2:=qf 2;have r3:=q2 3;have g3:=qf 3;have KD:Hid (∀W:World,(Below (w.heap.size+1+1) z W∧Cq W w.heap.size 0 (S at_)∧Cq W w.heap.size 1 (S D)∧Cq W w.heap.size 3 (Iq (I:Nat))∧Cq W (w.heap.size+1) 0 (S E)∧Cq W (w.heap.size+1) 1 (S G)∧Cq W (w.heap.size+1) 3 (Iq (J:Nat)))→(Below (w.heap.size+1+1) z W.drew∧Cq W.drew w.heap.size 0 (S at_)∧Cq W.drew w.heap.size 1 (S D)∧Cq W.drew w.heap.size 3 (Iq (I:Nat))∧Cq W.drew (w.heap.size+1) 0 (S E)∧Cq W.drew (w.heap.size+1) 1 (S G)∧Cq W.drew (w.heap.size+1) 3 (Iq (J:Nat)))):=fun W hS=>by
  obtain⟨ae,s1⟩:=hS;exact⟨ae.drew,s1⟩
 have KS:Hid (∀(W:World) (R U V Y:Value),(Below (w.heap.size+1+1) z W∧Cq W w.heap.size 0 (S at_)∧Cq W w.heap.size 1 (S D)∧Cq W w.heap.size 3 (Iq (I:Nat))∧Cq W (w.heap.size+1) 0 (S E)∧Cq W (w.heap.size+1) 1 (S G)∧Cq W (w.heap.size+1) 3 (Iq (J:Nat)))→(Below (w.heap.size+1+1) z ((((W.setCell ⟨w.heap.size+1+1,0,none⟩ R).setCell ⟨w.heap.size+1+1,1,none⟩ U).setCell ⟨w.heap.size+1+1,2,none⟩ V).setCell ⟨w.heap.size+1+1,3,none⟩ Y)∧((((W.setCell ⟨w.heap.size+1+1,0,none⟩ R).setCell ⟨w.heap.size+1+1,1,none⟩ U).setCell ⟨w.heap.size+1+1,2,none⟩ V).setCell ⟨w.heap.size+1+1,3,none⟩ Y).cell? ⟨w.heap.size,0,none⟩=some (S at_)∧((((W.setCell ⟨w.heap.size+1+1,0,none⟩ R).setCell ⟨w.heap.size+1+1,1,none⟩ U).setCell ⟨w.heap.size+1+1,2,none⟩ V).setCell ⟨w.heap.size+1+1,3,none⟩ Y).cell? ⟨w.heap.size,1,none⟩=some (S D)∧((((W.setCell ⟨w.heap.size+1+1,0,none⟩ R).setCell ⟨w.heap.size+1+1,1,none⟩ U).setCell ⟨w.heap.size+1+1,2,none⟩ V).setCell ⟨w.heap.size+1+1,3,none⟩ Y).cell? ⟨w.heap.size,3,none⟩=some (Iq (I:Nat))∧((((W.setCell ⟨w.heap.size+1+1,0,none⟩ R).setCell ⟨w.heap.size+1+1,1,none⟩ U).setCell ⟨w.heap.size+1+1,2,none⟩ V).setCell ⟨w.heap.size+1+1,3,none⟩ Y).cell? ⟨w.heap.size+1,0,none⟩=some (S E)∧((((W.setCell ⟨w.heap.size+1+1,0,none⟩ R).setCell ⟨w.heap.size+1+1,1,none⟩ U).setCell ⟨w.heap.size+1+1,2,none⟩ V).setCell ⟨w.heap.size+1+1,3,none⟩ Y).cell? ⟨w.heap.size+1,1,none⟩=some (S G)∧((((W.setCell ⟨w.heap.size+1+1,0,none⟩ R).setCell ⟨w.heap.size+1+1,1,none⟩ U).setCell ⟨w.heap.size+1+1,2,none⟩ V).setCell ⟨w.heap.size+1+1,3,none⟩ Y).cell? ⟨w.heap.size+1,3,none⟩=some (Iq (J:Nat)))):=fun W R U V Y hS=>by
  obtain⟨s0,s1,s2,s3,s4,s5,s6⟩:=hS;refine⟨(((s0.setCell (by simp) _).setCell (by simp) _).setCell (by simp) _).setCell (by simp) _,?_,?_,?_,?_,?_,?_⟩<;>
   (rw[World.cell?_setCell_far _ _ _ _ (by simp only[];omega),World.cell?_setCell_far _ _ _ _ (by simp only[];omega),World.cell?_setCell_far _ _ _ _ (by simp only[];omega),World.cell?_setCell_far _ _ _ _ (by simp only[];omega)];assumption)
 have HW:=Hi O;have af:=Hi aa;clear O aa ab ac Z q0 q1 q2 qf;have ai: ¬9223372036854775807<1+at_.length:=by omega
 have aj: ¬9223372036854775807<1+at_.length+1:=by omega
 have ak: ¬9223372036854775807<1+at_.length+1+x.length:=by omega
 have am: ¬9223372036854775807<1+at_.length+1+x.length+1:=by omega
 have an: ¬9223372036854775807<1+at_.length+1+x.length+1+E.length:=by omega
 have ao: ¬9223372036854775807<1+at_.length+1+x.length+1+E.length+1:=by omega
 have ap: ¬9223372036854775807<1+D.length:=by omega
 have aq: ¬9223372036854775807<1+D.length+1:=by omega
 have ar: ¬9223372036854775807<1+D.length+1+x.length:=by omega
 have au: ¬9223372036854775807<1+D.length+1+x.length+1:=by omega
 have aw: ¬9223372036854775807<1+D.length+1+x.length+1+G.length:=by omega
 have ax: ¬9223372036854775807<1+D.length+1+x.length+1+G.length+1:=by omega
 go_enter func73,ntmps73;go_wp2;rw[HW.out]
 go_region_held3 (fun W=>Below (w.heap.size+1+1) z W∧Cq W w.heap.size 0 (S at_)∧Cq W w.heap.size 1 (S D)∧Cq W w.heap.size 3 (Iq (I:Nat))∧Cq W (w.heap.size+1) 0 (S E)∧Cq W (w.heap.size+1) 1 (S G)∧Cq W (w.heap.size+1) 3 (Iq (J:Nat))) (first|with_reducible assumption|with_reducible exact KD.out _ (by assumption)|with_reducible exact KS.out _ _ _ _ _ (by assumption)|with_reducible exact KD.out _ (KS.out _ _ _ _ _ (by assumption))|go_keep)
  (first
   |(go_at_call 124;refine(W1 _).mono ?_;rintro e w1 ⟨rfl,rfl⟩))
 rename_i hHeld
 have ag:=Hi hHeld.1;clear hHeld
 go_wp2
 refine ZH (v:= .agg #[.string ((⟨#[40]⟩:ByteArray)++(⟨at_.toArray⟩:ByteArray)++(⟨#[32]⟩:ByteArray)++(⟨x.toArray⟩:ByteArray)++(⟨#[32]⟩:ByteArray)++(⟨E.toArray⟩:ByteArray)++(⟨#[41]⟩:ByteArray)),.string ((⟨#[40]⟩:ByteArray)++(⟨D.toArray⟩:ByteArray)++(⟨#[41]⟩:ByteArray)++(⟨x.toArray⟩:ByteArray)++(⟨#[40]⟩:ByteArray)++(⟨G.toArray⟩:ByteArray)++(⟨#[41]⟩:ByteArray)),Iq t,Iq (r.deep:Nat)]) (by simp[results,results73,go_sem,fg,dU,lR,r0,r1,r2,r3]) rfl ?_
 have eX:((⟨#[40]⟩:ByteArray)++(⟨at_.toArray⟩:ByteArray)++(⟨#[32]⟩:ByteArray)++(⟨x.toArray⟩:ByteArray)++(⟨#[32]⟩:ByteArray)++(⟨E.toArray⟩:ByteArray)++(⟨#[41]⟩:ByteArray))=⟨([40]++at_++[32]++x++[32]++E++[41]:List UInt8).toArray⟩:=aae (by simp)
 have eY:((⟨#[40]⟩:ByteArray)++(⟨D.toArray⟩:ByteArray)++(⟨#[41]⟩:ByteArray)++(⟨x.toArray⟩:ByteArray)++(⟨#[40]⟩:ByteArray)++(⟨G.toArray⟩:ByteArray)++(⟨#[41]⟩:ByteArray))=⟨([40]++D++[41]++x++[40]++G++[41]:List UInt8).toArray⟩:=aae (by simp)
 refine⟨by rw[eX,eY,HT.out,ad.out,HV.out],af.out.trans (ag.out.mono (by omega))⟩
variable {j b p gg:Nat} {w w' I z:World} {v:Nat→Value} {l:Nat→List Mk} {E G:Obj} {m:Mk} {n:Int}
theorem Mi (hn:dG n) (hT:TI b w p v l) (hb:b≤w.heap.size) (hl:(l 0).length≤1000):
 Calls prog 37 #[Pq p,.agg (je c),Iq 0,Iq n] w fun e w'=>e= .returned (.tuple #[])∧ ∃(k:Nat) (Z:Nat→Value),k≤9223372036854775807∧TI b w' p Z (EP l 0 (l 0++[⟨fT k,48::fT k,k,1⟩]))∧Below b w w':=by
 have W1:=fun w=>lH hn (n:=1099511627776) (by decide) (by decide) w
 have W2:=fun w=>lH hn (n:=7) (by decide) (by decide) w
 have p1:=kX n (n:=1099511627776) (by decide)
 have p2:=kX n (n:=7) (by decide)
 have ae:(10:Nat)^20=100000000000000000000:=by decide
 have WD:∀(k:Nat) (w:World),k≤9223372036854775807→Calls prog 70 #[Iq k] w fun e w'=>e= .returned (S (fT k))∧Below w.heap.size w w':=fun k w hk=>Ec 20 k w (by omega) hk (by decide) (by decide)
 generalize kW n 1099511627776=I at*;generalize kW n 7=k2 at*;unfold je
 by_cases h6:k2=6
 ·have W3:∀w:World,Calls prog 70 #[Iq 9223372036854775807] w fun e w'=>e= .returned (S (fT 9223372036854775807))∧Below w.heap.size w w':=fun w=>WD 9223372036854775807 w (Zw _)
  subst h6;go_enter func37,ntmps37
  go_wp2_with (first
   |(go_at_call_of 36 (Value.int IntKind.i64 7);refine(W2 _).mono ?_;rintro e w' ⟨rfl,rfl⟩)
   |(go_at_call 36;refine(W1 _).mono ?_;rintro e w' ⟨rfl,rfl⟩))
  apply(W3 _).mono;rintro e J ⟨rfl,O⟩;have G:Below w.heap.size w J:=((ZA _ _).alloc (Zw _) _).trans (O.mono (by simp))
  have hs:(fT 9223372036854775807).length≤20:=qw 20 _;have ah:b≤J.heap.size:=by have:=G.size;omega
  obtain⟨va,vc,V⟩:=hT.ready hb G (j:=0) (by decide)
  have t0:=V.cell;have Y:=Hi V;generalize R:fT 9223372036854775807=D at*;have aa:=Hi R;obtain⟨i0,hi,hz⟩:=ZP.1 iJ;simp only[ZT] at hz;obtain⟨ab,ac,ad⟩:=hz;have ai: ¬9223372036854775807<1+D.length:=by omega
  have eS:(⟨#[48]⟩:ByteArray)++⟨D.toArray⟩=⟨(48::D).toArray⟩:=aae (by simp)
  go_wp2_with (at_builtin;go_must (refine wpList_append_lies _ (by rfl) _ _ 98 (by rfl) b 104 i0 _ 4 48 underlying98 hi ab ac ad (by rfl) (by decide) _ _ _ (by rfl) (aac Y.out.row _) ⟨J.heap.size,0,none⟩ 1 1 [S D,S (48::D),Iq 9223372036854775807,Iq 1] (by rfl) (by rfl) (World.news_of_block (Zy J _)) (fun x hx=>by simp at hx;rcases hx with rfl|rfl|rfl|rfl<;>rfl) (by decide) (by unfold maxLen;omega) (by omega) (by simp;omega) _ rfl ?_);intro gg af w5 E z U ag;obtain⟨y0,aj⟩:=Y.out.far _ _ z;have HN:Hid _:=Y.out.put _ ⟨D,48::D,9223372036854775807,1⟩ _ _ _ z U E;clear E z U)
  go_end0
  obtain⟨⟨Z,h1⟩,h2⟩:=HN.out;refine⟨rfl,9223372036854775807,Z,by omega,?_,h2⟩
  rw[aa.out];exact h1
 ·have W3:∀w:World,Calls prog 70 #[Iq I] w fun e w'=>e= .returned (S (fT I))∧Below w.heap.size w w':=fun w=>WD I w (by omega)
  have ak:((k2:Int)==6)=false:=by simp;omega
  have am:IntKind.i64.wrap (I:Int)=(I:Int):=by rw[ZY];omega
  go_enter func37,ntmps37
  go_wp2_with (first
   |(go_at_call_of 36 (Value.int IntKind.i64 7);refine(W2 _).mono ?_;rintro e w' ⟨rfl,rfl⟩)
   |(go_at_call 36;refine(W1 _).mono ?_;rintro e w' ⟨rfl,rfl⟩))
  apply(W3 _).mono;rintro e J ⟨rfl,O⟩;have G:Below w.heap.size w J:=((ZA _ _).alloc (Zw _) _).trans (O.mono (by simp))
  have hs:(fT I).length≤20:=qw 20 _;have ah:b≤J.heap.size:=by have:=G.size;omega
  obtain⟨va,vc,V⟩:=hT.ready hb G (j:=0) (by decide)
  have t0:=V.cell;have Y:=Hi V;generalize R:fT I=D at*;have aa:=Hi R;obtain⟨i0,hi,hz⟩:=ZP.1 iJ;simp only[ZT] at hz;obtain⟨ab,ac,ad⟩:=hz;have ai: ¬9223372036854775807<1+D.length:=by omega
  have eS:(⟨#[48]⟩:ByteArray)++⟨D.toArray⟩=⟨(48::D).toArray⟩:=aae (by simp)
  go_wp2_with (at_builtin;go_must (refine wpList_append_lies _ (by rfl) _ _ 98 (by rfl) b 104 i0 _ 4 48 underlying98 hi ab ac ad (by rfl) (by decide) _ _ _ (by rfl) (aac Y.out.row _) ⟨J.heap.size,0,none⟩ 1 1 [S D,S (48::D),Iq (I:Nat),Iq 1] (by rfl) (by rfl) (World.news_of_block (Zy J _)) (fun x hx=>by simp at hx;rcases hx with rfl|rfl|rfl|rfl<;>rfl) (by decide) (by unfold maxLen;omega) (by omega) (by simp;omega) _ rfl ?_);intro gg af w5 E z U ag;obtain⟨y0,aj⟩:=Y.out.far _ _ z;have HN:Hid _:=Y.out.put _ ⟨D,48::D,(I:Nat),1⟩ _ _ _ z U E;clear E z U)
  go_end0
  obtain⟨⟨Z,h1⟩,h2⟩:=HN.out;refine⟨rfl,I,Z,by omega,?_,h2⟩
  rw[aa.out];exact h1
variable {b p k j gz:Nat} {w W w0 w':World} {v:Nat→Value} {l:Nat→List Mk} {c:jV} {n x:Int} {m o A0 B0 a r:Mk} {V:Value} {z D:UInt8}
variable {b_ c_ e_ f_ g_ h_ i_ k_ l_ m_ n_ o_ p_ q_ r_ s_ t_ u_ v_ w_ x_ y_ z_ A_ B_ C_ D_ E_ F_ G_ H_ I_ J_ K_ L_ M_ N_ O_ P_ Q_ R_ S_ T_ U_ V_ W_ X_ Y_ Z_ _a _b _c _d _e _f _g _h _i _j _k _l _m _n _o _p _q _r _s _t _u _v _w _x _y _z _A _B _C _D _E _F _G _H _I _J _K _L _M _N _O _P _Q _R _S _T _U _V _W _X _Y _Z _0 _1 _2 _3 _4 _5 _6 _7 _8 _9 a'1 b'1 c'1 d'1 e'1 f'1 g'1 h'1 i'1 j'1 k'1 l'1 m'1 n'1 o'1 p'1 q'1 r'1 s'1 t'1 u'1 v'1 w'1 x'1 y'1 z'1 A'1 B'1 C'1 D'1 E'1 F'1 G'1 H'1 I'1 J'1 K'1 L'1 M'1 N'1 O'1 P'1 Q'1 R'1 S'1 T'1 U'1 V'1 W'1 X'1 Y'1 Z'1 a? b? c? d? e? f? g? h? i? j? k? l? m? n? o? p? q? r? s? t? u? v? w? x? y? z? A? B? C? D? E? F? G? H? I? J? K? L? M? N? O? P? Q? R? S? T? U? V? W? X? Y? Z? Z' Y' X' V' U' T' S':Value}
theorem O5:nT 8 8:=by
 unfold nT
 intros
 rename_i ga gb gm gk gx gy gz w0 a b m k x y G
 have U:=G.ox;have O:=G.oz;have V:=G.tx;obtain⟨Y,Z,p3,p4⟩:=G.sx;clear G;obtain⟨I,z⟩:∃I:List UInt8,I=[40,110,111,116,32]++x.text:=⟨_,rfl⟩;obtain⟨J,D⟩:∃J:List UInt8,J=[110,111,116,40]++x.bare:=⟨_,rfl⟩;obtain⟨r,E⟩:∃r:Mk,r=gM 8 a b m k x y:=⟨_,rfl⟩;have e1:(⟨#[40,110,111,116,32]⟩:ByteArray)++⟨x.text.toArray⟩=⟨I.toArray⟩:=aae (by rw[z];simp)
 have e2:(⟨I.toArray⟩:ByteArray)++⟨#[41]⟩=⟨r.text.toArray⟩:=aae (by rw[E,z];simp[gM,nZ])
 have e3:(⟨#[110,111,116,40]⟩:ByteArray)++⟨x.bare.toArray⟩=⟨J.toArray⟩:=aae (by rw[D];simp)
 have e4:(⟨J.toArray⟩:ByteArray)++⟨#[41]⟩=⟨r.bare.toArray⟩:=aae (by rw[E,D];simp[gM])
 have e5:IntKind.i64.wrap (1 - x.told)=r.told:=by rw[E,ZY];show _=1 - x.told;omega
 have e6:(x.deep:Int)+1=(r.deep:Int):=by rw[E];show _=((x.deep+1:Nat):Int);omega
 have l1: ¬9223372036854775807<5+x.text.length:=by omega
 have l2: ¬9223372036854775807<I.length+1:=by rw[z];simp;omega
 have l3: ¬9223372036854775807<4+x.bare.length:=by omega
 have l4: ¬9223372036854775807<J.length+1:=by rw[D];simp;omega
 have HR:Hid (gM 8 a b m k x y=r):=E.symm;rw[HR.out];obtain⟨x0,x1,x2,x3⟩:=dk U;obtain⟨z0,z1,z2,z3⟩:=dk O;obtain⟨f0,f1,f2,f3⟩:=jW O;have R:=Hi O;clear U O z D E Y Z p4 V
 conv=>arg 2;whnf
 go_wp2
 first|((iterate 113 (apply Exists.intro));exact⟨rfl,by first|exact dZ R.out|exact eJ (dZ R.out),by first|exact iW (ZA _ _)|exact(iW (ZA _ _)).drew⟩)|(refine⟨?_,by first|exact dZ R.out|exact eJ (dZ R.out),by first|exact iW (ZA _ _)|exact(iW (ZA _ _)).drew⟩;(iterate 113 (apply Exists.intro));rfl)
theorem NM (hn3:dG (n.tdiv 3)) (hz:fW w0 gz o) (ht:Cq w0 p 1 V)
 (WA:∀W,Below w0.heap.size w0 W→Calls prog 72 #[V,Iq n,pB o] W fun e w'=>e= .returned (pB A0)∧w'=(W.alloc (xV o)).alloc (xV A0))
 (WB:∀W,Below w0.heap.size w0 W→Calls prog 72 #[V,Iq (n.tdiv 3),pB o] W fun e w'=>e= .returned (pB B0)∧w'=(W.alloc (xV o)).alloc (xV B0)):
 Code.wp prog ((f38.body.bind (oD 5)).getD .skip) (JN (fun a' w'=> ∃(ga gb:Nat) (u36 u37 u38 u39 u40 u41 u42 u43 u44 u45 u46 u47 u48 u49 u50:Value),a'=⟨#[Pq p,b_,c_,Iq n,e_,f_,g_,h_,i_,Pq gz,k_,l_,m_,Pq ga,Pq gb,p_,q_,r_,s_,t_,u_,v_,w_,x_,y_,z_,A_,B_,C_,D_,E_,F_,G_,H_,I_,J_,u36,u37,u38,u39,u40,u41,u42,u43,u44,u45,u46,u47,u48,u49,u50,Z_,_a,_b,_c,_d,_e,_f,_g,_h,_i,_j,_k,_l,_m,_n,_o,_p,_q,_r,_s,_t,_u,_v,_w,_x,_y,_z,_A,_B,_C,_D,_E,_F,_G,_H,_I,_J,_K,_L,_M,_N,_O,_P,_Q,_R,_S,_T,_U,_V,_W,_X,_Y,_Z,_0,_1,_2,_3,_4,_5,_6,_7,_8,_9,a'1,b'1,c'1,d'1,e'1,f'1,g'1,h'1,i'1,j'1,k'1,l'1,m'1,n'1,o'1,p'1,q'1,r'1,s'1,t'1,u'1,v'1,w'1,x'1,y'1,z'1,A'1,B'1,C'1,D'1,E'1,F'1,G'1,H'1,I'1,J'1,K'1,L'1,M'1,N'1,O'1,P'1,Q'1,R'1,S'1,T'1,U'1,V'1,W'1,X'1,Y'1,Z'1,a?,b?,c?,d?,e?,f?,g?,h?,i?,j?,k?,l?,m?,n?,o?,p?,q?,r?,s?,t?,u?,v?,w?,x?,y?,z?,A?,B?,C?,D?,E?,F?,G?,H?,I?,J?,K?,L?,M?,N?,O?,P?,Q?,R?,S?,T?,U?,V?,W?,X?,Y?,Z?,Z',Y',X',V',U',T',S'],[]⟩∧fW w' ga A0∧fW w' gb B0∧Below w0.heap.size w0 w')) ⟨#[Pq p,b_,c_,Iq n,e_,f_,g_,h_,i_,Pq gz,k_,l_,m_,n_,o_,p_,q_,r_,s_,t_,u_,v_,w_,x_,y_,z_,A_,B_,C_,D_,E_,F_,G_,H_,I_,J_,K_,L_,M_,N_,O_,P_,Q_,R_,S_,T_,U_,V_,W_,X_,Y_,Z_,_a,_b,_c,_d,_e,_f,_g,_h,_i,_j,_k,_l,_m,_n,_o,_p,_q,_r,_s,_t,_u,_v,_w,_x,_y,_z,_A,_B,_C,_D,_E,_F,_G,_H,_I,_J,_K,_L,_M,_N,_O,_P,_Q,_R,_S,_T,_U,_V,_W,_X,_Y,_Z,_0,_1,_2,_3,_4,_5,_6,_7,_8,_9,a'1,b'1,c'1,d'1,e'1,f'1,g'1,h'1,i'1,j'1,k'1,l'1,m'1,n'1,o'1,p'1,q'1,r'1,s'1,t'1,u'1,v'1,w'1,x'1,y'1,z'1,A'1,B'1,C'1,D'1,E'1,F'1,G'1,H'1,I'1,J'1,K'1,L'1,M'1,N'1,O'1,P'1,Q'1,R'1,S'1,T'1,U'1,V'1,W'1,X'1,Y'1,Z'1,a?,b?,c?,d?,e?,f?,g?,h?,i?,j?,k?,l?,m?,n?,o?,p?,q?,r?,s?,t?,u?,v?,w?,x?,y?,z?,A?,B?,C?,D?,E?,F?,G?,H?,I?,J?,K?,L?,M?,N?,O?,P?,Q?,R?,S?,T?,U?,V?,W?,X?,Y?,Z?,Z',Y',X',V',U',T',S'],[]⟩ w0:=by
 have hp0:p<w0.heap.size:=Zx w0 _ ht;have hz0:gz<w0.heap.size:=be hz;have hS0:Below w0.heap.size w0 w0:=ZA _ _;have E0:∀W,Below w0.heap.size w0 W→W.cell? ⟨p,1,none⟩=some V:=fun W h=>by rw[h.cell (p:=⟨p,1,none⟩) hp0];exact ht
 have Z0:∀W,Below w0.heap.size w0 W→W.cell? ⟨gz,0,none⟩=some (S o.text):=fun W h=>by rw[h.cell (p:=⟨gz,0,none⟩) hz0];exact Zz w0 _ 0 _ _ _ hz
 have Z1:∀W,Below w0.heap.size w0 W→W.cell? ⟨gz,1,none⟩=some (S o.bare):=fun W h=>by rw[h.cell (p:=⟨gz,1,none⟩) hz0];exact Zz w0 _ 1 _ _ _ hz
 have Z2:∀W,Below w0.heap.size w0 W→W.cell? ⟨gz,2,none⟩=some (Iq o.told):=fun W h=>by rw[h.cell (p:=⟨gz,2,none⟩) hz0];exact Zz w0 _ 2 _ _ _ hz
 have Z3:∀W,Below w0.heap.size w0 W→W.cell? ⟨gz,3,none⟩=some (Iq (o.deep:Nat)):=fun W h=>by rw[h.cell (p:=⟨gz,3,none⟩) hz0];exact Zz w0 _ 3 _ _ _ hz
 have KD:Hid (∀W:World,Below w0.heap.size w0 W→Below w0.heap.size w0 W.drew):=fun W h=>h.drew
 have KA:Hid (∀(W:World) (o:Obj),Below w0.heap.size w0 W→Below w0.heap.size w0 (W.alloc o)):=fun W o h=>h.alloc h.size _
 have hq3:IntKind.i64.wrap (n.tdiv 3)=n.tdiv 3:=by unfold dG at hn3;rw[ZY];omega
 unfold pB at WA WB
 conv=>arg 2;whnf
 go_region_held3 (fun W=>Below w0.heap.size w0 W) (first|assumption|(repeat' first|exact hS0|with_reducible assumption|with_reducible apply KD.out|with_reducible apply KA.out|(with_reducible refine KS.out _ _ _ (by simp;omega) ?_)))
  (first
   |(go_at_call 72;(first|with_reducible refine aaU (WA _ (by assumption)) ?_|with_reducible refine aaU (WB _ (by assumption)) ?_);rintro e w' ⟨rfl,rfl⟩))
 all_goals
  rename_i hHeld
  exact⟨_,_,_,_,_,_,_,_,_,_,_,_,_,_,_,_,_,rfl,eJ (by repeat' first|(refine nu ?_;simp;done)|refine pC ?_),eJ (by repeat' first|(refine nu ?_;simp;done)|refine pC ?_),hHeld⟩
end Go.Proofs.YtfkdailfcmnjlaaGreatDoor
