/-
  A part.
-/
import Derived.Test.YtfkdailfcmnjlaaGreatDoorMeant21a
import Derived.Shelf.Abstract
set_option linter.unusedVariables false
set_option linter.unusedSimpArgs false
set_option maxHeartbeats 40000000
set_option maxRecDepth 1000000
set_option maxHeartbeats 40000000
set_option maxRecDepth 1000000
namespace Go.Proofs.YtfkdailfcmnjlaaGreatDoor
open Go Go.RowKit Tryz
attribute [local go_sem ↓] Go.wp_at_zero Go.wp_at_succ
variable {z G E l:List (List UInt8×Int)} {w W J U:World} {p n i k e size g:Nat} {vc O D R Z v:Value} {b:List UInt8} {V I Y o:Obj} {x:Int}
variable {c:jV}
theorem EK {b:Nat} {l:List Mk} {n:Int} (J:dG n) (Z:l.length≤1000) (o:Mk) (w:World) (h:MR b w v l):Calls prog 72 #[v,Iq n,pB o] w fun e w'=>e= .returned (pB (lZ l n o))∧w'=(w.alloc (xV o)).alloc (xV (lZ l n o)):=by
 by_cases E:l.length=0
 ·have G:l=[]:=List.length_eq_zero_iff.1 E
  subst G;obtain⟨a,cap,rfl⟩:=pA h;have z:Hid (lZ [] n o=o):=rfl;generalize lZ [] n o=r at*;unfold pB xV;go_enter func72,ntmps72;go_wp2;refine ZH (v:= .agg #[S o.text,S o.bare,Iq o.told,Iq (o.deep:Nat)]) (by simp[results,results72,go_sem]) rfl ?_
  exact⟨by rw[z.out],by rw[z.out]⟩
 ·have D:0<l.length:=by omega
  have O:=fun w=>lH J D (by omega) w
  have R:=kX n D;have z:Hid (lZ l n o=l.getD (l.length - 1 - kW n l.length) kt):=by show _=_;unfold lZ;rw[Zt E]
  obtain⟨g,cap,rfl,_,_⟩:=World.ownsRow.form h D;obtain⟨c0,c1,c2,c3⟩:=MR.cells h (i:=l.length - 1 - kW n l.length) (by omega)
  generalize lZ l n o=r at*;generalize l.getD (l.length - 1 - kW n l.length) kt=m at*;generalize I:l.length - 1 - kW n l.length=j at*;generalize kW n l.length=k at*;have U:(l.length:Int) - 1 - (k:Int)=(j:Int):=by omega
  have V:IntKind.i64.wrap (j:Int)=(j:Int):=by rw[ZY];omega
  have Y:(0:Int)≤(j:Int)∧(j:Int)<(l.length:Int):=by omega
  have HJ:=Hi I;generalize l.length=N at*;have hN:((N:Int)==0)=false:=by simp;omega
  unfold pB xV;go_enter func72,ntmps72
  go_wp2_with (go_at_call 36;refine(O _).mono ?_;rintro e w' ⟨rfl,rfl⟩)
  refine ZH (v:= .agg #[S m.text,S m.bare,Iq m.told,Iq (m.deep:Nat)]) (by simp[results,results72,go_sem]) rfl ?_
  exact⟨by rw[z.out],by rw[z.out]⟩
end Go.Proofs.YtfkdailfcmnjlaaGreatDoor
namespace Go.Proofs.YtfkdailfcmnjlaaGreatDoor
open Go Go.RowKit Tryz
attribute [local go_sem ↓] Go.wp_at_zero Go.wp_at_succ
attribute [local go_sem ↓] mI
variable {Y Z k:Nat}
theorem EO {x0 x1 x2 x5 x6 x7 x8 x9 I J O U V E:Value} {G wh v0 v1 v4 v5 v6 v8:Int} {cs:Array Value} (am:Hid (#[x0,x1,x2,Iq G,Iq wh,x5,x6,x7,x8,x9,I,J,O,U,V,E]=cs)) (h1:Y<3) (h2:Z<3) (o0:x0.oneCell'=true) (o1:x1.oneCell'=true) (o2:x2.oneCell'=true) (o5:x5.oneCell'=true) (o6:x6.oneCell'=true) (o7:x7.oneCell'=true) (o8:x8.oneCell'=true) (o9:x9.oneCell'=true) (ar:I.oneCell'=true) (au:J.oneCell'=true) (av:O.oneCell'=true) (aw:U.oneCell'=true) (ax:V.oneCell'=true) (ay:E.oneCell'=true)
 (W1:∀w,Calls prog 121 #[.agg cs,x0] w fun e w'=>e= .returned (Iq v0)∧Below w.heap.size w w')
 (W2:∀w,Calls prog 121 #[.agg cs,x1] w fun e w'=>e= .returned (Iq v1)∧Below w.heap.size w w')
 (W3:∀w,Calls prog 122 #[.agg cs,x0] w fun e w'=>e= .returned (Iq v4)∧Below w.heap.size w w')
 (W4:∀w,Calls prog 122 #[.agg cs,x1] w fun e w'=>e= .returned (Iq v5)∧Below w.heap.size w w')
 (W5:∀w,Calls prog 123 #[x2] w fun e w'=>e= .returned (Iq v6)∧w'=w)
 (W6:∀w,Calls prog 36 #[x0,Iq 3] w fun e w'=>e= .returned (Iq (Y:Nat))∧w'=w)
 (W7:∀w,Calls prog 36 #[x1,Iq 3] w fun e w'=>e= .returned (Iq (Z:Nat))∧w'=w)
 (W8:∀b w,Calls prog 76 #[.bool b] w fun e w'=>e= .returned (Iq (dq b))∧w'=w)
 (W9:∀w,Calls prog 76 #[E] w fun e w'=>e= .returned (Iq v8)∧w'=w)
 (hk:k<9) (w:World) (R:Ending→World→Prop) (HR:Hid (∀w',Below w.heap.size w w'→R (.returned (.tuple #[[Iq v0,Iq v1,Iq G,Iq wh,Iq v4,Iq v5,Iq v6,Iq (dq ((Y:Int)==(Z:Int))),Iq v8].getD k undef,S (dL.getD k [])])) w')):
 Calls prog 71 #[.agg #[x0,x1,x2,Iq G,Iq wh,x5,x6,x7,x8,x9,I,J,O,U,V,E],Iq k] w R:=by
 obtain⟨z,aa⟩:∃z,(w.alloc (.cells #[x0,x1,x2,Iq G,Iq wh,x5,x6,x7,x8,x9,I,J,O,U,V,E] 37)).alloc (.cells #[S [108,101,118,101,108],S [114,97,110,107],S [110,101,101,100],S [119,104,101,110],S [115,101,110,100,101,114],S [116,97,114,103,101,116],S [119,97,110,116,115],S [115,101,108,102],S [111,112,101,110]] 9)=z:=⟨_,rfl⟩;have ac:Below w.heap.size w z:=by rw[←aa];exact((ZA _ _).alloc (Zw _) _).alloc (by simp) _
 have ab:z.heap[w.heap.size]?=some (.cells #[x0,x1,x2,Iq G,Iq wh,x5,x6,x7,x8,x9,I,J,O,U,V,E] 37 (0,0)):=by rw[←aa];exact(ZE _ _ _ (by simp)).trans (Zy w _)
 have ad:z.heap[w.heap.size+1]?=some (.cells #[S [108,101,118,101,108],S [114,97,110,107],S [110,101,101,100],S [119,104,101,110],S [115,101,110,100,101,114],S [116,97,114,103,101,116],S [119,97,110,116,115],S [115,101,108,102],S [111,112,101,110]] 9 (0,0)):=by
  rw[←aa];have:=Zy (w.alloc (.cells #[x0,x1,x2,Iq G,Iq wh,x5,x6,x7,x8,x9,I,J,O,U,V,E] 37)) (.cells #[S [108,101,118,101,108],S [114,97,110,107],S [110,101,101,100],S [119,104,101,110],S [115,101,110,100,101,114],S [116,97,114,103,101,116],S [119,97,110,116,115],S [115,101,108,102],S [111,112,101,110]] 9);rw[ZB] at this;exact this
 have hq:=fun j=>Zz z _ j _ _ _ ab
 have an:Below z.heap.size z z:=ZA _ _;have D:w.heap.size<z.heap.size:=be ab;have HO:∀W,Below z.heap.size z W→(nt (Pq w.heap.size)).run prog W= .ok (.agg cs) W:=fun W h=>by
  rw[←am.out];exact jt W _ _ ((h.block _ D).trans ab) rfl
 have H0:∀W,Below z.heap.size z W→W.cell? ⟨w.heap.size,0,none⟩=some (x0):=fun W h=>by rw[h.cell (p:=⟨w.heap.size,0,none⟩) D];exact hq 0
 have H1:∀W,Below z.heap.size z W→W.cell? ⟨w.heap.size,1,none⟩=some (x1):=fun W h=>by rw[h.cell (p:=⟨w.heap.size,1,none⟩) D];exact hq 1
 have H2:∀W,Below z.heap.size z W→W.cell? ⟨w.heap.size,2,none⟩=some (x2):=fun W h=>by rw[h.cell (p:=⟨w.heap.size,2,none⟩) D];exact hq 2
 have H3:∀W,Below z.heap.size z W→W.cell? ⟨w.heap.size,3,none⟩=some (Iq G):=fun W h=>by rw[h.cell (p:=⟨w.heap.size,3,none⟩) D];exact hq 3
 have H4:∀W,Below z.heap.size z W→W.cell? ⟨w.heap.size,4,none⟩=some (Iq wh):=fun W h=>by rw[h.cell (p:=⟨w.heap.size,4,none⟩) D];exact hq 4
 have ao:∀W,Below z.heap.size z W→W.cell? ⟨w.heap.size,15,none⟩=some (E):=fun W h=>by rw[h.cell (p:=⟨w.heap.size,15,none⟩) D];exact hq 15
 have KP:Hid (∀W W':World,Below z.heap.size z W→Below W.heap.size W W'→Below z.heap.size z W'):=fun W W' h hb=>h.trans (hb.mono h.size)
 have KD:Hid (∀W:World,Below z.heap.size z W→Below z.heap.size z W.drew):=fun W h=>h.drew
 clear D;have HW:=Hi aa;have ae:=Hi ac;have af:=Hi ad;clear aa ac ab ad hq;go_enter func71,ntmps71;go_wp2;rw[HW.out]
 go_region_held3 (fun w'=>Below z.heap.size z w') (first|exact KD.out _ (by assumption)|exact KP.out _ _ (by assumption) (by assumption)|exact KP.out _ _ (by assumption) ((ZA _ _).alloc (Zw _) _)|assumption|go_keep)
  (first
   |(go_at_call 121;(first|with_reducible refine aaU (W1 _) ?_|with_reducible refine aaU (W2 _) ?_);rintro e w1 ⟨rfl,ap⟩)
   |(go_at_call 122;(first|with_reducible refine aaU (W3 _) ?_|with_reducible refine aaU (W4 _) ?_);rintro e w1 ⟨rfl,ap⟩)
   |(go_at_call 123;refine(W5 _).mono ?_;rintro e w1 ⟨rfl,rfl⟩)
   |(go_at_call 36;(first|with_reducible refine aaU (W6 _) ?_|with_reducible refine aaU (W7 _) ?_);rintro e w1 ⟨rfl,rfl⟩)
   |(go_at_call 76;(first|with_reducible refine aaU (W9 _) ?_|with_reducible refine aaU (W8 _ _) ?_);rintro e w1 ⟨rfl,rfl⟩))
 rename_i hHeld
 have ag:=(hHeld.block _ (be af.out)).trans af.out;have ah:=Zy w1 (.cells #[Iq v0,Iq v1,Iq G,Iq wh,Iq v4,Iq v5,Iq v6,Iq (dq ((Y:Int)==(Z:Int))),Iq v8] 2);have ai:=ae.out.trans (hHeld.mono ae.out.size);have e9:k=0∨k=1∨k=2∨k=3∨k=4∨k=5∨k=6∨k=7∨k=8:=by omega
 have aj:(#[Iq v0,Iq v1,Iq G,Iq wh,Iq v4,Iq v5,Iq v6,Iq (dq ((Y:Int)==(Z:Int))),Iq v8]:Array Value)[k]?=some (([Iq v0,Iq v1,Iq G,Iq wh,Iq v4,Iq v5,Iq v6,Iq (dq ((Y:Int)==(Z:Int))),Iq v8]:List Value).getD k undef):=by rcases e9 with rfl|rfl|rfl|rfl|rfl|rfl|rfl|rfl|rfl<;>rfl
 have ak:(#[S [108,101,118,101,108],S [114,97,110,107],S [110,101,101,100],S [119,104,101,110],S [115,101,110,100,101,114],S [116,97,114,103,101,116],S [119,97,110,116,115],S [115,101,108,102],S [111,112,101,110]]:Array Value)[k]?=some (S (dL.getD k [])):=by rcases e9 with rfl|rfl|rfl|rfl|rfl|rfl|rfl|rfl|rfl<;>rfl
 have c1:=(Zz _ _ k _ _ _ ah).trans aj;have c2:=(Zz _ _ k _ _ _ ag).trans ak;clear ag ah hHeld aj ak e9 KP KD W1 W2 W3 W4 W5 W6 W7 W8 W9 H0 H1 H2 H3 H4 ao HO an;generalize (([Iq v0,Iq v1,Iq G,Iq wh,Iq v4,Iq v5,Iq v6,Iq (dq ((Y:Int)==(Z:Int))),Iq v8]:List Value).getD k undef)=y1 at*;generalize dL.getD k []=y2 at*;generalize (w1.alloc (.cells #[Iq v0,Iq v1,Iq G,Iq wh,Iq v4,Iq v5,Iq v6,Iq (dq ((Y:Int)==(Z:Int))),Iq v8] 2))=wy at*;have aq:=Hi ai;clear ai;have az:(0:Int)≤(k:Int)∧(k:Int)<9:=by omega
 have aA:Cq wy w1.heap.size k y1∧Cq wy (w.heap.size+1) k (S y2):=⟨c1,c2⟩;go_wp2
 go_region_held3 (fun W=>Cq W w1.heap.size k y1∧Cq W (w.heap.size+1) k (S y2)) (first|assumption|go_keep) (fail)
 all_goals
  go_wp2;exact HR.out _ aq.out.drew
end Go.Proofs.YtfkdailfcmnjlaaGreatDoor
namespace Go.Proofs.YtfkdailfcmnjlaaGreatDoor
open Go Go.RowKit Tryz
attribute [local go_sem ↓] Go.wp_at_zero Go.wp_at_succ
variable {i j b p gg:Nat} {w w' I z:World} {v:Nat→Value} {l:Nat→List Mk} {E G:Obj} {m:Mk} {n:Int}
variable {c:jV}
theorem Mj (hn:dG n) (Y:TI b w p v l) (hb:b≤w.heap.size) (hl:(l 1).length≤1000):
 Calls prog 37 #[Pq p,.agg (je c),Iq 1,Iq n] w fun e w'=>e= .returned (.tuple #[])∧ ∃(k:Nat) (V:Nat→Value),k<5∧TI b w' p V (EP l 1 (l 1++[⟨dX.getD k [],dX.getD k [],k,1⟩]))∧Below b w w':=by
 have W1:=fun w=>lH hn (n:=5) (by decide) (by decide) w
 have p1:=kX n (n:=5) (by decide)
 generalize kW n 5=k at*;unfold je;obtain⟨i0,hi,hz⟩:=ZP.1 iJ;simp only[ZT] at hz;obtain⟨ab,ac,ad⟩:=hz;have hk:k=0∨k=1∨k=2∨k=3∨k=4:=by omega
 rcases hk with rfl|rfl|rfl|rfl|rfl
 ·go_enter func37,ntmps37
  go_upto_region 19 with(first
   |(go_at_call 36;refine(W1 _).mono ?_;rintro e w' ⟨rfl,rfl⟩))
  go_name_world G I
  have E:Below w.heap.size w G:=by rw[←I];exact((ZA _ _).alloc (Zw _) _).alloc (by simp) _
  have ae:b≤G.heap.size:=by have:=E.size;omega
  obtain⟨va,vc,O⟩:=Y.ready hb E (j:=1) (by decide)
  have t0:=O.cell;have R:=Hi O
  go_wp2_with (at_builtin;go_must (refine wpList_append_lies _ (by rfl) _ _ 98 (by rfl) b 104 i0 _ 4 48 underlying98 hi ab ac ad (by rfl) (by decide) _ _ _ (by rfl) (aac R.out.row _) ⟨G.heap.size,0,none⟩ 1 1 [S [110,111,110,101],S [110,111,110,101],Iq 0,Iq 1] (by rfl) (by rfl) (World.news_of_block (Zy G _)) (fun x U=>by simp at U;rcases U with rfl|rfl|rfl|rfl<;>rfl) (by decide) (by unfold maxLen;omega) (by omega) (by simp;omega) _ rfl ?_);intro gg Z w5 D z J aa;obtain⟨y0,af⟩:=R.out.far _ _ z;have HN:Hid _:=R.out.put _ ⟨[110,111,110,101],[110,111,110,101],0,1⟩ _ _ _ z J D;clear D z J)
  go_end0
  obtain⟨⟨V,h1⟩,h2⟩:=HN.out;exact⟨rfl,0,V,by omega,h1,h2⟩
 ·go_enter func37,ntmps37
  go_upto_region 19 with(first
   |(go_at_call 36;refine(W1 _).mono ?_;rintro e w' ⟨rfl,rfl⟩))
  go_name_world G I
  have E:Below w.heap.size w G:=by rw[←I];exact((ZA _ _).alloc (Zw _) _).alloc (by simp) _
  have ae:b≤G.heap.size:=by have:=E.size;omega
  obtain⟨va,vc,O⟩:=Y.ready hb E (j:=1) (by decide)
  have t0:=O.cell;have R:=Hi O
  go_wp2_with (at_builtin;go_must (refine wpList_append_lies _ (by rfl) _ _ 98 (by rfl) b 104 i0 _ 4 48 underlying98 hi ab ac ad (by rfl) (by decide) _ _ _ (by rfl) (aac R.out.row _) ⟨G.heap.size,0,none⟩ 1 1 [S [105,110,118,105,116,101],S [105,110,118,105,116,101],Iq 1,Iq 1] (by rfl) (by rfl) (World.news_of_block (Zy G _)) (fun x U=>by simp at U;rcases U with rfl|rfl|rfl|rfl<;>rfl) (by decide) (by unfold maxLen;omega) (by omega) (by simp;omega) _ rfl ?_);intro gg Z w5 D z J aa;obtain⟨y0,af⟩:=R.out.far _ _ z;have HN:Hid _:=R.out.put _ ⟨[105,110,118,105,116,101],[105,110,118,105,116,101],1,1⟩ _ _ _ z J D;clear D z J)
  go_end0
  obtain⟨⟨V,h1⟩,h2⟩:=HN.out;exact⟨rfl,1,V,by omega,h1,h2⟩
 ·go_enter func37,ntmps37
  go_upto_region 19 with(first
   |(go_at_call 36;refine(W1 _).mono ?_;rintro e w' ⟨rfl,rfl⟩))
  go_name_world G I
  have E:Below w.heap.size w G:=by rw[←I];exact((ZA _ _).alloc (Zw _) _).alloc (by simp) _
  have ae:b≤G.heap.size:=by have:=E.size;omega
  obtain⟨va,vc,O⟩:=Y.ready hb E (j:=1) (by decide)
  have t0:=O.cell;have R:=Hi O
  go_wp2_with (at_builtin;go_must (refine wpList_append_lies _ (by rfl) _ _ 98 (by rfl) b 104 i0 _ 4 48 underlying98 hi ab ac ad (by rfl) (by decide) _ _ _ (by rfl) (aac R.out.row _) ⟨G.heap.size,0,none⟩ 1 1 [S [106,111,105,110],S [106,111,105,110],Iq 2,Iq 1] (by rfl) (by rfl) (World.news_of_block (Zy G _)) (fun x U=>by simp at U;rcases U with rfl|rfl|rfl|rfl<;>rfl) (by decide) (by unfold maxLen;omega) (by omega) (by simp;omega) _ rfl ?_);intro gg Z w5 D z J aa;obtain⟨y0,af⟩:=R.out.far _ _ z;have HN:Hid _:=R.out.put _ ⟨[106,111,105,110],[106,111,105,110],2,1⟩ _ _ _ z J D;clear D z J)
  go_end0
  obtain⟨⟨V,h1⟩,h2⟩:=HN.out;exact⟨rfl,2,V,by omega,h1,h2⟩
 ·go_enter func37,ntmps37
  go_upto_region 19 with(first
   |(go_at_call 36;refine(W1 _).mono ?_;rintro e w' ⟨rfl,rfl⟩))
  go_name_world G I
  have E:Below w.heap.size w G:=by rw[←I];exact((ZA _ _).alloc (Zw _) _).alloc (by simp) _
  have ae:b≤G.heap.size:=by have:=E.size;omega
  obtain⟨va,vc,O⟩:=Y.ready hb E (j:=1) (by decide)
  have t0:=O.cell;have R:=Hi O
  go_wp2_with (at_builtin;go_must (refine wpList_append_lies _ (by rfl) _ _ 98 (by rfl) b 104 i0 _ 4 48 underlying98 hi ab ac ad (by rfl) (by decide) _ _ _ (by rfl) (aac R.out.row _) ⟨G.heap.size,0,none⟩ 1 1 [S [108,101,97,118,101],S [108,101,97,118,101],Iq 3,Iq 1] (by rfl) (by rfl) (World.news_of_block (Zy G _)) (fun x U=>by simp at U;rcases U with rfl|rfl|rfl|rfl<;>rfl) (by decide) (by unfold maxLen;omega) (by omega) (by simp;omega) _ rfl ?_);intro gg Z w5 D z J aa;obtain⟨y0,af⟩:=R.out.far _ _ z;have HN:Hid _:=R.out.put _ ⟨[108,101,97,118,101],[108,101,97,118,101],3,1⟩ _ _ _ z J D;clear D z J)
  go_end0
  obtain⟨⟨V,h1⟩,h2⟩:=HN.out;exact⟨rfl,3,V,by omega,h1,h2⟩
 ·go_enter func37,ntmps37
  go_upto_region 19 with(first
   |(go_at_call 36;refine(W1 _).mono ?_;rintro e w' ⟨rfl,rfl⟩))
  go_name_world G I
  have E:Below w.heap.size w G:=by rw[←I];exact((ZA _ _).alloc (Zw _) _).alloc (by simp) _
  have ae:b≤G.heap.size:=by have:=E.size;omega
  obtain⟨va,vc,O⟩:=Y.ready hb E (j:=1) (by decide)
  have t0:=O.cell;have R:=Hi O
  go_wp2_with (at_builtin;go_must (refine wpList_append_lies _ (by rfl) _ _ 98 (by rfl) b 104 i0 _ 4 48 underlying98 hi ab ac ad (by rfl) (by decide) _ _ _ (by rfl) (aac R.out.row _) ⟨G.heap.size,0,none⟩ 1 1 [S [98,97,110],S [98,97,110],Iq 4,Iq 1] (by rfl) (by rfl) (World.news_of_block (Zy G _)) (fun x U=>by simp at U;rcases U with rfl|rfl|rfl|rfl<;>rfl) (by decide) (by unfold maxLen;omega) (by omega) (by simp;omega) _ rfl ?_);intro gg Z w5 D z J aa;obtain⟨y0,af⟩:=R.out.far _ _ z;have HN:Hid _:=R.out.put _ ⟨[98,97,110],[98,97,110],4,1⟩ _ _ _ z J D;clear D z J)
  go_end0
  obtain⟨⟨V,h1⟩,h2⟩:=HN.out;exact⟨rfl,4,V,by omega,h1,h2⟩
variable {b p k j g gz:Nat} {w W w0 w':World} {v:Nat→Value} {l:Nat→List Mk} {c:jV} {n x:Int} {m o A0 B0 a r:Mk} {V:Value} {z D:UInt8}
variable {b_ c_ e_ f_ g_ h_ i_ j_ l_ m_ n_ o_ p_ q_ r_ s_ t_ u_ v_ w_ x_ y_ z_ A_ B_ C_ D_ E_ F_ G_ H_ I_ J_ K_ L_ M_ N_ O_ P_ Q_ R_ S_ T_ U_ V_ W_ X_ Y_ Z_ _a _b _c _d _e _f _g _h _i _j _k _l _m _n _o _p _q _r _s _t _u _v _w _x _y _z _A _B _C _D _E _F _G _H _I _J _K _L _M _N _O _P _Q _R _S _T _U _V _W _X _Y _Z _0 _1 _2 _3 _4 _5 _6 _7 _8 _9 a'1 b'1 c'1 d'1 e'1 f'1 g'1 h'1 i'1 j'1 k'1 l'1 m'1 n'1 o'1 p'1 q'1 r'1 s'1 t'1 u'1 v'1 w'1 x'1 y'1 z'1 A'1 B'1 C'1 D'1 E'1 F'1 G'1 H'1 I'1 J'1 K'1 L'1 M'1 N'1 O'1 P'1 Q'1 R'1 S'1 T'1 U'1 V'1 W'1 X'1 Y'1 Z'1 a? b? c? d? e? f? g? h? i? j? k? l? m? n? o? p? q? r? s? t? u? v? w? x? y? z? A? B? C? D? E? F? G? H? I? J? K? L? M? N? O? P? Q? R? S? T? U? V? W? X? Y? Z? Z' Y' X' V' U' T' S':Value}
theorem NN (hn3:dG (n.tdiv 3)) (hz:fW w0 gz o) (ht:Cq w0 p 2 V)
 (WA:∀W,Below w0.heap.size w0 W→Calls prog 72 #[V,Iq n,pB o] W fun e w'=>e= .returned (pB A0)∧w'=(W.alloc (xV o)).alloc (xV A0))
 (WB:∀W,Below w0.heap.size w0 W→Calls prog 72 #[V,Iq (n.tdiv 3),pB o] W fun e w'=>e= .returned (pB B0)∧w'=(W.alloc (xV o)).alloc (xV B0)):
 Code.wp prog ((f38.body.bind (oD 6)).getD .skip) (JN (fun a' w'=> ∃(ga gb:Nat) (u51 u52 u53 u54 u55 u56 u57 u58 u59 u60 u61 u62 u63 u64 u65:Value),a'=⟨#[Pq p,b_,c_,Iq n,e_,f_,g_,h_,i_,j_,Pq gz,l_,m_,n_,o_,Pq ga,Pq gb,r_,s_,t_,u_,v_,w_,x_,y_,z_,A_,B_,C_,D_,E_,F_,G_,H_,I_,J_,K_,L_,M_,N_,O_,P_,Q_,R_,S_,T_,U_,V_,W_,X_,Y_,u51,u52,u53,u54,u55,u56,u57,u58,u59,u60,u61,u62,u63,u64,u65,_o,_p,_q,_r,_s,_t,_u,_v,_w,_x,_y,_z,_A,_B,_C,_D,_E,_F,_G,_H,_I,_J,_K,_L,_M,_N,_O,_P,_Q,_R,_S,_T,_U,_V,_W,_X,_Y,_Z,_0,_1,_2,_3,_4,_5,_6,_7,_8,_9,a'1,b'1,c'1,d'1,e'1,f'1,g'1,h'1,i'1,j'1,k'1,l'1,m'1,n'1,o'1,p'1,q'1,r'1,s'1,t'1,u'1,v'1,w'1,x'1,y'1,z'1,A'1,B'1,C'1,D'1,E'1,F'1,G'1,H'1,I'1,J'1,K'1,L'1,M'1,N'1,O'1,P'1,Q'1,R'1,S'1,T'1,U'1,V'1,W'1,X'1,Y'1,Z'1,a?,b?,c?,d?,e?,f?,g?,h?,i?,j?,k?,l?,m?,n?,o?,p?,q?,r?,s?,t?,u?,v?,w?,x?,y?,z?,A?,B?,C?,D?,E?,F?,G?,H?,I?,J?,K?,L?,M?,N?,O?,P?,Q?,R?,S?,T?,U?,V?,W?,X?,Y?,Z?,Z',Y',X',V',U',T',S'],[]⟩∧fW w' ga A0∧fW w' gb B0∧Below w0.heap.size w0 w')) ⟨#[Pq p,b_,c_,Iq n,e_,f_,g_,h_,i_,j_,Pq gz,l_,m_,n_,o_,p_,q_,r_,s_,t_,u_,v_,w_,x_,y_,z_,A_,B_,C_,D_,E_,F_,G_,H_,I_,J_,K_,L_,M_,N_,O_,P_,Q_,R_,S_,T_,U_,V_,W_,X_,Y_,Z_,_a,_b,_c,_d,_e,_f,_g,_h,_i,_j,_k,_l,_m,_n,_o,_p,_q,_r,_s,_t,_u,_v,_w,_x,_y,_z,_A,_B,_C,_D,_E,_F,_G,_H,_I,_J,_K,_L,_M,_N,_O,_P,_Q,_R,_S,_T,_U,_V,_W,_X,_Y,_Z,_0,_1,_2,_3,_4,_5,_6,_7,_8,_9,a'1,b'1,c'1,d'1,e'1,f'1,g'1,h'1,i'1,j'1,k'1,l'1,m'1,n'1,o'1,p'1,q'1,r'1,s'1,t'1,u'1,v'1,w'1,x'1,y'1,z'1,A'1,B'1,C'1,D'1,E'1,F'1,G'1,H'1,I'1,J'1,K'1,L'1,M'1,N'1,O'1,P'1,Q'1,R'1,S'1,T'1,U'1,V'1,W'1,X'1,Y'1,Z'1,a?,b?,c?,d?,e?,f?,g?,h?,i?,j?,k?,l?,m?,n?,o?,p?,q?,r?,s?,t?,u?,v?,w?,x?,y?,z?,A?,B?,C?,D?,E?,F?,G?,H?,I?,J?,K?,L?,M?,N?,O?,P?,Q?,R?,S?,T?,U?,V?,W?,X?,Y?,Z?,Z',Y',X',V',U',T',S'],[]⟩ w0:=by
 have hp0:p<w0.heap.size:=Zx w0 _ ht;have hz0:gz<w0.heap.size:=be hz;have hS0:Below w0.heap.size w0 w0:=ZA _ _;have E0:∀W,Below w0.heap.size w0 W→W.cell? ⟨p,2,none⟩=some V:=fun W h=>by rw[h.cell (p:=⟨p,2,none⟩) hp0];exact ht
 have Z0:∀W,Below w0.heap.size w0 W→W.cell? ⟨gz,0,none⟩=some (S o.text):=fun W h=>by rw[h.cell (p:=⟨gz,0,none⟩) hz0];exact Zz w0 _ 0 _ _ _ hz
 have Z1:∀W,Below w0.heap.size w0 W→W.cell? ⟨gz,1,none⟩=some (S o.bare):=fun W h=>by rw[h.cell (p:=⟨gz,1,none⟩) hz0];exact Zz w0 _ 1 _ _ _ hz
 have Z2:∀W,Below w0.heap.size w0 W→W.cell? ⟨gz,2,none⟩=some (Iq o.told):=fun W h=>by rw[h.cell (p:=⟨gz,2,none⟩) hz0];exact Zz w0 _ 2 _ _ _ hz
 have Z3:∀W,Below w0.heap.size w0 W→W.cell? ⟨gz,3,none⟩=some (Iq (o.deep:Nat)):=fun W h=>by rw[h.cell (p:=⟨gz,3,none⟩) hz0];exact Zz w0 _ 3 _ _ _ hz
 have KD:Hid (∀W:World,Below w0.heap.size w0 W→Below w0.heap.size w0 W.drew):=fun W h=>h.drew
 have KA:Hid (∀(W:World) (o:Obj),Below w0.heap.size w0 W→Below w0.heap.size w0 (W.alloc o)):=fun W o h=>h.alloc h.size _
 have hq3:IntKind.i64.wrap (n.tdiv 3)=n.tdiv 3:=by unfold dG at hn3;rw[ZY];omega
 unfold pB at WA WB
 conv=>arg 2;whnf
 go_region_held3 (fun W=>Below w0.heap.size w0 W) (first|assumption|(repeat' first|exact hS0|with_reducible assumption|with_reducible apply KD.out|with_reducible apply KA.out|(with_reducible refine KS.out _ _ _ (by simp;omega) ?_)))
  (first
   |(go_at_call 72;(first|with_reducible refine aaU (WA _ (by assumption)) ?_|with_reducible refine aaU (WB _ (by assumption)) ?_);rintro e w' ⟨rfl,rfl⟩))
 all_goals
  rename_i hHeld
  exact⟨_,_,_,_,_,_,_,_,_,_,_,_,_,_,_,_,_,rfl,eJ (by repeat' first|(refine nu ?_;simp;done)|refine pC ?_),eJ (by repeat' first|(refine nu ?_;simp;done)|refine pC ?_),hHeld⟩
end Go.Proofs.YtfkdailfcmnjlaaGreatDoor
