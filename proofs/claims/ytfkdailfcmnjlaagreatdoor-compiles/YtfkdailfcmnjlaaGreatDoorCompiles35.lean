/-
  A part.
-/
import Derived.Test.YtfkdailfcmnjlaaGreatDoorCompiles34
set_option linter.all false
set_option maxHeartbeats 40000000
set_option maxRecDepth 1000000
namespace Go.Proofs.YtfkdailfcmnjlaaGreatDoor
open Go Go.RowKit Tryz
attribute [local go_sem ↓] Go.wp_at_zero Go.wp_at_succ
variable {a n w w' D G I J O gi fo fn ft t E U V Y z A k x q i v0 v2 base wr pre v w4 R l j lp jmp F g jv js b pl nm u}
def nE (z:Nat) (n:Int) (cells:Nat):Bool:=if z=2 then decide (n<=1) else if z=3 then decide (n<=4) else if z=4 then decide (n<=8) else if z=5\/z=6 then decide (n<(cells:Int)) else decide (1<=z/\z<=18)
theorem JO (z) (n Y pl) {G cells:Nat} {w:World} (O:Cq w G 0 (Iq cells)):Calls prog 186 #[Pq G,fV z n Y pl] w λe w'=>e= .returned (.bool (nE z n cells))/\Bl w w':=by
 unfold fV;have E:Hid (∀o,Bl w (w.alloc o)):=λo=>(RP _ _).alloc (RL _) _
 have Z:∀o,(w.alloc o).cell? ⟨G,0,none⟩=some (Iq cells):=λo=>by rw[R1 (w:=w) (a:=⟨G,0,none⟩) (RV w o G (RN w _ O))];exact O
 by_cases I:z=2
 ·subst I;have D:Hid (nE 2 n cells=decide (n<=1)):=rfl;generalize nE 2 n cells=R at*;go_enter func186,ntmps186;go_wp2;go_ret;exact⟨by rw[D.out];rfl,E.out _⟩
 by_cases h3:z=3
 ·subst h3;have D:Hid (nE 3 n cells=decide (n<=4)):=rfl;generalize nE 3 n cells=R at*;go_enter func186,ntmps186;go_wp2;go_ret;exact⟨by rw[D.out];rfl,E.out _⟩
 by_cases J:z=4
 ·subst J;have D:Hid (nE 4 n cells=decide (n<=8)):=rfl;generalize nE 4 n cells=R at*;go_enter func186,ntmps186;go_wp2;go_ret;exact⟨by rw[D.out];rfl,E.out _⟩
 by_cases U:z=5
 ·subst U;have D:Hid (nE 5 n cells=decide (n<cells)):=rfl;generalize nE 5 n cells=R at*;go_enter func186,ntmps186;go_wp2
  first|go_region|skip
  go_wp2;go_ret;exact⟨by rw[D.out];rfl,(E.out _).drew⟩
 by_cases V:z=6
 ·subst V;have D:Hid (nE 6 n cells=decide (n<cells)):=rfl;generalize nE 6 n cells=R at*;go_enter func186,ntmps186;go_wp2
  first|go_region|skip
  go_wp2;go_ret;exact⟨by rw[D.out];rfl,(E.out _).drew⟩
 have D:Hid (nE z n cells=decide (1<=z/\z<=18)):=by show _=_;unfold nE;rw[RH I,RH h3,RH J,RH (by omega)]
 generalize nE z n cells=R at*;have b2:(z==2)=false:=by simp;omega
 have b3:(z==3)=false:=by simp;omega
 have b4:(z==4)=false:=by simp;omega
 have b5:(z==5)=false:=by simp;omega
 have b6:(z==6)=false:=by simp;omega
 by_cases h1:1<=z
 ·have aa:1<=z:=by omega
  go_enter func186,ntmps186;go_wp2;go_ret;refine⟨iN ?_,E.out _⟩;rw[D.out];apply UD.2;omega
 obtain rfl:z=0:=by omega
 go_enter func186,ntmps186;go_wp2;go_ret;exact⟨by rw[D.out];rfl,E.out _⟩
theorem Mu (b:LB) (p q i) (h:p+i<q):cy (cut b p q) i=cy b (p+i):=by
 unfold cy cut;rw[RG,RG,Tm (by omega),TN]
theorem Mv (b:LB) (p q):∀n,p+n<=q->eO (cut b p q) 0 n=eO b p n
 |0,_=>rfl
 |n+1,h=>by rw[eO,eO,Mv b p q n (by omega),Sw,Mu b p q n (by omega)]
def vu (b:List UInt8) (a:Nat):Int:=fg (eO b (a+1) (dt (cy b a)))
def Mw (b:List UInt8) (a:Nat):Prop:=cE (cy b a)≠0/\a+cE (cy b a)<=b.length/\(cE (cy b a)=2->(cy b (a+1):Int)<=dC (cy b a) (cy b 2))
def Oe (b:List UInt8) (a):Decidable (Mw b a):=by unfold Mw;infer_instance
theorem Dd {f:Nat} {b:LB} (h:a<b.length):pj (f+1) b a=@ite _ (Mw b a) (Oe b a) ((pj f b (a+cE (cy b a))).map (pR b a:: ·)) none:=by
 rw[pj,RH (by omega)];rfl
theorem PU {z:Nat} {cells:Nat} (h:nE z n cells=true):1<=z/\z<=18:=by
 unfold nE at h;by_cases D:z=2
 ·omega
 rw[RH D] at h;by_cases h3:z=3
 ·omega
 rw[RH h3] at h;by_cases E:z=4
 ·omega
 rw[RH E] at h;by_cases G:z=5\/z=6
 ·omega
 rw[RH G] at h;simpa using h
theorem Mx {z:Nat} (h:1<=z/\z<=18):cE z≠0:=by
 have e:z=1\/z=2\/z=3\/z=4\/z=5\/z=6\/z=7\/z=8\/z=9\/z=10\/z=11\/z=12\/z=13\/z=14\/z=15\/z=16\/z=17\/z=18:=by omega
 rcases e with rfl|rfl|rfl|rfl|rfl|rfl|rfl|rfl|rfl|rfl|rfl|rfl|rfl|rfl|rfl|rfl|rfl|rfl<;>decide
theorem tA {n:Nat} (h:n<9223372036854775808):fg n=n:=by unfold fg;rw[RK h]
theorem Og {b:LB} (h:dt (cy b a)=1):vu b a=(cy b (a+1)):=by
 unfold vu;rw[h];have z:=fq b (a+1);have e:eO b (a+1) 1=cy b (a+1):=by simp[eO]
 rw[e,tA (by omega)]
theorem Fw {b:LB} (h:b.length<a+1+dt (cy b a)): ¬Mw b a:=λ⟨z,D,_⟩=>by
 rw[qb z] at D;omega
theorem Oh {b:LB} {a:Nat} (h:a+1+dt (cy b a)<=b.length):nE (cy b a) (vu b a) (cy b 2)=true↔Mw b a:=by
 have E:cy b a=2\/cy b a=3\/cy b a=4\/cy b a=5\/cy b a=6->vu b a=(cy b (a+1)):=λe=>Og (by rcases e with e|e|e|e|e<;>rw[e]<;>rfl)
 constructor
 ·intro z;have U:=PU z;have R:=Mx U;refine⟨R,by rw[qb R];omega,λD=>?_⟩
  unfold nE at z;unfold dC;by_cases I:cy b a=2
  ·rw[RK I] at z⊢;rw[E (by omega)] at z;simpa using z
  rw[RH I] at z⊢;by_cases J:cy b a=3
  ·rw[RK J] at z⊢;rw[E (by omega)] at z;simpa using z
  rw[RH J] at z⊢;by_cases O:cy b a=4
  ·rw[RK O] at z⊢;rw[E (by omega)] at z;simpa using z
  rw[RH O] at z⊢;by_cases G:cy b a=5\/cy b a=6
  ·rw[RK G] at z⊢;rw[E (by omega)] at z
   have:=TY z;omega
  rw[RH G];have:=fq b (a+1);omega
 rintro⟨R,_,D⟩;have U:=Ay R;unfold nE;unfold dC at D;by_cases I:cy b a=2
 ·rw[RK I] at D⊢;rw[E (by omega)];have:=D (by rw[I];rfl);simpa using this
 rw[RH I] at D⊢;by_cases J:cy b a=3
 ·rw[RK J] at D⊢;rw[E (by omega)];have:=D (by rw[J];rfl);simpa using this
 rw[RH J] at D⊢;by_cases O:cy b a=4
 ·rw[RK O] at D⊢;rw[E (by omega)];have:=D (by rw[O];rfl);simpa using this
 rw[RH O] at D⊢;by_cases G:cy b a=5\/cy b a=6
 ·rw[RK G] at D⊢;rw[E (by omega)]
  have:=D (by rcases G with G|G<;>rw[G]<;>rfl)
  exact Sr (by omega)
 rw[RH G];exact Sr U
theorem De {b:LB} (h:Mw b a):pR b a=⟨cy b a,vu b a,a⟩/\cE (cy b a)=1+dt (cy b a):=by
 have D:=qb h.1;refine⟨?_,D⟩;have e:mK b (cy b a) a=vu b a:=by
  unfold mK vu;by_cases z:cy b a=1
  ·rw[RK z,z];rfl
  rw[RH z,D,show 1+dt (cy b a) - 1=dt (cy b a) by omega]
  have E:dt (cy b a)<=2:=by unfold dt;rw[RH z];(repeat' split)<;>omega
  have G:=pS b (a+1) (dt (cy b a));have h3:256^dt (cy b a)<=256^2:=TU (by decide) E
  rw[tA (by omega)]
 unfold pR;rw[e]
theorem JP (x:Int) (w):Calls prog 271 #[Iq x] w λe w'=>e= .returned (.bool false)/\w'=w:=by
 go_enter func271,ntmps271;go_wp2;go_ret;exact⟨by simp,rfl⟩
def ng (x y:Int):Int:=if x<y then -1 else if y<x then 1 else 0
theorem Df (x y:Int) (w):Calls prog 257 #[Iq x,Iq y] w λe w'=>e= .returned (Iq (ng x y))/\w'=w:=by
 have D:=λx w=>JP x w
 by_cases E:x<y
 ·have z:Hid (ng x y= -1):=RK E;generalize ng x y=R at*;go_enter func257,ntmps257;go_wp2_with (
   go_at_call 271;apply(D _ _).mono;rintro e w' ⟨rfl,rfl⟩)
  go_ret;exact⟨by rw[z.out];rfl,rfl⟩
 by_cases G:y<x
 ·have z:Hid (ng x y=1):=by show _=_;unfold ng;rw[RH E,RK G]
  generalize ng x y=R at*;go_enter func257,ntmps257;go_wp2_with (
   go_at_call 271;apply(D _ _).mono;rintro e w' ⟨rfl,rfl⟩)
  go_ret;exact⟨by rw[z.out];rfl,rfl⟩
 have z:Hid (ng x y=0):=by show _=_;unfold ng;rw[RH E,RH G]
 generalize ng x y=R at*;go_enter func257,ntmps257;go_wp2_with (
  go_at_call 271;apply(D _ _).mono;rintro e w' ⟨rfl,rfl⟩)
 go_ret;exact⟨by rw[z.out];rfl,rfl⟩
theorem My (z n D pl t:Int) (w):Calls prog 256 #[.agg #[Iq z,Iq n,Iq D,Iq pl],Iq t] w λe w'=>e= .returned (Iq (ng pl t))/\Bl w w':=by
 have E:=λw=>Df pl t w
 generalize ng pl t=R at*;have G:Hid (∀o,Bl w (w.alloc o)):=λo=>(RP _ _).alloc (RL _) _
 go_enter func256,ntmps256;go_wp2_with (
  go_at_call 257;apply(E _).mono;rintro e w' ⟨rfl,rfl⟩)
 go_ret;exact⟨rfl,G.out _⟩
structure vw (w:World) (gi n) (fo fn ft fp:Nat->Int):Prop where
 op:∀i,i<n->w.cell? ⟨gi,i*4,none⟩=some (Iq (fo i))
 num:∀i,i<n->w.cell? ⟨gi,i*4+1,none⟩=some (Iq (fn i))
 tos:∀i,i<n->w.cell? ⟨gi,i*4+2,none⟩=some (Iq (ft i))
 pls:∀i,i<n->w.cell? ⟨gi,i*4+3,none⟩=some (Iq (fp i))
theorem vw.below (h:vw w D n G I J O) (R:Bl w w'):vw w' D n G I J O:=by
 have E:∀{o:Nat} {v:Value},w.cell? ⟨D,o,none⟩=some v->w'.cell? ⟨D,o,none⟩=some v:=λ{o v} e=>by
  rw[R.cell (RN w _ e)];exact e
 exact⟨λi z=>E (h.op i z),λi z=>E (h.num i z),λi z=>E (h.tos i z),λi z=>E (h.pls i z)⟩
def oc (n:Nat) (z:Nat->Int) (t:Int) (e:Ending):Prop:= ∃i:Nat,i<=n/\e= .returned (.tuple #[Iq i,.bool (decide (i<n/\z i=t))])/\(∀j,j<i->z j<t)/\ ∀j,i<=j->j<n->t<=z j
theorem Fx {cap} {w:World} (h:vw w gi n fo fn ft D) (hn:n<=5000) (hs:∀i j,i<j->j<n->D i<D j):
 Calls prog 255 #[Sq gi n cap,Iq t,.func (.func 256) #[] #[]] w λe w'=>oc n D t e/\Bl w w':=by
 have H:=Hi h;have HS:=Hi hs;have U:=λop n tj pl w=>My op n tj pl t w
 clear h hs;go_enter func255,ntmps255;go_wp2;go_loopw [9,10] (λiv jv wr=> ∃i j,i<=j/\j<=n/\iv= Iq i/\jv= Iq j/\Hid (∀q,q<i->D q<t)/\Hid (∀q,j<=q->q<n->t<=D q)/\Hid (Bl w wr)) (λiv jv _=>(intOf jv).toNat - (intOf iv).toNat)
 case atStart=>exact⟨0,n,R0 _,RL _,rfl,rfl,λq hq=>by omega,λq h1 h2=>by omega,RP _ _⟩
 case round=>
  obtain⟨i,j,ae,aa,rfl,rfl,ab,ac,V⟩:=hrel;have E:=H.out.below V.out;by_cases af:i<j
  ·obtain⟨m,hm⟩:∃m,m=(i+j) / 2:=⟨_,rfl⟩;have ag:i<=m/\m<j:=by omega
   have c0:=E.op m (by omega)
   have c1:=E.num m (by omega)
   have c2:=E.tos m (by omega)
   have c3:=E.pls m (by omega)
   have ah:0<=m/\m<(n:Int):=by omega
   have ai:((i:Int)+j) / 2=m:=by omega
   clear E hm;go_wp2_with fail;apply(U _ _ _ _ _).mono;rintro e w2 ⟨rfl,I⟩;have R:Hid (Below w.heap.size w w2):=V.out.trans (I.mono V.out.size);by_cases G:D m<t
   ·have J:ng (D m) t= -1:=RK G;rw[J];have Z:=Hi G;clear I G J U c0 c1 c2 c3;go_wp2;go_roundw
    case rel=>
     refine⟨m+1,j,by omega,aa,by go_num,rfl,λq hq=>?_,ac.out,R.out⟩
     by_cases e:q=m
     ·subst e;exact Z.out
     have:=HS.out q m (by omega) (by omega);have:=Z.out;omega
    case measure=>simp[intOf];omega
   have J:0<=ng (D m) t:=by unfold ng;rw[RH G];split<;>omega
   have ad: ¬(ng (D m) t<0):=by omega
   generalize ng (D m) t=z at*;have Z:=Hi G;clear I G U c0 c1 c2 c3;go_wp2;go_roundw
   case rel=>
    refine⟨i,m,by omega,by omega,rfl,rfl,ab.out,λq h1 h2=>?_,R.out⟩
    have G:=Z.out;by_cases e:q=m
    ·subst e;omega
    have:=HS.out m q (by omega) h2;omega
   case measure=>simp[intOf];omega
  obtain rfl:i=j:=by omega
  have HA:Hid (∀r,r=decide (i<n/\D i=t)->oc n D t (.returned (.tuple #[Iq i,.bool r]))):=λr E=>⟨i,aa,by rw[E],ab.out,ac.out⟩
  by_cases O:i<n
  ·have c0:=E.op i O;have c1:=E.num i O;have c2:=E.tos i O;have c3:=E.pls i O;have aj:0<=i/\i<n:=by omega
   clear E;go_wp2_with fail;apply(U _ _ _ _ _).mono;rintro e w2 ⟨rfl,I⟩;have R:Hid (Bl w w2):=V.out.trans (I.mono V.out.size);by_cases G:D i=t
   ·have J:ng (D i) t=0:=by unfold ng;rw[RH (by omega),RH (by omega)]
    rw[J];have Y:Hid (true=decide (i<n/\D i=t)):=(Sr ⟨O,G⟩).symm;clear I G J U c0 c1 c2 c3;go_wp2;go_ret2;exact⟨HA.out _ Y.out,R.out⟩
   have J:(ng (D i) t==0)=false:=by
    have:ng (D i) t≠0:=by unfold ng;split<;>first|omega|(split<;>omega)
    simpa using this
   have Y:Hid (false=decide (i<n/\D i=t)):=(Sc (λh=>G h.2)).symm
   generalize ng (D i) t=z at*;clear I G U c0 c1 c2 c3;go_wp2;go_ret2;exact⟨HA.out _ Y.out,R.out⟩
  have Y:Hid (false=decide (i<n/\D i=t)):=(Sc (λh=>O h.1)).symm
  clear E;go_wp2;go_ret2;exact⟨HA.out _ Y.out,V.out⟩
theorem yy {cap} (hc:Cq w D 1 (Sq E n cap)) (h:vw w E n U V Y z) (Z:n<=5000) (G:∀i j,i<j->j<n->z i<z j):
 Calls prog 230 #[Pq D,Iq t] w λe w'=>oc n z t e/\Bl w w':=by
 have I:=Fx (cap:=cap) (t:=t) h Z G;go_enter func230,ntmps230;go_wp2_with fail;apply I.mono;rintro e w2 ⟨⟨i,hi,rfl,J,O⟩,R⟩;have HA:Hid (oc n z t (.returned (.tuple #[Iq i,.bool (decide (i<n/\z i=t))]))/\Below w.heap.size w w2):=⟨⟨i,hi,rfl,J,O⟩,R⟩;generalize decide (i<n/\z i=t)=r at*;go_wp2;go_ret2;exact HA.out
def mU (ins:List ey):(Nat->Int)×(Nat->Int)×(Nat->Int):=(λi=>((ins.getD i cI).op:Nat),λi=>(ins.getD i cI).n,λi=>((ins.getD i cI).pl:Nat))
def Dg (w:World) (A:Nat) (ins:List ey) (k:Nat):Prop:=vw w A ins.length (mU ins).1 (mU ins).2.1 (λi=>if i<k then jW ins (ins.getD i cI) else 0) (mU ins).2.2
theorem vw.put (h:vw w A n D E G I) (R:k<n) (J:z k=x) (O:∀i,i<n->i≠k->z i=G i):vw (w.setCell ⟨A,k*4+2,none⟩ (Iq x)) A n D E z I:=by
 refine⟨λi q=>?_,λi q=>?_,λi q=>?_,λi q=>?_⟩
 ·rw[cN _ _ _ _ _ (by omega)];exact h.op i q
 ·rw[cN _ _ _ _ _ (by omega)];exact h.num i q
 ·by_cases e:i=k
  ·subst e;rw[dc _ _ _ _ (by rw[h.tos i q];rfl),J]
  rw[cN _ _ _ _ _ (by omega),O i q e];exact h.tos i q
 rw[cN _ _ _ _ _ (by omega)];exact h.pls i q
theorem vw.weak (h:vw w z n A D E G) (J:∀i,i<n->q i=E i):vw w z n A D q G:=
 ⟨h.op,h.num,λi I=>by rw[J i I];exact h.tos i I,h.pls⟩
theorem JR {b:LB} {ins} (h:fz b ins) (J:0<=x.n) (h0:i<=ins.length) (O:∀j,j<i->(mU ins).2.2 j<x.pl+3+x.n) (h2:∀j,i<=j->j<ins.length->x.pl+3+x.n<=(mU ins).2.2 j):
 fS ins x=if i<ins.length/\(mU ins).2.2 i=x.pl+3+x.n then some i else none:=by
 have A:∀j,(mU ins).2.2 j=((ins.getD j cI).pl):=λ_=>rfl
 by_cases q:i<ins.length/\(mU ins).2.2 i=x.pl+3+x.n
 ·rw[RK q];unfold fS;rw[TO];refine⟨q.1,?_,λj z=>?_⟩
  ·have e:=q.2;rw[A,RG,RI q.1] at e;simp only[TM] at e;simp;omega
  have e:=O j z;have R:j<ins.length:=by omega
  rw[A,RG,RI R] at e;simp only[TM] at e;simp;omega
 rw[RH q];unfold fS;rw[UY];intro y hy;obtain⟨j,z,rfl⟩:=Tt.1 hy;have D:(mU ins).2.2 j=((ins[j]).pl):=by rw[A,RG,RI z];rfl
 simp only[T4,ne_eq];intro e;by_cases U:j<i
 ·have:=O j U;rw[D] at this;omega
 by_cases G:j=i
 ·subst G;exact q ⟨z,by rw[D];omega⟩
 have E:i<ins.length:=by omega
 have q1:=h2 i (RL _) E;have q2:=mL (λx J=>(h.1 x J).size) h.2 i j (by omega) z
 rw[A] at q1;have q3:(ins.getD j cI).pl=(ins[j]).pl:=by rw[RG,RI z];rfl
 have q4:=(h.1 _ (iA E)).size;omega
theorem Oi {b:LB} {ins} (h:fz b ins):∀i j,i<j->j<ins.length->(mU ins).2.2 i<(mU ins).2.2 j:=λi j q z=>by
 have D:=mL (λx A=>(h.1 x A).size) h.2 i j q z
 have E:cE (ins.getD i cI).op≠0:=(h.1 _ (iA (by omega))).size
 show(((ins.getD i cI).pl:Nat):Int)<((ins.getD j cI).pl:Nat);omega
abbrev zL (wr:World) (q k) (x:ey) (W:World):=Below wr.heap.size wr W/\W.cell? ⟨q,k*4,none⟩=some (.int .i64 (x.op:Nat))/\W.cell? ⟨q,k*4+1,none⟩=some (.int .i64 x.n)/\W.cell? ⟨q,k*4+2,none⟩=some (.int .i64 0)/\W.cell? ⟨q,k*4+3,none⟩=some (.int .i64 (x.pl:Nat))
theorem yz {b:LB} {ins cap} (h:fz b ins) (z:b.length<=4000) (hn:ins.length<=4000) (A:w.heap[G]?=some (.cells #[v0,Sq q ins.length cap,v2] 253 (0,0))) (O:∃cs,w.heap[q]?=some (.cells cs 247 (0,0))) (hr:Dg w q ins 0):
 Calls prog 187 #[Pq G] w λe w'=>e= .returned (.tuple #[])/\Dg w' q ins ins.length/\cK (λb=>b=q) w w':=by
 have p1:w.cell? ⟨G,1,none⟩=some (Sq q ins.length cap):=by rw[RM w G 1 _ _ _ A];rfl
 have av:q≠G:=λe=>by obtain⟨cs,O⟩:=O;rw[e,A] at O;simp at O
 have H:=Hi h;have HC:=Hi A;have HG:=Hi O;have HR:=Hi hr;generalize af:ins.length=n at p1 hn;have HL:=Hi af;go_enter func187,ntmps187;go_wp2_with fail;go_loopw [11] (λkv wr=> ∃k:Nat,k<=n/\kv= Iq k/\Hid (cK (λb=>b=q) w wr)/\Hid (Dg wr q ins k)/\Hid (∀o,wr.frozen? ⟨q,o,none⟩=false)) (λkv _=>n - (intOf kv).toNat)
 case atStart=>exact⟨0,R0 _,rfl,cK.refl _ _,HR.out,λo=>by obtain⟨cs,O⟩:=HG.out;simp[World.frozen?,O]⟩
 case round=>
  obtain⟨k,hk,rfl,HO,I,aw⟩:=hrel;have FR:=Hi aw.out;have am:wr.cell? ⟨G,1,none⟩=some (Sq q n cap):=by
   rw[R1 (w:=w) (a:=⟨G,1,none⟩) (HO.out.block G (cq HC.out) (λe=>av e.symm))];exact p1
  by_cases ax:k<n
  ·have D:k<ins.length:=by rw[HL.out];exact ax
   have c0:=I.out.op k D;have c1:=I.out.num k D;have c2:=I.out.tos k D;have c3:=I.out.pls k D;rw[RH (Nat.lt_irrefl k)] at c2;have aM:(0:Int)<=(k:Int)/\(k:Int)<(n:Int):=by omega
   have ab:=H.out.1 _ (iA D);have ag:=kD ab;have J:=ab.fits;have HX:Hid (∀x,ins.getD k cI=x->ins.getD k cI=x):=λ_ h=>h
   have e0:(mU ins).1 k=((ins.getD k cI).op:Nat):=rfl;have e1:(mU ins).2.1 k=(ins.getD k cI).n:=rfl;have e3:(mU ins).2.2 k=((ins.getD k cI).pl:Nat):=rfl;rw[e0] at c0;rw[e1] at c1;rw[e3] at c3;have ay:Hid (∀(W:World) (t:Int),(∀i,i<ins.length->(if i<k+1 then jW ins (ins.getD i cI) else 0)=if i=k then t else(if i<k then jW ins (ins.getD i cI) else 0))↔jW ins (ins.getD k cI)=t):=λW t=>by
    constructor
    ·intro h;have:=h k D;rw[RK (by omega),RK rfl] at this;exact this
    intro h i hi;by_cases e:i=k
    ·subst e;rw[RK (by omega),RK rfl,h]
    rw[RH e];by_cases E:i<k
    ·rw[RK (by omega),RK E]
    rw[RH (by omega),RH E]
   have az:Hid (∃t,jW ins (ins.getD k cI)=t):=⟨_,rfl⟩;generalize hx:ins.getD k cI=x at*;have W1:=λw=>zK x.op x.n 0 (x.pl:Nat) w
   unfold fV at W1;by_cases R:x.op=15\/x.op=16
   ·have U:decide (x.op=15\/x.op=16)=true:=Sr R;rw[U] at W1;have hf:dt x.op=2:=by rcases R with e|e<;>rw[e]<;>rfl
    have aa:cE x.op=3:=by rcases R with e|e<;>rw[e]<;>rfl
    obtain⟨aA,aN⟩:=ag.jump aa;rw[aa] at J;have W2:∀w,Calls prog 139 #[.agg #[Iq (x.op:Nat),Iq x.n,Iq 0,Iq (x.pl:Nat)]] w λe w'=>e= .returned (Iq 3)/\Bl w w':=λw=>by
     have:=qJ x.op x.n 0 (x.pl:Nat) w;rw[hf] at this;exact this
    have W3:∀W,Bl wr W->Calls prog 230 #[Pq G,Iq ((x.pl:Int)+3+x.n)] W λe w'=>oc n (mU ins).2.2 ((x.pl:Int)+3+x.n) e/\Bl W w':=λW z=>by
     rw[<-HL.out];exact yy (cap:=cap) (by show _=_;rw[z.cell (RN wr _ am),HL.out];exact am) (I.out.below z) (by rw[HL.out];omega) (Oi H.out)
    have HN:Hid (∀(w':World) (i:Nat),Bl wr w'->i<=n->(∀j,j<i->(mU ins).2.2 j<(x.pl:Int)+3+x.n)->(∀j,i<=j->j<n->(x.pl:Int)+3+x.n<=(mU ins).2.2 j)->((i<n/\(mU ins).2.2 i=(x.pl:Int)+3+x.n)->w'.frozen? ⟨q,k*4+2,none⟩=false/\w'.cell? ⟨q,k*4+2,none⟩=some (Iq 0)/\cK (λb=>b=q) w (w'.setCell ⟨q,k*4+2,none⟩ (Iq i))/\Dg (w'.setCell ⟨q,k*4+2,none⟩ (Iq i)) q ins (k+1))/\(¬(i<n/\(mU ins).2.2 i=(x.pl:Int)+3+x.n)->cK (λb=>b=q) w w'/\Dg w' q ins (k+1))):=λw' i z hi h1 h2=>by
     have V:=JR H.out aA (x:=x) (i:=i) (by rw[HL.out];exact hi) h1 (by rw[HL.out];exact h2)
     rw[HL.out] at V;have ac:jW ins x=((fS ins x).getD 0:Nat):=by unfold jW;rw[RK R]
     have an:cK (λb=>b=q) w w':=HO.out.trans (cK.of_below (F:=λ_=>False) z) (λ_ _ h=>h) (λ_ _ h=>h.elim)
     have ao:q<wr.heap.size:=RN wr _ c0;refine⟨λA=>?_,λA=>?_⟩
     ·rw[RK A] at V;rw[V] at ac;have au:jW ins x=(i:Int):=ac;obtain⟨cs,aL⟩:=HG.out;have aB:w'.frozen? ⟨q,k*4+2,none⟩=false:=by
       have aC:wr.frozen? ⟨q,k*4+2,none⟩=false:=FR.out _;rw[z.frozen (p:=⟨q,k*4+2,none⟩) ao];exact aC
      refine⟨aB,by rw[z.cell (p:=⟨q,k*4+2,none⟩) ao];exact c2,an.setCell (.inl rfl) _,?_⟩
      refine(I.out.below z).put D (by rw[RK (by omega),hx];exact au) (λi' aD aO=>?_)
      by_cases E:i'<k
      ·rw[RK (by omega),RK E]
      rw[RH (by omega),RH E]
     rw[RH A] at V;rw[V] at ac;refine⟨an,(I.out.below z).weak (λi' aD=>?_)⟩
     by_cases e:i'=k
     ·subst e;rw[RK (by omega),RH (by omega),hx,ac];rfl
     by_cases E:i'<k
     ·rw[RK (by omega),RK E]
     rw[RH (by omega),RH E]
    have aE:=RN wr ⟨q,k*4,none⟩ c0;have ap:Hid (∀(w':World) (v:Value),Bl wr w'->(∀o,w'.frozen? ⟨q,o,none⟩=false)/\ ∀o,(w'.setCell ⟨q,k*4+2,none⟩ v).frozen? ⟨q,o,none⟩=false):=λw' v z=>by
     have h1:∀o,w'.frozen? ⟨q,o,none⟩=false:=λo=>by rw[z.frozen (p:=⟨q,o,none⟩) aE];exact FR.out o
     exact⟨h1,λo=>by simpa using h1 o⟩
    have KP:Hid (∀W W',(zL wr q k x W)->Bl W W'->(zL wr q k x W')):=λW W' hS z=>by
     obtain⟨s0,s1,s2,s3,s4⟩:=hS;have ad:=RN W ⟨q,k*4,none⟩ s1;exact⟨s0.trans (z.mono s0.size),by rw[z.cell (p:=⟨q,k*4,none⟩) ad];exact s1,by rw[z.cell (p:=⟨q,k*4+1,none⟩) ad];exact s2,by rw[z.cell (p:=⟨q,k*4+2,none⟩) ad];exact s3,by rw[z.cell (p:=⟨q,k*4+3,none⟩) ad];exact s4⟩
    have KD:Hid (∀W:World,(zL wr q k x W)->(zL wr q k x W.drew)):=λW hS=>⟨hS.1.drew,hS.2⟩
    have aq:zL wr q k x wr:=⟨RP _ _,c0,c1,c2,c3⟩;have aP:x.pl<=4000:=by omega
    have aQ:IntKind.i64.wrap ((x.pl:Int)+3)=(x.pl:Int)+3:=by rw[Ss];omega
    have aR:IntKind.i64.wrap ((x.pl:Int)+3+x.n)=(x.pl:Int)+3+x.n:=by rw[Ss];omega
    go_wp2_with (
     go_at_call 138;apply(W1 _).mono;rintro e w2 ⟨rfl,Y⟩;have aF:=KP.out _ _ aq Y;clear Y)
    go_region_held3 (zL wr q k x) (first|with_reducible exact KD.out _ (by assumption)|with_reducible exact KP.out _ _ (by assumption) (by assumption)|with_reducible assumption|go_keep)
     (first
      |(go_at_call 139;refine(W2 _).mono ?_;rintro e w3 ⟨rfl,aG⟩)
      |(go_at_call 230;refine(W3 _ (by exact UB (by assumption))).mono ?_;rintro e w4 ⟨⟨j,aH,rfl,ah,ai⟩,aI⟩;generalize ar:decide (j<n/\(mU ins).2.2 j=(x.pl:Int)+3+x.n)=r;have ae:Hid _:=ar;clear ar))
    rename_i hHeld;obtain⟨a1,a2⟩:=HN.out w4 j hHeld.1 aH ah ai;obtain⟨z1,z2⟩:=ap.out w4 (Iq j) hHeld.1;have aJ:=Hi z1;have aK:=Hi z2;by_cases A:j<n/\(mU ins).2.2 j=(x.pl:Int)+3+x.n
    ·have Z:decide (j<n/\(mU ins).2.2 j=(x.pl:Int)+3+x.n)=true:=Sr A;obtain⟨b1,b2,b3,b4⟩:=a1 A;have aj:=Hi b3;have ak:=Hi b4;obtain rfl:r=_:=ae.out.symm.trans Z;go_wp2;go_roundw
     case rel=>exact⟨k+1,by omega,by go_num,aj.out,ak.out,aK.out⟩
     case measure=>simp[intOf];omega
    have Z:decide (j<n/\(mU ins).2.2 j=(x.pl:Int)+3+x.n)=false:=Sc A;obtain⟨b3,b4⟩:=a2 A;have aj:=Hi b3;have ak:=Hi b4;obtain rfl:r=_:=ae.out.symm.trans Z;go_wp2;go_roundw
    case rel=>exact⟨k+1,by omega,by go_num,aj.out,ak.out,aJ.out⟩
    case measure=>simp[intOf];omega
   have U:decide (x.op=15\/x.op=16)=false:=Sc R;rw[U] at W1;have HN:Hid (∀w',Bl wr w'->cK (λb=>b=q) w w'/\Dg w' q ins (k+1)/\ ∀o,w'.frozen? ⟨q,o,none⟩=false):=λw' z=>by
    refine⟨HO.out.trans (cK.of_below (F:=λ_=>False) z) (λ_ _ h=>h) (λ_ _ h=>h.elim),?_,λo=>by rw[z.frozen (p:=⟨q,o,none⟩) (show q<wr.heap.size from RN wr ⟨q,k*4,none⟩ c0)];exact FR.out o⟩
    refine(I.out.below z).weak (λi hi=>?_)
    by_cases e:i=k
    ·subst e;rw[RK (by omega),RH (by omega),hx];unfold jW;rw[RH R]
    by_cases E:i<k
    ·rw[RK (by omega),RK E]
    rw[RH (by omega),RH E]
   go_wp2_with (
    go_at_call 138;apply(W1 _).mono;rintro e w2 ⟨rfl,Y⟩;have HU:=Hi (HN.out w2 Y);clear Y)
   exact⟨⟨k+1,by omega,by go_num,HU.out.1,HU.out.2.1,HU.out.2.2⟩,by simp[intOf];omega⟩
  obtain rfl:k=n:=by omega
  go_wp2;go_end0;exact⟨rfl,I.out,HO.out⟩
def qc (b:List UInt8):Prop:=b.length<4\/4000<b.length\/cy b 0≠71\/24<cy b 1
def JS (b:List UInt8):Decidable (qc b):=by unfold qc;infer_instance
def Dh (b:List UInt8):Option (List ey):=@ite _ (qc b) (JS b) none (pj (b.length+1) b 3)
def tB (b:List UInt8) (r:Option (List ey)) (w:World) (e:Ending) (w':World):Prop:=
 (match r with
  |none=> ∃v,e= .returned (.tuple #[v,.bool false])
  |some ins=> ∃z D cap,e= .returned (.tuple #[Pq z,.bool true])/\k7 w' z D cap (cy b 2) (cy b 1) ins)/\Below w.heap.size w w'
def DN (l:List ey):List Value:=l.flatMap λx=>[Iq (x.op:Nat),Iq x.n,Iq 0,Iq (x.pl:Nat)]
theorem AW (l:List ey):∀i,i<l.length->(DN l)[i*4]?=some (Iq ((l.getD i cI).op))/\(DN l)[i*4+1]?=some (Iq (l.getD i cI).n)/\(DN l)[i*4+2]?=some (Iq 0)/\(DN l)[i*4+3]?=some (Iq ((l.getD i cI).pl)):=by
 induction l with
 |nil=>intro i z;simp at z
 |cons x r ih=>
  intro i z;have e:DN (x::r)=Value.int .i64 x.op:: Iq x.n:: Iq 0:: Iq x.pl::DN r:=rfl;cases i with
  |zero=>rw[e];exact⟨rfl,rfl,rfl,rfl⟩
  |succ i=>
   obtain⟨a,b,c,d⟩:=ih i (by simpa using z)
   rw[e,show(i+1)*4=i*4+1+1+1+1 by omega,show i*4+1+1+1+1+1=i*4+1+1+1+1+1 by rfl,show i*4+1+1+1+1+2=i*4+2+1+1+1+1 by omega,show i*4+1+1+1+1+3=i*4+3+1+1+1+1 by omega]
   simp only[RX,R9];exact⟨a,b,c,d⟩
theorem Mz (l) (x):DN (l++[x])=DN l++[Iq x.op,Iq x.n,Iq 0,Iq x.pl]:=by simp[DN]
theorem QW {w:World} {cap} {ins:List ey} (h:w.ownsRow base 247 4 (Sq E ins.length cap) ins.length (DN ins)):Dg w E ins 0:=by
 have D:∀j,j<ins.length*4->w.cell? ⟨E,j,none⟩=(DN ins)[j]?:=λj G=>h.cellAt j G
 refine⟨λi z=>?_,λi z=>?_,λi z=>?_,λi z=>?_⟩
 ·rw[D _ (by omega)];exact(AW ins i z).1
 ·rw[D _ (by omega)];exact(AW ins i z).2.1
 ·rw[D _ (by omega),RH (by omega)];exact(AW ins i z).2.2.1
 rw[D _ (by omega)];exact(AW ins i z).2.2.2
structure O1 (w wr) (b) (a) (D) (pre) (v):Prop where
 bel:Below w.heap.size w wr
 blk:wr.heap[w.heap.size]?=some (.cells #[Iq (cy b 2:Nat),v,Iq (cy b 1:Nat)] 253 (0,0))
 row:wr.ownsRow w.heap.size 247 4 v pre.length (DN pre)
 dcd:∃f,b.length<a+f/\D=(pj f b a).map (pre++ ·)
 len:pre.length+3<=a
 lo:a<=b.length
theorem O1.at_ {b:LB} (h:O1 w wr b a D pre v) (h3:Bl wr z):z.heap[w.heap.size]?=some (.cells #[Iq (cy b 2),v,Iq (cy b 1)] 253 (0,0))/\z.ownsRow w.heap.size 247 4 v pre.length (DN pre)/\Bl w z/\w.heap.size<wr.heap.size:=
 ⟨(h3.block _ (cq h.blk)).trans h.blk,cH h.row h3,h.bel.trans (h3.mono h.bel.size),cq h.blk⟩
theorem uw {w:World} {xs cs:List Value} (h:w.ownsRow base 247 4 v n xs) (E:w.heap[z]?=some (.cells cs.toArray 253 (0,0))):some z≠v.ownBlock:=λe=>by
 obtain⟨G,D⟩:=cM h e.symm;rw[E] at D;simp at D
theorem O1.next {b:LB} (h:O1 w wr b a D pre v) (h3:Bl wr J) (z:(J.alloc U).grownBy w4 v.ownBlock) (G:w4.ownsRow w.heap.size 247 4 R (pre.length+1) (DN pre++[Iq x.op,Iq x.n,Iq 0,Iq x.pl]))
 (hd:∃f,b.length<E+f/\D=(pj f b E).map ((pre++[x])++ ·)) (ha:a+1<=E) (Y:E<=b.length):O1 w (w4.setCell ⟨w.heap.size,1,none⟩ R) b E D (pre++[x]) R:=by
 obtain⟨Z,q2,q3,q4⟩:=h.at_ h3;have hs:=h3.size;have aa:=uw q2 Z;have I:=(z.block _ (by rw[RW];omega) aa).trans ((RV J U _ (by omega)).trans Z)
 have V:=uw G I;refine⟨?_,?_,?_,hd,by have:=h.len;simp;omega,Y⟩
 ·have O:Bl w (J.alloc U):=q3.alloc q3.size _;exact(U6 O z O.size (λk hk=>(q2.lt k hk).1)).setCell (by simp) _
 ·rw[R3 w4 _ 1 _ _ _ I];rfl
 rw[RT,Mz];exact Tn G (λe=>V e.symm) _
theorem Di:(prog.info? 247).map (λi=>(i.zero,i.size,i.bytes))=some (some (.agg #[Iq 0,Iq 0,Iq 0,Iq 0]),4,32):=by kernel_rfl
theorem JT {b:LB} (z:qc b) (w):Calls prog 142 #[S b] w λe w'=>tB b none w e w':=by
 have D:Hid (∀v,tB b none w (.returned (.tuple #[v,.bool false])) w):=λv=>⟨⟨v,rfl⟩,RP _ _⟩
 by_cases h1:4000<b.length
 ·have O:4000<b.length:=by omega
  go_enter func142,ntmps142;go_wp2;go_ret2;exact D.out _
 by_cases h2:b.length<4
 ·have R:b.length<=3:=by omega
  go_enter func142,ntmps142;go_wp2;go_ret2;exact D.out _
 have E:0<(ByteArray.mk b.toArray).size:=by show 0<b.length;omega
 have G:1<(ByteArray.mk b.toArray).size:=by show 1<b.length;omega
 have I:=rZ b 0 E;have b1:=rZ b 1 G;have U:3<b.length:=by omega
 have V: ¬(4000<b.length):=by omega
 by_cases h3:cy b 0=71
 ·have h4:24<cy b 1:=by
   unfold qc at z;omega
  have Y:24<(cy b 1):=by omega
  rw[h3] at I;generalize cy b 1=y at*;go_enter func142,ntmps142;go_wp2;go_ret2;exact D.out _
 have Z:((cy b 0) !=71)=true:=by simp;omega
 generalize cy b 0=x at*;go_enter func142,ntmps142;go_wp2;go_ret2;exact D.out _
theorem Fy {b:LB} (hb: ¬qc b) (w:World):Calls prog 142 #[S b] w λe w'=>tB b (pj (b.length+1) b 3) w e w':=by
 have hb1:4<=b.length/\b.length<=4000/\cy b 0=71/\cy b 1<=24:=by unfold qc at hb;omega
 obtain⟨hl0,hl9,h71,h24⟩:=hb1;have hs0:0<(ByteArray.mk b.toArray).size:=by show 0<b.length;omega
 have hs1:1<(ByteArray.mk b.toArray).size:=by show 1<b.length;omega
 have hs2:2<(ByteArray.mk b.toArray).size:=by show 2<b.length;omega
 have b0:=rZ b 0 hs0;have b1:=rZ b 1 hs1;have b2:=rZ b 2 hs2;rw[h71] at b0;have hc2:=fq b 2;have hl1:(3:Int)<(b.length:Int):=by omega
 have hl2: ¬((4000:Int)<(b.length:Int)):=by omega
 generalize hD:pj (b.length+1) b 3=D;have HI0:Hid (O1 w (w.alloc (.cells #[Iq (cy b 2:Nat),.slice none 0 0,Iq (cy b 1:Nat)] 253)).drew b 3 D [] (.slice none 0 0)):=
  ⟨((RP _ _).alloc (RL _) _).drew,RO w _,SC _ _ _ _,⟨b.length+1,by omega,by rw[hD];cases D<;>rfl⟩,by simp,by omega⟩
 have HD0:=Hi hD;clear hb hD h71;go_enter func142,ntmps142;go_wp2;go_region;go_wp2;generalize (w.alloc (.cells #[Iq (cy b 2:Nat),.slice none 0 0,Iq (cy b 1:Nat)] 253)).drew=W0 at*;go_loopw [5] (λav wr=> ∃a:Nat,a<=b.length/\av= Iq a/\Hid (∃pre v,O1 w wr b a D pre v)) (λav _=>b.length - (intOf av).toNat)
 case atStart=>exact⟨3,by omega,rfl,_,_,HI0.out⟩
 case round=>
  obtain⟨a,ha,rfl,HI⟩:=hrel;obtain⟨pre,v,hI⟩:=HI.out;by_cases hlt:a<b.length
  ·have hsa:a<(ByteArray.mk b.toArray).size:=hlt;have ba:=rZ b a hsa;have ho:=fq b a;have hf:=mh (cy b a);have W1:=λw=>qJ (cy b a) 0 0 (a:Nat) w
   unfold fV at W1;have HSH:Hid (b.length<a+1+dt (cy b a)-> ¬Mw b a):=λh=>Fw h
   have HMA:Hid (a+1+dt (cy b a)<=b.length->(nE (cy b a) (vu b a) (cy b 2)=true↔Mw b a)):=λh=>Oh h
   have HIN:Hid (Mw b a->pR b a=⟨cy b a,vu b a,a⟩/\cE (cy b a)=1+dt (cy b a)):=λh=>De h
   have HDN:Hid (¬Mw b a->D=none):=λhno=>by
    obtain⟨f,h1,h2⟩:=hI.dcd;obtain⟨f',rfl⟩:∃f',f=f'+1:=⟨f - 1,by omega⟩
    rw[h2,Dd hlt,RH hno];rfl
   have HDS:Hid (Mw b a-> ∃f,b.length<(a+(1+dt (cy b a)))+f/\D=(pj f b (a+(1+dt (cy b a)))).map ((pre++[⟨cy b a,vu b a,a⟩])++ ·)):=λhok=>by
    obtain⟨f,h1,h2⟩:=hI.dcd;obtain⟨f',rfl⟩:∃f',f=f'+1:=⟨f - 1,by omega⟩
    obtain⟨q1,q2⟩:=De hok;refine⟨f',by omega,?_⟩
    rw[h2,Dd hlt,RK hok,q1,q2];cases pj f' b (a+(1+dt (cy b a)))<;>simp
   have hnumb:vu b a=fg (eO (cut b (a+1) (a+1+dt (cy b a))) 0 (dt (cy b a))):=by rw[Mv _ _ _ _ (by omega)];rfl
   have W2:=λw=>Dc (cut b (a+1) (a+1+dt (cy b a))) (by unfold cut;simp;omega) w
   have hBl:Hid (∀w',Bl wr w'->Bl w w'):=λw' h=>hI.bel.trans (h.mono hI.bel.size)
   clear HI;generalize hok:cy b a=o at*;generalize dt o=f at*;by_cases hsh:b.length<a+1+f
   ·have HDf:Hid (D=none):=HDN.out (HSH.out hsh);clear HSH HMA HIN HDN HDS W2 hnumb hI;go_wp2_with fail;apply(W1 _).mono;rintro e w2 ⟨rfl,hb2⟩;have HU:Hid (Bl w w2):=hBl.out w2 (((RP wr.heap.size wr).alloc (RL _) _).trans (hb2.mono (by simp)))
    clear hb2 W1;go_wp2;go_ret2;rw[HDf.out];exact⟨⟨_,rfl⟩,HU.out⟩
   obtain⟨w1,hw1⟩:∃w1,wr.alloc (.cells #[Iq (o:Nat),Iq 0,Iq 0,Iq (a:Nat)] 247)=w1:=⟨_,rfl⟩;have hb1:Bl wr w1:=by rw[<-hw1];exact(RP _ _).alloc (RL _) _
   have hk1:w1.heap[wr.heap.size]?=some (.cells #[Iq (o:Nat),Iq 0,Iq 0,Iq (a:Nat)] 247 (0,0)):=by rw[<-hw1];exact RO wr _
   have HW1:=Hi hw1;have HI2:=Hi hI;have hcut:({data:=b.toArray}:ByteArray).extract (a+1) (a+1+f)=⟨(cut b (a+1) (a+1+f)).toArray⟩:=gC _ _ _;have hclen:(cut b (a+1) (a+1+f)).length=f:=by rw[ql _ _ _ (by omega)];omega
   rw[hclen] at W2;rw[<-hnumb] at W2;have hsl:(0:Int)<=(a:Int)+1/\(a:Int)+1<=(a:Int)+1+f/\(a:Int)+1+f<=(b.length:Int):=by omega
   have hnsh: ¬((b.length:Int))<(a:Int)+((1+f:Nat):Int):=by omega
   generalize vu b a=m at*;clear hnumb hI hw1;go_wp2_with fail;rw[HW1.out];apply(W1 _).mono;rintro e w2 ⟨rfl,hb2⟩;have hk2:=(hb2.block _ (cq hk1)).trans hk1;have hcc:=λj=>RM w2 _ j _ _ _ hk2
   have d0:=hcc 0;have d1:=hcc 1;have d2:=hcc 2;have d3:=hcc 3;have df:w2.frozen? ⟨wr.heap.size,1,none⟩=false:=by simp[World.frozen?,hk2]
   have HB2:=Hi (hb1.trans (hb2.mono hb1.size));have HK2:=Hi hk2;clear hcc hb2 hk2 hb1 hk1 W1;go_wp2_with fail;rw[show a+(1+f)=a+1+f by omega,hcut]
   apply(W2 _).mono;rintro e w2' ⟨rfl,rfl⟩;clear W2;have hS3:(w2'.setCell ⟨wr.heap.size,1,none⟩ (Iq m)).heap[wr.heap.size]?=some (.cells #[Iq (o:Nat),Iq m,Iq 0,Iq (a:Nat)] 247 (0,0)):=by rw[R3 w2' _ 1 _ _ _ HK2.out];rfl
   have hB3:Bl wr (w2'.setCell ⟨wr.heap.size,1,none⟩ (Iq m)):=HB2.out.setCell (by simp) _
   have hC3:(w2'.setCell ⟨wr.heap.size,1,none⟩ (Iq m)).cell? ⟨w.heap.size,0,none⟩=some (Iq (cy b 2:Nat)):=by rw[RM _ _ 0 _ _ _ (HI2.out.at_ hB3).1];rfl
   have hE3:=λj=>RM _ _ j _ _ _ hS3
   have e0:=hE3 0;have e1:=hE3 1;have e2:=hE3 2;have e3:=hE3 3;have W3:=JO o m 0 (a:Nat) hC3;unfold fV at W3;have HS3:=Hi hS3;have HB3:=Hi hB3;clear hS3 hB3 hE3 hC3;go_wp2_with fail;apply W3.mono;rintro e w3 ⟨rfl,hb3⟩;have hk3:=(hb3.block _ (cq HS3.out)).trans HS3.out;have hB3:=HB3.out.trans (hb3.mono HB3.out.size);clear W3 e0 e1 e2 e3 d0 d1 d2 d3 df hb3;have hma:=HMA.out (by omega)
   generalize hmm:nE o m (cy b 2)=r at*;clear hmm;cases r with
   |false=>
    have HDf:Hid (D=none):=HDN.out (λh=>by have:=hma.2 h;cases this)
    have HU:Hid (Bl w w3):=hBl.out w3 hB3;clear hk3 hB3 hma HSH HMA HIN HDN HDS;go_wp2;go_ret2;rw[HDf.out];exact⟨⟨_,rfl⟩,HU.out⟩
   |true=>
    obtain⟨q1,q2,q3,q4⟩:=HI2.out.at_ hB3;obtain⟨va,vcap,rfl⟩:∃va vcap,v= .slice va pre.length vcap:=by
     rcases q2.2 with⟨h,h0⟩|⟨g,c,_,h,_⟩
     ·exact⟨none,0,by rw[h,h0]⟩
     exact⟨_,_,h⟩
    have hcc:=λj=>RM w3 _ j _ _ _ hk3
    have d0:=hcc 0;have d1:=hcc 1;have d2:=hcc 2;have d3:=hcc 3;have c1:w3.cell? ⟨w.heap.size,1,none⟩=some (.slice va pre.length vcap):=by rw[RM w3 _ 1 _ _ _ q1];rfl
    have cf:w3.frozen? ⟨w.heap.size,1,none⟩=false:=by simp[World.frozen?,q1]
    have hne:=uw (cs:=[_,_,_]) q2 q1;obtain⟨i0,hi,hz⟩:=Su.1 Di;simp only[Sj] at hz;obtain⟨hz0,hz1,hz2⟩:=hz;have hplen:pre.length<=4000:=by have:=HI2.out.len;omega
    have hcp3:w.heap.size<w3.heap.size:=by have:=hB3.size;omega
    have hnews:∀j u,[Value.int .i64 (o:Nat),Iq m,Iq 0,Iq (a:Nat)][j]?=some u->((w3.alloc (.cells #[Iq (o:Nat),Iq m,Iq 0,Iq (a:Nat)] 247)).drew).cell? ((⟨w3.heap.size,0,none⟩:Addr).add j)=some u:=World.news_of_block (w:=(w3.alloc (.cells #[Iq (o:Nat),Iq m,Iq 0,Iq (a:Nat)] 247)).drew) (RO w3 _);have hone:∀u∈[Value.int .i64 (o:Nat),Iq m,Iq 0,Iq (a:Nat)],u.oneCell'=true:=by
     intro u hu;simp at hu;rcases hu with rfl|rfl|rfl|rfl<;>rfl
    have hown3:((w3.alloc (.cells #[Iq (o:Nat),Iq m,Iq 0,Iq (a:Nat)] 247)).drew).ownsRow w.heap.size 247 4 (.slice va pre.length vcap) pre.length (DN pre):=q2.alloc _;have hfar:∀w4,((w3.alloc (.cells #[Iq (o:Nat),Iq m,Iq 0,Iq (a:Nat)] 247)).drew).grownBy w4 (Value.slice va pre.length vcap).ownBlock->w4.cell? ⟨w.heap.size,1,none⟩=some (.slice va pre.length vcap)/\w4.frozen? ⟨w.heap.size,1,none⟩=false:=λw4 hg=>by
     have e:w4.heap[w.heap.size]?=w3.heap[w.heap.size]?:=(hg.block _ (by show w.heap.size<(w3.alloc _).heap.size;rw[RW];omega) hne).trans (RV w3 _ _ hcp3)
     exact⟨by rw[R1 (a:=⟨w.heap.size,1,none⟩) e];exact c1,by rw[SO (a:=⟨w.heap.size,1,none⟩) e];exact cf⟩
    have HB3b:=Hi hB3;have hd':=HDS.out (hma.1 rfl);have HD':=Hi hd';clear q1 q2 q3 hcc hk3 hB3 hma HSH HMA HIN HDN HDS hd';go_wp2;go_region_law
     ((refine step_append_lies _ (by rfl) _ _ _ (by rfl) w.heap.size 247 i0 _ 4 32 underlying192 hi hz0 hz1 hz2 (by rfl) (by decide) (.slice va pre.length vcap) pre.length (DN pre) (by rfl) hown3 ⟨w3.heap.size,0,none⟩ 1 1 [Iq (o:Nat),Iq m,Iq 0,Iq (a:Nat)] (by rfl) (by rfl) hnews hone (by decide) (by unfold maxLen;omega) (by omega) (by simp;omega) (w3.heap.size+1) (by simp) ?_;intro gg cap4 w4 hown4 hgrow4 hat4 hlt4;obtain⟨g1,g2⟩:=hfar w4 hgrow4))
    all_goals
     have HN:Hid (∃pre' v',O1 w (w4.setCell ⟨w.heap.size,1,none⟩ (Sq gg (pre.length+1) cap4)) b (a+(1+f)) D pre' v'):=⟨_,_,HI2.out.next HB3b.out (x:=⟨o,m,a⟩) ⟨hgrow4.os,hgrow4.tape,hgrow4.output,hgrow4.size,hgrow4.block⟩ hown4 HD'.out (by omega) (by omega)⟩
     clear hown4 hgrow4 hat4 hlt4 g1 g2 hfar hown3 hone hnews d0 d1 d2 d3 c1 cf;go_wp2;go_roundw
     case rel=>exact⟨a+(1+f),by omega,by go_num,HN.out⟩
     case measure=>simp[intOf];omega
  obtain rfl:a=b.length:=by omega
  have hDp:D=some pre:=by
   obtain⟨f,h1,h2⟩:=hI.dcd;obtain⟨f',rfl⟩:∃f',f=f'+1:=⟨f - 1,by omega⟩
   rw[h2,pj,RK (RL _)];simp
  have hcok0:=wU _ (HD0.out.trans hDp) (by omega)
  have hcok:fz b pre:=⟨hcok0.1,hcok0.2⟩;have hp0:0<pre.length:=by
   rcases UU pre.length with h|h
   ·have e:pre=[]:=SI h;have hbh:=hcok.2;rw[e] at hbh;have:3=b.length:=hbh;omega
   exact h
  have hplen:pre.length<=4000:=by have:=hI.len;omega
  obtain⟨gi,cap,rfl,_,_⟩:=hI.row.form hp0;have hgb:=cM hI.row (k:=gi) rfl;have W4:=yz hcok hl9 hplen hI.blk hgb (QW hI.row);have HA:Hid (∀w',Dg w' gi pre pre.length->cK (λb=>b=gi) wr w'->tB b D w (.returned (.tuple #[Pq w.heap.size,.bool true])) w'):=λw' h1 h2=>by
   have hbl:=hI.bel.trans (h2.below hI.bel.size (λk _ hk=>by omega))
   have hgc:w.heap.size≠gi:=λe=>by
    obtain⟨cs,hgb⟩:=hgb;rw[<-e,hI.blk] at hgb;simp at hgb
   rw[hDp];refine⟨⟨w.heap.size,gi,cap,rfl,⟨(h2.block _ (cq hI.blk) hgc).trans hI.blk,h1.op,h1.num,λi hi=>?_,h1.pls⟩⟩,hbl⟩
   have:=h1.tos i hi;rw[RK hi] at this;exact this
  clear hI HI hcok hcok0 hp0 hDp hgb;go_wp2_with fail;apply W4.mono;rintro e w2 ⟨rfl,hj,ho⟩;have HU:=Hi (HA.out w2 hj ho);clear hj ho W4 HA;go_wp2;go_ret2;exact HU.out
theorem Fz (b:LB) (w:World):Calls prog 142 #[S b] w λe w'=>tB b (Dh b) w e w':=by
 unfold Dh;by_cases h:qc b
 ·rw[RK h];exact JT h w
 rw[RH h];exact Fy h w
structure L3 where
 op:Nat
 n:Int
 tj:Nat
def gk:L3:=⟨0,0,0⟩
def er (x:jU):L3:=⟨x.op,x.n,x.to⟩
def Bh (l:List L3):List Value:=l.flatMap λx=>[Iq (x.op:Nat),Iq x.n,Iq (x.tj:Nat),Iq 0]
theorem Oj (l:List L3):(Bh l).length=l.length*4:=by
 induction l with
 |nil=>rfl
 |cons x r ih=>simp[Bh] at ih⊢;omega
theorem MA (l) (x):Bh (l++[x])=Bh l++[Iq x.op,Iq x.n,Iq x.tj,Iq 0]:=by simp[Bh]
theorem MB (l:List L3):∀i,i<l.length->(Bh l)[i*4]?=some (Iq ((l.getD i gk).op))/\(Bh l)[i*4+1]?=some (Iq (l.getD i gk).n)/\(Bh l)[i*4+2]?=some (Iq ((l.getD i gk).tj))/\(Bh l)[i*4+3]?=some (Iq 0):=by
 induction l with
 |nil=>intro i z;simp at z
 |cons x r ih=>
  intro i z;have e:Bh (x::r)= Iq x.op:: Iq x.n:: Iq x.tj:: Iq 0::Bh r:=rfl;cases i with
  |zero=>rw[e];exact⟨rfl,rfl,rfl,rfl⟩
  |succ i=>
   obtain⟨a,b,c,d⟩:=ih i (by simpa using z)
   have D:(i+1)*4=i*4+4:=by omega
   rw[e,D];simp only[R9];exact⟨a,b,c,d⟩
def od (l:List L3) (j T:Nat):List L3:=l.set j ⟨(l.getD j gk).op,(l.getD j gk).n,T⟩
theorem oe (l:List L3) (j T):(od l j T).length=l.length:=by simp[od]
theorem Ok (h:j<l.length) (T):(Bh l).set (j*4+2) (Iq (T:Nat))=Bh (od l j T):=by
 induction l generalizing j with
 |nil=>simp at h
 |cons x r ih=>
  have e:∀x r,Bh (x::r)= Iq x.op:: Iq x.n:: Iq x.tj:: Iq 0::Bh r:=λ_ _=>rfl
  cases j with
  |zero=>rfl
  |succ j=>
   have z:(j+1)*4+2=(j*4+2)+4:=by omega
   have D:od (x::r) (j+1) T=x::od r j T:=rfl;rw[D,e,e,<-ih (by simpa using h),z]
   rfl
structure lE (w:World) (lp:Nat) (jmp) (v) (l) (dep cells):Prop where
 blk:w.heap[lp]?=some (.cells #[.bool jmp,v,Iq (dep:Nat),Iq (cells:Nat)] 194 (0,0))
 row:w.ownsRow 0 247 4 v l.length (Bh l)
theorem lE.ne {w:World} {dep cells} (h:lE w lp jmp v l dep cells):v.ownBlock≠some lp:=λD=>by
 obtain⟨G,E⟩:=cM h.row D;have z:=h.blk;rw[E] at z;simp at z
theorem lE.only {dep cells} (h:lE w lp jmp v l dep cells) (z:cK F w w') (D:∀b,(b=lp\/v.ownBlock=some b)-> ¬F b):lE w' lp jmp v l dep cells:=
 ⟨(z.block lp (cq h.blk) (D lp (.inl rfl))).trans h.blk,cO h.row (λk E=>z.block k (h.row.lt k E).2 (D k (.inr E)))⟩
def dH (w w':World) (lp:Nat) (jmp:Bool) (v:Value) (l:List L3) (dep cells:Nat):Prop:=
 ∃E,lE w' lp jmp E l dep cells/\cK (λb=>b=lp\/v.ownBlock=some b) w w'/\ ∀b,E.ownBlock=some b->v.ownBlock=some b\/w.heap.size<=b
theorem jR {dep cells} (G:Nat) (n) (h:lE w lp jmp v l dep cells) (hl:l.length<=5000):
 Calls prog 93 #[Pq lp,Iq G,Iq n] w λe w'=>e= .returned (Iq l.length)/\dH w w' lp jmp v (l++[⟨G,n,0⟩]) dep cells:=by
 have ab:w.cell? ⟨lp,1,none⟩=some v:=by rw[RM w lp 1 _ _ _ h.blk];rfl
 have ac:w.frozen? ⟨lp,1,none⟩=false:=by simp[World.frozen?,h.blk]
 have ad:=cq h.blk;have R:=h.ne;obtain⟨a,cap,rfl⟩:∃a cap,v= .slice a l.length cap:=by
  obtain⟨hl,h⟩:=h.row;rcases h with⟨rfl,h0⟩|⟨g,cap,ah,rfl,Z,hg,h1,h2,h3,h4⟩
  ·exact⟨none,0,by rw[h0]⟩
  exact⟨_,_,rfl⟩
 obtain⟨i0,hi,hz⟩:=Su.1 Di;simp only[Sj] at hz;obtain⟨ae,af,ag⟩:=hz;have HR:Hid (w.ownsRow 0 247 4 (.slice a l.length cap) l.length (Bh l)):=h.row;have HP:Hid (w.heap[lp]?=some (.cells #[.bool jmp,.slice a l.length cap,Iq dep,Iq cells] 194 (0,0))):=h.blk;have HN:Hid ((Value.slice a l.length cap).ownBlock≠some lp):=R;go_enter func93,ntmps93;go_wp2_with (
  at_builtin;go_must (refine wpList_append_lies _ (by rfl) _ _ 192 (by rfl) 0 247 i0 (.agg #[Iq 0,Iq 0,Iq 0,Iq 0]) 4 32 underlying192 hi ae af ag (by rfl) (by decide) _ _ _ (by rfl) (HR.out.alloc _) ⟨w.heap.size,0,none⟩ 1 1 [Iq G,Iq n,Iq 0,Iq 0] (by rfl) (by rfl) (World.news_of_block (RO w _)) (λx hx=>by simp at hx;rcases hx with rfl|rfl|rfl<;>rfl) (by decide) (by unfold maxLen;omega) (by omega) (by simp) _ rfl ?_)
  intro gg z J E D I aa;have O:=(D.block _ (by simp;omega) (λe=>HN.out e.symm)).trans (RV w _ _ ad)
  have e1:=(R1 O).trans ab;have e2:=(SO O).trans ac;have U:=Hi O;have V:=Hi E;have Y:=Hi D;clear O E D)
 have HL:Hid (dH w (J.setCell ⟨lp,1,none⟩ (Sq gg (l.length+1) z)) lp jmp (.slice a l.length cap) (l++[⟨G,n,0⟩]) dep cells):=by
  refine⟨Sq gg (l.length+1) z,⟨?_,?_⟩,?_,?_⟩
  ·rw[R3 J lp 1 _ _ _ (U.out.trans HP.out)];rfl
  ·have h1:J.ownsRow 0 247 4 (Sq gg (l.length+1) z) (l.length+1) (Bh l++[Iq G,Iq n,Iq 0,Iq 0]):=V.out;have h2:=Tn h1 (a:=⟨lp,1,none⟩) (by
    intro e;simp[Value.ownBlock] at e;rcases I with h|h
    ·exact HN.out (by rw[h,e])
    rw[RW] at h;omega) (Sq gg (l.length+1) z)
   rw[MA,RT];exact h2
  ·exact(((cK.refl _ w).alloc _).grown Y.out (λk hk=> .inl (.inr hk))).setCell (.inl (.inl rfl)) _
  intro b Z;simp[Value.ownBlock] at Z;subst Z;rcases I with h|h
  ·exact .inl h
  right;rw[h,RW];omega
 go_ret;exact⟨rfl,HL.out⟩
theorem dH.refl {w:World} {lp jmp v l dep cells} (h:lE w lp jmp v l dep cells):dH w w lp jmp v l dep cells:=⟨v,h,cK.refl _ _,λ_ z=> .inl z⟩
def fM (l:List L3) (js:List Nat) (T:Nat):List L3:=js.foldl (λl j=>od l j T) l
theorem r9 (js:List Nat):∀(l:List L3) T,(fM l js T).length=l.length:=by
 induction js with
 |nil=>intro l T;rfl
 |cons j r ih=>intro l T;show(fM (od l j T) r T).length=_;rw[ih,oe]
theorem Dj {js:List Nat} (l) (T) (h:k<js.length):fM l (js.take (k+1)) T=od (fM l (js.take k) T) (js.getD k 0) T:=by
 unfold fM;rw[TG,RI h,Option.toList_some,Tl];simp[RG,RI h]
theorem lE.setTo {cap dep cells} (h:lE w lp jmp (Sq g l.length cap) l dep cells) (I:j<l.length) (T):lE (w.setCell ⟨g,j*4+2,none⟩ (Iq (T:Nat))) lp jmp (Sq g (od l j T).length cap) (Proofs.YtfkdailfcmnjlaaGreatDoor.od l j T) dep cells:=by
 have E:=h.ne;have J:g≠lp:=λe=>E (by rw[e];rfl)
 refine⟨?_,?_⟩
 ·rw[RQ _ _ _ _ (by simpa using λe=>J e.symm),oe];exact h.blk
 obtain⟨hl,O⟩:=h.row;refine⟨by rw[Oj],?_⟩
 rcases O with⟨e,_⟩|⟨g',R,G,e,U,V,Y,Z,b5,b6⟩
 ·simp at e
 simp only[Sb,R6,Tx,Uj,TV] at e;obtain⟨rfl,rfl⟩:=e;refine .inr ⟨g,cap,G.setIfInBounds (j*4+2) (Iq T),rfl,U,R3 w g (j*4+2) _ _ _ V,by rw[oe];exact Y,Z,by simpa using b5,?_⟩
 rw[oe,<-Ok I,<-b6];simp[Vl]
theorem lE.slice {w lp jmp v l dep cells} (h:lE w lp jmp v l dep cells) (D:0<l.length):∃g cap,v= Sq g l.length cap/\g<w.heap.size/\(∀j,w.frozen? ⟨g,j,none⟩=false)/\ ∀j,j<l.length->w.cell? ⟨g,j*4+2,none⟩=some (Iq ((l.getD j gk).tj)):=by
 obtain⟨g,cap,e,_,z⟩:=World.ownsRow.form h.row D;subst e;refine⟨g,cap,rfl,z,λj=>World.ownsRow.frozenAt h.row j,λj E=>?_⟩
 have:=(MB l j E).2.2.1;have G:=TB h.row (j*4+2) (by omega)
 rw[G];exact this
theorem jA {dep cells} (h:lE w lp jmp v l dep cells) (hl:l.length<=5000) (ak:js.length<=5000) (E:IR w 3 jv (js.map λj=>(j:Nat))) (I:∀j∈js,j<l.length):
 Calls prog 136 #[Pq lp,jv] w λe w'=>e= .returned (.tuple #[])/\dH w w' lp jmp v (fM l js l.length) dep cells:=by
 by_cases J:js=[]
 ·subst J
  obtain⟨ja,D,rfl⟩:=E.sl;have HL:Hid (dH w w lp jmp v (fM l [] l.length) dep cells):=dH.refl h;go_enter func136,ntmps136;go_wp2
  go_loopw [8] (λR wr=>R= Iq 0/\wr=w) (λ_ _=>0)
  case atStart=>exact⟨rfl,rfl⟩
  case round=>
   obtain⟨rfl,rfl⟩:=hrel
   go_wp2
   go_end0
   exact⟨rfl,HL.out⟩
 have aa:0<l.length:=by
  cases js with
  |nil=>exact absurd rfl J
  |cons j r=>have:=I j (by simp);omega
 obtain⟨g,cap,rfl,hg,_,_⟩:=h.slice aa;obtain⟨jg,D,rfl,am⟩:=E.form (by
  cases js with
  |nil=>exact absurd rfl J
  |cons j r=>simp)
 rw[SR] at*;have U:Hid (lE w lp jmp (Sq g l.length cap) (fM l (js.take 0) l.length) dep cells/\cK (λb=>b=lp\/(Value.slice (some ⟨g,0,none⟩) l.length cap).ownBlock=some b) w w/\IR w 3 (Sq jg js.length D) (js.map λj=>((j:Nat):Int))):=⟨h,cK.refl _ _,E⟩
 have af:=Hi I;go_enter func136,ntmps136;go_wp2
 go_loopw [8] (λR wr=> ∃k:Nat,k<=js.length/\R= Iq k/\Hid (lE wr lp jmp (Sq g l.length cap) (fM l (js.take k) l.length) dep cells/\cK (λb=>b=lp\/(Value.slice (some ⟨g,0,none⟩) l.length cap).ownBlock=some b) w wr/\IR wr 3 (Sq jg js.length D) (js.map λj=>((j:Nat):Int)))) (λR _=>js.length - (intOf R).toNat)
 case atStart=>exact⟨0,R0 _,rfl,U.out⟩
 case round=>
  obtain⟨k,hk,rfl,HI⟩:=hrel;obtain⟨G,Y,V⟩:=HI.out
  by_cases O:k<js.length
  ·have an:(0:Int)<=(k:Int)/\(k:Int)<(js.length:Int):=by omega
   have ag:=V.cell (k:=k) (by simpa using O)
   have ab:(js.map λj=>((j:Nat):Int)).getD k 0=((js.getD k 0:Nat):Int):=by
    rw[RG,RG,Se]
    cases js[k]?<;>rfl
   rw[ab] at ag;have ac:js.getD k 0<l.length:=af.out _ (by rw[RG,RI O];exact R4 O)
   have z:=r9 (js.take k) l l.length;obtain⟨g',aj,e',_,ad,ae⟩:=G.slice (by rw[z];exact aa)
   simp only[Sb,R6,Tx,Uj] at e';obtain⟨rfl,-,rfl⟩:=e';have ao:=ae (js.getD k 0) (by rw[z];exact ac)
   have ap:=ad (js.getD k 0*4+2);have aq:=RM wr lp 1 _ _ _ G.blk;have ar:(0:Int)<=((js.getD k 0:Nat):Int)/\((js.getD k 0:Nat):Int)<(l.length:Int):=by omega
   have Z:Hid (lE (wr.setCell ⟨g,js.getD k 0*4+2,none⟩ (Iq (l.length:Nat))) lp jmp (Sq g l.length cap) (fM l (js.take (k+1)) l.length) dep cells/\cK (λb=>b=lp\/(Value.slice (some ⟨g,0,none⟩) l.length cap).ownBlock=some b) w (wr.setCell ⟨g,js.getD k 0*4+2,none⟩ (Iq (l.length:Nat)))/\IR (wr.setCell ⟨g,js.getD k 0*4+2,none⟩ (Iq (l.length:Nat))) 3 (Sq jg js.length D) (js.map λj=>((j:Nat):Int))):=by
    have ah:lE wr lp jmp (Sq g (fM l (js.take k) l.length).length cap) (fM l (js.take k) l.length) dep cells:=by rw[z];exact G
    have h1:=ah.setTo (j:=js.getD k 0) (by rw[z];exact ac) l.length
    rw[oe,z] at h1;obtain⟨au,ai⟩:=cM G.row (k:=g) rfl;refine⟨by rw[Dj l l.length O];exact h1,Y.setCell (.inl (.inr rfl)) _,?_⟩
    refine V.only ((cK.refl (λq=>q=g) wr).setCell (.inl rfl) _) (λq hq f=>?_)
    subst f;exact V.ne ai (by decide) hq
   generalize (fM l (js.take k) l.length)=l2 at*;generalize js.getD k 0=jj at*;go_wp2
   go_region
   go_wp2
   exact⟨⟨k+1,by omega,by go_num,⟨⟨Z.out.1.blk,Z.out.1.row⟩,Z.out.2.1.drew,Z.out.2.2⟩⟩,by simp[intOf];omega⟩
  ·obtain rfl:k=js.length:=by omega
   have HL:Hid (dH w wr lp jmp (Sq g l.length cap) (fM l js l.length) dep cells):=by
    rw[Ti] at G;exact⟨_,G,Y,λ_ hb=> .inl hb⟩
   go_wp2
   go_end0
   exact⟨rfl,HL.out⟩
theorem MC (k) (q:fh k) (w):Calls prog 180 #[Iq k] w λe w'=>e= .returned (Iq (jH k))/\w'=w:=by
 unfold fh at q;rcases q with rfl|rfl|rfl|rfl|rfl|rfl|rfl
 all_goals
  go_enter func180,ntmps180
  go_wp2
  go_ret;exact⟨rfl,rfl⟩
theorem Dk (k:Nat) (q:k=12\/k=13) (w):Calls prog 135 #[Iq k] w λe w'=>e= .returned (Iq (ga k))/\w'=w:=by
 rcases q with rfl|rfl
 all_goals
  go_enter func135,ntmps135
  go_wp2
  go_ret;exact⟨rfl,rfl⟩
theorem dH.weak {v:Value} {dep cells} (h:dH w w' z jmp v l dep cells) (A:q=w):dH q w' z jmp v l dep cells:=A▸h
theorem Dl {dep cells lt} (h:lE w Y jmp v l dep cells) (hl:l.length<=5000) (G:dy k) (hc:mS w b k pl n nm u lt):
 Calls prog 181 #[Pq Y,Pq b] w λe w'=>e= .returned (.tuple #[])/\dH w w' Y jmp v (l++[⟨eU ⟨k,n,lt,[]⟩,iR ⟨k,n,lt,[]⟩,0⟩]) dep cells:=by
 have D:k<=100:=by unfold dy at G;omega
 have Z:=λw=>rV k w D
 have U:=λw=>zB k w D
 have z:=λop n=>jR op n h hl
 obtain⟨c0,c1,c2,c3,c4,c5⟩:=hc
 by_cases E:27<=k
 have I:(27<=k/\k<=35):=by unfold dy at G;omega
 have HE:Hid (eU ⟨k,n,lt,[]⟩=4/\iR ⟨k,n,lt,[]⟩=((k - 27:Nat):Int)):=⟨by simp[eU,E],by simp[iR,E]⟩
 have A:=z 4 ((k - 27:Nat):Int);rw[RK I,Sr I] at Z;generalize k - 27=m at*
 rotate_left
 have J: ¬(27<=k/\k<=35):=by omega
 rw[RH J,Sc J] at Z
 by_cases V:22<=k
 have I:(22<=k/\k<=26):=by unfold dy at G;omega
 have HE:Hid (eU ⟨k,n,lt,[]⟩=3/\iR ⟨k,n,lt,[]⟩=((k - 22:Nat):Int)):=⟨by simp[eU,E,V],by simp[iR,E,V]⟩
 have A:=z 3 ((k - 22:Nat):Int);rw[RK I,Sr I] at U;generalize k - 22=m at*
 rotate_left
 have O: ¬(22<=k/\k<=26):=by omega
 rw[RH O,Sc O] at U;have h0:k=1\/k=2\/k=20\/k=21:=by unfold dy at G;omega
 have W4:=λw=>gV (decide (k=20)) w
 rcases h0 with rfl|rfl|rfl|rfl;have A:=z 1 n
 rotate_left
 have A:=z 6 lt
 rotate_left
 rw[Sr rfl] at W4;have A:=z 2 (cR true)
 rotate_left
 rw[Sc (by decide)] at W4
 have A:=z 2 (cR false)
 all_goals
  go_enter func181,ntmps181
  go_wp2_with (first
   |(go_at_call 171;refine(Z _).mono ?_;rintro e w' ⟨rfl,q⟩;obtain rfl:=q.symm)
   |(go_at_call 172;refine(U _).mono ?_;rintro e w' ⟨rfl,q⟩;obtain rfl:=q.symm)
   |(go_at_call 82;refine(W4 _).mono ?_;rintro e w' ⟨rfl,q⟩;obtain rfl:=q.symm)
   |(go_at_call 93;refine A.mono ?_;rintro e w2 ⟨rfl,R⟩;have HO:Hid _:=R;clear R A))
  first|refine RU (v:= .tuple #[]) (by simp[results,results181,go_sem]) rfl ?_|go_end0
  exact⟨rfl,by first|exact HO.out|(rw[HE.out.1,HE.out.2];exact HO.out)⟩
def Ol (o:Option Kn):Value:= .bool o.isSome
def Om (o:Option Kn):Value:=match o with
 |none=>S []
 |some k=>S (gD k.st)
def On (o:Option Kn):Value:=match o with
 |none=>S []
 |some k=>S (jq k.cl)
structure ux (w:World) (g:Nat) (kl:List (Option Kn)):Prop where
 blk:∃cs,w.heap[g]?=some (.cells cs 124 (0,0))/\cs.size=kl.length*3
 c0:∀j,j<kl.length->w.cell? ⟨g,j*3,none⟩=some (Ol (kl.getD j none))
 c1:∀j,j<kl.length->w.cell? ⟨g,j*3+1,none⟩=some (Om (kl.getD j none))
 c2:∀j,j<kl.length->w.cell? ⟨g,j*3+2,none⟩=some (On (kl.getD j none))
theorem ux.frz {w:World} (h:ux w g q) (j):w.frozen? ⟨g,j,none⟩=false:=by
 obtain⟨cs,z,_⟩:=h.blk;simp[World.frozen?,z]
theorem ux.of_block {w w':World} (h:ux w g A) (z:w'.heap[g]?=w.heap[g]?):ux w' g A:=
 ⟨by rw[z];exact h.blk,λj q=>by rw[R1 z];exact h.c0 j q,λj q=>by rw[R1 z];exact h.c1 j q,λj q=>by rw[R1 z];exact h.c2 j q⟩
theorem ux.lt {w:World} (h:ux w g q):g<w.heap.size:=by
 obtain⟨cs,z,_⟩:=h.blk;exact cq z
theorem ux.set (h:ux w g D) (E:j<D.length) (o):ux (((w.setCell ⟨g,j*3,none⟩ (Ol o)).setCell ⟨g,j*3+1,none⟩ (Om o)).setCell ⟨g,j*3+2,none⟩ (On o)) g (D.set j o):=by
 obtain⟨cs,G,J⟩:=h.blk;have O:=R3 w g (j*3) cs 124 (Ol o) G;have R:=R3 _ g (j*3+1) _ 124 (Om o) O;have I:=R3 _ g (j*3+2) _ 124 (On o) R;have z:∀q,(((w.setCell ⟨g,j*3,none⟩ (Ol o)).setCell ⟨g,j*3+1,none⟩ (Om o)).setCell ⟨g,j*3+2,none⟩ (On o)).cell? ⟨g,q,none⟩=if q=j*3+2 then some (On o) else if q=j*3+1 then some (Om o) else if q=j*3 then some (Ol o) else w.cell? ⟨g,q,none⟩:=λq=>by
  rw[RM _ g q _ _ _ I,RM w g q _ _ _ G];by_cases a:q=j*3+2
  ·subst a;rw[RK rfl,SP,RK rfl,RK (by simp;omega)]
  rw[RH a,SQ (by omega)]
  by_cases b:q=j*3+1
  ·subst b;rw[RK rfl,SP,RK rfl,RK (by simp;omega)]
  rw[RH b,SQ (by omega)]
  by_cases c:q=j*3
  ·subst c;rw[RK rfl,SP,RK rfl,RK (by omega)]
  rw[RH c,SQ (by omega)]
 refine⟨⟨_,I,by simpa using J⟩,λi A=>?_,λi A=>?_,λi A=>?_⟩
 ·rw[SW] at A;rw[z,RH (by omega),RH (by omega)]
  by_cases e:j=i
  ·subst e;rw[RK rfl,cT E]
  rw[RH (by omega),getD_set_ne e];exact h.c0 i A
 ·rw[SW] at A;rw[z,RH (by omega)]
  by_cases e:j=i
  ·subst e;rw[RK rfl,cT E]
  rw[RH (by omega),RH (by omega),getD_set_ne e];exact h.c1 i A
 rw[SW] at A;rw[z];by_cases e:j=i
 ·subst e;rw[RK rfl,cT E]
 rw[RH (by omega),RH (by omega),RH (by omega),getD_set_ne e];exact h.c2 i A
theorem FA:(prog.info? 124).map (λi=>(i.zero,i.size,i.bytes))=some (some (.agg #[.bool false,.string ⟨#[]⟩,.string ⟨#[]⟩]),3,40):=by kernel_rfl
theorem FB {w:World} {g n:Nat} (h:w.heap[g]?=some (.cells (madeCells #[.bool false,.string ⟨#[]⟩,.string ⟨#[]⟩] (n*3)) 124 (0,0))):ux w g (List.replicate n none):=by
 have z:=λj=>RM w g j _ _ _ h
 have A:∀j,(List.replicate n (none:Option Kn)).getD j none=none:=λj=>by
  rw[RG,Sn];split<;>rfl
 refine⟨⟨_,h,by rw[TE,SH]⟩,λj D=>?_,λj D=>?_,λj D=>?_⟩<;>rw[SH] at D
 ·have e:j*3 %3=0:=by omega
  have q:j*3<n*3:=by omega
  rw[z,A];unfold madeCells;simp[e,q,Ol]
 ·have e:(j*3+1) %3=1:=by omega
  have q:j*3+1<n*3:=by omega
  rw[z,A];unfold madeCells;simp[e,q,Om]
 have e:(j*3+2) %3=2:=by omega
 have q:j*3+2<n*3:=by omega
 rw[z,A];unfold madeCells;simp[e,q,On]
structure Ra (b:List UInt8) (ins) (w wr) (sg lg at_:Nat) (R) (i) (kl come):Prop where
 fl:GA b ins (cy b 1) at_ i kl come R
 ty:mT (cy b 2) come
 kn:ux wr lg kl
 st:wr.heap[sg]?=some (.cells (vt b.length ins) 4 (0,0))
 bel:Below w.heap.size w wr
 lo:w.heap.size<=sg/\w.heap.size<=lg
theorem Ra.below {b:LB} {ins at_ come} (h:Ra b ins w wr A D at_ R i E come) (q:Bl wr z):Ra b ins w z A D at_ R i E come:=
 ⟨h.fl,h.ty,h.kn.of_block (q.block _ h.kn.lt),(q.block _ (cq h.st)).trans h.st,h.bel.trans (q.mono h.bel.size),h.lo⟩
theorem MD (b:List UInt8):fE b=match Dh b with
 |none=>none
 |some ins=>if iZ ins (cy b 1) ins 0 (iG (cy b 2) ins.length) then some ins else none:=by
 by_cases h:qc b
 ·rw[show Dh b=none from RK h]
  exact RK h
 ·rw[show Dh b=pj (b.length+1) b 3 from RH h]
  exact RH h
theorem Oo {b:List UInt8} {ins} (h:Dh b=some ins):fz b ins/\0<ins.length/\ins.length<=4000/\cy b 1<=24:=by
 unfold Dh at h
 by_cases z:qc b
 ·rw[RK z] at h;cases h
 ·rw[RH z] at h
  unfold qc at z;obtain⟨E,D⟩:=wU _ h (by omega)
  have I:=(nW (λx G=>(E x G).size) D).1
  refine⟨⟨E,D⟩,?_,by omega,by omega⟩
  cases ins with
  |nil=>have:3=b.length:=D;omega
  |cons x r=>simp
def jP (b:List UInt8) (w:World) (e:Ending) (w':World):Prop:=
 (match fE b with
  |none=>e= .returned (.tuple #[.pointer none,.bool false])
  |some ins=> ∃E I cap,e= .returned (.tuple #[Pq E,.bool true])/\k7 w' E I cap (cy b 2) (cy b 1) ins)/\Below w.heap.size w w'
theorem AX (b) {w:World} (hE:Ef w):Calls prog 99 #[S b] w λe w'=>jP b w e w':=by
 have U:=Fz b w;have I:=MD b
 cases V:Dh b with
 |none=>
  rw[V] at U I;have Y:Hid (∀w',Below w.heap.size w w'->jP b w (.returned (.tuple #[.pointer none,.bool false])) w'):=λw' E=>by
   unfold jP;rw[I];exact⟨rfl,E⟩
  go_enter func99,ntmps99;go_wp2_with fail;apply U.mono;rintro e z ⟨⟨v,rfl⟩,E⟩;have Z:Hid (jP b w (.returned (.tuple #[.pointer none,.bool false])) z):=Y.out z E
  go_wp2
  go_ret2
  exact Z.out
 |some ins=>
  rw[V] at U I;obtain⟨q1,q2,q3,q4⟩:=Oo V;have W2:∀z D J cap,Below w.heap.size w z->k7 z D J cap (cy b 2) (cy b 1) ins->_:=λz D J cap E R=>JN (hE.below hE.pos E) q1 R q2 q3 q4
  have aa:fE b=if iZ ins (cy b 1) ins 0 (iG (cy b 2) ins.length) then some ins else none:=I
  generalize iZ ins (cy b 1) ins 0 (iG (cy b 2) ins.length)=r at*;have Y:Hid (∀G z D J cap,k7 G D J cap (cy b 2) (cy b 1) ins->Below w.heap.size w G->Below G.heap.size G z->(r=false->jP b w (.returned (.tuple #[.pointer none,.bool false])) z)/\(r=true->jP b w (.returned (.tuple #[Pq D,.bool true])) z)):=λG z D J cap R h1 h2=>by
   have O:=h1.trans (h2.mono h1.size);unfold jP;rw[aa];refine⟨λe=>?_,λe=>?_⟩
   ·subst e;exact⟨rfl,O⟩
   ·subst e;exact⟨⟨D,J,cap,rfl,R.below h2⟩,O⟩
  go_enter func99,ntmps99;go_wp2_with fail;apply U.mono;rintro e G ⟨⟨D,J,cap,rfl,R⟩,E⟩;have W3:=W2 G D J cap E R;have ab:Hid (∀z,Below G.heap.size G z->_):=λz h2=>Y.out G z D J cap R E h2
  go_wp2_with fail;apply W3.mono;rintro e z ⟨rfl,O⟩;obtain⟨a1,a2⟩:=ab.out z O
  cases r with
  |false=>
   have Z:Hid (jP b w (.returned (.tuple #[.pointer none,.bool false])) z):=a1 rfl
   go_wp2
   go_ret2
   exact Z.out
  |true=>
   have Z:Hid (jP b w (.returned (.tuple #[Pq D,.bool true])) z):=a2 rfl
   go_wp2
   go_ret2
   exact Z.out
def xK (b:List UInt8) (w:World) (e:Ending) (w':World):Prop:=
 (match fE b with
  |none=>e= .returned (.tuple #[.pointer none,Iq 7])
  |some ins=> ∃lp E J cap,e= .returned (.tuple #[Pq lp,Iq 0])/\w'.heap[lp]?=some (.cells #[Pq E] 207 (0,0))/\k7 w' E J cap (cy b 2) (cy b 1) ins)/\Below w.heap.size w w'
theorem JU (b) {w:World} (O:Ef w):Calls prog 52 #[S b] w λe w'=>xK b w e w':=by
 have z:=AX b O;unfold jP at z;unfold xK
 cases G:fE b with
 |none=>
  rw[G] at z;go_enter func52,ntmps52;go_wp2_with fail;apply z.mono;rintro e I ⟨rfl,D⟩;have E:=Hi D
  go_wp2
  go_ret2
  exact⟨rfl,E.out⟩
 |some ins=>
  rw[G] at z;go_enter func52,ntmps52;go_wp2_with fail;apply z.mono;rintro e I ⟨⟨R,U,cap,rfl,J⟩,D⟩;have E:=Hi (And.intro D J)
  go_wp2
  go_ret2
  refine⟨⟨I.heap.size,R,U,cap,rfl,RO _ _,E.out.2.below ((RP _ _).alloc (RL _) _)⟩,E.out.1.alloc E.out.1.size _⟩
end Go.Proofs.YtfkdailfcmnjlaaGreatDoor
