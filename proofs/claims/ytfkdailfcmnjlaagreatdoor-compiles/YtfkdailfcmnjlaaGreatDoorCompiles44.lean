/-
  A part.
-/
import Derived.Test.YtfkdailfcmnjlaaGreatDoorCompiles42
import Derived.Test.YtfkdailfcmnjlaaGreatDoorCompiles43
import Derived.Deep.CutBlock
set_option linter.all false
set_option maxHeartbeats 40000000
set_option maxRecDepth 1000000
namespace Go.Proofs.YtfkdailfcmnjlaaGreatDoor
open Go Go.RowKit Tryz
attribute [local go_sem ↓] Go.wp_at_zero Go.wp_at_succ
variable {fl I D w A J a x E G w' z cp gf w4 Ru q wr vs b lv lp gi rp}
theorem oi:(prog.info? 2).map (λi=>(i.zero,i.size,i.bytes))=some (some (Iq 0),1,8):=by kernel_rfl
def yC (b:List UInt8) (ins:List ey) (fl:List Int) (I J:Nat) (w wr:World) (A:Bool) (O St a q:Nat) (vs:Value):Prop:=
 ∃(C:Nat->Option Kn) (i:Nat) (k:Kn) (st cl:List Int) (f:Nat),Good ins (cy b 1) 0 C/\(ins.getD i cI).pl=a/\Qq b ins fl (cy b 2) C A O St i k st cl f q/\RJ w wr I J (w.heap.size+1) w.heap.size b fl vs st cl
theorem Kk {b:LB} {ins St} (O:fE b=some ins) (hF:dI fl) (Z:jx b ins fl=some (A,J,St)) (q:w.heap[I]?=some (.cells #[S b] 130 (0,0))) (E:∀i,i<9->Cq w D i (Iq (fl.getD i 0))):
 yC b ins fl I D w ((w.alloc (.cells (madeCells #[Iq 0] 256) 2)).alloc (.cells #[S [43],S [45],S [61],S [60],S [60,61]] 9)) A J St 3 0 (.slice none 0 0):=by
 obtain⟨l1,l2,l3,R,l5,l6,C,l7,l8⟩:=mM O;have U:(ins.getD 0 cI).pl=3:=by
  have:=l3.order;cases ins with
  |nil=>simp at R
  |cons x r=>exact this.1
 have hc:=fq b 2;have G:Bl w ((w.alloc (.cells (madeCells #[Iq 0] 256) 2)).alloc (.cells #[S [43],S [45],S [61],S [60],S [60,61]] 9)):=((RP _ _).alloc (RL _) _).alloc (by simp) _
 have z:=RN w _ (E 0 (by decide))
 have z:D<w.heap.size:=z;refine⟨C,0,_,[],List.replicate (cy b 2) 0,ins.length,l8,U,⟨R,l7,⟨trivial,λc V=>?_,by simp⟩,by simp,RL _,Z⟩,⟨(G.block _ (cq q)).trans q,IR.nil _ _,λg hg=>by simp[Value.ownBlock] at hg,?_,λj Y=>by rw[G.cell z];exact E j Y,?_,G,⟨cq q,trivial,by omega,RL _,by simp;omega,by omega⟩⟩⟩
 ·exfalso;refine V ?_;rw[RG,Sn];split<;>rfl
 ·rw[<-FW (by omega)]
  exact(RV _ _ _ (by simp)).trans (RO w _)
 have:=RO (w.alloc (.cells (madeCells #[Iq 0] 256) 2)) (.cells #[S [43],S [45],S [61],S [60],S [60,61]] 9);rw[RW] at this;exact this
theorem RJ.push {w wr D G I J O gg cap} {b:LB} {fl vs st cl} (h:RJ w wr G I J O b fl vs st cl) (v) {o} (E:D.ownsRow 0 2 1 (Sq gg (st.length+1) cap) (st.length+1) (st.reverse.map (Value.int .i64)++[Iq v])) (z:(wr.alloc o).grownBy D vs.ownBlock) (R:vs.ownBlock=some gg\/gg=(wr.alloc o).heap.size):RJ w D G I J O b fl (Sq gg (st.length+1) cap) (v::st) cl:=by
 refine h.stack (((cK.refl (λq=>vs.ownBlock=some q) wr).alloc o).grown z (λk U=> .inl U)) (λ_ A=>A) ?_ (λg A=>?_)
 ·unfold IR;simpa using E
 simp[Value.ownBlock] at A;subst A;rcases R with h|h
 ·exact .inl h
 right;rw[h,RW];omega
def OG (k:Nat):List UInt8:=([[43],[45],[61],[60],[60,61]]:List (List UInt8)).getD k []
theorem yC.below {b:LB} {ins fl z D w wr E A G St a q vs} (h:yC b ins fl z D w wr A G St a q vs) (I:Bl wr E):yC b ins fl z D w E A G St a q vs:=by
 obtain⟨C,i,k,st,cl,f,J,O,h3,R⟩:=h;exact⟨C,i,k,st,cl,f,J,O,h3,R.below I⟩
theorem mi (b:LB) (a j:Nat):cy (b.drop a) j=cy b (a+j):=by
 unfold cy;rw[RG,RG,TN]
theorem Bd (b:LB) (a j:Nat):∀n,eO (b.drop a) j n=eO b (a+j) n
 |0=>rfl
 |n+1=>by rw[eO,eO,Bd b a j n,mi,Th]
theorem GY (b:LB):(BA b).extract a b.length=BA (b.drop a):=by
 rw[gC];unfold cut;rw[Sz (by simp)]
structure RD (b bb:List UInt8) (x:ey):Prop where
 len:bb.length=b.length - x.pl
 pos:0<bb.length
 b0:cy bb 0=x.op
 two:cE x.op=2->1<bb.length/\x.n=(cy bb 1:Int)/\cy bb 1<256
 three:cE x.op=3->2<bb.length/\x.n=(cy bb 1*256+cy bb 2:Int)/\cy bb 1<256/\cy bb 2<256
 nine:x.op=1->9<=bb.length/\x.n=fg (eO (bb.drop 1) 0 8)
theorem Rp {b:LB} (h:sR b x):RD b (b.drop x.pl) x:=by
 have A:=h.fits;have D:=Ub h.size;have q:(b.drop x.pl).length=b.length - x.pl:=by simp
 refine⟨q,by omega,by rw[mi];exact AU h,λg=>⟨by omega,by rw[mi];exact GO h g,fq _ _⟩,λg=>⟨by omega,by rw[mi,mi];exact zI h g,fq _ _,fq _ _⟩,λg=>⟨?_,?_⟩⟩
 ·have:cE x.op=9:=by rw[g];rfl
  omega
 have z:x.n=mK b x.op x.pl:=by have:=h.here;rw[this];rfl
 rw[z,Bd,Bd];unfold mK;rw[RK g]
def qi:Code->Option Code
 | .loop c=>some c
 | .seq a b=>match qi a with
  |some c=>some c
  |none=>qi b
 | .block _ c=>qi c
 | .scope c=>qi c
 | .cond _ a b=>match qi a with
  |some c=>some c
  |none=>qi b
 |_=>none
def JF (I J:Nat) (w z:World) (O A D:Value) (U:Nat->Value):Array Value:= #[Pq I,U 1,U 2,U 3,U 4,U 5,Pq (w.heap.size+1+1),.slice (some ⟨J,0,none⟩) 9 9,O,.slice (some ⟨z.heap.size,0,none⟩) 256 256,.slice (some ⟨z.heap.size+1,0,none⟩) 5 5,A,D,U 13,U 14,U 15,U 16,U 17,U 18,U 19,U 20,U 21,U 22,U 23,U 24,U 25,U 26,U 27,U 28,U 29,U 30,U 31,U 32,U 33,U 34,U 35,U 36,U 37,U 38,U 39,U 40,U 41,U 42,U 43,U 44,U 45,U 46,U 47,U 48,U 49,U 50,U 51,U 52,U 53,U 54,U 55,U 56,U 57,U 58,U 59,U 60,U 61,U 62,U 63,U 64,U 65,U 66,U 67,U 68,U 69,U 70,U 71,U 72,U 73,U 74,U 75,U 76,U 77,U 78,U 79,U 80,U 81,U 82,U 83,U 84,U 85,U 86,U 87,U 88,U 89,U 90,U 91,U 92,U 93,U 94,U 95,U 96,U 97,U 98,U 99,U 100,U 101,U 102,U 103,U 104,U 105,U 106,U 107,U 108,U 109,U 110,U 111,U 112,U 113,U 114,U 115,U 116,U 117,U 118,U 119,U 120,U 121,U 122,U 123,U 124,U 125,U 126,U 127,U 128,U 129,U 130,U 131,U 132,U 133,U 134,U 135,U 136,U 137,U 138,U 139,U 140,U 141,U 142,U 143,U 144,U 145,U 146,U 147,U 148,U 149,U 150,U 151,U 152,U 153,U 154,U 155,U 156,U 157,U 158,U 159,U 160,U 161,U 162,U 163,U 164,U 165,U 166,U 167,U 168,U 169,U 170,U 171,U 172,U 173,U 174,U 175,U 176,U 177,U 178,U 179,U 180,U 181,U 182,U 183,U 184,U 185,U 186,U 187,U 188,U 189,U 190,U 191,U 192,U 193,U 194,U 195,U 196,U 197,U 198,U 199,U 200,U 201,U 202,U 203,U 204,U 205,U 206,U 207,U 208,U 209,U 210,U 211,U 212,U 213,U 214,U 215,U 216,U 217,U 218,U 219,U 220,U 221,U 222,U 223,U 224,U 225,U 226,U 227]
def JI (b:List UInt8) (ins:List ey) (fl:List Int) (I J:Nat) (w O:World) (A:Bool) (Ru St:Nat) (R:Act) (w':World):Prop:=
 ∃U V D E a q,D= Iq (a:Nat)/\E= Iq (q:Nat)/\yC b ins fl I J O w' A Ru St a q V/\R=⟨JF I J w O V D E U,[]⟩
theorem JI.of {b:LB} {ins:List ey} {O St a q:Nat} {l:List Value} (h:yC b ins fl E G I w' A O St a q J) (e:l.toArray=JF E G w I J z D (λi=>l.getD i Nf)) (R:z= Iq a) (U:D= Iq q):JI b ins fl E G w I A O St ⟨l.toArray,[]⟩ w':=
 ⟨_,J,z,D,a,q,R,U,h,by rw[<-e]⟩
def DO (b:List UInt8) (q:Act) (_:World):Nat:=b.length - (intOf (q.tmps.getD 11 undef)).toNat
def Qr (b:List UInt8) (w:World) (A:Bool) (G St:Nat) (z:Act) (w':World):Prop:=bodyPost prog f26 (λI w'=>I= .returned (ny A G St)/\Below w.heap.size w w') .ret z w'
def JQ (R:Act->World->Prop):Exit->Act->World->Prop
 | .ret,a,w=>R a w
 |_,_,_=>False
theorem M8 {b:LB} {ins St} (aH:fE b=some ins) (hF:dI fl) (bC:cp<w.heap.size) (a0:Hid (∀W,Bl w4 W->W.heap[w.heap.size+1+1]?=some (.cells #[.bool false,Iq 0,Iq 0] 40 (0,0))/\Bl w W)) (aL) (wr) (hI:JI b ins fl cp gf w w4 A Ru St aL wr):
 Code.wp prog ((f26.body.bind qi).getD .skip) (Exit.then (λa' aW=>JI b ins fl cp gf w w4 A Ru St a' aW/\DO b a' aW<DO b aL wr) (JQ (Qr b w A Ru St))) aL wr:=by
 obtain⟨U,vs,_,_,a,q,rfl,rfl,hX,rfl⟩:=hI;have HX:Hid (yC b ins fl cp gf w4 wr A Ru St a q vs):=hX;have aX:DO b ⟨JF cp gf w w4 vs (Iq a) (Iq q) U,[]⟩ wr=b.length - a:=by simp[DO,JF,intOf]
 rw[aX];clear hX;have aI:(∃ks,ks<=4/\cy b a=ks+7)\/cy b a=1\/(cy b a=2\/cy b a=3)\/cy b a=4\/cy b a=5\/cy b a=6\/cy b a=12\/(cy b a=13\/cy b a=14)\/cy b a=15\/cy b a=16\/cy b a=17\/cy b a=18:=by
  obtain⟨C,i,k,st,cl,f,hG,ac,hS,I⟩:=HX.out;obtain⟨l1,l2,l3,l4,l5,l6,C0,l7,l8⟩:=mM aH;have ad:=l3.each _ (iA hS.hi);have aI:=(kD ad).op;have hb:=AU ad;rw[ac] at hb;by_cases h7:7<=cy b a/\cy b a<=11
  ·exact .inl ⟨cy b a - 7,by omega,by omega⟩
  right;omega
 have bd:Hid _:=aI;clear aI aX;unfold JF;obtain⟨l1,l2,l3,l4,l5,l6,C0,l7,l8⟩:=mM aH;have bf:Hid _:=hF;have bD:Hid _:=aH;clear l7 l8 hF aH;obtain⟨C,i,k,st,cl,f,hG,ac,hS,I⟩:=HX.out;have ad:=l3.each _ (iA hS.hi);have Y:=Rp ad;have a8:=(lC l3 hS.hi).2;have aa:=hS.stop;have E:=hS.step l3 rfl l6 bf.out hG;have aI:=(kD ad).op;rw[ac] at Y a8;have bE:Cq wr cp 0 (S b):=RM wr cp 0 _ _ _ I.code;have bF:=GY b (a:=a);have bG:(0:Int)<=(a:Int)/\(a:Int)<=(b.length:Int):=by omega
 have bH:q<=4000:=by have:=hS.le;have:=hS.hi;omega
 have e0:cy b a=(ins.getD i cI).op:=by rw[<-Y.b0,mi];rfl
 generalize ins.getD i cI=x at*;generalize b.drop a=z at*;have E0:Hid _:=e0;clear e0;have bg:0<(ByteArray.mk z.toArray).size:=Y.pos;have bI:((ByteArray.mk z.toArray)[0]).toNat=x.op:=(gq z 0 bg).trans Y.b0;have bJ:=Y.pos;have bK:z.length<=4000:=by have:=Y.len;omega
 have W2:=λw=>xC x.op (by omega) w
 have aY:Hid _:=a0.out wr I.bel;clear HX;obtain⟨sa,R,aZ⟩:=I.sta.sl;rw[T6] at aZ;subst aZ;have ak:=hS.dep;have bv:=vH x.op;have bL:a<=4000:=by omega
 conv=>arg 2;whnf
 go_upto_block 2 with(first|(go_at_call 49;refine(W2 _).mono ?_;rintro e0 w' ⟨rfl,aM⟩;obtain rfl:=aM.symm))
 rcases bd.out with⟨ks,am,h⟩|h|h|h|h|h|h|h|h|h|h|h
 ·have e:=E0.out.symm.trans h;clear E0;rw[e];have ao:ks=0\/ks=1\/ks=2\/ks=3\/ks=4:=by omega
  have G:cE (ks+7)=1:=by rcases ao with rfl|rfl|rfl|rfl|rfl<;>rfl
  rw[G];obtain⟨k',st',cl',jj,t,kq,f',g1,D,J,g4,V⟩:=E (by omega)
  match st,ak,hS,I,D with
  |[],_,_,_,D=>exfalso;unfold gj at D;rw[e] at D;rcases ao with rfl|rfl|rfl|rfl|rfl<;>cases D
  |[v],_,_,_,D=>exfalso;unfold gj at D;rw[e] at D;rcases ao with rfl|rfl|rfl|rfl|rfl<;>cases D
  |v::u::r,ak,hS,I,D=>
   have O:some (lz (ks+7) u v::r,cl,false)=some (st',cl',jj):=by rw[<-D];unfold gj;rw[e];rcases ao with rfl|rfl|rfl|rfl|rfl<;>rfl
   simp only[R6,Sj] at O;obtain⟨rfl,rfl,rfl⟩:=O;obtain⟨g,cap,ab,an⟩:=I.form;simp only[R7,Sb] at ab;obtain⟨rfl,-,rfl⟩:=ab;have az:r.length+1+1<=24:=ak;obtain⟨ah,ag⟩:=RJ.top (v:=v) (r:=u::r) I;have ah:Cq wr g (r.length+1) (Iq v):=ah;have aN:=RJ.sec (v:=v) (u:=u) (r:=r) I;have aA:=ag r.length;have ay:dL u/\dL v:=by
    have Z:=hS.fit.typ;cases am:k.st with
    |nil=>rw[am] at Z;exact Z.elim
    |cons t0 ts=>
     rw[am] at Z;cases ap:ts with
     |nil=>rw[ap] at Z;exact Z.2.elim
     |cons t1 bh=>rw[ap] at Z;exact⟨Z.2.1.1,Z.1.1⟩
   have W3:=λw=>Af (OG ks) ay.1 ay.2 w
   have aO:oA (OG ks) u v=lz (ks+7) u v:=by rcases ao with rfl|rfl|rfl|rfl|rfl<;>rfl
   rw[aO] at W3;have aJ:(0:Int)<=(r.length:Int)+1+1 - 1/\(r.length:Int)+1+1 - 1<(r.length:Int)+1+1:=by omega
   have a9:(0:Int)<=(r.length:Int)+1+1 - 2/\(r.length:Int)+1+1 - 2<(r.length:Int)+1+1:=by omega
   have aV:r.length+1+1<=R:=an;have aB:(0:Int)<=(r.length:Int)+1+1 - 1/\(r.length:Int)+1+1 - 1<=(R:Int):=by omega
   have ba:(0:Int)<=(r.length:Int)/\(r.length:Int)<(r.length:Int)+1+1:=by omega
   have bb:(0:Int)<=(r.length:Int)+1/\(r.length:Int)+1<(r.length:Int)+1+1:=by omega
   have bi:IntKind.i64.wrap ((r.length:Int)+1+1 - 2)=(r.length:Int):=by rw[Ss];omega
   have bj:IntKind.i64.wrap ((r.length:Int)+1+1 - 1)=(r.length:Int)+1:=by rw[Ss];omega
   have bk:IntKind.i64.wrap ((r.length:Int)+1)=(r.length:Int)+1:=by rw[Ss];omega
   have bl:IntKind.i64.wrap (r.length:Int)=(r.length:Int):=by rw[Ss];omega
   have bm:IntKind.i64.wrap ((ks:Int)+7 - 7)=(ks:Int):=by rw[Ss];omega
   have bo:IntKind.i64.wrap (ks:Int)=(ks:Int):=by rw[Ss];omega
   have bM:((ks:Int)+7==1)=false:=by simp;omega
   have bN:((ks:Int)+7==2)=false:=by simp;omega
   have bO:((ks:Int)+7==3)=false:=by simp;omega
   have bP:((ks:Int)+7==4)=false:=by simp;omega
   have bQ:((ks:Int)+7==5)=false:=by simp;omega
   have bR:((ks:Int)+7==6)=false:=by simp;omega
   have bS:(ks:Int)+7<=11:=by omega
   have bT:(0:Int)<=(ks:Int)/\(ks:Int)<5:=by omega
   have bp:RowKit.wrap64 ((r.length:Int)+1+1 - 2)=(r.length:Int):=by unfold RowKit.wrap64;omega
   have bq:RowKit.wrap64 ((r.length:Int)+1+1 - 1)=(r.length:Int)+1:=by unfold RowKit.wrap64;omega
   rw[RH (by decide),e,G] at J
   have HA:Hid (a+1<b.length):=by
    have:=(lC l3 V.hi).2;rw[J,ac] at this;exact this
   have HN:Hid (yC b ins fl cp gf w4 (wr.setCell ⟨g,r.length,none⟩ (Iq (lz (ks+7) u v))) A Ru St (a+1) (q+1) (.slice (some ⟨g,0,none⟩) (r.length+1) R)):=⟨C,t,kq,_,cl,f',hG,by rw[J,ac],V,RJ.pop (v:=v) (r:=lz (ks+7) u v::r) (RJ.set2 (v:=v) (u:=u) (r:=r) I (lz (ks+7) u v))⟩
   have bU:Cq wr (w4.heap.size+1) ks (S (OG ks)):=by rcases ao with rfl|rfl|rfl|rfl|rfl<;>exact RM wr _ _ _ _ _ I.sgn
   generalize lz (ks+7) u v=y at*;generalize OG ks=sg at*;clear ao;clear I hS aa E g1 D J g4 V hG Y ad ag;go_wp2_with fail;go_region_with (first|(go_at_call 51;refine(W3 _).mono ?_;rintro e w2 ⟨rfl,rfl⟩))
   all_goals go_wp2
   all_goals refine⟨?_,by have:=HA.out;simp[DO,intOf];omega⟩
   all_goals exact JI.of (HN.out.below (by first|exact RP _ _|exact below_drewN (RP _ _) _|exact(RP _ _).drew)) rfl (by go_num) (by go_num)
 ·have e:=E0.out.symm.trans h;clear E0;rw[e];have G:cE 1=9:=rfl;rw[G];obtain⟨t2,t3⟩:=Y.nine e;have bV:(z.drop 1).length=z.length - 1:=by simp
  have W3:=λw=>DD (z.drop 1) (by omega) (by omega) w
  have bw:=GY z (a:=1);generalize z.drop 1=b8 at*;have bW:(1:Int)<=(z.length:Int):=by omega
  rw[<-t3] at W3;obtain⟨k',st',cl',jj,t,kq,f',g1,D,J,g4,V⟩:=E (by omega)
  have O:some (x.n::st,cl,false)=some (st',cl',jj):=by rw[<-D];unfold gj;rw[e];rfl
  simp only[R6,Sj] at O;obtain⟨rfl,rfl,rfl⟩:=O;rw[RH (by decide),e,G] at J
  obtain⟨i0,hi,hz⟩:=Su.1 oi;simp only[Sj] at hz;obtain⟨aq,ar,au⟩:=hz;have HR:Hid (wr.ownsRow 0 2 1 (.slice sa st.length R) st.length (st.reverse.map (Value.int .i64))):=by
   have h:=I.sta;unfold IR at h;show wr.ownsRow 0 2 1 (.slice sa st.length R) st.length (st.reverse.map (Value.int .i64));simpa using h
  have HA:Hid (a+9<b.length):=by
   have:=(lC l3 V.hi).2;rw[J,ac] at this;exact this
  have HN:Hid (∀w5 vs,RJ w4 w5 cp gf (w4.heap.size+1) w4.heap.size b fl vs (x.n::st) cl->yC b ins fl cp gf w4 w5 A Ru St (a+9) (q+1) vs):=λw5 vs h=>⟨C,t,kq,_,cl,f',hG,by rw[J,ac],V,h⟩
  have HP:Hid _:= @RJ.push w4 wr;have HJ:Hid _:=I;clear I hS aa E g1 D J g4 V hG Y ad t3;generalize x.n=vv at*;go_wp2_with (first|(go_at_call 50;refine(W3 _).mono ?_;rintro e0 w' ⟨rfl,aM⟩;obtain rfl:=aM.symm)|(at_builtin;go_must (refine wpList_append_lies _ (by rfl) _ _ 116 (by rfl) 0 2 i0 (Iq 0) 1 8 underlying116 hi aq ar au (by rfl) (by decide) _ _ _ (by rfl) (HR.out.alloc _) ⟨wr.heap.size,0,none⟩ 1 1 [Iq vv] (by rfl) (by rfl) (World.news_of_block (RO wr _)) (λx hx=>by simp at hx;rcases hx with rfl;rfl) (by decide) (by unfold maxLen;omega) (by omega) (by simp) _ rfl ?_);intro gg aF w5 ai aj av aG))
  refine⟨?_,by have:=HA.out;simp[DO,intOf];omega⟩
  exact JI.of (HN.out _ _ (HJ.out.push _ ai aj av)) rfl (by go_num) (by go_num)
 ·rcases h with h|h
  all_goals
   have e:=E0.out.symm.trans h;clear E0;have G:cE x.op=2:=by rw[e];rfl
   rw[e] at G⊢;rw[G];obtain⟨t2,t3,t4⟩:=Y.two (by rw[e];rfl)
   have ae:1<(ByteArray.mk z.toArray).size:=by show 1<z.length;omega
   have aw:((ByteArray.mk z.toArray)[1]).toNat=cy z 1:=gq z 1 ae;have af:x.n.toNat=cy z 1:=by rw[t3];omega
   obtain⟨k',st',cl',jj,t,kq,f',g1,D,J,g4,V⟩:=E (by omega)
   have O:some (x.n::st,cl,false)=some (st',cl',jj):=by rw[<-D];unfold gj;rw[e];rfl
   simp only[R6,Sj] at O;obtain⟨rfl,rfl,rfl⟩:=O;rw[RH (by decide),e,G] at J
   have bc:x.n=(cy z 1:Int):=t3;obtain⟨i0,hi,hz⟩:=Su.1 oi;simp only[Sj] at hz;obtain⟨aq,ar,au⟩:=hz;have HR:Hid (wr.ownsRow 0 2 1 (.slice sa st.length R) st.length (st.reverse.map (Value.int .i64))):=by
    have h:=I.sta;unfold IR at h;show wr.ownsRow 0 2 1 (.slice sa st.length R) st.length (st.reverse.map (Value.int .i64));simpa using h
   have HA:Hid (a+2<b.length):=by
    have:=(lC l3 V.hi).2;rw[J,ac] at this;exact this
   have HN:Hid (∀w5 vs,RJ w4 w5 cp gf (w4.heap.size+1) w4.heap.size b fl vs (x.n::st) cl->yC b ins fl cp gf w4 w5 A Ru St (a+2) (q+1) vs):=λw5 vs h=>⟨C,t,kq,_,cl,f',hG,by rw[J,ac],V,h⟩
   have HP:Hid _:= @RJ.push w4 wr;have HJ:Hid _:=I;rw[bc] at HN;clear I hS aa E g1 D J g4 V hG Y ad t3;generalize cy z 1=c1 at*;go_wp2_with (first|(at_builtin;go_must (refine wpList_append_lies _ (by rfl) _ _ 116 (by rfl) 0 2 i0 (Iq 0) 1 8 underlying116 hi aq ar au (by rfl) (by decide) _ _ _ (by rfl) (HR.out.alloc _) ⟨wr.heap.size,0,none⟩ 1 1 [Iq (c1:Nat)] (by rfl) (by rfl) (World.news_of_block (RO wr _)) (λx hx=>by simp at hx;rcases hx with rfl;rfl) (by decide) (by unfold maxLen;omega) (by omega) (by simp) _ rfl ?_);intro gg aF w5 ai aj av aG))
   refine⟨?_,by have:=HA.out;simp[DO,intOf];omega⟩
   exact JI.of (HN.out _ _ (HJ.out.push _ ai aj av)) rfl (by go_num) (by go_num)
 ·have e:=E0.out.symm.trans h;clear E0;rw[e];have G:cE 4=2:=rfl;rw[G];obtain⟨t2,t3,t4⟩:=Y.two (by rw[e];rfl)
  have ae:1<(ByteArray.mk z.toArray).size:=by show 1<z.length;omega
  have aw:((ByteArray.mk z.toArray)[1]).toNat=cy z 1:=gq z 1 ae;have af:x.n.toNat=cy z 1:=by rw[t3];omega
  obtain⟨k',st',cl',jj,t,kq,f',g1,D,J,g4,V⟩:=E (by omega)
  have O:some (fl.getD x.n.toNat 0::st,cl,false)=some (st',cl',jj):=by rw[<-D];unfold gj;rw[e];rfl
  simp only[R6,Sj] at O;obtain⟨rfl,rfl,rfl⟩:=O;rw[RH (by decide),e,G] at J
  have aP:=(kD ad).two (by rw[e];rfl)
  have aQ:dC x.op (cy b 2)=8:=by rw[e];rfl
  have br:cy z 1<9:=by omega
  have bs:=I.fld (cy z 1) br;rw[af] at V;obtain⟨i0,hi,hz⟩:=Su.1 oi;simp only[Sj] at hz;obtain⟨aq,ar,au⟩:=hz;have HR:Hid (wr.ownsRow 0 2 1 (.slice sa st.length R) st.length (st.reverse.map (Value.int .i64))):=by
   have h:=I.sta;unfold IR at h;show wr.ownsRow 0 2 1 (.slice sa st.length R) st.length (st.reverse.map (Value.int .i64));simpa using h
  have HA:Hid (a+2<b.length):=by
   have:=(lC l3 V.hi).2;rw[J,ac] at this;exact this
  have HN:Hid (∀w5 vs,RJ w4 w5 cp gf (w4.heap.size+1) w4.heap.size b fl vs (fl.getD (cy z 1) 0::st) cl->yC b ins fl cp gf w4 w5 A Ru St (a+2) (q+1) vs):=λw5 vs h=>⟨C,t,kq,_,cl,f',hG,by rw[J,ac],V,h⟩
  have HP:Hid _:= @RJ.push w4 wr;have HJ:Hid _:=I;clear I hS aa E g1 D J g4 V hG Y ad t3;generalize cy z 1=c1 at*;generalize fl.getD c1 0=vv at*;go_wp2_with (first|(at_builtin;go_must (refine wpList_append_lies _ (by rfl) _ _ 116 (by rfl) 0 2 i0 (Iq 0) 1 8 underlying116 hi aq ar au (by rfl) (by decide) _ _ _ (by rfl) (HR.out.alloc _) ⟨wr.heap.size,0,none⟩ 1 1 [Iq vv] (by rfl) (by rfl) (World.news_of_block (RO wr _)) (λx hx=>by simp at hx;rcases hx with rfl;rfl) (by decide) (by unfold maxLen;omega) (by omega) (by simp) _ rfl ?_);intro gg aF w5 ai aj av aG))
  refine⟨?_,by have:=HA.out;simp[DO,intOf];omega⟩
  exact JI.of (HN.out _ _ (HJ.out.push _ ai aj av)) rfl (by go_num) (by go_num)
 ·have e:=E0.out.symm.trans h;clear E0;rw[e];have G:cE 5=2:=rfl;rw[G];obtain⟨t2,t3,t4⟩:=Y.two (by rw[e];rfl)
  have ae:1<(ByteArray.mk z.toArray).size:=by show 1<z.length;omega
  have aw:((ByteArray.mk z.toArray)[1]).toNat=cy z 1:=gq z 1 ae;have af:x.n.toNat=cy z 1:=by rw[t3];omega
  obtain⟨k',st',cl',jj,t,kq,f',g1,D,J,g4,V⟩:=E (by omega)
  cases st with
  |nil=>
   exfalso;unfold gj at D;rw[e] at D;cases D
  |cons v r=>
   have O:some (r,cl.set x.n.toNat v,false)=some (st',cl',jj):=by rw[<-D];unfold gj;rw[e];rfl
   simp only[R6,Sj] at O;obtain⟨rfl,rfl,rfl⟩:=O;obtain⟨g,cap,ab,an⟩:=I.form;simp only[R7,Sb] at ab;obtain⟨rfl,-,rfl⟩:=ab;have az:r.length+1<=24:=ak;obtain⟨ah,ag⟩:=RJ.top (v:=v) (r:=r) I;have aA:=ag r.length;have aJ:(0:Int)<=(r.length:Int)+1 - 1/\(r.length:Int)+1 - 1<(r.length:Int)+1:=by omega
   have aB:(0:Int)<=(r.length:Int)+1 - 1/\(r.length:Int)+1 - 1<=(R:Int):=by omega
   have aP:=(kD ad).two (by rw[e];rfl)
   have aQ:dC x.op (cy b 2)=(cy b 2:Int) - 1:=by rw[e];rfl
   have aK:cy z 1<cl.length:=by rw[hS.fit.len];omega
   obtain⟨bx,bz⟩:=I.cell aK;have bA:g≠w4.heap.size:=(I.own g rfl).2.2.2;rw[af] at V;rw[RH (by decide),e,G] at J
   have HA:Hid (a+2<b.length):=by
    have:=(lC l3 V.hi).2;rw[J,ac] at this;exact this
   have HN:Hid (yC b ins fl cp gf w4 (wr.setCell ⟨w4.heap.size,cy z 1,none⟩ (Iq v)) A Ru St (a+2) (q+1) (.slice (some ⟨g,0,none⟩) r.length R)):=⟨C,t,kq,r,_,f',hG,by rw[J,ac],V,(RJ.pop (v:=v) (r:=r) I).put aK v⟩
   clear I hS aa E g1 D J g4 V hG Y ad t3 aP aQ ag;generalize cy z 1=c1 at*;go_wp2_with fail;go_region;go_wp2;refine⟨?_,by have:=HA.out;simp[DO,intOf];omega⟩
   exact JI.of (HN.out.below (by first|exact RP _ _|exact below_drewN (RP _ _) _|exact(RP _ _).drew)) rfl (by go_num) (by go_num)
 ·have e:=E0.out.symm.trans h;clear E0;rw[e];have G:cE 6=2:=rfl;rw[G];obtain⟨t2,t3,t4⟩:=Y.two (by rw[e];rfl)
  have ae:1<(ByteArray.mk z.toArray).size:=by show 1<z.length;omega
  have aw:((ByteArray.mk z.toArray)[1]).toNat=cy z 1:=gq z 1 ae;have af:x.n.toNat=cy z 1:=by rw[t3];omega
  obtain⟨k',st',cl',jj,t,kq,f',g1,D,J,g4,V⟩:=E (by omega)
  have O:some (cl.getD x.n.toNat 0::st,cl,false)=some (st',cl',jj):=by rw[<-D];unfold gj;rw[e];rfl
  simp only[R6,Sj] at O;obtain⟨rfl,rfl,rfl⟩:=O;rw[RH (by decide),e,G] at J
  have aP:=(kD ad).two (by rw[e];rfl)
  have aQ:dC x.op (cy b 2)=(cy b 2:Int) - 1:=by rw[e];rfl
  have aK:cy z 1<cl.length:=by rw[hS.fit.len];omega
  have bs:=(I.cell aK).1;have bu:cy z 1<256:=t4;rw[af] at V;obtain⟨i0,hi,hz⟩:=Su.1 oi;simp only[Sj] at hz;obtain⟨aq,ar,au⟩:=hz;have HR:Hid (wr.ownsRow 0 2 1 (.slice sa st.length R) st.length (st.reverse.map (Value.int .i64))):=by
   have h:=I.sta;unfold IR at h;show wr.ownsRow 0 2 1 (.slice sa st.length R) st.length (st.reverse.map (Value.int .i64));simpa using h
  have HA:Hid (a+2<b.length):=by
   have:=(lC l3 V.hi).2;rw[J,ac] at this;exact this
  have HN:Hid (∀w5 vs,RJ w4 w5 cp gf (w4.heap.size+1) w4.heap.size b fl vs (cl.getD (cy z 1) 0::st) cl->yC b ins fl cp gf w4 w5 A Ru St (a+2) (q+1) vs):=λw5 vs h=>⟨C,t,kq,_,cl,f',hG,by rw[J,ac],V,h⟩
  have HP:Hid _:= @RJ.push w4 wr;have HJ:Hid _:=I;clear I hS aa E g1 D J g4 V hG Y ad t3;generalize cy z 1=c1 at*;generalize cl.getD c1 0=vv at*;go_wp2_with (first|(at_builtin;go_must (refine wpList_append_lies _ (by rfl) _ _ 116 (by rfl) 0 2 i0 (Iq 0) 1 8 underlying116 hi aq ar au (by rfl) (by decide) _ _ _ (by rfl) (HR.out.alloc _) ⟨wr.heap.size,0,none⟩ 1 1 [Iq vv] (by rfl) (by rfl) (World.news_of_block (RO wr _)) (λx hx=>by simp at hx;rcases hx with rfl;rfl) (by decide) (by unfold maxLen;omega) (by omega) (by simp) _ rfl ?_);intro gg aF w5 ai aj av aG))
  refine⟨?_,by have:=HA.out;simp[DO,intOf];omega⟩
  exact JI.of (HN.out _ _ (HJ.out.push _ ai aj av)) rfl (by go_num) (by go_num)
 ·have e:=E0.out.symm.trans h;clear E0;rw[e];have G:cE 12=1:=rfl;rw[G];obtain⟨k',st',cl',jj,t,kq,f',g1,D,J,g4,V⟩:=E (by omega)
  cases st with
  |nil=>
   exfalso;unfold gj at D;rw[e] at D;cases D
  |cons v r=>
   have O:some ((1 - v)::r,cl,false)=some (st',cl',jj):=by rw[<-D];unfold gj;rw[e];rfl
   simp only[R6,Sj] at O;obtain⟨rfl,rfl,rfl⟩:=O;obtain⟨g,cap,ab,an⟩:=I.form;simp only[R7,Sb] at ab;obtain⟨rfl,-,rfl⟩:=ab;have az:r.length+1<=24:=ak;obtain⟨ah,ag⟩:=RJ.top (v:=v) (r:=r) I;have aA:=ag r.length;have aJ:(0:Int)<=(r.length:Int)+1 - 1/\(r.length:Int)+1 - 1<(r.length:Int)+1:=by omega
   have aB:(0:Int)<=(r.length:Int)+1 - 1/\(r.length:Int)+1 - 1<=(R:Int):=by omega
   have bB:v=0\/v=1:=by
    have ht:=@kF [2] [2] k k' (by rw[<-g1,e];rfl)
    have Z:=hS.fit.typ;rw[ht.1] at Z;exact Z.1.2 rfl
   rw[RH (by decide),e,G] at J
   have HA:Hid (a+1<b.length):=by
    have:=(lC l3 V.hi).2;rw[J,ac] at this;exact this
   have HN:Hid (yC b ins fl cp gf w4 (wr.setCell ⟨g,r.length,none⟩ (Iq (1 - v))) A Ru St (a+1) (q+1) (.slice (some ⟨g,0,none⟩) (r.length+1) R)):=⟨C,t,kq,_,cl,f',hG,by rw[J,ac],V,RJ.set1 (v:=v) (r:=r) I (1 - v)⟩
   clear I hS aa E g1 D J g4 V hG Y ad ag;go_wp2_with fail;refine⟨?_,by have:=HA.out;simp[DO,intOf];omega⟩
   exact JI.of (HN.out.below (by first|exact RP _ _|exact below_drewN (RP _ _) _|exact(RP _ _).drew)) rfl (by go_num) (by go_num)
 ·obtain⟨N,wd,hN,h⟩:∃N wd,((N=13/\wd=[97,110,100])\/(N=14/\wd=([111,114]:LB)))/\cy b a=N:=by
   rcases h with h|h
   ·exact⟨_,_,.inl ⟨rfl,rfl⟩,h⟩
   exact⟨_,_,.inr ⟨rfl,rfl⟩,h⟩
  have e:=E0.out.symm.trans h;clear E0;have G:cE x.op=1:=by rw[e];rcases hN with⟨rfl,rfl⟩|⟨rfl,rfl⟩<;>rfl
  rw[e] at G⊢;rw[G];obtain⟨k',st',cl',jj,t,kq,f',g1,D,J,g4,V⟩:=E (by omega)
  match st,ak,hS,I,D with
  |[],_,_,_,D=>exfalso;unfold gj at D;rw[e] at D;rcases hN with⟨rfl,rfl⟩|⟨rfl,rfl⟩<;>cases D
  |[v],_,_,_,D=>exfalso;unfold gj at D;rw[e] at D;rcases hN with⟨rfl,rfl⟩|⟨rfl,rfl⟩<;>cases D
  |v::u::r,ak,hS,I,D=>
   have O:some (lz N u v::r,cl,false)=some (st',cl',jj):=by rw[<-D];unfold gj;rw[e];rcases hN with⟨rfl,rfl⟩|⟨rfl,rfl⟩<;>rfl
   simp only[R6,Sj] at O;obtain⟨rfl,rfl,rfl⟩:=O;obtain⟨g,cap,ab,an⟩:=I.form;simp only[R7,Sb] at ab;obtain⟨rfl,-,rfl⟩:=ab;have az:r.length+1+1<=24:=ak;obtain⟨ah,ag⟩:=RJ.top (v:=v) (r:=u::r) I;have ah:Cq wr g (r.length+1) (Iq v):=ah;have aN:=RJ.sec (v:=v) (u:=u) (r:=r) I;have aA:=ag r.length;have ay:dL u/\dL v:=by
    have Z:=hS.fit.typ;cases am:k.st with
    |nil=>rw[am] at Z;exact Z.elim
    |cons t0 ts=>
     rw[am] at Z;cases ap:ts with
     |nil=>rw[ap] at Z;exact Z.2.elim
     |cons t1 bh=>rw[ap] at Z;exact⟨Z.2.1.1,Z.1.1⟩
   have W3:=λw=>Af wd ay.1 ay.2 w
   have aO:oA wd u v=lz N u v:=by rcases hN with⟨rfl,rfl⟩|⟨rfl,rfl⟩<;>rfl
   rw[aO] at W3;have aJ:(0:Int)<=(r.length:Int)+1+1 - 1/\(r.length:Int)+1+1 - 1<(r.length:Int)+1+1:=by omega
   have a9:(0:Int)<=(r.length:Int)+1+1 - 2/\(r.length:Int)+1+1 - 2<(r.length:Int)+1+1:=by omega
   have aV:r.length+1+1<=R:=an;have aB:(0:Int)<=(r.length:Int)+1+1 - 1/\(r.length:Int)+1+1 - 1<=(R:Int):=by omega
   have ba:(0:Int)<=(r.length:Int)/\(r.length:Int)<(r.length:Int)+1+1:=by omega
   have bb:(0:Int)<=(r.length:Int)+1/\(r.length:Int)+1<(r.length:Int)+1+1:=by omega
   have bi:IntKind.i64.wrap ((r.length:Int)+1+1 - 2)=(r.length:Int):=by rw[Ss];omega
   have bj:IntKind.i64.wrap ((r.length:Int)+1+1 - 1)=(r.length:Int)+1:=by rw[Ss];omega
   have bk:IntKind.i64.wrap ((r.length:Int)+1)=(r.length:Int)+1:=by rw[Ss];omega
   have bl:IntKind.i64.wrap (r.length:Int)=(r.length:Int):=by rw[Ss];omega
   have bo:IntKind.i64.wrap 0=0:=by decide
   have bp:RowKit.wrap64 ((r.length:Int)+1+1 - 2)=(r.length:Int):=by unfold RowKit.wrap64;omega
   have bq:RowKit.wrap64 ((r.length:Int)+1+1 - 1)=(r.length:Int)+1:=by unfold RowKit.wrap64;omega
   rw[RH (by decide),e,G] at J
   have HA:Hid (a+1<b.length):=by
    have:=(lC l3 V.hi).2;rw[J,ac] at this;exact this
   have HN:Hid (yC b ins fl cp gf w4 (wr.setCell ⟨g,r.length,none⟩ (Iq (lz N u v))) A Ru St (a+1) (q+1) (.slice (some ⟨g,0,none⟩) (r.length+1) R)):=⟨C,t,kq,_,cl,f',hG,by rw[J,ac],V,RJ.pop (v:=v) (r:=lz N u v::r) (RJ.set2 (v:=v) (u:=u) (r:=r) I (lz N u v))⟩
   have bX:Cq wr g (r.length+1) (Iq v)/\Cq wr g r.length (Iq u):=⟨ah,aN⟩;generalize lz N u v=y at*;clear I hS aa E g1 D J g4 V hG Y ad ag;rcases hN with⟨rfl,rfl⟩|⟨rfl,rfl⟩
   all_goals
    have bm:IntKind.i64.wrap (13 - 7)=13 - 7:=by decide
    have bY:IntKind.i64.wrap (14 - 7)=14 - 7:=by decide
    go_wp2_with fail;go_region_with (first|(go_at_call 51;refine(W3 _).mono ?_;rintro e w2 ⟨rfl,rfl⟩))
    all_goals go_wp2
    all_goals refine⟨?_,by have:=HA.out;simp[DO,intOf];omega⟩
    all_goals exact JI.of (HN.out.below (by first|exact RP _ _|exact below_drewN (RP _ _) _|exact(RP _ _).drew)) rfl (by go_num) (by go_num)
 ·have e:=E0.out.symm.trans h;clear E0;rw[e];have G:cE 15=3:=rfl;rw[G];obtain⟨t2,t3,t4,t5⟩:=Y.three (by rw[e];rfl)
  have ae:1<(ByteArray.mk z.toArray).size:=by show 1<z.length;omega
  have aR:2<(ByteArray.mk z.toArray).size:=by show 2<z.length;omega
  have aw:((ByteArray.mk z.toArray)[1]).toNat=cy z 1:=gq z 1 ae;have bt:((ByteArray.mk z.toArray)[2]).toNat=cy z 2:=gq z 2 aR;have af:x.n.toNat=cy z 1*256+cy z 2:=by rw[t3];omega
  obtain⟨k',st',cl',jj,t,kq,f',g1,D,J,g4,V⟩:=E (by omega)
  cases st with
  |nil=>
   exfalso;unfold gj at D;rw[e] at D;cases D
  |cons v r=>
   have O:some (r,cl,v==0)=some (st',cl',jj):=by rw[<-D];unfold gj;rw[e];rfl
   simp only[R6,Sj] at O;obtain⟨rfl,rfl,rfl⟩:=O;obtain⟨g,cap,ab,an⟩:=I.form;simp only[R7,Sb] at ab;obtain⟨rfl,-,rfl⟩:=ab;have az:r.length+1<=24:=ak;obtain⟨ah,ag⟩:=RJ.top (v:=v) (r:=r) I;have aA:=ag r.length;have aJ:(0:Int)<=(r.length:Int)+1 - 1/\(r.length:Int)+1 - 1<(r.length:Int)+1:=by omega
   have aB:(0:Int)<=(r.length:Int)+1 - 1/\(r.length:Int)+1 - 1<=(R:Int):=by omega
   rw[e,G,af] at J;have HN:Hid (∀p,p=(if(v==0)=true then a+3+(cy z 1*256+cy z 2) else a+3)->yC b ins fl cp gf w4 wr A Ru St p (q+1) (.slice (some ⟨g,0,none⟩) r.length R)/\p<b.length):=λp hp=>by
    rw[ac] at J;refine⟨⟨C,t,kq,r,cl,f',hG,by rw[J,hp],V,RJ.pop (v:=v) (r:=r) I⟩,?_⟩
    have:=(lC l3 V.hi).2;rw[J,<-hp] at this;exact this
   have ay:dL v:=by
    have Z:=hS.fit.typ;cases am:k.st with
    |nil=>rw[am] at Z;exact Z.elim
    |cons t0 ts=>rw[am] at Z;exact Z.1.1
   clear I hS aa E g1 D J g4 V hG Y ad t3 ag af;generalize cy z 1=c1 at*;generalize cy z 2=c2 at*;by_cases hv:v=0
   ·subst hv;obtain⟨n1,n2⟩:=HN.out (a+3+(c1*256+c2)) (by simp)
    have aS:Hid _:=n1;have aT:Hid _:=n2;clear HN n1 n2;go_wp2_with fail;go_quiet (fail);go_wp2;refine⟨?_,by have:=aT.out;simp[DO,intOf];omega⟩
    exact JI.of (yC.below aS.out (by first|exact RP _ _|exact below_drewN (RP _ _) _|exact(RP _ _).drew)) rfl (by go_num) (by go_num)
   skip;obtain⟨n1,n2⟩:=HN.out (a+3) (by simp[hv])
   have aS:Hid _:=n1;have aT:Hid _:=n2;have bZ:(v==0)=false:=by simp[hv]
   clear HN n1 n2;go_wp2_with fail;refine⟨?_,by have:=aT.out;simp[DO,intOf];omega⟩
   exact JI.of (yC.below aS.out (by first|exact RP _ _|exact below_drewN (RP _ _) _|exact(RP _ _).drew)) rfl (by go_num) (by go_num)
 ·have e:=E0.out.symm.trans h;clear E0;rw[e];have G:cE 16=3:=rfl;rw[G];obtain⟨t2,t3,t4,t5⟩:=Y.three (by rw[e];rfl)
  have ae:1<(ByteArray.mk z.toArray).size:=by show 1<z.length;omega
  have aR:2<(ByteArray.mk z.toArray).size:=by show 2<z.length;omega
  have aw:((ByteArray.mk z.toArray)[1]).toNat=cy z 1:=gq z 1 ae;have bt:((ByteArray.mk z.toArray)[2]).toNat=cy z 2:=gq z 2 aR;obtain⟨k',st',cl',jj,t,kq,f',g1,D,J,g4,V⟩:=E (by omega)
  have O:some (st,cl,true)=some (st',cl',jj):=by rw[<-D];unfold gj;rw[e];rfl
  simp only[R6,Sj] at O;obtain⟨rfl,rfl,rfl⟩:=O;rw[RK rfl] at J;have HN:Hid (yC b ins fl cp gf w4 wr A Ru St (a+3+(cy z 1*256+cy z 2)) (q+1) (.slice sa st.length R)):=⟨C,t,kq,st,cl,f',hG,by rw[J,ac,t3];omega,V,I⟩
  have HA:Hid (a+3+(cy z 1*256+cy z 2)<b.length):=by
   have:=(lC l3 V.hi).2;rw[J,ac,t3] at this;show _<_;omega
  clear I hS aa E g1 D J g4 V hG Y ad t3;generalize cy z 1=c1 at*;generalize cy z 2=c2 at*;go_wp2_with fail;go_quiet (fail);go_wp2;refine⟨?_,by have:=HA.out;simp[DO,intOf];omega⟩
  exact JI.of (HN.out.below (below_drewN (RP _ _) _)) rfl (by go_num) (by go_num)
 ·have e:=E0.out.symm.trans h;clear E0;rw[e];have G:cE 17=2:=rfl;rw[G];obtain⟨t2,t3,t4⟩:=Y.two (by rw[e];rfl)
  have ae:1<(ByteArray.mk z.toArray).size:=by show 1<z.length;omega
  have aw:((ByteArray.mk z.toArray)[1]).toNat=cy z 1:=gq z 1 ae;have af:x.n.toNat=cy z 1:=by rw[t3];omega
  obtain⟨hA,aC,aD⟩:=aa (by omega)
  have HV:Hid (ny A Ru St= .agg #[.bool true,Iq (cy z 1:Nat),Iq ((q:Int)+1)]):=by
   show _=_;rw[hA,aD,aC,af,e];rfl
  obtain⟨ax,aE⟩:=aY.out;have rc:=λj=>RM wr _ j _ _ _ ax
  have r0:Cq wr (w.heap.size+1+1) 0 (.bool false):=rc 0;have r1:Cq wr (w.heap.size+1+1) 1 (Iq 0):=rc 1;have r2:Cq wr (w.heap.size+1+1) 2 (Iq 0):=rc 2;have rf:∀o,wr.frozen? ⟨w.heap.size+1+1,o,none⟩=false:=λo=>by simp[World.frozen?,ax]
  have g0:=rf 0;have g1:=rf 1;have D:=rf 2;have aU:Hid _:=aE;clear I hS aa E hG Y ad t3 rc rf ax aE hA aC aD af;generalize cy z 1=c1 at*;go_wp2_with fail;show Qr b w A Ru St _ _;unfold Qr;refine RU (v:= .agg #[.bool true,Iq (c1:Nat),Iq ((q:Int)+1)]) (by simp[results,results26,go_sem,dc,cN,fD,r0,r1,r2]) rfl ?_
  exact⟨by rw[HV.out],((aU.out.setCell (by simp;omega) _).setCell (by simp;omega) _).setCell (by simp;omega) _⟩
 have e:=E0.out.symm.trans h;clear E0;rw[e];have G:cE 18=2:=rfl;rw[G];obtain⟨t2,t3,t4⟩:=Y.two (by rw[e];rfl)
 have ae:1<(ByteArray.mk z.toArray).size:=by show 1<z.length;omega
 have aw:((ByteArray.mk z.toArray)[1]).toNat=cy z 1:=gq z 1 ae;have af:x.n.toNat=cy z 1:=by rw[t3];omega
 obtain⟨hA,aC,aD⟩:=aa (by omega)
 have HV:Hid (ny A Ru St= .agg #[.bool false,Iq (cy z 1:Nat),Iq ((q:Int)+1)]):=by
  show _=_;rw[hA,aD,aC,af,e];rfl
 obtain⟨ax,aE⟩:=aY.out;have rc:=λj=>RM wr _ j _ _ _ ax
 have r0:Cq wr (w.heap.size+1+1) 0 (.bool false):=rc 0;have r1:Cq wr (w.heap.size+1+1) 1 (Iq 0):=rc 1;have r2:Cq wr (w.heap.size+1+1) 2 (Iq 0):=rc 2;have rf:∀o,wr.frozen? ⟨w.heap.size+1+1,o,none⟩=false:=λo=>by simp[World.frozen?,ax]
 have g0:=rf 0;have g1:=rf 1;have D:=rf 2;have aU:Hid _:=aE;clear I hS aa E hG Y ad t3 rc rf ax aE hA aC aD af;generalize cy z 1=c1 at*;go_wp2_with fail;show Qr b w A Ru St _ _;unfold Qr;refine RU (v:= .agg #[.bool false,Iq (c1:Nat),Iq ((q:Int)+1)]) (by simp[results,results26,go_sem,dc,cN,fD,r0,r1,r2]) rfl ?_
 exact⟨by rw[HV.out],((aU.out.setCell (by simp;omega) _).setCell (by simp;omega) _).setCell (by simp;omega) _⟩
theorem OH {b:LB} {ins St} {l:List Value} (e:l.toArray=JF z D w q vs (Iq 3) (Iq 0) (λi=>l.getD i Nf)) (I:fE b=some ins) (R:dI fl) (J:z<w.heap.size) (G:Hid (∀W,Bl q W->W.heap[w.heap.size+1+1]?=some (.cells #[.bool false,Iq 0,Iq 0] 40 (0,0))/\Bl w W)) (U:Hid (yC b ins fl z D q wr A E St 3 0 vs)):
 Code.wp prog (Code.loop ((f26.body.bind qi).getD .skip)) (JQ (Qr b w A E St)) ⟨l.toArray,[]⟩ wr:=
 wp_loop (JI b ins fl z D w q A E St) (DO b) (JI.of U.out e rfl rfl) (λa O V=>M8 I R J G a O V)
theorem xZ {ins St mv} (e) (s) (hld:fE b=some ins) (hcp:w.heap[cp]?=some (.cells #[S b] 130 (0,0))) (h1:dD lv s.levels w) (h2:dD mv s.members w) (hwa:dL e.wants) (hF:dI (dM e s)) (hj:jx b ins (dM e s)=some (A,Ru,St)):
 Calls prog 26 #[Pq cp,zx e,lW lv mv s] w λen w'=>en= .returned (ny A Ru St)/\Below w.heap.size w w':=by
 have hmk:∀w:World,(Instr.makeSlice 116 (Iq 256) (Iq 256)).run prog w= .ok (.slice (some ⟨w.heap.size,0,none⟩) 256 256) (w.alloc (.cells (madeCells #[Iq 0] 256) 2)):=run_make_row' (P:=prog) 116 2 (Iq 0) 8 underlying116 oi rfl .i64 .i64 256 (by omega) (by omega)
 have W1:=λW (hb:Below w.heap.size w W)=>xk e s W (h1.below hb) (h2.below hb) hwa
 have HFL:Hid (dI (dM e s)/\jx b ins (dM e s)=some (A,Ru,St)):=⟨hF,hj⟩;generalize hfl:dM e s=fl at*;clear hfl hF hj;obtain⟨sn,tg,wa,nd,wh⟩:=e;obtain⟨ls,df,ms,op⟩:=s;obtain⟨_,la,lc,rfl,_⟩:=h1;obtain⟨_,ma,mc,rfl,_⟩:=h2;unfold zx lW at*;simp only[] at*;obtain⟨w3,hw3⟩:∃w3,((w.alloc (.cells #[S sn,S tg,Iq wa,Iq nd,Iq wh] 46)).alloc (.cells #[.slice la ls.length lc,Iq df,.slice ma ms.length mc,.bool op] 50)).alloc (.cells #[.bool false,Iq 0,Iq 0] 40)=w3:=⟨_,rfl⟩;have hb3:Below w.heap.size w w3:=by rw[<-hw3];exact(((RP _ w).alloc (RL _) _).alloc (by simp) _).alloc (by simp;omega) _
 have hk1:w3.heap[w.heap.size]?=some (.cells #[S sn,S tg,Iq wa,Iq nd,Iq wh] 46 (0,0)):=by rw[<-hw3];exact(RV _ _ _ (by simp;omega)).trans ((RV _ _ _ (by simp)).trans (RO w _))
 have hk2:w3.heap[w.heap.size+1]?=some (.cells #[.slice la ls.length lc,Iq df,.slice ma ms.length mc,.bool op] 50 (0,0)):=by
  rw[<-hw3];refine(RV _ _ _ (by simp)).trans ?_
  have:=RO (w.alloc (.cells #[S sn,S tg,Iq wa,Iq nd,Iq wh] 46)) (.cells #[.slice la ls.length lc,Iq df,.slice ma ms.length mc,.bool op] 50);rw[RW] at this;exact this
 have hk3:w3.heap[w.heap.size+1+1]?=some (.cells #[.bool false,Iq 0,Iq 0] 40 (0,0)):=by
  rw[<-hw3];have:=RO ((w.alloc (.cells #[S sn,S tg,Iq wa,Iq nd,Iq wh] 46)).alloc (.cells #[.slice la ls.length lc,Iq df,.slice ma ms.length mc,.bool op] 50)) (.cells #[.bool false,Iq 0,Iq 0] 40);rw[RW,RW] at this;exact this
 have HSZ:Hid (w3.heap.size=w.heap.size+1+1+1):=by show w3.heap.size=_;rw[<-hw3,RW,RW,RW]
 have V1:=W1 w3 hb3;have HCP:Hid _:=hcp;have HW:Hid _:=hw3;have HK3:Hid _:=hk3;have HB3:Hid _:=hb3;have HLD:Hid _:=hld;clear W1 hcp hw3 hk1 hk2 hk3 hb3 hld;go_enter func26,ntmps26
 go_wp2_with (
  go_at_call 41
  rw[HW.out];refine V1.mono ?_;rintro e w4 ⟨⟨gf,rfl,hgf⟩,hb4⟩;have HGF:Hid _:=hgf;have HB4:Hid _:=hb4
  clear hgf hb4 V1)
 have HW0:Hid (yC b ins fl cp gf w4 ((w4.alloc (.cells (madeCells #[Iq 0] 256) 2)).alloc (.cells #[S [43],S [45],S [61],S [60],S [60,61]] 9)) A Ru St 3 0 (.slice none 0 0)):=Kk HLD.out HFL.out.1 HFL.out.2 ((HB4.out.block _ (by have:=cq HCP.out;have:=HSZ.out;omega)).trans ((HB3.out.block _ (cq HCP.out)).trans HCP.out)) HGF.out
 have hcp:cp<w.heap.size:=cq HCP.out;have HRes:Hid (∀W,Below w4.heap.size w4 W->W.heap[w.heap.size+1+1]?=some (.cells #[.bool false,Iq 0,Iq 0] 40 (0,0))/\Below w.heap.size w W):=λW hb=>by
  have hs:=HSZ.out;have h4:=HB4.out.size;refine⟨(hb.block _ (by omega)).trans ((HB4.out.block _ (by omega)).trans HK3.out),?_⟩
  have q:=HB3.out.trans (HB4.out.mono HB3.out.size);exact q.trans (hb.mono q.size)
 have hld:=HLD.out;have hF:=HFL.out.1;clear HGF HCP HK3 HB3 HB4 HSZ HW hmk;refine wp_mono (OH (by rfl) hld hF hcp HRes HW0) ?_
 intro e act w' h
 cases e with
 |ret=>exact h
 |_=>exact h.elim
theorem fA.pairsJ {s:zw} {mv} (h:fA w A J D E s.levels.length s.members.length (gz s.levels 8) (gz s.members 8)) (O:dD lv s.levels w) (R:dD mv s.members w):
 dD (Sq D s.levels.length (s.levels.length+8)) s.levels A/\dD (Sq E s.members.length (s.members.length+8)) s.members A:=by
 obtain⟨U,a1,c1,_,V⟩:=O;obtain⟨Y,a2,c2,_,Z⟩:=R;refine⟨⟨U,_,_,rfl,λi q=>?_⟩,⟨Y,_,_,rfl,λi q=>?_⟩⟩
 ·obtain⟨_,_,_,_,_,G⟩:=V i q;have e:gz s.levels 8 i=s.levels.getD i ([],0):=by unfold gz;rw[RK q]
  refine⟨D,0,rfl,?_,?_,G⟩
  ·rw[Sw,h.row1.fst i (by omega),e]
  rw[Sw,h.row1.snd i (by omega),e]
 obtain⟨_,_,_,_,_,G⟩:=Z i q;have e:gz s.members 8 i=s.members.getD i ([],0):=by unfold gz;rw[RK q]
 refine⟨E,0,rfl,?_,?_,G⟩
 ·rw[Sw,h.row2.fst i (by omega),e]
 rw[Sw,h.row2.snd i (by omega),e]
theorem FZ {mv} {b:LB} {ins cap St} (e) (s) (w) (ar:fE b=some ins) (au:w.heap[lp]?=some (.cells #[Pq cp] 207 (0,0))) (aH:k7 w cp gi cap (cy b 2) (cy b 1) ins) (av:w.heap[rp]?=some (.cells #[S b] 130 (0,0))) (hj:jx b ins (dM e s)=some (A,Ru,St)) (h1:dD lv s.levels w) (h2:dD mv s.members w) (aI:s.levels.length<=5900000000000) (aJ:s.members.length<=5900000000000) (hw:dL e.wants) (hF:dI (dM e s)):
 Calls prog 31 #[Pq lp,Pq rp,zx e,lW lv mv s] w λen w'=>en= .returned (.bool true)/\Bl w w':=by
 have W1:=λW h=>Mj s W (h1.below h) (h2.below h) aI aJ
 have W2:=λ(W:World) (lv' aT:Value) (h:Bl w W) (p1:dD lv' s.levels W) (p2:dD aT s.members W)=>FY e s ar ((h.block _ (cq au)).trans au) (aH.below h) p1 p2 hF hj
 have W3:=λ(W:World) (h:Bl w W)=>xZ (w:=W) e s ar ((h.block _ (cq av)).trans av) (h1.below h) (h2.below h) hw hF hj
 have W4:=λ(W WX:World) (lb O R:Nat) (h:Bl w W) (hx:fA W WX lb O R s.levels.length s.members.length (gz s.levels 8) (gz s.members 8))=>Mk s W WX (h1.below h) (h2.below h) aI aJ hx
 have aK:Hid (∀W WX lb O R,Bl w W->fA W WX lb O R s.levels.length s.members.length (gz s.levels 8) (gz s.members 8)->dD (Sq O s.levels.length (s.levels.length+8)) s.levels WX/\dD (Sq R s.members.length (s.members.length+8)) s.members WX):=λW WX lb O R hb hx=>hx.pairsJ (h1.below hb) (h2.below hb)
 unfold ny at W2 W3;unfold zx lW at*;obtain⟨sn,tg,wa,nd,wh⟩:=e;obtain⟨ls,df,ms,op⟩:=s;simp only[] at*;have H0:Hid (Bl w ((w.alloc (.cells #[S sn,S tg,Iq wa,Iq nd,Iq wh] 46 (0,0))).alloc (.cells #[lv,Iq df,mv,.bool op] 50 (0,0)))/\((w.alloc (.cells #[S sn,S tg,Iq wa,Iq nd,Iq wh] 46 (0,0))).alloc (.cells #[lv,Iq df,mv,.bool op] 50 (0,0))).heap[w.heap.size]?=some (.cells #[S sn,S tg,Iq wa,Iq nd,Iq wh] 46 (0,0))/\((w.alloc (.cells #[S sn,S tg,Iq wa,Iq nd,Iq wh] 46 (0,0))).alloc (.cells #[lv,Iq df,mv,.bool op] 50 (0,0))).heap[w.heap.size+1]?=some (.cells #[lv,Iq df,mv,.bool op] 50 (0,0))):=
  ⟨((RP _ _).alloc (RL _) _).alloc (by simp) _,by rw[RV _ _ _ (by simp)];exact RO w _,by have e:=RO (w.alloc (.cells #[S sn,S tg,Iq wa,Iq nd,Iq wh] 46 (0,0))) (.cells #[lv,Iq df,mv,.bool op] 50 (0,0));rw[RW] at e;exact e⟩
 go_enter func31,ntmps31;go_wp2_with fail;obtain⟨ai,aw,ax⟩:=H0.out;generalize ((w.alloc (.cells #[S sn,S tg,Iq wa,Iq nd,Iq wh] 46 (0,0))).alloc (.cells #[lv,Iq df,mv,.bool op] 50 (0,0)))=wz at*;apply(W1 wz ai).mono;rintro en E ⟨lb,O,R,rfl,ay⟩;have an:Bl wz E:=ay.bl;have az:=ai.trans (an.mono ai.size);have I:=(an.block _ (cq aw)).trans aw;have aA:=(an.block _ (cq ax)).trans ax;have q:Bl E (E.alloc (.cells #[Sq O ls.length (ls.length+8),Iq df,Sq R ms.length (ms.length+8),.bool op] 50 (0,0))):=(RP _ _).alloc (RL _) _;have aa:=az.trans (q.mono az.size);have U:=ay.below q;have ad:=(q.block _ (cq I)).trans I;have ae:=(q.block _ (cq aA)).trans aA;have ao:(E.alloc (.cells #[Sq O ls.length (ls.length+8),Iq df,Sq R ms.length (ms.length+8),.bool op] 50 (0,0))).heap[E.heap.size]?=_:=RO E _;have H2:=Hi (And.intro U (And.intro aa (And.intro ad (And.intro ae ao))));have aj:=Hi ai;have c0:=RM E w.heap.size 0 _ _ _ I;have c1:=RM E w.heap.size 1 _ _ _ I;have c2:=RM E w.heap.size 2 _ _ _ I;have c3:=RM E w.heap.size 3 _ _ _ I;have c4:=RM E w.heap.size 4 _ _ _ I;simp only[RY,RZ,RX] at c0 c1 c2 c3 c4;have k1:w.heap.size<E.heap.size:=cq I;have k2:w.heap.size≠E.heap.size:=by omega
 have k3:E.heap.size≠w.heap.size:=by omega
 go_wp2_with fail;obtain⟨U,aa,ad,ae,ao⟩:=H2.out;generalize aU:E.heap.size=bm at*;generalize (E.alloc (.cells #[Sq O ls.length (ls.length+8),Iq df,Sq R ms.length (ms.length+8),.bool op] 50 (0,0)))=w2 at*;obtain⟨p1,p2⟩:=aK.out wz w2 lb O R aj.out U;apply(W2 w2 _ _ aa p1 p2).mono;rintro en z ⟨rfl,ak⟩;have aB:=aa.trans (ak.mono aa.size);have aC:=U.below ak;have J:=(ak.block _ (cq ad)).trans ad;have V:=(ak.block _ (cq ae)).trans ae;have q:Bl z (z.alloc (.cells #[.bool A,Iq Ru,Iq St] 40 (0,0))):=(RP _ _).alloc (RL _) _;have ab:=aB.trans (q.mono aB.size);have ac:=aC.below q;have ap:=(q.block _ (cq J)).trans J;have af:=(q.block _ (cq V)).trans V;have ag:(z.alloc (.cells #[.bool A,Iq Ru,Iq St] 40 (0,0))).heap[z.heap.size]?=_:=RO z _;have H4:=Hi (And.intro ac (And.intro ab (And.intro ap (And.intro af ag))));have c0:=RM z w.heap.size 0 _ _ _ J;have c1:=RM z w.heap.size 1 _ _ _ J;have c2:=RM z w.heap.size 2 _ _ _ J;have c3:=RM z w.heap.size 3 _ _ _ J;have c4:=RM z w.heap.size 4 _ _ _ J;have d0:=RM z (w.heap.size+1) 0 _ _ _ V;have d1:=RM z (w.heap.size+1) 1 _ _ _ V;have d2:=RM z (w.heap.size+1) 2 _ _ _ V;have d3:=RM z (w.heap.size+1) 3 _ _ _ V;simp only[RY,RZ,RX] at c0 c1 c2 c3 c4 d0 d1 d2 d3;have k1:w.heap.size<z.heap.size:=cq J;have k2:w.heap.size≠z.heap.size:=by omega
 have k3:z.heap.size≠w.heap.size:=by omega
 have j1:w.heap.size+1<z.heap.size:=cq V;have j2:w.heap.size+1≠z.heap.size:=by omega
 have j3:z.heap.size≠w.heap.size+1:=by omega
 go_wp2_with fail;obtain⟨ac,ab,ap,af,ag⟩:=H4.out;generalize aV:z.heap.size=bv at*;generalize (z.alloc (.cells #[.bool A,Iq Ru,Iq St] 40 (0,0)))=w4 at*;apply(W3 w4 ab).mono;rintro en G ⟨rfl,am⟩;have aD:=ab.trans (am.mono ab.size);have aE:=ac.below am;have ah:=(am.block _ (cq af)).trans af;have aF:=(am.block _ (cq ag)).trans ag;have q:Bl G (G.alloc (.cells #[.bool A,Iq Ru,Iq St] 40 (0,0))):=(RP _ _).alloc (RL _) _;have aq:=aD.trans (q.mono aD.size);have D:=aE.below q;have Y:=(q.block _ (cq aF)).trans aF;have Z:(G.alloc (.cells #[.bool A,Iq Ru,Iq St] 40 (0,0))).heap[G.heap.size]?=_:=RO G _;have H6:=Hi (And.intro D (And.intro aq (And.intro Y Z)));have d0:=RM G (w.heap.size+1) 0 _ _ _ ah;have d1:=RM G (w.heap.size+1) 1 _ _ _ ah;have d2:=RM G (w.heap.size+1) 2 _ _ _ ah;have d3:=RM G (w.heap.size+1) 3 _ _ _ ah;simp only[RY,RZ,RX] at d0 d1 d2 d3;have j1:w.heap.size+1<G.heap.size:=cq ah;have j2:w.heap.size+1≠G.heap.size:=by omega
 have j3:G.heap.size≠w.heap.size+1:=by omega
 go_wp2_with fail;obtain⟨D,aq,Y,Z⟩:=H6.out;generalize aW:G.heap.size=bu at*;generalize (G.alloc (.cells #[.bool A,Iq Ru,Iq St] 40 (0,0)))=w6 at*;have W7:=W4 wz w6 lb O R aj.out D;apply W7.mono;rintro en w7 ⟨rfl,aL,aG⟩;have aM:=aj.out.trans (aL.mono aj.out.size);have aN:bv≠O:=λe=>by
  obtain⟨cs,hc,_⟩:=D.row1.blk;rw[<-e,Y] at hc;simp at hc
 have aO:bv≠R:=λe=>by
  obtain⟨cs,hc,_⟩:=D.row2.blk;rw[<-e,Y] at hc;simp at hc
 have aP:bu≠O:=λe=>by
  obtain⟨cs,hc,_⟩:=D.row1.blk;rw[<-e,Z] at hc;simp at hc
 have aQ:bu≠R:=λe=>by
  obtain⟨cs,hc,_⟩:=D.row2.blk;rw[<-e,Z] at hc;simp at hc
 have aR:=(aG bv (cq Y) aN aO).trans Y;have aS:=(aG bu (cq Z) aP aQ).trans Z;have vc:=λj=>RM w7 bv j _ _ _ aR
 have uc:=λj=>RM w7 bu j _ _ _ aS
 have aX:=Hi aM;go_wp2_with fail;go_ret;exact⟨rfl,aX.out⟩
theorem DH (n:Nat) (q:n<=7) (w:World):Calls prog 13 #[Iq n] w λe w'=>e= .returned (Iq n)/\w'=w:=by
 go_enter func13,ntmps13
 go_wp2
 all_goals go_ret
 all_goals exact⟨dh (by go_num),rfl⟩
theorem Ga {mv} (b) (e) (s) (w) (hE:Ef w) (h1:dD lv s.levels w) (h2:dD mv s.members w) (ai:s.levels.length<=5900000000000) (aj:s.members.length<=5900000000000) (hw:dL e.wants) (hF:dI (dM e s)):
 Calls prog 27 #[S b,zx e,lW lv mv s] w λen w'=>en= .returned (.bool true)/\Below w.heap.size w w':=by
 have Z:=λW (h:Below w.heap.size w W)=>JU b (w:=W) (hE.below hE.pos h)
 have W2:=λW=>zQ b W
 have W3:=λw=>DH 7 (by decide) w
 have W4:=λw=>DH 0 (by decide) w
 have W5:=λ(W:World) (ins:List ey) (lp cp gi cap rp:Nat) (A:Bool) (Ru St:Nat) (h:Below w.heap.size w W) (E:fE b=some ins) (G:W.heap[lp]?=some (.cells #[Pq cp] 207 (0,0))) (I:k7 W cp gi cap (cy b 2) (cy b 1) ins) (ad:W.heap[rp]?=some (.cells #[S b] 130 (0,0))) (hj:jx b ins (dM e s)=some (A,Ru,St))=>FZ e s W E G I ad hj (h1.below h) (h2.below h) ai aj hw hF
 have HJ:Hid (∀ins,fE b=some ins-> ∃A Ru St,jx b ins (dM e s)=some (A,Ru,St)):=λins E=>by
  obtain⟨a,r,q,h,_⟩:=Ct E hF;exact⟨a,r,q,h⟩
 have ao:lv.oneCell'=true:=by obtain⟨_,a,c,rfl,_⟩:=h1;rfl
 have ap:mv.oneCell'=true:=by obtain⟨_,a,c,rfl,_⟩:=h2;rfl
 unfold zx lW at*;obtain⟨sn,tg,wa,nd,wh⟩:=e;obtain⟨ls,df,ms,op⟩:=s;simp only[] at*;have H0:Hid (Below w.heap.size w ((w.alloc (.cells #[S sn,S tg,Iq wa,Iq nd,Iq wh] 46 (0,0))).alloc (.cells #[lv,Iq df,mv,.bool op] 50 (0,0)))/\((w.alloc (.cells #[S sn,S tg,Iq wa,Iq nd,Iq wh] 46 (0,0))).alloc (.cells #[lv,Iq df,mv,.bool op] 50 (0,0))).heap[w.heap.size]?=some (.cells #[S sn,S tg,Iq wa,Iq nd,Iq wh] 46 (0,0))/\((w.alloc (.cells #[S sn,S tg,Iq wa,Iq nd,Iq wh] 46 (0,0))).alloc (.cells #[lv,Iq df,mv,.bool op] 50 (0,0))).heap[w.heap.size+1]?=some (.cells #[lv,Iq df,mv,.bool op] 50 (0,0))):=
  ⟨((RP _ _).alloc (RL _) _).alloc (by simp) _,by rw[RV _ _ _ (by simp)];exact RO w _,by have e:=RO (w.alloc (.cells #[S sn,S tg,Iq wa,Iq nd,Iq wh] 46 (0,0))) (.cells #[lv,Iq df,mv,.bool op] 50 (0,0));rw[RW] at e;exact e⟩
 unfold xK at Z;unfold tI at W2
 cases E:fE b with
 |none=>
  rw[E] at Z W2;simp only[] at Z W2;go_enter func27,ntmps27;go_wp2_with fail;obtain⟨z,aa,ab⟩:=H0.out;generalize ((w.alloc (.cells #[S sn,S tg,Iq wa,Iq nd,Iq wh] 46 (0,0))).alloc (.cells #[lv,Iq df,mv,.bool op] 50 (0,0)))=wz at*;apply(Z wz z).mono;rintro en w1 ⟨rfl,J⟩;have ak:=Hi (z.trans (J.mono z.size));go_wp2_with fail;apply(W2 _).mono;rintro en O ⟨rfl,D⟩;have ae:=Hi (ak.out.trans (D.mono ak.out.size));go_wp2_with fail;apply(W3 _).mono;rintro en w3 ⟨rfl,rfl⟩
  go_wp2
  go_ret;exact⟨rfl,ae.out⟩
 |some ins=>
  rw[E] at Z W2;simp only[] at Z W2;obtain⟨A,Ru,St,hj⟩:=HJ.out ins E;go_enter func27,ntmps27;go_wp2_with fail;obtain⟨z,aa,ab⟩:=H0.out;generalize ((w.alloc (.cells #[S sn,S tg,Iq wa,Iq nd,Iq wh] 46 (0,0))).alloc (.cells #[lv,Iq df,mv,.bool op] 50 (0,0)))=wz at*;apply(Z wz z).mono;rintro en w1 ⟨⟨lp,cp,gi,cap,rfl,G,I⟩,J⟩;have R:=z.trans (J.mono z.size);have U:=(J.block _ (cq aa)).trans aa;have V:=(J.block _ (cq ab)).trans ab;have H1:=Hi (And.intro R (And.intro U (And.intro V (And.intro G I))));go_wp2_with fail;apply(W2 _).mono;rintro en O ⟨⟨rp,aq,rfl,ad⟩,D⟩;obtain⟨R,U,V,G,I⟩:=H1.out;have af:=R.trans (D.mono R.size);have Y:=(D.block _ (cq U)).trans U;have ac:=(D.block _ (cq V)).trans V;have ag:=(D.block _ (cq G)).trans G;have ah:=I.below D;have c0:=RM O w.heap.size 0 _ _ _ Y;have c1:=RM O w.heap.size 1 _ _ _ Y;have c2:=RM O w.heap.size 2 _ _ _ Y;have c3:=RM O w.heap.size 3 _ _ _ Y;have c4:=RM O w.heap.size 4 _ _ _ Y;have d0:=RM O (w.heap.size+1) 0 _ _ _ ac;have d1:=RM O (w.heap.size+1) 1 _ _ _ ac;have d2:=RM O (w.heap.size+1) 2 _ _ _ ac;have d3:=RM O (w.heap.size+1) 3 _ _ _ ac;simp only[RY,RZ,RX] at c0 c1 c2 c3 c4 d0 d1 d2 d3;have V5:=W5 O ins lp cp gi cap rp A Ru St af E ag ah ad hj;have ae:=Hi af;go_wp2_with fail;apply(W4 _).mono;rintro en w3 ⟨rfl,rfl⟩;go_wp2_with fail;apply V5.mono;rintro en w4 ⟨rfl,am⟩;have an:=Hi (ae.out.trans (am.mono ae.out.size))
  go_wp2
  go_ret;exact⟨rfl,an.out⟩
end Go.Proofs.YtfkdailfcmnjlaaGreatDoor
