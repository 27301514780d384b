/-
  A part.
-/
import Derived.Test.YtfkdailfcmnjlaaGreatDoorAll32
import Derived.Test.YtfkdailfcmnjlaaGreatDoorAll33
import Derived.Deep.CutBlock
set_option linter.all false
set_option maxHeartbeats 40000000
set_option maxRecDepth 1000000
namespace Go.Proofs.YtfkdailfcmnjlaaGreatDoor
open Go Go.RowKit
attribute [local go_sem ↓] Go.wp_at_zero Go.wp_at_succ
variable {fl I D w A J a x E G w' z}
theorem nV:(Tryz.prog.info? 2).map (λi=>(i.zero,i.size,i.bytes))=some (some (Iq 0),1,8):=by kernel_rfl
def xY (b:List UInt8) (ins:List ek) (fl:List Int) (I J:Nat) (w wr:World) (A:Bool) (O St a q:Nat) (vs:Value):Prop:=
 ∃(C:Nat->Option Kn) (i:Nat) (k:Kn) (st cl:List Int) (f:Nat),Good ins (cr b 1) 0 C/\(ins.getD i cH).pl=a/\OP b ins fl (cr b 2) C A O St i k st cl f q/\RJ w wr I J (w.heap.size+1) w.heap.size b fl vs st cl
theorem IV {b:LB} {ins St} (O:fD b=some ins) (hF:dL fl) (Z:mN b ins fl=some (A,J,St)) (q:w.heap[I]?=some (.cells #[S b] 130 (0,0))) (E:∀i,i<9->Cq w D i (Iq (fl.getD i 0))):
 xY b ins fl I D w ((w.alloc (.cells (madeCells #[Iq 0] 256) 2)).alloc (.cells #[S [43],S [45],S [61],S [60],S [60,61]] 9)) A J St 3 0 (.slice none 0 0):=by
 obtain⟨l1,l2,l3,R,l5,l6,C,l7,l8⟩:=mw O;have U:(ins.getD 0 cH).pl=3:=by
  have:=l3.order;cases ins with
  |nil=>simp at R
  |cons x r=>exact this.1
 have hc:=eS b 2;have G:Bl w ((w.alloc (.cells (madeCells #[Iq 0] 256) 2)).alloc (.cells #[S [43],S [45],S [61],S [60],S [60,61]] 9)):=((Qq _ _).alloc (Qn _) _).alloc (by simp) _
 have z:=Qk w _ (E 0 (by decide))
 have z:D<w.heap.size:=z;refine⟨C,0,_,[],List.replicate (cr b 2) 0,ins.length,l8,U,⟨R,l7,⟨trivial,λc V=>?_,by simp⟩,by simp,Qn _,Z⟩,⟨(G.block _ (be q)).trans q,IR.nil _ _,λg hg=>by simp[Value.ownBlock] at hg,?_,λj Y=>by rw[G.cell z];exact E j Y,?_,G,⟨be q,trivial,by omega,Qn _,by simp;omega,by omega⟩⟩⟩
 ·exfalso;refine V ?_;rw[Qi,Q8];split<;>rfl
 ·rw[<-EI (by omega)]
  exact(Qu _ _ _ (by simp)).trans (Qp w _)
 have:=Qp (w.alloc (.cells (madeCells #[Iq 0] 256) 2)) (.cells #[S [43],S [45],S [61],S [60],S [60,61]] 9);rw[Qw] at this;exact this
theorem RJ.push {w wr D G I J O gg cap} {b:LB} {fl vs st cl} (h:RJ w wr G I J O b fl vs st cl) (v) {o} (E:D.ownsRow 0 2 1 (Sq gg (st.length+1) cap) (st.length+1) (st.reverse.map (Value.int .i64)++[Iq v])) (z:(wr.alloc o).grownBy D vs.ownBlock) (R:vs.ownBlock=some gg\/gg=(wr.alloc o).heap.size):RJ w D G I J O b fl (Sq gg (st.length+1) cap) (v::st) cl:=by
 refine h.stack (((cI.refl (λq=>vs.ownBlock=some q) wr).alloc o).grown z (λk U=> .inl U)) (λ_ A=>A) ?_ (λg A=>?_)
 ·unfold IR;simpa using E
 simp[Value.ownBlock] at A;subst A;rcases R with h|h
 ·exact .inl h
 right;rw[h,Qw];omega
def M7 (k:Nat):List UInt8:=([[43],[45],[61],[60],[60,61]]:List (List UInt8)).getD k []
theorem xY.below {b:LB} {ins fl z D w wr E A G St a q vs} (h:xY b ins fl z D w wr A G St a q vs) (I:Bl wr E):xY b ins fl z D w E A G St a q vs:=by
 obtain⟨C,i,k,st,cl,f,J,O,h3,R⟩:=h;exact⟨C,i,k,st,cl,f,J,O,h3,R.below I⟩
theorem lX (b:LB) (a j:Nat):cr (b.drop a) j=cr b (a+j):=by
 unfold cr;rw[Qi,Qi,SV]
theorem Ao (b:LB) (a j:Nat):∀n,fb (b.drop a) j n=fb b (a+j) n
 |0=>rfl
 |n+1=>by rw[fb,fb,Ao b a j n,lX,R0]
theorem FG (b:LB):(BA b).extract a b.length=BA (b.drop a):=by
 rw[gm];unfold cut;rw[Q4 (by simp)]
structure Qg (b bb:List UInt8) (x:ek):Prop where
 len:bb.length=b.length - x.pl
 pos:0<bb.length
 b0:cr bb 0=x.op
 two:cG x.op=2->1<bb.length/\x.n=(cr bb 1:Int)/\cr bb 1<256
 three:cG x.op=3->2<bb.length/\x.n=(cr bb 1*256+cr bb 2:Int)/\cr bb 1<256/\cr bb 2<256
 nine:x.op=1->9<=bb.length/\x.n=fe (fb (bb.drop 1) 0 8)
theorem PY {b:LB} (h:rY b x):Qg b (b.drop x.pl) x:=by
 have A:=h.fits;have D:=SP h.size;have q:(b.drop x.pl).length=b.length - x.pl:=by simp
 refine⟨q,by omega,by rw[lX];exact Ab h,λg=>⟨by omega,by rw[lX];exact Fy h g,eS _ _⟩,λg=>⟨by omega,by rw[lX,lX];exact yS h g,eS _ _,eS _ _⟩,λg=>⟨?_,?_⟩⟩
 ·have:cG x.op=9:=by rw[g];rfl
  omega
 have z:x.n=nI b x.op x.pl:=by have:=h.here;rw[this];rfl
 rw[z,Ao,Ao];unfold nI;rw[Qo g]
def pL:Code->Option Code
 | .loop c=>some c
 | .seq a b=>match pL a with
  |some c=>some c
  |none=>pL b
 | .block _ c=>pL c
 | .scope c=>pL c
 | .cond _ a b=>match pL a with
  |some c=>some c
  |none=>pL b
 |_=>none
def JF (I J:Nat) (w z:World) (O A D:Value) (U:Nat->Value):Array Value:= #[Pq I,U 1,U 2,U 3,U 4,U 5,Pq (w.heap.size+1+1),.slice (some ⟨J,0,none⟩) 9 9,O,.slice (some ⟨z.heap.size,0,none⟩) 256 256,.slice (some ⟨z.heap.size+1,0,none⟩) 5 5,A,D,U 13,U 14,U 15,U 16,U 17,U 18,U 19,U 20,U 21,U 22,U 23,U 24,U 25,U 26,U 27,U 28,U 29,U 30,U 31,U 32,U 33,U 34,U 35,U 36,U 37,U 38,U 39,U 40,U 41,U 42,U 43,U 44,U 45,U 46,U 47,U 48,U 49,U 50,U 51,U 52,U 53,U 54,U 55,U 56,U 57,U 58,U 59,U 60,U 61,U 62,U 63,U 64,U 65,U 66,U 67,U 68,U 69,U 70,U 71,U 72,U 73,U 74,U 75,U 76,U 77,U 78,U 79,U 80,U 81,U 82,U 83,U 84,U 85,U 86,U 87,U 88,U 89,U 90,U 91,U 92,U 93,U 94,U 95,U 96,U 97,U 98,U 99,U 100,U 101,U 102,U 103,U 104,U 105,U 106,U 107,U 108,U 109,U 110,U 111,U 112,U 113,U 114,U 115,U 116,U 117,U 118,U 119,U 120,U 121,U 122,U 123,U 124,U 125,U 126,U 127,U 128,U 129,U 130,U 131,U 132,U 133,U 134,U 135,U 136,U 137,U 138,U 139,U 140,U 141,U 142,U 143,U 144,U 145,U 146,U 147,U 148,U 149,U 150,U 151,U 152,U 153,U 154,U 155,U 156,U 157,U 158,U 159,U 160,U 161,U 162,U 163,U 164,U 165,U 166,U 167,U 168,U 169,U 170,U 171,U 172,U 173,U 174,U 175,U 176,U 177,U 178,U 179,U 180,U 181,U 182,U 183,U 184,U 185,U 186,U 187,U 188,U 189,U 190,U 191,U 192,U 193,U 194,U 195,U 196,U 197,U 198,U 199,U 200,U 201,U 202,U 203,U 204,U 205,U 206,U 207,U 208,U 209,U 210,U 211,U 212,U 213,U 214,U 215,U 216,U 217,U 218,U 219,U 220,U 221,U 222,U 223,U 224,U 225,U 226,U 227]
def JI (b:List UInt8) (ins:List ek) (fl:List Int) (I J:Nat) (w O:World) (A:Bool) (Ru St:Nat) (R:Act) (w':World):Prop:=
 ∃U V D E a q,D= Iq (a:Nat)/\E= Iq (q:Nat)/\xY b ins fl I J O w' A Ru St a q V/\R=⟨JF I J w O V D E U,[]⟩
theorem JI.of {b:LB} {ins:List ek} {O St a q:Nat} {l:List Value} (h:xY b ins fl E G I w' A O St a q J) (e:l.toArray=JF E G w I J z D (λi=>l.getD i Nf)) (R:z= Iq a) (U:D= Iq q):JI b ins fl E G w I A O St ⟨l.toArray,[]⟩ w':=
 ⟨_,J,z,D,a,q,R,U,h,by rw[<-e]⟩
def CI (b:List UInt8) (q:Act) (_:World):Nat:=b.length - (intOf (q.tmps.getD 11 undef)).toNat
def OQ (b:List UInt8) (w:World) (A:Bool) (G St:Nat) (z:Act) (w':World):Prop:=bodyPost Tryz.prog Tryz.f26 (λI w'=>I= .returned (nU A G St)/\Below w.heap.size w w') .ret z w'
def JQ (R:Act->World->Prop):Exit->Act->World->Prop
 | .ret,a,w=>R a w
 |_,_,_=>False
end Go.Proofs.YtfkdailfcmnjlaaGreatDoor
