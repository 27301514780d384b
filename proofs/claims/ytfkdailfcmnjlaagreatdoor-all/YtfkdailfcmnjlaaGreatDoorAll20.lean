/-
  A part.
-/
import Derived.Test.YtfkdailfcmnjlaaGreatDoorAll17
import Derived.Test.YtfkdailfcmnjlaaGreatDoorAll19
set_option linter.all false
set_option maxHeartbeats 40000000
set_option maxRecDepth 1000000
namespace Go.Proofs.YtfkdailfcmnjlaaGreatDoor
open Go Go.RowKit
attribute [local go_sem ↓] Go.wp_at_zero Go.wp_at_succ
section
variable {bs : Nat}
variable {B b l w w' L k N xs ys base v}
theorem tK (h:Lib.IsBuilder 157 5 B b l w) (D:Bl w w'):Lib.IsBuilder 157 5 B b l w':=by
 rcases h with⟨E,v,z,h3,G⟩|⟨E,v,z,h3,G⟩
 ·exact .inl ⟨E,v,by rw[D.block _ (be z)];exact z,cD h3 D,G⟩
 exact .inr ⟨E,v,by rw[D.block _ (be z)];exact z,cD h3 D,G⟩
theorem wJ {xs:List dw} (h:k<xs.length):ky L (xs.take (k+1))=ky L (xs.take k)++AI L (xs.getD k dr):=by
 unfold ky;rw[nM h dr,List.flatMap_append];simp
theorem tL (l m:LB):Lib.byteCells l++Lib.strCells (ByteArray.mk m.toArray)=Lib.byteCells (l++m):=by
 simp[Lib.byteCells,Lib.strCells]
theorem tM (l:LB):(Lib.byteCells l).length=l.length:=by simp[Lib.byteCells]
theorem Ky (x) (h:x.name.length<=1000):(lZ x).length<=1010:=by
 unfold lZ pP sQ nw xB;split
 ·split<;>simp
 simp;omega
theorem G9 (hL:kO L) (af:w.ownsRow base 163 10 v ys.length (dB ys)) (hy:ys.length<=1001)
 (ag:du (dh bs L N w) xs ys) (av:fs L xs 0) (aw:∀x∈xs,x.name.length<=1000) (hS:Sp w) (ax:Tb w):
 Calls Tryz.prog 34 #[v] w λe w'=>e= .returned (S (ky L xs))/\Below w.heap.size w w':=by
 obtain⟨a,cap,rfl,ab⟩:=jR af;have ah:=Hi ag.len;have HC:=Hi ab;have HT:=Hi ag;have aT:=Hi av;have HL:=Hi hL;have aU:=Hi aw;have HS:Hid (Sp w):=hS;have aV:Hid (Tb w):=ax;clear af ab ag av hL aw hS ax;go_enter Tryz.func34,Tryz.ntmps34;have aW:Below w.heap.size w (w.alloc (.cells #[.pointer none,.slice none 0 0] 157)):=(Qq _ _).alloc (Qn _) _;have aX:Lib.IsBuilder 157 5 w.heap.size w.heap.size (Lib.byteCells []) (w.alloc (.cells #[.pointer none,.slice none 0 0] 157)):= .inl ⟨Qn _,_,Qp w _,QX _ _ _ _,by simp[Value.ownBlock]⟩
 go_wp2_with fail;generalize w.alloc (.cells #[.pointer none,.slice none 0 0] 157)=wz at*;generalize ay:w.heap.size=D at*;have E:=Hi ay;clear ay;go_loopw [8] (λkv wr=> ∃k fr l,k<=ys.length/\kv= Iq k/\Hid (l=ky L (xs.take k))/\l.length<=6000000*k/\Hid (fs L (xs.drop k) fr)/\Hid (du (dh bs L N w) (xs.drop k) (ys.drop k))/\Lib.IsBuilder 157 5 D D (Lib.byteCells l) wr/\Below D w wr) (λkv _=>ys.length - (intOf kv).toNat)
 case atStart=>exact⟨0,0,[],QA _,rfl,rfl,by simp,aT.out,HT.out,aX,aW⟩
 case round=>
  obtain⟨k,fr,l,hk,rfl,HM,bk,aP,aQ,O,U⟩:=hrel;by_cases ai:k<ys.length
  ·have R:k<xs.length:=by rw[<-ah.out];exact ai
   have V:=aP.out;have I:=aQ.out;rw[ep R dr] at V I;rw[ep ai (ee,ee,0,0)] at I;obtain⟨g,rfl,⟨bl,az⟩,Y⟩:=HC.out k ai;have aY:=Hi (wJ (L:=L) R);have aA:(xs.getD k dr).name.length<=1000:=aU.out _ (by rw[Qi,Ql R];exact QD R)
   generalize xs.getD k dr=x at*;generalize ys.getD k (ee,ee,0,0)=y at*;obtain⟨⟨aj,hO⟩,I⟩:=I;obtain⟨aB,bm,V⟩:=V;obtain⟨G,u0,b,wh⟩:=y;simp only[] at aj hO;have aZ:w.heap.size<=wr.heap.size:=U.size;have ak:Below w.heap.size w wr:=by rw[E.out];exact U
   have z:∀j,j<10->wr.cell? ⟨g,k*10+j,none⟩=(eK (G,u0,b,wh))[j]?:=λj hj=>by
    rw[ak.cell (p:=⟨g,k*10+j,none⟩) (be az)];exact Y j hj
   have c0:Cq wr g (k*10) (Iq (cy G)):=z 0 (by omega)
   have c1:Cq wr g (k*10+1) (Iq G.pl):=z 1 (by omega)
   have c2:Cq wr g (k*10+2) (Iq (cV G)):=z 2 (by omega)
   have c3:Cq wr g (k*10+3) (S (cE G)):=z 3 (by omega)
   have c4:Cq wr g (k*10+4) (Iq (cy u0)):=z 4 (by omega)
   have c5:Cq wr g (k*10+5) (Iq u0.pl):=z 5 (by omega)
   have c6:Cq wr g (k*10+6) (Iq (cV u0)):=z 6 (by omega)
   have c7:Cq wr g (k*10+7) (S (cE u0)):=z 7 (by omega)
   have c8:Cq wr g (k*10+8) (Iq wh):=z 8 (by omega)
   have c9:Cq wr g (k*10+9) (Pq b):=z 9 (by omega)
   have ac:=aB.fit;have aC:=dN.plain_len HL.out.short ac;have bo:=ac.lt;have bi:=HL.out.few;have bj:(gk (x.top+1) L x.top).length<=5500000:=QV aC (QV (RV _ (show x.top+1 - fr<=5000 by omega)) (by decide))
   have bp:=Ky x aA;have J:Below wr.heap.size wr (wr.alloc (fN G u0 wh (Pq b))):=(Qq _ _).alloc (Qn _) _;have Z:Below w.heap.size w (wr.alloc (fN G u0 wh (Pq b))):=ak.trans (J.mono aZ);have ad:(wr.alloc (fN G u0 wh (Pq b))).heap[wr.heap.size]?=some (fN G u0 wh (Pq b)):=Qp wr _;have am:=tK O J;have W1:=Ks (b:=b) (n:=wh) hO aA (wr.alloc (fN G u0 wh (Pq b))) (Sp.below HS.out (Sp.pos HS.out) Z);unfold OL at W1;have aR:=Hi I;have aS:=Hi V;have a0:=Hi aj;have a8:=Hi ac;have a9:Hid (AI L x=lZ x++gk (x.top+1) L x.top++[59,10]):=rfl;clear Y z aB ac I V aj hO aC U O az;unfold fN at J Z ad am W1;generalize lZ x=hd at*;generalize cy G=q0 at*;generalize G.pl=q1 at*;generalize cV G=q2 at*;generalize cE G=q3 at*;generalize cy u0=q4 at*;generalize u0.pl=q5 at*;generalize cV u0=q6 at*;generalize cE u0=q7 at*;go_wp2_with fail;apply W1.mono;rintro e w1 ⟨rfl,ae⟩;clear W1 c0 c1 c2 c3 c4 c5 c6 c7 c8 c9;have an:=Z.trans (ae.mono Z.size);have aD:=(ae.block _ (be ad)).trans ad;have aE:=an.size;rw[E.out] at aE;have W2:=lq D D (Lib.byteCells l) ⟨hd.toArray⟩ w1 (tK am ae) (by rw[tM];simp[ByteArray.size];omega) aE
   rw[tL] at W2;clear J Z ad am ae;have aF:=Hi an;have ao:=Hi aD;clear an aD;go_wp2_with fail;apply W2.mono;rintro e w2 ⟨rfl,aG,aH,aI⟩;clear W2;have aJ:=(aI _ _ _ _ ao.out (by decide) (by decide)).trans ao.out
   have aa:=aF.out.trans (by rw[E.out];exact aH)
   obtain⟨⟨z0,z1,z2,z3,z4,z5,z6,z7,z8,z9⟩,zf⟩:=dI aJ;have W3:=DV HL.out (x.top+1) a8.out (a0.out.grow aa) (Sp.below HS.out (Sp.pos HS.out) aa) (Tb.below aV.out aa);have aK:=Hi aa;have ap:Hid (Lib.IsBuilder 157 5 D D (Lib.byteCells (l++hd)) w2):= .inr aG;clear aJ aa aG aH aI ao aF;generalize gk (x.top+1) L x.top=pl at*;go_wp2_with fail;apply W3.mono;rintro e w3 ⟨rfl,aq⟩;clear W3 z0 z1 z2 z3 z4 z5 z6 z7 z8 z9 zf;have ar:=aK.out.trans (aq.mono aK.out.size);have aL:=ar.size;rw[E.out] at aL;have W4:=lq D D (Lib.byteCells (l++hd)) ⟨pl.toArray⟩ w3 (tK ap.out aq) (by rw[tM];simp[ByteArray.size];omega) aL
   rw[tL] at W4;have ba:=Hi ar;clear ar aq ap;go_wp2_with fail;apply W4.mono;rintro e w4 ⟨rfl,aM,aN,_⟩;clear W4;have au:=ba.out.trans (by rw[E.out];exact aN)
   have aO:=au.size;rw[E.out] at aO;have W5:=lq D D (Lib.byteCells (l++hd++pl)) ⟨[59,10].toArray⟩ w4 (.inr aM) (by rw[tM];simp[ByteArray.size];omega) aO
   rw[tL] at W5;have bb:=Hi au;clear au aN aM;go_wp2_with fail;apply W5.mono;rintro e w5 ⟨rfl,bc,bd,_⟩;clear W5;have bf:Below D w w5:=by
    have:=bb.out;rw[E.out] at this;exact this.trans bd
   go_wp2;go_roundw
   case rel=>
    refine⟨k+1,x.parts,l++hd++pl++[59,10],by omega,by simp,?_,by simp;omega,aS.out,aR.out,.inr bc,bf⟩
    show _=_;rw[aY.out,a9.out,HM.out];simp
   case measure=>simp[intOf];omega
  have bg:k=ys.length:=by omega
  subst bg;have bh:D<=wr.heap.size:=by have:=U.size;rw[E.out] at this;exact this
  have W1:=su D D l wr O bh;have HE:Hid (l=ky L xs):=by
   have:=HM.out;rw[Q4 (by rw[ah.out];exact Qn _)] at this
   exact this
  clear O;go_wp2_with fail;apply W1.mono;rintro e w1 ⟨rfl,J⟩;clear W1;go_wp2;go_ret;refine⟨by rw[<-HE.out];rfl,?_⟩
  rw[E.out];exact U.trans J
end
end Go.Proofs.YtfkdailfcmnjlaaGreatDoor
