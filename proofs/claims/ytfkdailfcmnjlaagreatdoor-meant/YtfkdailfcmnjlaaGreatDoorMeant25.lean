/-
  A part.
-/
import Derived.Test.YtfkdailfcmnjlaaGreatDoorMeant22i
import Derived.Test.YtfkdailfcmnjlaaGreatDoorMeant23
import Derived.Test.YtfkdailfcmnjlaaGreatDoorMeant24
import Derived.ChangeSlices
set_option linter.unusedVariables false
set_option linter.unusedSimpArgs false
set_option maxHeartbeats 40000000
set_option maxRecDepth 1000000
set_option maxHeartbeats 40000000
set_option maxRecDepth 1000000
namespace Go.Proofs.YtfkdailfcmnjlaaGreatDoor
open Go Go.ChangeShapes Go.WideShapes Go.ChangeAt Go.WideMaps Go.WideElems Go.RowKit Go.Deep
variable {t e:TypeId} {n b0 U:Nat} {a b c v:Value} {r:Reach} {p:List MemPlace}
theorem vA:Tryz.prog.cellsOf 3=1:=by kernel_rfl
theorem xQ:Tryz.prog.cellsOf 2=1:=by kernel_rfl
theorem qp:Tryz.prog.cellsOf 4=1:=by kernel_rfl
theorem Lc:Tryz.prog.cellsOf 33=3:=by kernel_rfl
theorem Ld:Tryz.prog.cellsOf 34=3:=by kernel_rfl
theorem Le:Tryz.prog.cellsOf 35=3:=by kernel_rfl
theorem Px:Tryz.prog.cellsOf 37=16:=by kernel_rfl
variable {H : Type} {enc : TypeId × Value → H} {w : World} {base : Nat} {spare : Nat → Bool} {held : Bool}
theorem MO {x:DataW H×List MemPlace} (ht:Tryz.prog.underlying t=some (.array 3 e)) (hc:Tryz.prog.cellsOf e=1) (hu:Tryz.prog.underlying e=some (.int .i64)) (h:DataW.trod enc Tryz.prog w base spare held n t [a,b,c]=some x):∃i j k,a= Iq i∧b= Iq j∧c= Iq k∧dG i∧dG j∧dG k:=by
 obtain⟨xs,m,rfl,hx,hl,hn,hel⟩:=DataW.trod_array ht h
 match xs,hn with
 |[y0,y1,y2],_=>
  have e0:DataW.trod enc Tryz.prog w base spare held m e [a]=some y0:=by simpa [hc] using hel 0 (by omega)
  have e1:DataW.trod enc Tryz.prog w base spare held m e [b]=some y1:=by simpa [hc] using hel 1 (by omega)
  have e2:DataW.trod enc Tryz.prog w base spare held m e [c]=some y2:=by simpa [hc] using hel 2 (by omega)
  obtain⟨i,w0,_,f0⟩:=aaB hu e0;obtain⟨j,w1,_,f1⟩:=aaB hu e1;obtain⟨k,w2,_,f2⟩:=aaB hu e2;simp at w0 w1 w2;exact⟨i,j,k,w0,w1,w2,mB f0,mB f1,mB f2⟩
theorem N4 {x:DataW H×List MemPlace} (ht:Tryz.prog.underlying t=some (.array 3 e)) (hc:Tryz.prog.cellsOf e=1) (hu:Tryz.prog.underlying e=some .bool) (h:DataW.trod enc Tryz.prog w base spare held n t [a,b,c]=some x):∃i j k,a= .bool i∧b= .bool j∧c= .bool k:=by
 obtain⟨xs,m,rfl,hx,hl,hn,hel⟩:=DataW.trod_array ht h
 match xs,hn with
 |[y0,y1,y2],_=>
  have e0:DataW.trod enc Tryz.prog w base spare held m e [a]=some y0:=by simpa [hc] using hel 0 (by omega)
  have e1:DataW.trod enc Tryz.prog w base spare held m e [b]=some y1:=by simpa [hc] using hel 1 (by omega)
  have e2:DataW.trod enc Tryz.prog w base spare held m e [c]=some y2:=by simpa [hc] using hel 2 (by omega)
  obtain⟨i,w0,_⟩:=ab6 hu e0;obtain⟨j,w1,_⟩:=ab6 hu e1;obtain⟨k,w2,_⟩:=ab6 hu e2;simp at w0 w1 w2;exact⟨i,j,k,w0,w1,w2⟩
theorem EV {d:DataW H} (hv:Value.okWide Tryz.prog w r b0 37 v) (h:DataW.Trod enc Tryz.prog w base spare held 37 v d p):∃c,v= .agg (je c)∧jC c:=by
 obtain⟨cs,rfl,hsz⟩:=okWide_struct Tryz.underlying37 hv;obtain⟨l⟩:=cs;have hl:l.length=16:=by simpa using hsz.trans Px
 obtain⟨c0,c1,c2,c3,c4,c5,c6,c7,c8,c9,c10,c11,c12,c13,c14,c15,rfl⟩:∃c0 c1 c2 c3 c4 c5 c6 c7 c8 c9 c10 c11 c12 c13 c14 c15,l=[c0,c1,c2,c3,c4,c5,c6,c7,c8,c9,c10,c11,c12,c13,c14,c15]:=by
  match l,hl with
  |[x0,x1,x2,x3,x4,x5,x6,x7,x8,x9,x10,x11,x12,x13,x14,x15],_=>exact⟨x0,x1,x2,x3,x4,x5,x6,x7,x8,x9,x10,x11,x12,x13,x14,x15,rfl⟩
 obtain⟨fuel,hf⟩:=h;obtain⟨xs,n,_,hx,_,hlen,hf⟩:=DataW.trod_struct Tryz.underlying37 hf
 match xs,hlen with
 |[y0,y1,y2,y3,y4,y5,y6,y7,y8,y9],_=>
  have q0:DataW.trod enc Tryz.prog w base spare held n 3 [c0]=some y0:=by simpa [Value.cells,vA,xQ,qp,Lc,Ld,Le] using hf 0 _ rfl
  have q1:DataW.trod enc Tryz.prog w base spare held n 3 [c1]=some y1:=by simpa [Value.cells,vA,xQ,qp,Lc,Ld,Le] using hf 1 _ rfl
  have q2:DataW.trod enc Tryz.prog w base spare held n 3 [c2]=some y2:=by simpa [Value.cells,vA,xQ,qp,Lc,Ld,Le] using hf 2 _ rfl
  have q3:DataW.trod enc Tryz.prog w base spare held n 2 [c3]=some y3:=by simpa [Value.cells,vA,xQ,qp,Lc,Ld,Le] using hf 3 _ rfl
  have q4:DataW.trod enc Tryz.prog w base spare held n 2 [c4]=some y4:=by simpa [Value.cells,vA,xQ,qp,Lc,Ld,Le] using hf 4 _ rfl
  have q5:DataW.trod enc Tryz.prog w base spare held n 33 [c5,c6,c7]=some y5:=by simpa [Value.cells,vA,xQ,qp,Lc,Ld,Le] using hf 5 _ rfl
  have q6:DataW.trod enc Tryz.prog w base spare held n 34 [c8,c9,c10]=some y6:=by simpa [Value.cells,vA,xQ,qp,Lc,Ld,Le] using hf 6 _ rfl
  have q7:DataW.trod enc Tryz.prog w base spare held n 35 [c11,c12,c13]=some y7:=by simpa [Value.cells,vA,xQ,qp,Lc,Ld,Le] using hf 7 _ rfl
  have q8:DataW.trod enc Tryz.prog w base spare held n 2 [c14]=some y8:=by simpa [Value.cells,vA,xQ,qp,Lc,Ld,Le] using hf 8 _ rfl
  have q9:DataW.trod enc Tryz.prog w base spare held n 4 [c15]=some y9:=by simpa [Value.cells,vA,xQ,qp,Lc,Ld,Le] using hf 9 _ rfl
  obtain⟨sn,w0,_,f0⟩:=aaB Tryz.underlying3 q0;obtain⟨tg,w1,_,f1⟩:=aaB Tryz.underlying3 q1;obtain⟨wa,w2,_,f2⟩:=aaB Tryz.underlying3 q2;obtain⟨nd,w3,_,f3⟩:=aaB Tryz.underlying2 q3;obtain⟨wh,w4,_,f4⟩:=aaB Tryz.underlying2 q4;obtain⟨l0,l1,l2,u0,u1,u2,g0,g1,g2⟩:=MO Tryz.underlying33 xQ Tryz.underlying2 q5;obtain⟨i0,i1,i2,t0,t1,t2,k0,k1,k2⟩:=MO Tryz.underlying34 vA Tryz.underlying3 q6;obtain⟨a0,a1,a2,s0,s1,s2⟩:=N4 Tryz.underlying35 qp Tryz.underlying4 q7;obtain⟨df,w8,_,f8⟩:=aaB Tryz.underlying2 q8;obtain⟨op,w9,_⟩:=ab6 Tryz.underlying4 q9;simp at w0 w1 w2 w3 w4 w8 w9;subst w0 w1 w2 w3 w4 w8 w9 u0 u1 u2 t0 t1 t2 s0 s1 s2;exact⟨⟨sn,tg,wa,nd,wh,l0,l1,l2,i0,i1,i2,a0,a1,a2,df,op⟩,rfl,⟨mB f0,mB f1,mB f3,mB f4,g0,g1,g2,k0,k1,k2,mB f8⟩⟩
theorem xN.below {zs:List Int} {w w':World} (h:xN v zs w) (D:Below w.heap.size w w'):xN v zs w':=by
 obtain⟨E,a,cap,e,G⟩:=h;refine⟨E,a,cap,e,fun i I=>?_⟩
 obtain⟨b,o,J,z⟩:=G i I;exact⟨b,o,J,by rw[D.cell (p:=⟨b,o+i,none⟩) (Zx w _ z)];exact z⟩
theorem KK {d:DataW H} (V:Value.okWide Tryz.prog w r U 38 v) (h:DataW.Trod enc Tryz.prog w base (fun _=>true) held 38 v d p):∃zs,xN v zs w∧ ∀z∈zs,dG z:=by
 obtain⟨a0,len,cap,rfl⟩:=okWide_slice Tryz.underlying38 V;obtain⟨fuel,Y⟩:=h;rcases Go.ChangeShapes.open_ints Tryz.underlying38 Tryz.underlying3 vA Y with⟨E,_⟩|⟨a,n,c,zs,E,_,hl,hm,Z,_,J,hw⟩
 ·simp[Value.cells] at E
  obtain⟨rfl,rfl,rfl⟩:=E;exact⟨[],⟨by simp,none,0,rfl,fun i G=>by simp at G⟩,by simp⟩
 ·simp[Value.cells] at E
  obtain⟨rfl,rfl,rfl⟩:=E;simp at Z;have D:(zs.take len).length=len:=by simp;omega
  refine⟨zs.take len,⟨by rw[D];omega,some a,cap,by rw[D],fun i G=>?_⟩,fun z O=>mB (hw z (abB O))⟩
  rw[D] at G;have R:=J i (by omega)
  have I:=J 0 (by omega)
  have e0:a.add 0=a:=by simp[Addr.add]
  rw[e0] at I;obtain⟨b,o,rfl⟩:=Ip I;rw[Addr.add_mid] at R;refine⟨b,o,rfl,?_⟩;rw[R]
  congr 2
  simp only[Zs,abe];rw[Zu G]
theorem tP:laidOutB Tryz.prog=true:=by kernel_rfl
end Go.Proofs.YtfkdailfcmnjlaaGreatDoor
