/-
  A part.
-/
import Derived.Test.YtfkdailfcmnjlaaGreatDoorAll22
import Derived.Laws.CopyOwn
set_option linter.all false
set_option maxHeartbeats 40000000
set_option maxRecDepth 1000000
namespace Go.Proofs.YtfkdailfcmnjlaaGreatDoor
open Go Go.RowKit
attribute [local go_sem ↓] Go.wp_at_zero Go.wp_at_succ
variable {J o a w K E ty k w' g j x y n}
theorem xS {P} (w) (V sT ty elem) (b o z J) (sp) (D O E) (cs)
 (Y:P.underlying V=some (.slice elem)) (Z:(P.info? elem).map (·.size)=some E) (hn:cs.length=Nat.min D z*E)
 (R:0<cs.length-> ∃a,sp=some a/\ ∀j v,cs[j]?=some v->w.cell? (a.add j)=some v) (hc:∀j,j<cs.length->(w.cell? ⟨b,o+j,none⟩).isSome=true) (hf:∀j,j<cs.length->w.frozen? ⟨b,o+j,none⟩=false) (h1:∀v∈cs,v.oneCell'=true):
 (Builtin.copy_ #[V,sT] ty #[.slice (some ⟨b,o,none⟩) z J,.slice sp D O]).run P w= .ok (goInt (Nat.min D z)) (w.setCells b o cs):=by
 have aa:=run_storeCells_cells (P:=P) b o cs 0 w (by simpa using hc) (by simpa using hf) h1
 cases G:P.info? elem with
 |none=>simp[G] at Z
 |some i=>
  have hi:i.size=E:=by simpa [G] using Z
  by_cases h0:0<cs.length
  ·obtain⟨a,rfl,I⟩:=R h0;have U:=run_loadCells_list (P:=P) w a cs I;simp[Builtin.copy_,Tt Y,Builtin.lenOf,Builtin.firstCells,sizeOf,typeInfo,G,hi,<-hn,U,aa]
  obtain rfl:cs=[]:=Rc (by omega)
  have U:∀x,(loadCells x 0).run P w= .ok #[] w:=λx=>by simpa using run_loadCells_list w x [] (by simp)
  have ab:Nat.min D z*E=0:=by simpa using hn.symm
  cases sp<;>simp[Builtin.copy_,Tt Y,Builtin.lenOf,Builtin.firstCells,sizeOf,typeInfo,G,hi,ab,storeCells,U,World.setCells]
theorem pC {P Q} (Y:o.guard=none) (d s) (O Z)
 (ho:o.op= .call {callee:= .builtin .copy,args:= #[d,s],argTypes:= #[O,Z]}) (elem) (hu:P.underlying O=some (.slice elem)) (R) (aa:(P.info? elem).map (·.size)=some R)
 (g off z G) (sp) (D I) (hd:a.eval d= .slice (some ⟨g,off,none⟩) z G) (hs:a.eval s= .slice sp D I)
 (cs) (hn:cs.length=Nat.min D z*R)
 (U:0<cs.length-> ∃a,sp=some a/\ ∀j v,cs[j]?=some v->w.cell? (a.add j)=some v) (hc:∀j,j<cs.length->(w.cell? ⟨g,off+j,none⟩).isSome=true) (hf:∀j,j<cs.length->w.frozen? ⟨g,off+j,none⟩=false) (h1:∀v∈cs,v.oneCell'=true)
 (h:K (a.put o.dst (goInt (Nat.min D z))) (w.setCells g off cs)):
 if Region.wanted o (yielded J a.tmps)=true then Oper.wp P o a w K Q else E:=by
 have hw:Region.wanted o (yielded J a.tmps)=true:=by simp[Region.wanted,Y]
 rw[Qo hw];have V:=xS w O Z o.type elem g off z G sp D I R cs hu aa hn U hc hf h1;unfold Oper.wp;simp[execOp,ho,resolve,invoke,builtin,hd,hs,V,Result.andThen];exact h
theorem nh {P} (t e) (z) (G bytes) (V:P.underlying t=some (.slice e)) (D:(P.info? e).map (λi=>(i.zero,i.size,i.bytes))=some (some z,G,bytes))
 (I J) (n:Nat) (O:bytes*n<=281474976710656) (aa:n<=9223372036854775807) (w):
 (Instr.makeSlice t (.int I n) (.int J n)).run P w= .ok (Sq w.heap.size n n) (w.alloc (.cells (madeCells z.cells (n*G)) e)):=by
 obtain⟨i,Y,E⟩:=QP.1 D;simp only[QS] at E;obtain⟨Z,hs,hb⟩:=E;have R:(i.bytes:Int)*(n:Int)<=281474976710656:=by
  have h:((i.bytes*n:Nat):Int)<=281474976710656:=by rw[hb];omega
  rwa [Int.natCast_mul] at h
 have U:=run_make w t e i z V Y Z I J n n (by omega) (Int.le_refl _) R (by omega)
 simp only[Rr,hs] at U;exact U
theorem Ea:(Tryz.prog.info? 108).map (λi=>(i.zero,i.size,i.bytes))=some (some (.agg #[.string ⟨#[]⟩,Iq 0]),2,24):=by kernel_rfl
theorem BM:(Tryz.prog.info? 110).map (λi=>(i.zero,i.size,i.bytes))=some (some (.agg #[.string ⟨#[]⟩,Iq 0]),2,24):=by kernel_rfl
structure gV (w:World) (g:Nat) (ty) (k) (f:Nat->List UInt8×Int):Prop where
 blk:∃cs,w.heap[g]?=some (.cells cs ty (0,0))/\cs.size=k*2
 fst:∀j,j<k->w.cell? ⟨g,j*2,none⟩=some (S (f j).1)
 snd:∀j,j<k->w.cell? ⟨g,j*2+1,none⟩=some (Iq (f j).2)
theorem gV.frz {g:Nat} {f:Nat->LB×Int} (h:gV w g ty k f) (j:Nat):w.frozen? ⟨g,j,none⟩=false:=by
 obtain⟨cs,z,_⟩:=h.blk;simp[World.frozen?,z]
theorem gV.of_block {g:Nat} {f:Nat->LB×Int} (h:gV w g ty k f) (z:w'.heap[g]?=w.heap[g]?):gV w' g ty k f:=
 ⟨by rw[z];exact h.blk,λj D=>by rw[Qz z];exact h.fst j D,λj D=>by rw[Qz z];exact h.snd j D⟩
theorem gV.put {f f':Nat->LB×Int} (h:gV w g ty k f) (U:j<k) (E:f' j=(x,y)) (G:∀i,i<k->i≠j->f' i=f i):gV ((w.setCell ⟨g,j*2,none⟩ (S x)).setCell ⟨g,j*2+1,none⟩ (Iq y)) g ty k f':=by
 obtain⟨cs,I,O⟩:=h.blk;have R:=QB w g (j*2) cs ty (S x) I;have J:=QB _ g (j*2+1) _ ty (Iq y) R;have z:∀q,((w.setCell ⟨g,j*2,none⟩ (S x)).setCell ⟨g,j*2+1,none⟩ (Iq y)).cell? ⟨g,q,none⟩=if q=j*2+1 then some (Iq y) else if q=j*2 then some (S x) else w.cell? ⟨g,q,none⟩:=λq=>by
  rw[Qm _ g q _ _ _ J,Qm w g q _ _ _ I];by_cases a:q=j*2+1
  ·subst a;rw[Qo rfl,Rk,Qo rfl,Qo (by simp;omega)]
  rw[Qj a];by_cases b:q=j*2
  ·subst b;rw[Qo rfl,Rm (by omega),Rk,Qo rfl,Qo (by omega)]
  rw[Qj b,Rm (by omega),Rm (by omega)]
 refine⟨⟨_,J,by simpa using O⟩,λi D=>?_,λi D=>?_⟩
 ·rw[z];by_cases e:i=j
  ·subst e;rw[Qj (by omega),Qo rfl,E]
  rw[Qj (by omega),Qj (by omega),G i D e];exact h.fst i D
 rw[z];by_cases e:i=j
 ·subst e;rw[Qo rfl,E]
 rw[Qj (by omega),Qj (by omega),G i D e];exact h.snd i D
def eM (D:List (List UInt8×Int)):List Value:=D.flatMap λx=>[S x.1,Iq x.2]
theorem jI (z:List (LB×Int)):(eM z).length=z.length*2:=by
 induction z with
 |nil=>rfl
 |cons x r ih=>simp[eM] at ih⊢;omega
theorem tN (z:List (LB×Int)):∀j,j<z.length->(eM z)[j*2]?=some (S (z.getD j ([],0)).1)/\(eM z)[j*2+1]?=some (Iq (z.getD j ([],0)).2):=by
 induction z with
 |nil=>intro j D;simp at D
 |cons x r ih=>
  intro j D;have e:eM (x::r)=S x.1:: Iq x.2::eM r:=rfl;cases j with
  |zero=>rw[e];exact⟨rfl,rfl⟩
  |succ j=>
   obtain⟨a,b⟩:=ih j (by simpa using D)
   rw[e,show(j+1)*2=j*2+1+1 by omega,show j*2+1+1+1=(j*2+1)+1+1 by omega]
   simp only[Qv,QI];exact⟨a,b⟩
theorem wO (E:List (LB×Int)):∀v∈eM E,v.oneCell'=true:=by
 intro v z;simp only[eM,S4] at z;obtain⟨x,_,D⟩:=z;simp at D;rcases D with rfl|rfl<;>rfl
theorem wP {z:List (LB×Int)} {a:Option Addr} (h:∀i,i<z.length-> ∃b o,a=some ⟨b,o,none⟩/\Cq w b (o+i*2) (S (z.getD i ([],0)).1)/\Cq w b (o+i*2+1) (Iq (z.getD i ([],0)).2)/\dn (z.getD i ([],0)).2):
 0<(eM z).length-> ∃I,a=some I/\ ∀j v,(eM z)[j]?=some v->w.cell? (I.add j)=some v:=λR=>by
 rw[jI] at R;obtain⟨b,o,e,_⟩:=h 0 (by omega)
 refine⟨_,e,λj v D=>?_⟩
 rw[Addr.add_mid];have V:j<z.length*2:=by rw[<-jI];exact(Rz.1 D).1
 obtain⟨Y,Z,E,c0,c1,_⟩:=h (j / 2) (by omega)
 rw[e] at E;simp at E;obtain⟨rfl,rfl⟩:=E;obtain⟨J,O⟩:=tN z (j / 2) (by omega)
 rcases Nat.mod_two_eq_zero_or_one j with U|U
 ·have G:j / 2*2=j:=by omega
  rw[G] at c0 J;rw[J] at D;simp at D;rw[<-D];exact c0
 have G:j / 2*2+1=j:=by omega
 rw[G] at O;rw[show o+j / 2*2+1=o+j by omega] at c1
 rw[O] at D;simp at D;rw[<-D];exact c1
theorem qj {w:World} {g:Nat} {k:Nat} (h:w.heap[g]?=some (.cells (madeCells #[.string ⟨#[]⟩,Iq 0] (k*2)) ty (0,0))):gV w g ty k (λ_=>([],0)):=by
 have D:=λj=>Qm w g j _ _ _ h
 refine⟨⟨_,h,RT _ _⟩,λj E=>?_,λj E=>?_⟩
 ·have e:j*2 %2=0:=by omega
  have z:j*2<k*2:=by omega
  rw[D];unfold madeCells;simp[e,z]
 have e:(j*2+1) %2=1:=by omega
 have z:j*2+1<k*2:=by omega
 rw[D];unfold madeCells;simp[e,z]
theorem nN {w:World} {g ty}:∀vs o {w:World} {cs},w.heap[g]?=some (.cells cs ty (0,0))-> ∃z,(w.setCells g o vs).heap[g]?=some (.cells z ty (0,0))/\z.size=cs.size
 |[],_,_,cs,h=>⟨cs,h,rfl⟩
 |v::r,o,w,cs,h=>by
  obtain⟨z,D,E⟩:=nN r (o+1) (w:=w.setCell ⟨g,o,none⟩ v) (QB w g o cs ty v h);exact⟨z,D,by rw[E];simp⟩
theorem eh {g k} (h:k≠g):∀vs o (w:World),(w.setCells g o vs).heap[k]?=w.heap[k]?
 |[],_,_=>rfl
 |v::r,o,w=>(eh h r (o+1) _).trans (Qr _ _ _ _ (by simpa using h))
theorem gV.copied {g:Nat} {f:Nat->LB×Int} (h:gV w g ty k f) (z:List (LB×Int)) (V:z.length<=k):gV (w.setCells g 0 (eM z)) g ty k (λj=>if j<z.length then z.getD j ([],0) else f j):=by
 obtain⟨cs,J,Y⟩:=h.blk;obtain⟨O,R,Z⟩:=nN (g:=g) (w:=w) (eM z) 0 J;have U:=jI z;have E:∀j,j<(eM z).length->(w.cell? ⟨g,0+j,none⟩).isSome=true:=λj G=>by
  rw[QO,Qm w g j _ _ _ J];simp;omega
 have I:=Si g (eM z) 0 w E;refine⟨⟨O,R,by omega⟩,λj G=>?_,λj G=>?_⟩
 ·by_cases D:j<z.length
  ·rw[Qo D];have e:=I (j*2) (by omega)
   rw[QO] at e;rw[e,<-Ql];exact(tN z j D).1
  rw[Qj D,SM _ _ _ _ _ (λ_ _=> .inr (by simp only[];omega))];exact h.fst j G
 by_cases D:j<z.length
 ·rw[Qo D];have e:=I (j*2+1) (by omega)
  rw[QO] at e;rw[e,<-Ql];exact(tN z j D).2
 rw[Qj D,SM _ _ _ _ _ (λ_ _=> .inr (by simp only[];omega))];exact h.snd j G
theorem gV.there {f:Nat->LB×Int} (h:gV w g ty k f) (D:n<=k*2):(∀j,j<n->(w.cell? ⟨g,0+j,none⟩).isSome=true)/\ ∀j,j<n->w.frozen? ⟨g,0+j,none⟩=false:=by
 obtain⟨cs,z,E⟩:=h.blk;exact⟨λj G=>by rw[QO,Qm w g j _ _ _ z];simp;omega,λj _=>h.frz _⟩
def Eb:List UInt8:=[98,101,104,105,110,100]
def fh (z:List (List UInt8×Int)) (i:Nat) (j:Nat):List UInt8×Int:=if j<z.length then z.getD j ([],0) else if j<z.length+i then(Eb,((j - z.length:Nat):Int)) else([],0)
end Go.Proofs.YtfkdailfcmnjlaaGreatDoor
