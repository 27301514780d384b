/-
  A part.
-/
import Derived.Test.YtfkdailfcmnjlaaGreatDoorCompiles21
import Derived.ProofKit
import Derived.OpenShut
import Derived.Lib.SmallJoins
import Derived.Deep.SlicePairs
set_option linter.all false
set_option maxHeartbeats 40000000
set_option maxRecDepth 1000000
namespace Go.Proofs.YtfkdailfcmnjlaaGreatDoor
open Go Go.RowKit Go.ChangeAt Go.ChangeShapes Go.Deep Go.WideElems Go.WideMaps Go.WideShapes
section
variable {n r b0 t f0 f1 f2 f3 f4 v p a e J O fuel}
theorem tJ (h:(Lit.int .i64 n).wf=true):dL n:=by
 have:=h;simp[Lit.wf,IntKind.min,IntKind.max,IntKind.signed,IntKind.bits] at this;unfold dL;exact this
variable {H : Type} {enc : TypeId × Value -> H} {P : Program} {w : World} {base : Nat} {spare : Nat -> Bool} {held : Bool}
theorem Ko {d:DataW H} (hs:P.underlying t=some (.struct #[f0,f1,f2,f3,f4])) (hone:oneCellFields P #[f0,f1,f2,f3,f4]=true) (hC:P.cellsOf t=5)
 (hv:Value.okWide P w r b0 t v) (h:DataW.Trod enc P w base spare held t v d p):
 ∃v0 v1 v2 v3 v4 y0 y1 y2 y3 y4 n,v= .agg #[v0,v1,v2,v3,v4]/\d= .agg [y0.1,y1.1,y2.1,y3.1,y4.1]/\p=y0.2++(y1.2++(y2.2++(y3.2++y4.2)))/\
  DataW.trod enc P w base spare held n f0.type [v0]=some y0/\DataW.trod enc P w base spare held n f1.type [v1]=some y1/\DataW.trod enc P w base spare held n f2.type [v2]=some y2/\DataW.trod enc P w base spare held n f3.type [v3]=some y3/\DataW.trod enc P w base spare held n f4.type [v4]=some y4:=by
 obtain⟨cs,rfl,hsz⟩:=okWide_struct hs hv;obtain⟨l⟩:=cs;have hl:l.length=5:=by simpa using hsz.trans hC
 obtain⟨c0,c1,c2,c3,c4,rfl⟩:∃c0 c1 c2 c3 c4,l=[c0,c1,c2,c3,c4]:=by
  match l,hl with
  |[a,b,c,d,e],_=>exact⟨a,b,c,d,e,rfl⟩
 obtain⟨fuel,hf⟩:=h;obtain⟨xs,n,_,hx,_,hlen,hf⟩:=DataW.trod_struct hs hf;obtain⟨o0,k0⟩:=hone_of hone 0 f0 rfl;obtain⟨o1,k1⟩:=hone_of hone 1 f1 rfl;obtain⟨o2,k2⟩:=hone_of hone 2 f2 rfl;obtain⟨o3,k3⟩:=hone_of hone 3 f3 rfl;obtain⟨o4,k4⟩:=hone_of hone 4 f4 rfl
 match xs,hlen with
 |[y0,y1,y2,y3,y4],_=>
  simp only[Sj] at hx;exact⟨c0,c1,c2,c3,c4,y0,y1,y2,y3,y4,n,rfl,by simpa using hx.1,by simpa using hx.2,by simpa [Value.cells,o0,k0] using hf 0 f0 rfl,by simpa [Value.cells,o1,k1] using hf 1 f1 rfl,by simpa [Value.cells,o2,k2] using hf 2 f2 rfl,by simpa [Value.cells,o3,k3] using hf 3 f3 rfl,by simpa [Value.cells,o4,k4] using hf 4 f4 rfl⟩
theorem Kp (h:w.cell? a=some v):∃b o,a=⟨b,o,none⟩:=by
 obtain⟨b,o,sp⟩:=a
 cases sp with
 |none=>exact⟨b,o,rfl⟩
 |some s=>
  exfalso;simp only[World.cell?] at h
  split at h
  ·simp at h
  ·simp at h
def GZ:Value->List UInt8
 | .string s=>s.data.toList
 |_=>[]
theorem ya {x:DataW H×List MemPlace} (ht:P.underlying t=some (.slice e)) (he:P.underlying e=some (.struct #[J,O]))
 (ce:P.cellsOf e=2) (o0:J.offset=0) (o1:O.offset=1) (c0:P.cellsOf J.type=1) (c1:P.cellsOf O.type=1) (u0:P.underlying J.type=some .string) (u1:P.underlying O.type=some (.int .i64))
 (h:DataW.trod enc P w base (λ_=>true) held fuel t [v]=some x):∃R,dD v R w/\(∀y∈R,dL y.2)/\((x.1= .nil/\R=[])\/ ∃el sp,x.1= .slice el sp/\el.length=R.length):=by
 rcases Deep.open_slice_pairs ht he ce o0 o1 c0 c1 h with⟨D,rfl⟩|⟨a,len,cap,m,n,U,G,D0,D1,P0,P1,D,_,hl,hm,Y,rfl,hx⟩
 ·simp at D;subst D
  exact⟨[],⟨by simp,none,0,rfl,λi z=>by simp at z⟩,by simp,.inl ⟨rfl,rfl⟩⟩
 ·simp at D;subst D
  simp at Y;subst Y;have V:0<len-> ∃b o,a=⟨b,o,none⟩:=λD=>by
   obtain⟨E,_⟩:=hx 0 (by omega)
   have e:a.add (0*2)=a:=by simp[Addr.add]
   rw[e] at E;exact Kp E
  have I:∀i,i<len-> ∃b o,a=⟨b,o,none⟩/\Cq w b (o+i*2) (S (GZ (U i)))/\Cq w b (o+i*2+1) (Iq (intOf (G i)))/\dL (intOf (G i)):=λi z=>by
   obtain⟨E,Z,g2,g3⟩:=hx i (by omega)
   obtain⟨s,e0,_,_⟩:=Uz u0 g2;obtain⟨q,e1,_,hw⟩:=TS u1 g3;simp at e0 e1;obtain⟨b,o,rfl⟩:=V (by omega)
   rw[Addr.add_mid] at E Z;rw[e0] at E⊢;rw[e1] at Z⊢;exact⟨b,o,rfl,E,by rw[Th];exact Z,tJ hw⟩
  refine⟨(List.range len).map λi=>(GZ (U i),intOf (G i)),⟨by simp;omega,some a,_,by simp;rfl,λi z=>?_⟩,?_,.inr ⟨_,_,rfl,by simp⟩⟩
  ·simp at z
   obtain⟨b,o,rfl,q0,q1,q2⟩:=I i z;have e:((List.range len).map λi=>(GZ (U i),intOf (G i))).getD i ([],0)=(GZ (U i),intOf (G i)):=by simp[RG,z]
   rw[e];exact⟨b,o,rfl,q0,q1,q2⟩
  ·intro y hy
   simp at hy;obtain⟨i,z,rfl⟩:=hy;obtain⟨_,_,_,_,_,q⟩:=I i z;exact q
end
end Go.Proofs.YtfkdailfcmnjlaaGreatDoor
