/-
  A part.
-/
import Derived.Test.YtfkdailfcmnjlaaGreatDoorAll13
import Derived.ProofKit
import Derived.OpenShut
import Derived.Lib.SmallJoins
import Derived.Deep.SlicePairs
set_option linter.all false
set_option maxHeartbeats 40000000
set_option maxRecDepth 1000000
namespace Go.Proofs.YtfkdailfcmnjlaaGreatDoor
open Go Go.RowKit Go.ChangeAt Go.ChangeShapes Go.Deep Go.WideElems Go.WideMaps Go.WideShapes
section
variable {n a v t e J O fuel}
theorem qs (h:(Lit.int .i64 n).wf=true):dn n:=by
 have:=h;simp[Lit.wf,IntKind.min,IntKind.max,IntKind.signed,IntKind.bits] at this;unfold dn;exact this
variable {H : Type} {enc : TypeId × Value -> H} {P : Program} {w : World} {base : Nat} {spare : Nat -> Bool} {held : Bool}
theorem yX (h:w.cell? a=some v):∃b o,a=⟨b,o,none⟩:=by
 obtain⟨b,o,sp⟩:=a
 cases sp with
 |none=>exact⟨b,o,rfl⟩
 |some s=>
  exfalso;simp only[World.cell?] at h
  split at h
  ·simp at h
  ·simp at h
def FH:Value->List UInt8
 | .string s=>s.data.toList
 |_=>[]
theorem xu {x:DataW H×List MemPlace} (ht:P.underlying t=some (.slice e)) (he:P.underlying e=some (.struct #[J,O]))
 (ce:P.cellsOf e=2) (o0:J.offset=0) (o1:O.offset=1) (c0:P.cellsOf J.type=1) (c1:P.cellsOf O.type=1) (u0:P.underlying J.type=some .string) (u1:P.underlying O.type=some (.int .i64))
 (h:DataW.trod enc P w base (λ_=>true) held fuel t [v]=some x):∃R,dc v R w/\(∀y∈R,dn y.2)/\((x.1= .nil/\R=[])\/ ∃el sp,x.1= .slice el sp/\el.length=R.length):=by
 rcases Deep.open_slice_pairs ht he ce o0 o1 c0 c1 h with⟨D,rfl⟩|⟨a,len,cap,m,n,U,G,D0,D1,P0,P1,D,_,hl,hm,Y,rfl,hx⟩
 ·simp at D;subst D
  exact⟨[],⟨by simp,none,0,rfl,λi z=>by simp at z⟩,by simp,.inl ⟨rfl,rfl⟩⟩
 ·simp at D;subst D
  simp at Y;subst Y;have V:0<len-> ∃b o,a=⟨b,o,none⟩:=λD=>by
   obtain⟨E,_⟩:=hx 0 (by omega)
   have e:a.add (0*2)=a:=by simp[Addr.add]
   rw[e] at E;exact yX E
  have I:∀i,i<len-> ∃b o,a=⟨b,o,none⟩/\Cq w b (o+i*2) (S (FH (U i)))/\Cq w b (o+i*2+1) (Iq (intOf (G i)))/\dn (intOf (G i)):=λi z=>by
   obtain⟨E,Z,g2,g3⟩:=hx i (by omega)
   obtain⟨s,e0,_,_⟩:=SD u0 g2;obtain⟨q,e1,_,hw⟩:=RM u1 g3;simp at e0 e1;obtain⟨b,o,rfl⟩:=V (by omega)
   rw[Addr.add_mid] at E Z;rw[e0] at E⊢;rw[e1] at Z⊢;exact⟨b,o,rfl,E,by rw[R0];exact Z,qs hw⟩
  refine⟨(List.range len).map λi=>(FH (U i),intOf (G i)),⟨by simp;omega,some a,_,by simp;rfl,λi z=>?_⟩,?_,.inr ⟨_,_,rfl,by simp⟩⟩
  ·simp at z
   obtain⟨b,o,rfl,q0,q1,q2⟩:=I i z;have e:((List.range len).map λi=>(FH (U i),intOf (G i))).getD i ([],0)=(FH (U i),intOf (G i)):=by simp[Qi,z]
   rw[e];exact⟨b,o,rfl,q0,q1,q2⟩
  ·intro y hy
   simp at hy;obtain⟨i,z,rfl⟩:=hy;obtain⟨_,_,_,_,_,q⟩:=I i z;exact q
end
section
variable {fuel cs v}
structure FI where
 kind:Int
 n:Int
 s:List UInt8
 e:Ev
 t:Au
 lv:Value
 mv:Value
def yY (o:FI):Array Value:= #[Iq o.kind,Iq o.n,S o.s,S o.e.sender,S o.e.target,Iq o.e.wants,Iq o.e.need,Iq o.e.when_,o.lv,Iq o.t.dflt,o.mv,.bool o.t.open_]
structure qR (w) (o:FI):Prop where
 hs:o.s.length<=maxLen
 n:dn o.n
 p1:dc o.lv o.t.levels w
 p2:dc o.mv o.t.members w
 l1:o.t.levels.length<=5900000000000
 l2:o.t.members.length<=5900000000000
 wa:dn o.e.wants
 nd:dn o.e.need
 wh:dn o.e.when_
 df:dn o.t.dflt
 lv:∀x∈o.t.levels,dn x.2
theorem qR.below {w w' o} (h:qR w o) (q:Bl w w'):qR w' o:=⟨h.hs,h.n,h.p1.below q,h.p2.below q,h.l1,h.l2,h.wa,h.nd,h.wh,h.df,h.lv⟩
variable {H : Type} {enc : TypeId × Value -> H} {w : World} {base : Nat} {held : Bool}
def NG (d:DataW H) (n:Nat):Prop:=(d= .nil/\n=0)\/ ∃q sp,d= .slice q sp/\q.length=n
theorem Nb {x:DataW H×List MemPlace} (h:DataW.trod enc Tryz.prog w base (λ_=>true) held fuel 79 cs=some x):
 ∃(o:FI) (a b c d z1 z2 z3 z4:DataW H),cs=(yY o).toList/\x.1= .agg [a,b,c,d,.agg [z1,z2,z3,z4]]/\NG z1 o.t.levels.length/\NG z3 o.t.members.length/\(o.t.levels.length<=5900000000000->o.t.members.length<=5900000000000->qR w o):=by
 obtain⟨xs,n,rfl,hx,hl,hxl,hf⟩:=Ty Tryz.underlying79 h;have c0:Tryz.prog.cellsOf 79=12:=by kernel_rfl
 have c1:Tryz.prog.cellsOf 3=1:=by kernel_rfl
 have c2:Tryz.prog.cellsOf 9=1:=by kernel_rfl
 have c3:Tryz.prog.cellsOf 46=5:=by kernel_rfl
 have c4:Tryz.prog.cellsOf 50=4:=by kernel_rfl
 have c5:Tryz.prog.cellsOf 2=1:=by kernel_rfl
 have c6:Tryz.prog.cellsOf 4=1:=by kernel_rfl
 have c7:Tryz.prog.cellsOf 47=1:=by kernel_rfl
 have c8:Tryz.prog.cellsOf 48=1:=by kernel_rfl
 rw[c0] at hl;match cs,hl,xs,hxl with
 |[v0,v1,v2,v3,v4,v5,v6,v7,v8,v9,v10,v11],_,[y0,y1,y2,y3,y4],_=>
  have f0:=hf 0 _ rfl;have f1:=hf 1 _ rfl;have f2:=hf 2 _ rfl;have f3:=hf 3 _ rfl;have f4:=hf 4 _ rfl;simp[c1,c2,c3,c4] at f0 f1 f2 f3 f4;obtain⟨k,e0,_,_⟩:=RM Tryz.underlying3 f0;obtain⟨m,e1,_,hm⟩:=RM Tryz.underlying3 f1;obtain⟨s,e2,_,hs⟩:=SD Tryz.underlying9 f2;obtain⟨xe,_,rfl,hxe,_,hel,he⟩:=Ty Tryz.underlying46 f3;obtain⟨xt,_,_,hxt,_,htl,ht⟩:=Ty Tryz.underlying50 f4;match xe,hel,xt,htl with
  |[p0,p1,p2,p3,p4],_,[q0,q1,q2,q3],_=>
   have g0:=he 0 _ rfl;have g1:=he 1 _ rfl;have g2:=he 2 _ rfl;have g3:=he 3 _ rfl;have g4:=he 4 _ rfl;have t0:=ht 0 _ rfl;have t1:=ht 1 _ rfl;have t2:=ht 2 _ rfl;have t3:=ht 3 _ rfl;simp[c1,c2,c5,c6,c7,c8] at g0 g1 g2 g3 g4 t0 t1 t2 t3;obtain⟨sn,e3,_,_⟩:=SD Tryz.underlying9 g0;obtain⟨tg,e4,_,_⟩:=SD Tryz.underlying9 g1;obtain⟨wa,e5,_,wwa⟩:=RM Tryz.underlying3 g2;obtain⟨nd,e6,_,wnd⟩:=RM Tryz.underlying2 g3;obtain⟨wh,e7,_,wwh⟩:=RM Tryz.underlying2 g4;obtain⟨df,e9,_,wdf⟩:=RM Tryz.underlying2 t1;obtain⟨op,e11,_⟩:=DataW.trod_bool Tryz.underlying4 t3;obtain⟨ls,P1,I1,L1⟩:=xu Tryz.underlying47 Tryz.underlying108 (by kernel_rfl) rfl rfl (by kernel_rfl) (by kernel_rfl) Tryz.underlying9 Tryz.underlying2 t0
   obtain⟨ms,P2,_,L2⟩:=xu Tryz.underlying48 Tryz.underlying110 (by kernel_rfl) rfl rfl (by kernel_rfl) (by kernel_rfl) Tryz.underlying9 Tryz.underlying3 t2
   simp at e0 e1 e2 e3 e4 e5 e6 e7 e9 e11;subst e0 e1 e2 e3 e4 e5 e6 e7 e9 e11;refine⟨⟨k,m,s.data.toList,⟨sn.data.toList,tg.data.toList,wa,nd,wh⟩,⟨ls,df,ms,op⟩,v8,v10⟩,y0.1,y1.1,y2.1,y3.1,q0.1,q1.1,q2.1,q3.1,rfl,?_,?_,?_,λl1 l2=>⟨by rw[Th];exact hs,qs hm,P1,P2,l1,l2,qs wwa,qs wnd,qs wwh,qs wdf,I1⟩⟩
   ·rw[hx];simp[hxt]
   ·rcases L1 with⟨a,b⟩|h
    ·exact .inl ⟨a,by rw[b];rfl⟩
    exact .inr h
   rcases L2 with⟨a,b⟩|h
   ·exact .inl ⟨a,by rw[b];rfl⟩
   exact .inr h
structure Lz (w) (a:Option Addr) (len) (ops:Nat->FI):Prop where
 ok:∀i,i<len->qR w (ops i)
 at_:∀i,i<len-> ∃b o,a=some ⟨b,o,none⟩/\ ∀j,j<12->w.cell? ⟨b,o+i*12+j,none⟩=(yY (ops i))[j]?
theorem EO {P} {t n:Nat} {d:DataW H} {l:List (DataW H)} (q:d∈l) (z:n∈d.weights P t):n∈DataW.weightsAll P t l:=by
 induction l with
 |nil=>cases q
 |cons y r ih=>
  unfold DataW.weightsAll;rcases Ra.1 q with rfl|q
  ·exact Rn.2 (.inl z)
  exact Rn.2 (.inr (ih q))
theorem CB {x:DataW H×List MemPlace} (h:DataW.trod enc Tryz.prog w base (λ_=>true) held fuel 71 [v]=some x) (hw:∀n∈x.1.weights Tryz.prog 71,n<=140737488351232):
 ∃(a:Option Addr) (len cap:Nat) (ops:Nat->FI),v= .slice a len cap/\len<=1000000000000/\Lz w a len ops:=by
 have i0:Inhabited FI:=⟨⟨0,0,[],⟨[],[],0,0,0⟩,⟨[],0,[],false⟩,.bool false,.bool false⟩⟩;rcases open_slice Tryz.underlying71 h with⟨h0,rfl⟩|⟨a,len,cap,m,n,D,Pl,h0,_,hl,hm,hmm,rfl,hx⟩
 ·simp at h0;subst h0;exact⟨none,0,0,λ_=>default,rfl,by decide,⟨λi hi=>by omega,λi hi=>by omega⟩⟩
 simp at h0;subst h0;simp at hmm;subst hmm;have c0:Tryz.prog.cellsOf 79=12:=by kernel_rfl
 have b0:Tryz.prog.bytesOf 79=152:=by kernel_rfl
 have b1:Tryz.prog.bytesOf 108=24:=by kernel_rfl
 have b2:Tryz.prog.bytesOf 110=24:=by kernel_rfl
 simp only[DataW.weights,Tryz.underlying71] at hw;rw[c0] at hx;have hlen:=hw _ (Tq);simp[b0] at hlen;have each:∀i,i<len-> ∃o,qR w o/\ ∀j,j<12->w.cell? (a.add (i*12+j))=(yY o)[j]?:=λi hi=>by
  obtain⟨cs,h1,h2⟩:=hx i (by omega)
  obtain⟨_,_,hc⟩:=World.cells?_some h1;obtain⟨o,d0,d1,d2,d3,z1,z2,z3,z4,rfl,hd,L1,L2,ok⟩:=Nb h2;have hin:∀n∈(D i).weights Tryz.prog 79,n<=140737488351232:=λn hn=>hw n (Ra.2 (.inr (Rn.2 (.inl (EO (RC.2 ⟨i,List.mem_range.2 hi,rfl⟩) hn)))))
  simp only at hd;rw[hd] at hin;refine⟨o,ok ?_ ?_,λj hj=>?_⟩
  ·rcases L1 with⟨_,e⟩|⟨el,sp,e,hl⟩
   ·omega
   have:=hin ((el.length+sp.length)*Tryz.prog.bytesOf 108) (by
    subst e;simp[DataW.weights,DataW.weightsEach,Tryz.underlying79,Tryz.underlying50,Tryz.underlying47])
   rw[b1] at this;omega
  ·rcases L2 with⟨_,e⟩|⟨el,sp,e,hl⟩
   ·omega
   have:=hin ((el.length+sp.length)*Tryz.prog.bytesOf 110) (by
    subst e;simp[DataW.weights,DataW.weightsEach,Tryz.underlying79,Tryz.underlying50,Tryz.underlying48])
   rw[b2] at this;omega
  have:=hc j hj;rw[add_add] at this;rw[this];simp
 obtain⟨ops,ho⟩:=choose_lt each;refine⟨some a,len,_,ops,rfl,by omega,⟨λi hi=>(ho i hi).1,λi hi=>?_⟩⟩
 have h0:=(ho i hi).2 0 (by decide)
 have h1:w.cell? (a.add (i*12+0))≠none:=by rw[h0];simp[yY]
 have hp:∃b o,a=⟨b,o,none⟩:=by
  have g:=(ho 0 (by omega)).2 0 (by decide)
  have e:a.add (0*12+0)=a:=by simp[Addr.add]
  rw[e] at g;exact yX (v:=(yY (ops 0))[0]'(by simp[yY])) (by rw[g];simp)
 obtain⟨b,o,rfl⟩:=hp;refine⟨b,o,rfl,λj hj=>?_⟩
 have:=(ho i hi).2 j hj;rw[Addr.add_mid] at this;rw[R0];exact this
end
end Go.Proofs.YtfkdailfcmnjlaaGreatDoor
