/-
  A part.
-/
import Derived.Test.YtfkdailfcmnjlaaGreatDoorCompiles19
set_option linter.all false
set_option maxHeartbeats 40000000
set_option maxRecDepth 1000000
namespace Go.Proofs.YtfkdailfcmnjlaaGreatDoor
open Go Go.RowKit
variable {lv i t v fl ty p lets m lt' lv' c d l F a b q x s st cl st' cl' j r k jmp D E z}
structure fQ where
 kind:Nat
 wh:Nat
 c:Tr
def uj (p:mY) (d:Nat):List Tr->List fQ->List fQ
 |_,[]=>[]
 |lets,x::r=>
  if p.inl=true/\x.kind=11/\(kW p lets d x.c).kids=[] then uj p d (if x.kind=11 then lets++[kW p lets d x.c] else lets) r
  else⟨x.kind,x.wh,kW p lets d x.c⟩::uj p d (if x.kind=11 then lets++[kW p lets d x.c] else lets) r
def jG:List fQ->List fQ
 |[]=>[]
 |x::r=>if x.kind≠11/\x.c.k=21 then jG r else if x.kind≠11/\x.c.k=20 then[x] else x::jG r
def jk:Nat->Tr->List Bool->List Bool
 |0,_,nm=>nm
 |d+1,t,nm=>t.kids.foldl (λa c=>jk d c a) (if t.k=2 then nm.set t.l.toNat true else nm)
def Gt:List Bool:=[false,false,false,false,false,false,false,false,false,false]
def iQ (d:Nat):List fQ->List fQ×List Bool
 |[]=>([],Gt)
 |x::r=>if x.kind=11/\(iQ d r).2.getD x.wh false=false then iQ d r else(x::(iQ d r).1,jk d x.c (iQ d r).2)
def o9 (p:mY) (d:Nat) (l:List fQ):List fQ:=if p.pru then(iQ d (jG (uj p d [] l))).1 else uj p d [] l
def eY (d:Nat) (fl:List Int):List Int->List fQ->Bool×Nat
 |_,[]=>(false,0)
 |z,x::r=>if x.kind=11 then eY d fl (z.set x.wh (eP z fl d x.c)) r else if eP z fl d x.c=1 then(decide (x.kind=12),x.wh) else eY d fl z r
def pd (d:Nat):List Nat->List fQ->Prop
 |_,[]=>True
 |lt,x::r=>hY d x.c/\cP lt d x.c≠0/\((x.kind=11/\x.wh<lt.length/\pd d (lt.set x.wh (cP lt d x.c)) r)\/((x.kind=12\/x.kind=13)/\cP lt d x.c=2/\x.wh<=255/\pd d lt r))
def nX:Nat->List fQ->Prop
 |_,[]=>True
 |m,x::r=>(x.kind=11/\x.wh=m/\nX (m+1) r)\/(x.kind≠11/\nX m r)
def gH (d:Nat) (l:List fQ):Nat:=(l.map λx=>eR d x.c).sum
structure sU (p) (lets) (m) (lt lt') (lv lv' fl):Prop where
 ok:wW p lets lt lt' lv lv' fl
 has:kG lt lv
 has':kG lt' lv'
 len:lets.length=m
 late:∀i,m<=i->lt.getD i 0=0
 llt:lt.length=10
 llt':lt'.length=10
 llv:lv.length=10
 llv':lv'.length=10
 fit':∀i,lt'.getD i 0≠0->i<m
theorem sV {lt} (h:kG lt lv) (D:i<lt.length) (E:i<lv.length) (G:pT t v):kG (lt.set i t) (lv.set i v):=λj z=>by
 by_cases e:i=j
 ·subst e;rw[cT D,cT E];exact G
 rw[getD_set_ne e] at z⊢;rw[getD_set_ne e];exact h j z
theorem kI {α:Type} {l:List α} {v d:α} (h:i<l.length):(l++[v]).getD i d=l.getD i d:=by
 rw[RG,RG,Si h]
theorem iJ {α:Type} {l:List α} {v d:α}:(l++[v]).getD l.length d=v:=by
 rw[RG,Sg (RL _)];simp
theorem NK {lt} (U:t.kids=[]) (E:t.k=2->t.l.toNat≠i):cP (lt.set i ty) 1 t=cP lt 1 t/\eP (lv.set i v) fl 1 t=eP lv fl 1 t:=by
 rw[cP,cP,eP,eP,U,RK rfl,RK rfl];refine⟨?_,?_⟩
 ·unfold ee;by_cases D:t.k=1
  ·rw[RK D,RK D]
  rw[RH D,RH D];by_cases z:t.k=2
  ·rw[RK z,RK z,getD_set_ne (SY (E z))]
  rw[RH z,RH z]
 show gS _ _ _=gS _ _ _;unfold gS;by_cases D:t.k=1
 ·rw[RK D,RK D]
 rw[RH D,RH D];by_cases z:t.k=2
 ·rw[RK z,RK z,getD_set_ne (SY (E z))]
 rw[RH z,RH z]
theorem NL {lt} {t:Tr} (z:t.kids=[]) (D:t.k=2):cP lt 1 t=lt.getD t.l.toNat 0:=by
 rw[cP,RK z];unfold ee;rw[RH (by omega),RK D]
theorem uN {lt} (h:sU p lets m lt lt' lv lv' fl) (hm:m<10) (hc:c.kids=[]->p.inl=true->hY 1 c/\cP lt' 1 c=ty/\eP lv' fl 1 c=v) (O:pT ty v):
 (p.inl=true/\c.kids=[]->sU p (lets++[c]) (m+1) (lt.set m ty) lt' (lv.set m v) lv' fl)/\(¬(p.inl=true/\c.kids=[])->sU p (lets++[c]) (m+1) (lt.set m ty) (lt'.set m ty) (lv.set m v) (lv'.set m v) fl):=by
 have R:=h.len;have Z:=h.llt;have e2:=h.llt';have e3:=h.llv;have e4:=h.llv';have G:∀i,i≠m->(lt.set m ty).getD i 0≠0->i<m/\lt.getD i 0≠0/\(lets++[c]).getD i fL=lets.getD i fL:=λi D E=>by
  rw[getD_set_ne (SY D)] at E;have I:i<m:=by
   by_cases e:i<m
   ·exact e
   exact absurd (h.late i (by omega)) E
  exact⟨I,E,kI (by omega)⟩
 have new:(lets++[c]).getD m fL=c:=by rw[<-R];exact iJ
 refine⟨λD=>?_,λD=>?_⟩
 ·obtain⟨c1,c2,c3⟩:=hc D.2 D.1;refine⟨⟨λi E J z=>?_,λi E z=>?_⟩,sV h.has (by omega) (by omega) O,h.has',by simp[R],λi I=>?_,by simp[Z],e2,by simp[e3],e4,λi D=>by have:=h.fit' i D;omega⟩
  ·by_cases e:i=m
   ·subst e;rw[new,cT (by omega),cT (by omega)];exact⟨c1,c2,c3⟩
   obtain⟨a,b,q⟩:=G i e E;rw[q] at z⊢;rw[getD_set_ne (SY e),getD_set_ne (SY e)];exact h.ok.one i b J z
  ·by_cases e:i=m
   ·subst e;rw[new] at z;exact absurd D z
   obtain⟨a,b,q⟩:=G i e E;rw[q] at z;rw[getD_set_ne (SY e),getD_set_ne (SY e)];exact h.ok.same i b z
  rw[getD_set_ne (by omega)];exact h.late i (by omega)
 refine⟨⟨λi E J z=>?_,λi E z=>?_⟩,sV h.has (by omega) (by omega) O,sV h.has' (by omega) (by omega) O,by simp[R],λi I=>?_,by simp[Z],by simp[e2],by simp[e3],by simp[e4],λi D=>?_⟩
 ·by_cases e:i=m
  ·subst e;rw[new] at z;exact absurd ⟨J,z⟩ D
  obtain⟨a,b,q⟩:=G i e E;rw[q] at z⊢;rw[getD_set_ne (SY e),getD_set_ne (SY e)];obtain⟨o1,U,o3⟩:=h.ok.one i b J z;have aa:(lets.getD i fL).k=2->(lets.getD i fL).l.toNat≠m:=λh2 e=>by
   rw[NL z h2,e] at U;have:=h.fit' m (by rw[U];exact b)
   omega
  obtain⟨s1,s2⟩:=NK z aa;rw[s1,s2];exact⟨o1,U,o3⟩
 ·by_cases e:i=m
  ·subst e;rw[cT (by omega),cT (by omega),cT (by omega),cT (by omega)];exact⟨rfl,rfl⟩
  obtain⟨a,b,q⟩:=G i e E;rw[q] at z;rw[getD_set_ne (SY e),getD_set_ne (SY e),getD_set_ne (SY e),getD_set_ne (SY e)];exact h.ok.same i b z
 ·rw[getD_set_ne (by omega)];exact h.late i (by omega)
 by_cases e:i=m
 ·omega
 rw[getD_set_ne (SY e)] at D;have:=h.fit' i D;omega
theorem xa {p d fl} (R:dI fl):∀{l lets m lt lt' lv lv'},sU p lets m lt lt' lv lv' fl->pd d lt l->nX m l->
 pd d lt' (uj p d lets l)/\eY d fl lv' (uj p d lets l)=eY d fl lv l/\gH d (uj p d lets l)<=gH d l/\(uj p d lets l).length<=l.length
 |[],lets,m,lt,lt',lv,lv',_,_,_=>⟨trivial,rfl,RL _,RL _⟩
 |x::r,lets,m,lt,lt',lv,lv',h,I,D=>by
  obtain⟨hw,J,hk⟩:=I;have G:=wZ h.ok h.has' R hw J;have hv:=kH h.has R hw J;have E:∀y (q:List fQ),gH d (y::q)=eR d y.c+gH d q:=λy q=>by simp[gH]
  rcases hk with⟨z,U,I⟩|⟨aa,ab,U,I⟩
  ·have D:x.wh=m/\nX (m+1) r:=by
    rcases D with D|D
    ·exact D.2
    exact absurd z D.1
   obtain⟨O,D⟩:=D;rw[O] at U I;have ac:=h.llt;obtain⟨n1,n2⟩:=uN h (by omega) (c:=kW p lets d x.c) (ty:=cP lt d x.c) (v:=eP lv fl d x.c) (λhs _=>by
    have V:hY 1 (kW p lets d x.c):=by
     cases d with
     |zero=>exact hw.elim
     |succ d=>exact⟨G.wf.1,by rw[hs];simp⟩
    have hd:1<=d:=by
     cases d with
     |zero=>exact hw.elim
     |succ d=>omega
    refine⟨V,?_,?_⟩
    ·rw[<-nu V hd,G.ty]
    rw[<-pU V hd,G.ev]) hv
   rw[uj,RK z];by_cases Y:p.inl=true/\x.kind=11/\(kW p lets d x.c).kids=[]
   ·rw[RK Y];obtain⟨Z,i2,i3,i4⟩:=xa R (n1 ⟨Y.1,Y.2.2⟩) I D;refine⟨Z,?_,?_,?_⟩
    ·rw[i2];conv=>rhs;rw[eY,RK z,O]
    ·rw[E];omega
    simp;omega
   rw[RH Y];obtain⟨Z,i2,i3,i4⟩:=xa R (n2 λe=>Y ⟨e.1,z,e.2⟩) I D
   refine⟨⟨G.wf,by rw[G.ty];exact J,.inl ⟨z,?_,?_⟩⟩,?_,?_,?_⟩
   ·simp only[O];rw[h.llt'];omega
   ·simp only[O,G.ty];exact Z
   ·rw[eY,RK z];simp only[O,G.ev];rw[i2];conv=>rhs;rw[eY,RK z,O]
   ·rw[E,E];have:=G.cnt;simp only[];omega
   simp;omega
  have z:x.kind≠11:=by omega
  have D:nX m r:=by
   rcases D with D|D
   ·exact absurd D.1 z
   exact D.2
  rw[uj,RH z,RH (λe=>z e.2.1)]
  obtain⟨Z,i2,i3,i4⟩:=xa R h I D;refine⟨⟨G.wf,by rw[G.ty];exact J,.inr ⟨aa,by rw[G.ty];exact ab,U,Z⟩⟩,?_,?_,?_⟩
  ·rw[eY,RH z];simp only[G.ev];rw[i2];conv=>rhs;rw[eY,RH z]
  ·rw[E,E];have:=G.cnt;simp only[];omega
  simp;omega
theorem sW {d fl}:∀{l lt lv},pd d lt l->pd d lt (jG l)/\eY d fl lv (jG l)=eY d fl lv l/\gH d (jG l)<=gH d l/\(jG l).length<=l.length
 |[],lt,lv,_=>⟨trivial,rfl,RL _,RL _⟩
 |x::r,lt,lv,G=>by
  obtain⟨I,J,hk⟩:=G;have z:∀y q,gH d (y::q)=eR d y.c+gH d q:=λy q=>by simp[gH]
  rcases hk with⟨D,E,G⟩|⟨V,Y,E,G⟩
  ·rw[jG,RH (λe=>e.1 D),RH (λe=>e.1 D)]
   obtain⟨U,_,i3,i4⟩:=sW (fl:=fl) (lv:=lv) G;refine⟨⟨I,J,.inl ⟨D,E,U⟩⟩,?_,by rw[z,z];omega,by simp;omega⟩
   rw[eY,eY,RK D,RK D];exact(sW G).2.1
  have D:x.kind≠11:=by omega
  obtain⟨U,Z,i3,i4⟩:=sW G;rw[jG];by_cases O:x.c.k=21
  ·rw[RK ⟨D,O⟩];refine⟨U,?_,by rw[z];omega,by simp;omega⟩
   rw[Z];conv=>rhs;rw[eY,RH D,mO I O,RH (by decide)]
  rw[RH (λe=>O e.2)]
  by_cases R:x.c.k=20
  ·rw[RK ⟨D,R⟩];refine⟨⟨I,J,.inr ⟨V,Y,E,trivial⟩⟩,?_,by rw[z,z];simp[gH],by simp⟩
   have e:∀q,eY d fl lv (x::q)=(decide (x.kind=12),x.wh):=λq=>by rw[eY,RH D,oM I R,RK rfl]
   rw[e,e]
  rw[RH (λe=>R e.2)]
  refine⟨⟨I,J,.inr ⟨V,Y,E,U⟩⟩,?_,by rw[z,z];omega,by simp;omega⟩
  rw[eY,eY,RH D,RH D,Z]
def mP:Nat->Tr->List Int
 |0,_=>[]
 |d+1,t=>(if t.k=2 then[t.l] else[])++t.kids.flatMap (mP d)
theorem qz:∀{t nm},(jk d t nm).length=nm.length/\ ∀i,nm.getD i false=true->(jk d t nm).getD i false=true:=by
 induction d with
 |zero=>intro t nm;exact⟨rfl,λ_ h=>h⟩
 |succ d ih=>
  intro t nm;rw[jk];have D:∀(l:List Tr) (nm:List Bool),(l.foldl (λa c=>jk d c a) nm).length=nm.length/\ ∀i,nm.getD i false=true->(l.foldl (λa c=>jk d c a) nm).getD i false=true:=by
   intro l;induction l with
   |nil=>intro nm;exact⟨rfl,λ_ h=>h⟩
   |cons c l E=>
    intro nm;rw[To];obtain⟨a1,a2⟩:=E (jk d c nm);obtain⟨G,I⟩:=ih;exact⟨a1.trans G,λi z=>a2 i (I i z)⟩
  obtain⟨a1,a2⟩:=D t.kids (if t.k=2 then nm.set t.l.toNat true else nm);refine⟨a1.trans (by split<;>simp),λi z=>a2 i ?_⟩
  split
  ·by_cases e:t.l.toNat=i
   ·subst e;by_cases J:t.l.toNat<nm.length
    ·rw[cT J]
    rw[RG,R2 (by omega)] at z;simp at z
   rw[getD_set_ne e];exact z
  exact z
theorem LN :∀ {t  nm }, ∀ l ∈ mP d t, l.toNat < nm.length -> (jk d t nm).getD l.toNat false = true := by
  induction d with
  | zero => intro t nm l hl; simp [mP] at hl
  | succ d ih =>
    intro t nm l hl hlt;rw [jk];have hfold :∀ (q : List Tr) (nm : List Bool), l.toNat < nm.length -> (nm.getD l.toNat false = true \/ ∃ c ∈ q, l ∈ mP d c) -> (q.foldl (λa c => jk d c a) nm).getD l.toNat false = true := by
      intro q
      induction q with
      | nil => intro nm _ h; rcases h with h | ⟨c, hc, _⟩
               · exact h
               · simp at hc
      | cons c q ihq =>
        intro nm hlt h;rw [To];refine ihq _ (by rw [qz.1]; exact hlt) ?_
        rcases h with h | ⟨x, hx, hm⟩
        · exact .inl (qz.2 _ h)
        · rcases Sm.1 hx with rfl | hx
          · exact .inl (ih l hm hlt)
          · exact .inr ⟨x, hx, hm⟩
    refine hfold _ _ (by split <;> simpa using hlt) ?_
    rw [mP, SV] at hl;rcases hl with hl | hl
    · split at hl
      · rename_i h2
        simp at hl; subst hl
        rw [RK h2, cT hlt]; exact .inl rfl
      · simp at hl
    · rw [UE] at hl
      exact .inr hl
theorem Cx {lt}:∀{t:Tr},hY d t->(∀l∈mP d t,lt'.getD l.toNat 0=lt.getD l.toNat 0/\lv'.getD l.toNat 0=lv.getD l.toNat 0)->cP lt' d t=cP lt d t/\eP lv' fl d t=eP lv fl d t:=by
 induction d with
 |zero=>intro t h;exact h.elim
 |succ d ih=>
  intro t h G;have I:∀c∈t.kids,cP lt' d c=cP lt d c/\eP lv' fl d c=eP lv fl d c:=λc E=>ih (h.2 c E) λl O=>G l (by
   rw[mP,SV,UE];exact .inr ⟨c,E,O⟩)
  have J:t.k=2->lt'.getD t.l.toNat 0=lt.getD t.l.toNat 0/\lv'.getD t.l.toNat 0=lv.getD t.l.toNat 0:=λe=>G t.l (by rw[mP,RK e];simp)
  rw[cP,cP,eP,eP,Sh λc E=>(I c E).1,Sh λc E=>(I c E).2]
  have R:ee lt' t=ee lt t:=by
   unfold ee;by_cases D:t.k=1
   ·rw[RK D,RK D]
   rw[RH D,RH D];by_cases z:t.k=2
   ·rw[RK z,RK z,(J z).1]
   rw[RH z,RH z]
  have U:gS lv' fl t=gS lv fl t:=by
   unfold gS;by_cases D:t.k=1
   ·rw[RK D,RK D]
   rw[RH D,RH D];by_cases z:t.k=2
   ·rw[RK z,RK z,(J z).2]
   rw[RH z,RH z]
  rw[R,U];exact⟨rfl,rfl⟩
theorem LO {lt}:∀{t:Tr},hY d t->cP lt d t≠0-> ∀l∈mP d t,l.toNat<lt.length:=by
 induction d with
 |zero=>intro t h;exact h.elim
 |succ d ih=>
  intro t h D l z;rw[mP,SV,UE] at z;rcases z with z|⟨c,E,z⟩
  ·split at z
   ·rename_i G;simp at z;subst z;have I:=oL h (by unfold dy;omega)
    rw[cP,RK I] at D;unfold ee at D;rw[RH (by omega),RK G] at D
    by_cases e:t.l.toNat<lt.length
    ·exact e
    exfalso;apply D;rw[RG,R2 (by omega)];rfl
   simp at z
  exact ih (h.2 c E) (nw h D c E) l z
theorem xb {d}:∀{l:List fQ},(iQ d l).2.length=10
 |[]=>rfl
 |x::r=>by
  rw[iQ];split
  ·exact xb
  exact qz.1.trans xb
theorem vJ {d fl}:∀{l lt lt' lv lv'},pd d lt l->lt.length=10->lt'.length=10->lv.length=10->lv'.length=10->(∀i,(iQ d l).2.getD i false=true->lt'.getD i 0=lt.getD i 0/\lv'.getD i 0=lv.getD i 0)->
 pd d lt' (iQ d l).1/\eY d fl lv' (iQ d l).1=eY d fl lv l/\gH d (iQ d l).1<=gH d l/\(iQ d l).1.length<=l.length
 |[],lt,lt',lv,lv',_,_,_,_,_,_=>⟨trivial,rfl,RL _,RL _⟩
 |x::r,lt,lt',lv,lv',I,e1,e2,e3,e4,G=>by
  obtain⟨Z,O,hk⟩:=I;have z:∀y q,gH d (y::q)=eR d y.c+gH d q:=λy q=>by simp[gH]
  rw[iQ] at G⊢;by_cases hd:x.kind=11/\(iQ d r).2.getD x.wh false=false
  ·rw[RK hd] at G⊢;rcases hk with⟨D,R,I⟩|⟨aa,_⟩
   ·obtain⟨U,V,i3,i4⟩:=vJ (fl:=fl) (lt':=lt') (lv:=lv.set x.wh (eP lv fl d x.c)) (lv':=lv') I (by simp[e1]) e2 (by simp[e3]) e4 (λi J=>by
     have E:x.wh≠i:=λe=>by rw[<-e,hd.2] at J;simp at J
     rw[getD_set_ne E,getD_set_ne E];exact G i J)
    refine⟨U,?_,by rw[z];omega,by simp;omega⟩
    rw[V];conv=>rhs;rw[eY,RK D]
   omega
  rw[RH hd] at G⊢;simp only[] at G⊢;have ab:∀l∈mP d x.c,lt'.getD l.toNat 0=lt.getD l.toNat 0/\lv'.getD l.toNat 0=lv.getD l.toNat 0:=λl hl=>G _ (LN l hl (by rw[xb];have:=LO Z O l hl;omega))
  obtain⟨n1,n2⟩:=Cx Z ab;have Y:∀i,(iQ d r).2.getD i false=true->lt'.getD i 0=lt.getD i 0/\lv'.getD i 0=lv.getD i 0:=λi J=>G i (qz.2 i J)
  rcases hk with⟨D,R,I⟩|⟨aa,ac,R,I⟩
  ·obtain⟨U,V,i3,i4⟩:=vJ (fl:=fl) (lt':=lt'.set x.wh (cP lt d x.c)) (lv:=lv.set x.wh (eP lv fl d x.c)) (lv':=lv'.set x.wh (eP lv fl d x.c)) I (by simp[e1]) (by simp[e2]) (by simp[e3]) (by simp[e4]) (λi J=>by
    by_cases E:x.wh=i
    ·subst E;rw[cT (by omega),cT (by omega),cT (by omega),cT (by omega)];exact⟨rfl,rfl⟩
    rw[getD_set_ne E,getD_set_ne E,getD_set_ne E,getD_set_ne E];exact Y i J)
   refine⟨⟨Z,by rw[n1];exact O,.inl ⟨D,by omega,by rw[n1];exact U⟩⟩,?_,by rw[z,z];omega,by simp;omega⟩
   rw[eY,RK D,n2,V];conv=>rhs;rw[eY,RK D]
  have D:x.kind≠11:=by omega
  obtain⟨U,V,i3,i4⟩:=vJ I e1 e2 e3 e4 Y;refine⟨⟨Z,by rw[n1];exact O,.inr ⟨aa,by rw[n1];exact ac,R,U⟩⟩,?_,by rw[z,z];omega,by simp;omega⟩
  rw[eY,RH D,n2,V];conv=>rhs;rw[eY,RH D]
def eB:List Nat:=[0,0,0,0,0,0,0,0,0,0]
def jM:List Int:=[0,0,0,0,0,0,0,0,0,0]
theorem gX (i:Nat):eB.getD i 0=0:=by
 by_cases h:i<10
 ·have:i=0\/i=1\/i=2\/i=3\/i=4\/i=5\/i=6\/i=7\/i=8\/i=9:=by omega
  rcases this with rfl|rfl|rfl|rfl|rfl|rfl|rfl|rfl|rfl|rfl<;>rfl
 rw[RG,R2 (by simp[eB];omega)];rfl
theorem Gu (U:dI fl) (V:pd d eB l) (Y:nX 0 l):pd d eB (o9 p d l)/\eY d fl jM (o9 p d l)=eY d fl jM l/\gH d (o9 p d l)<=gH d l/\(o9 p d l).length<=l.length:=by
 have z:∀i,eB.getD i 0≠0->False:=λi h=>h (gX i)
 obtain⟨I,J,Z,i4⟩:=xa (p:=p) (d:=d) U (lets:=[]) (m:=0) (lt:=eB) (lt':=eB) (lv:=jM) (lv':=jM) ⟨⟨λi h=>(z i h).elim,λi h=>(z i h).elim⟩,λi h=>(z i h).elim,λi h=>(z i h).elim,rfl,λi _=>gX i,rfl,rfl,rfl,rfl,λi h=>(z i h).elim⟩ V Y
 unfold o9;split
 ·obtain⟨j1,j2,j3,j4⟩:=sW (fl:=fl) (lv:=jM) I;obtain⟨k1,k2,k3,k4⟩:=vJ (fl:=fl) (lt':=eB) (lv:=jM) (lv':=jM) j1 rfl rfl rfl rfl (λi _=>⟨rfl,rfl⟩)
  exact⟨k1,k2.trans (j2.trans J),by omega,by omega⟩
 exact⟨I,J,Z,i4⟩
structure jU where
 op:Nat
 n:Int
 to:Nat
 kn:Kn
def eU (t:Tr):Nat:=if 27<=t.k then 4 else if 22<=t.k then 3 else if t.k=1 then 1 else if t.k=2 then 6 else 2
def iR (t:Tr):Int:=if 27<=t.k then((t.k - 27:Nat):Int) else if 22<=t.k then((t.k - 22:Nat):Int) else if t.k=1 then t.n else if t.k=2 then t.l else cR (decide (t.k=20))
def jH (k:Nat):Nat:=if k=6 then 7 else if k=7 then 8 else if k=8 then 9 else if k=10 then 10 else if k=9 then 11 else if k=18 then 13 else 14
def oN (jmp:Bool) (k:Nat):Bool:=jmp&&(decide (k=20)||decide (k=21)||decide (k=19)||decide (k=18)||decide (k=17)||decide (k=14))
def cX (jmp:Bool):Nat->Option Bool->Tr->Nat
 |0,_,_=>0
 |d+1,m,t=>
  let lay:=if t.k=14 then cX jmp d (some false) (t.kid 0)+cX jmp d none (t.kid 1)+1+cX jmp d none (t.kid 2)
   else if t.k=19 then cX jmp d none (t.kid 0)+1
   else if t.kids.length=2 then cX jmp d none (t.kid 0)+cX jmp d none (t.kid 1)+1 else 1
  match m with
  |none=>lay
  |some this=>
   if oN jmp t.k then
    if t.k=20\/t.k=21 then(if this=decide (t.k=20) then 1 else 0)
    else if t.k=19 then cX jmp d (some (!this)) (t.kid 0)
    else if t.k=14 then cX jmp d (some false) (t.kid 0)+cX jmp d (some this) (t.kid 1)+1+cX jmp d (some this) (t.kid 2)
    else cX jmp d (some (decide (t.k=17))) (t.kid 0)+cX jmp d (some this) (t.kid 1)
   else lay+(if this then 2 else 1)
def gn (jmp:Bool):Nat->Option Bool->Tr->Nat->Nat
 |0,_,_,_=>0
 |d+1,m,t,b=>
  let lay:=if t.k=14 then max (gn jmp d (some false) (t.kid 0) b) (max (gn jmp d none (t.kid 1) b) (gn jmp d none (t.kid 2) b))
   else if t.k=19 then gn jmp d none (t.kid 0) b
   else if t.kids.length=2 then max (gn jmp d none (t.kid 0) b) (gn jmp d none (t.kid 1) (b+1)) else b+1
  match m with
  |none=>lay
  |some this=>
   if oN jmp t.k then
    if t.k=20\/t.k=21 then 0
    else if t.k=19 then gn jmp d (some (!this)) (t.kid 0) b
    else if t.k=14 then max (gn jmp d (some false) (t.kid 0) b) (max (gn jmp d (some this) (t.kid 1) b) (gn jmp d (some this) (t.kid 2) b))
    else max (gn jmp d (some (decide (t.k=17))) (t.kid 0) b) (gn jmp d (some this) (t.kid 1) b)
   else lay
theorem rQ (jmp) (d):∀m t b,gn jmp d m t b<=b+d:=by
 induction d with
 |zero=>intro m t b;rw[gn];omega
 |succ d ih=>
  intro m t b;have z:=λm j=>ih m (t.kid j) b
  have G:=λm j=>ih m (t.kid j) (b+1)
  have D:gn jmp (d+1) none t b<=b+(d+1):=by
   simp only[gn];(repeat' split)
   ·have a1:=z (some false) 0;have a2:=z none 1;have a3:=z none 2;omega
   ·have:=z none 0;omega
   ·have:=z none 0;have:=G none 1;omega
   omega
  cases m with
  |none=>exact D
  |some this=>
   cases E:oN jmp t.k with
   |false=>
    have e:gn jmp (d+1) (some this) t b=gn jmp (d+1) none t b:=by simp only[gn,E];rfl
    rw[e];exact D
   |true=>
    simp only[gn,E,Td];(repeat' split)
    ·omega
    ·have:=z (some (!this)) 0;omega
    ·have a1:=z (some false) 0;have a2:=z (some this) 1;have a3:=z (some this) 2;omega
    have a1:=z (some (decide (t.k=17))) 0;have a2:=z (some this) 1;omega
def fP (jmp:Bool):Nat->Option Bool->Tr->Kn->Nat->Nat->List jU
 |0,_,_,_,_,_=>[]
 |d+1,m,t,k,p,T=>
  let lay:=
   if t.k=14 then
    let a:=cX jmp d (some false) (t.kid 0)
    let b:=cX jmp d none (t.kid 1)
    let c:=cX jmp d none (t.kid 2)
    fP jmp d (some false) (t.kid 0) k p (p+a+b+1)++(fP jmp d none (t.kid 1) k (p+a) 0++(⟨16,0,p+a+b+1+c,⟨cP k.cl d (t.kid 1)::k.st,k.cl⟩⟩::fP jmp d none (t.kid 2) k (p+a+b+1) 0))
   else if t.k=19 then fP jmp d none (t.kid 0) k p 0++[⟨12,0,0,⟨2::k.st,k.cl⟩⟩]
   else if t.kids.length=2 then
    fP jmp d none (t.kid 0) k p 0++(fP jmp d none (t.kid 1) ⟨cP k.cl d (t.kid 0)::k.st,k.cl⟩ (p+cX jmp d none (t.kid 0)) 0++[⟨jH t.k,0,0,⟨cP k.cl d (t.kid 1)::cP k.cl d (t.kid 0)::k.st,k.cl⟩⟩])
   else[⟨eU t,iR t,0,k⟩]
  match m with
  |none=>lay
  |some this=>
   if oN jmp t.k then
    if t.k=20\/t.k=21 then(if this=decide (t.k=20) then[⟨16,0,T,k⟩] else[])
    else if t.k=19 then fP jmp d (some (!this)) (t.kid 0) k p T
    else if t.k=14 then
     let a:=cX jmp d (some false) (t.kid 0)
     let b:=cX jmp d (some this) (t.kid 1)
     let c:=cX jmp d (some this) (t.kid 2)
     fP jmp d (some false) (t.kid 0) k p (p+a+b+1)++(fP jmp d (some this) (t.kid 1) k (p+a) T++(⟨16,0,p+a+b+1+c,k⟩::fP jmp d (some this) (t.kid 2) k (p+a+b+1) T))
    else
     let a:=cX jmp d (some (decide (t.k=17))) (t.kid 0)
     let b:=cX jmp d (some this) (t.kid 1)
     fP jmp d (some (decide (t.k=17))) (t.kid 0) k p (if this=decide (t.k=17) then T else p+a+b)++fP jmp d (some this) (t.kid 1) k (p+a) T
   else lay++((if this then[⟨12,0,0,⟨2::k.st,k.cl⟩⟩] else[])++[⟨15,0,T,⟨2::k.st,k.cl⟩⟩])
theorem eo (jmp) (d):∀m t k p T,(fP jmp d m t k p T).length=cX jmp d m t:=by
 induction d with
 |zero=>intros;rfl
 |succ d ih=>
  intro m t k p T;cases m with
  |none=>
   simp only[fP,cX];(repeat' split)<;>simp[ih]<;>omega
  |some this=>
   simp only[fP,cX];cases this<;>(repeat' split)<;>simp[ih] at* <;>omega
def Sub (F:List jU) (p:Nat) (s:List jU):Prop:= ∃pre post,F=pre++(s++post)/\pre.length=p
theorem Sub.left {F p a b} (h:Sub F p (a++b)):Sub F p a:=by
 obtain⟨pre,post,e,z⟩:=h;exact⟨pre,b++post,by rw[e,Sk],z⟩
theorem Sub.right (h:Sub F p (a++b)) (z:a.length=q):Sub F (p+q) b:=by
 obtain⟨pre,post,e,D⟩:=h;exact⟨pre++a,post,by rw[e,Sk,Sk],by rw[RT,D,z]⟩
theorem Sub.head (h:Sub F p (x::s)):F[p]?=some x:=by
 obtain⟨pre,post,e,z⟩:=h;rw[e,Sg (by omega),z]
 simp
theorem Sub.tail (h:Sub F p (x::s)):Sub F (p+1) s:=by
 have:Sub F p ([x]++s):=h;exact this.right rfl
def kX (F:List jU) (fl:List Int) (i:Nat) (st cl:List Int) (r:Bool×Nat):Prop:=
 ∀P:Nat->List Int->List Int->Bool×Nat->Prop,
  (∀(i:Nat) (x:jU) (st cl:List Int),F[i]?=some x->(x.op=17\/x.op=18)->P i st cl (decide (x.op=17),x.n.toNat))->
  (∀(i:Nat) (x:jU) (st cl st' cl':List Int) (j:Bool) (r:Bool×Nat),F[i]?=some x-> ¬(x.op=17\/x.op=18)->gj fl ⟨x.op,x.n,0⟩ st cl=some (st',cl',j)->P (if j then x.to else i+1) st' cl' r->P i st cl r)->P i st cl r
theorem kX.stop {F:List jU} (z:F[i]?=some x) (D:x.op=17\/x.op=18):kX F fl i st cl (decide (x.op=17),x.n.toNat):=λ_ E _=>E i x st cl z D
theorem kX.go (D:F[i]?=some x) (E: ¬(x.op=17\/x.op=18)) (G:gj fl ⟨x.op,x.n,0⟩ st cl=some (st',cl',j)) (h:kX F fl (if j then x.to else i+1) st' cl' r):kX F fl i st cl r:=λP I z=>z i x st cl st' cl' j r D E G (h P I z)
theorem kX.cast (h:kX F fl p st cl r) (e:p=q):kX F fl q st cl r:=e▸h
theorem IF (I:dy t.k) (st cl):gj fl ⟨eU t,iR t,0⟩ st cl=some (gS cl fl t::st,cl,false):=by
 unfold dy at I;unfold eU iR gS kP gj;by_cases z:27<=t.k
 ·simp[z,show ¬t.k=1 by omega,show ¬t.k=2 by omega]
 by_cases D:22<=t.k
 ·simp[z,D,show ¬t.k=1 by omega,show ¬t.k=2 by omega]
 by_cases E:t.k=1
 ·simp[E]
 by_cases G:t.k=2
 ·simp[G]
 simp[z,D,E,G]
theorem NM (t:Tr): ¬(eU t=17\/eU t=18):=by unfold eU;(repeat' split)<;>omega
theorem NN (k:Nat): ¬(jH k=17\/jH k=18):=by unfold jH;(repeat' split)<;>omega
theorem IG (z:fh k) (a b) (st cl):gj fl ⟨jH k,0,0⟩ (b::a::st) cl=some (sS k a b::st,cl,false):=by
 unfold fh at z;rcases z with rfl|rfl|rfl|rfl|rfl|rfl|rfl<;>rfl
def Rk (F:List jU) (fl:List Int) (m:Option Bool) (v:Int) (q T:Nat) (st cl:List Int) (r:Bool×Nat):Prop:=match m with
 |none=>kX F fl q (v::st) cl r
 |some this=>(v=cR this->kX F fl T st cl r)/\(v≠cR this->kX F fl q st cl r)
theorem Cy (hF:dI fl) (d):∀{t k m p T st cl},hY d t->cP k.cl d t≠0->(m≠none->cP k.cl d t=2)->kG k.cl cl->Sub F p (fP jmp d m t k p T)->Rk F fl m (eP cl fl d t) (p+cX jmp d m t) T st cl r->kX F fl p st cl r:=by
 induction d with
 |zero=>intro t k m p T st cl h;exact h.elim
 |succ d ih=>
  intro t k m p T st cl h I hm Z E O;have V:=nw h I;have hw:=h.2;have av:=kH Z hF h I;have an:∀{q},Sub F p (fP jmp (d+1) none t k p 0)->q=p+cX jmp (d+1) none t->kX F fl q (eP cl fl (d+1) t::st) cl r->kX F fl p st cl r:=by
   intro q E hq O;subst hq;rcases h.1 with⟨R,z,_⟩|⟨R,a,z⟩|⟨R,a,b,c,z⟩|⟨R,a,b,z⟩
   ·have ad: ¬t.k=14:=by unfold dy at R;omega
    have ae: ¬t.k=19:=by unfold dy at R;omega
    simp only[fP,cX,RH ad,RH ae,z,Sx] at E O;rw[RH (by decide)] at E O
    refine .go E.head (NM t) (IF R st cl) ?_;have e:eP cl fl (d+1) t=gS cl fl t:=by rw[eP,z];rfl
    rw[e] at O;exact O
   ·have ad: ¬t.k=14:=by omega
    simp only[fP,cX,RH ad,RK R] at E O;have e0:t.kid 0=a:=by unfold Tr.kid;rw[z];rfl
    rw[e0] at E O;have ha:=hw a (by rw[z];simp)
    have J:=V a (by rw[z];simp)
    refine ih ha J (by simp) Z E.left ?_
    refine .go (E.right (eo _ _ _ _ _ _ _)).head (by simp) rfl ?_
    have e:eP cl fl (d+1) t=1 - eP cl fl d a:=by rw[eP,z];rfl
    rw[e] at O;exact O
   ·simp only[fP,cX,RK R] at E O;have e0:t.kid 0=a:=by unfold Tr.kid;rw[z];rfl
    have e1:t.kid 1=b:=by unfold Tr.kid;rw[z];rfl
    have e2:t.kid 2=c:=by unfold Tr.kid;rw[z];rfl
    rw[e0,e1,e2] at E O;have ha:=hw a (by rw[z];simp)
    have hb:=hw b (by rw[z];simp)
    have hc:=hw c (by rw[z];simp)
    have J:=V a (by rw[z];simp)
    have ac:=V b (by rw[z];simp)
    have aj:=V c (by rw[z];simp)
    have af:cP k.cl d a=2:=by
     rw[cP,z,RH (by simp)] at I
     simp only[Sa,SA,ef] at I;split at I
     ·rename_i g;exact g.1
     exact absurd rfl I
    have ag:=(kH Z hF ha J).2 af;have e:eP cl fl (d+1) t=if eP cl fl d a=1 then eP cl fl d b else eP cl fl d c:=by rw[eP,z];rfl
    rw[e] at O;have ak:=E.left;have Y:=E.right (eo _ _ _ _ _ _ _);have ah:=Y.left;have ai:=Y.right (eo _ _ _ _ _ _ _);have am:=ai.tail;refine ih ha J (λ_=>af) Z ak ⟨λg=>?_,λg=>?_⟩
    ·have g:eP cl fl d a=0:=g;rw[g,RH (by decide)] at O
     refine ih hc aj (by simp) Z am ?_
     exact kX.cast O (by omega)
    have g1:eP cl fl d a=1:=by
     rcases ag with g'|g'
     ·exact absurd g' g
     exact g'
    rw[g1,RK rfl] at O;refine ih hb ac (by simp) Z ah ?_
    refine .go ai.head (by simp) rfl ?_
    simp only[Td];exact kX.cast O (by omega)
   have ad: ¬t.k=14:=by unfold fh at R;omega
   have ae: ¬t.k=19:=by unfold fh at R;omega
   have hl:t.kids.length=2:=by rw[z];rfl
   simp only[fP,cX,RH ad,RH ae,RK hl] at E O;have e0:t.kid 0=a:=by unfold Tr.kid;rw[z];rfl
   have e1:t.kid 1=b:=by unfold Tr.kid;rw[z];rfl
   rw[e0,e1] at E O;have ha:=hw a (by rw[z];simp)
   have hb:=hw b (by rw[z];simp)
   have J:=V a (by rw[z];simp)
   have ac:=V b (by rw[z];simp)
   have Y:=E.right (eo _ _ _ _ _ _ _);refine ih (m:=none) ha J (by simp) Z E.left ?_
   refine ih (m:=none) (k:=⟨cP k.cl d a::k.st,k.cl⟩) hb ac (by simp) Z Y.left ?_
   refine .go (Y.right (eo _ _ _ _ _ _ _)).head (NN _) (IG R _ _ _ _) ?_;rw[EX z] at O;exact kX.cast O (by simp;omega)
  cases m with
  |none=>
   have ax:=E;exact an ax rfl O
  |some this=>
   obtain⟨G,D⟩:=O;have aa:=hm (by simp)
   have ao:=av.2 aa;cases hj:oN jmp t.k with
   |false=>
    have ar:fP jmp (d+1) (some this) t k p T=fP jmp (d+1) none t k p 0++((if this then[⟨12,0,0,⟨2::k.st,k.cl⟩⟩] else[])++[⟨15,0,T,⟨2::k.st,k.cl⟩⟩]):=by
     simp only[fP,hj];rfl
    have ay:cX jmp (d+1) (some this) t=cX jmp (d+1) none t+(if this then 2 else 1):=by
     simp only[cX,hj];rfl
    rw[ar] at E;rw[ay] at D;refine an E.left rfl ?_;have Y:=E.right (eo _ _ _ _ _ _ _);generalize eP cl fl (d+1) t=v at*;cases this with
    |true=>
     refine .go (Sub.head Y) (by simp) rfl ?_
     refine .go (Sub.head (Sub.tail Y)) (by simp) rfl ?_
     rcases ao with rfl|rfl
     ·exact kX.cast (D (by decide)) (by simp;try omega)
     exact kX.cast (G (by decide)) (by simp)
    |false=>
     refine .go (Sub.head Y) (by simp) rfl ?_
     rcases ao with rfl|rfl
     ·exact kX.cast (G (by decide)) (by simp)
     exact kX.cast (D (by decide)) (by simp;try omega)
   |true=>
    simp only[fP,cX,hj,Td] at E D;rcases h.1 with⟨R,z,_⟩|⟨R,a,z⟩|⟨R,a,b,c,z⟩|⟨R,a,b,z⟩
    ·have h2:t.k=20\/t.k=21:=by
      unfold oN at hj;unfold dy at R;simp at hj;omega
     rw[RK h2] at E D;have e:eP cl fl (d+1) t=cR (decide (t.k=20)):=by
      rcases h2 with g|g
      ·rw[oM h g,g];rfl
      rw[mO h g,g];rfl
     rw[e] at G D;by_cases g:this=decide (t.k=20)
     ·rw[RK g] at E;refine .go E.head (by simp) rfl ?_
      simp only[Td];exact G (by rw[g])
     rw[RH g] at D;exact D (by revert g;cases this<;>cases decide (t.k=20)<;>decide)
    ·have h2: ¬(t.k=20\/t.k=21):=by omega
     rw[RH h2,RK R] at E D;have e0:t.kid 0=a:=by unfold Tr.kid;rw[z];rfl
     rw[e0] at E D;have ha:=hw a (by rw[z];simp)
     have J:=V a (by rw[z];simp)
     have af:cP k.cl d a=2:=by
      rw[cP,z,RH (by simp)] at I
      simp only[Sa,SA,ef] at I;split at I
      ·rename_i g;exact g
      exact absurd rfl I
     have ag:=(kH Z hF ha J).2 af;have e:eP cl fl (d+1) t=1 - eP cl fl d a:=by rw[eP,z];rfl
     rw[e] at G D;refine ih ha J (λ_=>af) Z E ⟨λg=>G ?_,λg=>D ?_⟩
     ·rw[g];cases this<;>rfl
     generalize eP cl fl d a=v at*;revert g;cases this<;>rcases ag with rfl|rfl<;>decide
    ·have h2: ¬(t.k=20\/t.k=21):=by omega
     have ae: ¬t.k=19:=by omega
     rw[RH h2,RH ae,RK R] at E D;have e0:t.kid 0=a:=by unfold Tr.kid;rw[z];rfl
     have e1:t.kid 1=b:=by unfold Tr.kid;rw[z];rfl
     have e2:t.kid 2=c:=by unfold Tr.kid;rw[z];rfl
     rw[e0,e1,e2] at E D;have ha:=hw a (by rw[z];simp)
     have hb:=hw b (by rw[z];simp)
     have hc:=hw c (by rw[z];simp)
     have J:=V a (by rw[z];simp)
     have ac:=V b (by rw[z];simp)
     have aj:=V c (by rw[z];simp)
     have ab:cP k.cl d a=2/\cP k.cl d b=2/\cP k.cl d c=2:=by
      rw[cP,z,RH (by simp)] at aa
      simp only[Sa,SA,ef] at aa;split at aa
      ·rename_i g;exact⟨g.1,aa,by rw[<-g.2];exact aa⟩
      cases aa
     have ag:=(kH Z hF ha J).2 ab.1;have e:eP cl fl (d+1) t=if eP cl fl d a=1 then eP cl fl d b else eP cl fl d c:=by rw[eP,z];rfl
     rw[e] at G D;have ak:=E.left;have Y:=E.right (eo _ _ _ _ _ _ _);have ah:=Y.left;have ai:=Y.right (eo _ _ _ _ _ _ _);have am:=ai.tail;refine ih ha J (λ_=>ab.1) Z ak ⟨λg=>?_,λg=>?_⟩
     ·have g:eP cl fl d a=0:=g;rw[g,RH (by decide)] at G D
      refine ih hc aj (λ_=>ab.2.2) Z am ⟨λU=>G U,λU=>?_⟩
      exact kX.cast (D U) (by omega)
     have g1:eP cl fl d a=1:=by
      rcases ag with g'|g'
      ·exact absurd g' g
      exact g'
     rw[g1,RK rfl] at G D;refine ih hb ac (λ_=>ab.2.1) Z ah ⟨λU=>G U,λU=>?_⟩
     refine .go ai.head (by simp) rfl ?_
     simp only[Td];exact kX.cast (D U) (by omega)
    have h2: ¬(t.k=20\/t.k=21):=by unfold fh at R;omega
    have ae: ¬t.k=19:=by unfold fh at R;omega
    have ad: ¬t.k=14:=by unfold fh at R;omega
    rw[RH h2,RH ae,RH ad] at E D;have ap:t.k=17\/t.k=18:=by
     unfold oN at hj;unfold fh at R;simp at hj;omega
    have e0:t.kid 0=a:=by unfold Tr.kid;rw[z];rfl
    have e1:t.kid 1=b:=by unfold Tr.kid;rw[z];rfl
    rw[e0,e1] at E D;have ha:=hw a (by rw[z];simp)
    have hb:=hw b (by rw[z];simp)
    have J:=V a (by rw[z];simp)
    have ac:=V b (by rw[z];simp)
    have ab:cP k.cl d a=2/\cP k.cl d b=2:=by
     rw[rO z] at I;simp only[ef] at I;rw[RH (by omega),RH (by omega),RH (by omega)] at I
     split at I
     ·rename_i g;exact g
     exact absurd rfl I
    have ag:=(kH Z hF ha J).2 ab.1;have aq:=(kH Z hF hb ac).2 ab.2;have ah:=E.right (eo _ _ _ _ _ _ _);rw[EX z] at G D;refine ih ha J (λ_=>ab.1) Z E.left ⟨λg=>?_,λg=>?_⟩
    ·
      have ev:sS t.k (eP cl fl d a) (eP cl fl d b)=cR (decide (t.k=17)):=by
       rw[g];rcases ap with g'|g'<;>rw[g']<;>rcases aq with U|U<;>rw[U]<;>rfl
      rw[ev] at G D;by_cases U:this=decide (t.k=17)
      ·rw[RK U];exact G (by rw[U])
      rw[RH U,Th];exact D (by revert U;cases this<;>cases decide (t.k=17)<;>decide)
    have ev:sS t.k (eP cl fl d a) (eP cl fl d b)=eP cl fl d b:=by
     rcases ap with g'|g'<;>rw[g'] at g⊢ <;>rcases ag with g1|g1<;>rw[g1] at g⊢ <;>rcases aq with U|U<;>rw[U]<;>first|rfl|(exact absurd rfl g)
    rw[ev] at G D;refine ih hb ac (λ_=>ab.2) Z ah ⟨λU=>G U,λU=>?_⟩
    rw[Th];exact D U
structure NO (cells op) (n:Int):Prop where
 ops:1<=op/\op<=18
 big:op=1->dL n
 two:cE op=2->0<=n/\n<=dC op cells/\n<=255
 one:cE op=1->n=0
def iK (F:List jU) (p:Nat) (k:Kn):Prop:= ∃y,F[p]?=some y/\y.kn=k
structure LP (F:List jU) (dep cells i:Nat) (x:jU):Prop where
 num:NO cells x.op x.n
 len:x.kn.cl.length=cells
 doe:∃k',dZ x.op x.n.toNat x.kn=some k'/\k'.st.length<=dep/\(x.op≠16->x.op≠17->x.op≠18->iK F (i+1) k')/\(x.op=15\/x.op=16->i<x.to/\iK F x.to k')
theorem ke {F:List jU} (d):∀{t k m p T},hY d t->Sub F p (fP jmp d m t k p T)->(m≠none->iK F (p+cX jmp d m t) k)->iK F p k:=by
 induction d with
 |zero=>intro t k m p T h;exact h.elim
 |succ d ih=>
  intro t k m p T h z G;have R:=h.2;have aa:Sub F p (fP jmp (d+1) none t k p 0)->iK F p k:=by
   intro z;rcases h.1 with⟨E,D,_⟩|⟨E,a,D⟩|⟨E,a,b,c,D⟩|⟨E,a,b,D⟩
   ·have I: ¬t.k=14:=by unfold dy at E;omega
    have J: ¬t.k=19:=by unfold dy at E;omega
    simp only[fP,RH I,RH J,D,Sx] at z;rw[RH (by decide)] at z
    exact⟨_,z.head,rfl⟩
   ·have I: ¬t.k=14:=by omega
    simp only[fP,RH I,RK E] at z;have O:t.kid 0=a:=by unfold Tr.kid;rw[D];rfl
    rw[O] at z;exact ih (R a (by rw[D];simp)) z.left (by simp)
   ·simp only[fP,RK E] at z;have O:t.kid 0=a:=by unfold Tr.kid;rw[D];rfl
    have Y:t.kid 1=b:=by unfold Tr.kid;rw[D];rfl
    rw[O,Y] at z;have V:=z.right (eo _ _ _ _ _ _ _);have Z:=ih (R b (by rw[D];simp)) V.left (by simp)
    exact ih (R a (by rw[D];simp)) z.left (λ_=>Z)
   have I: ¬t.k=14:=by unfold fh at E;omega
   have J: ¬t.k=19:=by unfold fh at E;omega
   have hl:t.kids.length=2:=by rw[D];rfl
   simp only[fP,RH I,RH J,RK hl] at z;have O:t.kid 0=a:=by unfold Tr.kid;rw[D];rfl
   rw[O] at z;exact ih (R a (by rw[D];simp)) z.left (by simp)
  cases m with
  |none=>exact aa z
  |some this=>
   have G:=G (by simp)
   cases hj:oN jmp t.k with
   |false=>
    have ab:fP jmp (d+1) (some this) t k p T=fP jmp (d+1) none t k p 0++((if this then[⟨12,0,0,⟨2::k.st,k.cl⟩⟩] else[])++[⟨15,0,T,⟨2::k.st,k.cl⟩⟩]):=by
     simp only[fP,hj];rfl
    rw[ab] at z;exact aa z.left
   |true=>
    simp only[fP,cX,hj,Td] at z G;rcases h.1 with⟨E,D,_⟩|⟨E,a,D⟩|⟨E,a,b,c,D⟩|⟨E,a,b,D⟩
    ·have U:t.k=20\/t.k=21:=by
      unfold oN at hj;unfold dy at E;simp at hj;omega
     rw[RK U] at z G;by_cases g:this=decide (t.k=20)
     ·rw[RK g] at z;exact⟨_,z.head,rfl⟩
     rw[RH g] at G;exact G
    ·have U: ¬(t.k=20\/t.k=21):=by omega
     rw[RH U,RK E] at z G;have O:t.kid 0=a:=by unfold Tr.kid;rw[D];rfl
     rw[O] at z G;exact ih (R a (by rw[D];simp)) z (λ_=>G)
    ·have U: ¬(t.k=20\/t.k=21):=by omega
     have J: ¬t.k=19:=by omega
     rw[RH U,RH J,RK E] at z G;have O:t.kid 0=a:=by unfold Tr.kid;rw[D];rfl
     have Y:t.kid 1=b:=by unfold Tr.kid;rw[D];rfl
     rw[O,Y] at z G;have V:=z.right (eo _ _ _ _ _ _ _);have ac:=V.right (eo _ _ _ _ _ _ _);have Z:=ih (R b (by rw[D];simp)) V.left (λ_=>⟨_,ac.head,rfl⟩)
     exact ih (R a (by rw[D];simp)) z.left (λ_=>Z)
    have U: ¬(t.k=20\/t.k=21):=by unfold fh at E;omega
    have J: ¬t.k=19:=by unfold fh at E;omega
    have I: ¬t.k=14:=by unfold fh at E;omega
    rw[RH U,RH J,RH I] at z G;have O:t.kid 0=a:=by unfold Tr.kid;rw[D];rfl
    have Y:t.kid 1=b:=by unfold Tr.kid;rw[D];rfl
    rw[O,Y] at z G;have ad:=z.right (eo _ _ _ _ _ _ _);have Z:=ih (R b (by rw[D];simp)) ad (λ_=>by rw[Th];exact G)
    exact ih (R a (by rw[D];simp)) z.left (λ_=>Z)
theorem IJ (J:dy t.k) (O:t.k=2->0<=t.l) (D:ee cl t≠0):dZ (eU t) (iR t).toNat ⟨st,cl⟩=some ⟨ee cl t::st,cl⟩:=by
 unfold dy at J;unfold eU iR ee at*;by_cases z:27<=t.k
 ·simp[dZ,z,show ¬t.k=1 by omega,show ¬t.k=2 by omega]
 by_cases E:22<=t.k
 ·simp[dZ,z,E,show ¬t.k=1 by omega,show ¬t.k=2 by omega]
 by_cases G:t.k=1
 ·simp[dZ,G]
 by_cases I:t.k=2
 ·simp[I,-List.getD_eq_getElem?_getD] at D⊢;simp[dZ,D,-List.getD_eq_getElem?_getD]
 simp[dZ,z,E,G,I]
theorem LQ (U:dy t.k) (V:t.k=1->dL t.n) (O:t.k=2->0<=t.l) (R:ee cl t≠0) (Y:cl.length<=255):NO cl.length (eU t) (iR t):=by
 unfold dy at U;by_cases z:27<=t.k
 ·have D:eU t=4:=by simp[eU,z]
  have E:iR t=((t.k - 27:Nat):Int):=by simp[iR,z]
  rw[D,E];exact⟨by omega,by omega,λ_=>by unfold dC;simp;omega,λg=>by simp[cE] at g⟩
 by_cases G:22<=t.k
 ·have D:eU t=3:=by simp[eU,z,G]
  have E:iR t=((t.k - 22:Nat):Int):=by simp[iR,z,G]
  rw[D,E];exact⟨by omega,by omega,λ_=>by unfold dC;simp;omega,λg=>by simp[cE] at g⟩
 by_cases I:t.k=1
 ·have D:eU t=1:=by simp[eU,I]
  have E:iR t=t.n:=by simp[iR,I]
  rw[D,E];exact⟨by omega,λ_=>V I,λg=>by simp[cE] at g,λg=>by simp[cE] at g⟩
 by_cases J:t.k=2
 ·have D:eU t=6:=by simp[eU,J]
  have E:iR t=t.l:=by simp[iR,J]
  have O:=O J;have:t.l.toNat<cl.length:=by
   refine Nat.lt_of_not_le λg=>R ?_
   unfold ee;rw[RH I,RK J,RG,R2 g];rfl
  rw[D,E];exact⟨by omega,by omega,λ_=>by unfold dC;simp;omega,λg=>by simp[cE] at g⟩
 have D:eU t=2:=by simp[eU,z,G,I,J]
 have E:iR t=cR (decide (t.k=20)):=by simp[iR,z,G,I,J]
 rw[D,E];exact⟨by omega,by omega,λ_=>by unfold dC;cases decide (t.k=20)<;>simp[cR],λg=>by simp[cE] at g⟩
theorem IK (G:fh k) (z:ef k [D,E]≠0):dZ (jH k) 0 ⟨E::D::st,cl⟩=some ⟨ef k [D,E]::st,cl⟩:=by
 unfold fh at G;rcases G with rfl|rfl|rfl|rfl|rfl|rfl|rfl<;>simp[ef] at z⊢ <;>(try simp[dZ,jH,kV,z])<;>omega
theorem pV {cells z:Nat} (h:7<=z/\z<=16):NO cells z 0:=by
 refine⟨by omega,by omega,λg=>?_,λ_=>rfl⟩
 exfalso;unfold cE at g;rw[RH (by omega),RH (by omega)] at g
 (repeat' split at g)<;>omega
theorem NP (k:Nat):7<=jH k/\jH k<=14:=by unfold jH;(repeat' split)<;>omega
def QL (m:Option Bool) (ty:Nat) (k:Kn):Kn:=match m with
 |none=>⟨ty::k.st,k.cl⟩
 |some _=>k
def eQ (F:List jU) (dep cells p q:Nat):Prop:= ∀i x,p<=i->i<q->F[i]?=some x->LP F dep cells i x
theorem eQ.join {dep cells} (D:eQ F dep cells p q) (E:eQ F dep cells q r):eQ F dep cells p r:=λi x G I z=>by
 by_cases g:i<q
 ·exact D i x G g z
 exact E i x (by omega) I z
theorem eQ.one {dep cells} (D:F[p]?=some x) (h:LP F dep cells p x):eQ F dep cells p (p+1):=λi y E G z=>by
 obtain rfl:i=p:=by omega
 rw[D] at z;cases z;exact h
theorem eQ.cast {dep cells} (h:eQ F dep cells p q) (e:q=z):eQ F dep cells p z:=e▸h
theorem iK.cast {F:List jU} (h:iK F p k) (e:p=q):iK F q k:=e▸h
theorem Gv (d):∀{t b},hY d t->b+1<=gn jmp d none t b:=by
 induction d with
 |zero=>intro t b h;exact h.elim
 |succ d ih=>
  intro t b h;have I:=h.2;rcases h.1 with⟨D,z,_⟩|⟨D,a,z⟩|⟨D,a,J,c,z⟩|⟨D,a,J,z⟩
  ·have E: ¬t.k=14:=by unfold dy at D;omega
   have G: ¬t.k=19:=by unfold dy at D;omega
   simp only[gn,RH E,RH G,z,Sx];rw[RH (by decide)];exact RL _
  ·have E: ¬t.k=14:=by omega
   have O:t.kid 0=a:=by unfold Tr.kid;rw[z];rfl
   simp only[gn,RH E,RK D,O];exact ih (I a (by rw[z];simp))
  ·have R:t.kid 1=J:=by unfold Tr.kid;rw[z];rfl
   simp only[gn,RK D,R];have:=ih (b:=b) (I J (by rw[z];simp))
   omega
  have E: ¬t.k=14:=by unfold fh at D;omega
  have G: ¬t.k=19:=by unfold fh at D;omega
  have U:t.kids.length=2:=by rw[z];rfl
  have O:t.kid 0=a:=by unfold Tr.kid;rw[z];rfl
  simp only[gn,RH E,RH G,RK U,O];have:=ih (b:=b) (I a (by rw[z];simp))
  omega
theorem Cz {F:List jU} {dep cells} (ax:cells<=255) (d):∀{t k m p T},hY d t->k.cl.length=cells->cP k.cl d t≠0->(m≠none->cP k.cl d t=2)->k.st.length<=dep->gn jmp d m t k.st.length<=dep->Sub F p (fP jmp d m t k p T)->iK F (p+cX jmp d m t) (QL m (cP k.cl d t) k)->(m≠none->p+cX jmp d m t<=T/\iK F T k)->eQ F dep cells p (p+cX jmp d m t):=by
 induction d with
 |zero=>intro t k m p T h;exact h.elim
 |succ d ih=>
  intro t k m p T h E D hm V R G I hT;have U:=nw h D;have hw:=h.2;have an:gn jmp (d+1) none t k.st.length<=dep->Sub F p (fP jmp (d+1) none t k p 0)->iK F (p+cX jmp (d+1) none t) ⟨cP k.cl (d+1) t::k.st,k.cl⟩->eQ F dep cells p (p+cX jmp (d+1) none t):=by
   intro R G I;have ao:=SF (Gv (d+1) h) R;rcases h.1 with⟨O,z,hn,hl⟩|⟨O,a,z⟩|⟨O,a,b,c,z⟩|⟨O,a,b,z⟩
   ·have af: ¬t.k=14:=by unfold dy at O;omega
    have ag: ¬t.k=19:=by unfold dy at O;omega
    have aj:cP k.cl (d+1) t=ee k.cl t:=by rw[cP,RK z]
    rw[aj] at D I;simp only[fP,cX,RH af,RH ag,z,Sx] at G I⊢;rw[RH (by decide)] at G I⊢
    refine eQ.one G.head ⟨E▸LQ O hn hl D (by omega),E,_,IJ O hl D,by simp;omega,λ_ _ _=>I,λg=>?_⟩
    exfalso;have g:eU t=15\/eU t=16:=g;unfold eU at g;(repeat' split at g)<;>omega
   ·have af: ¬t.k=14:=by omega
    have e0:t.kid 0=a:=by unfold Tr.kid;rw[z];rfl
    simp only[fP,cX,gn,RH af,RK O,e0] at G I R⊢;have ha:=hw a (by rw[z];simp)
    have Y:=U a (by rw[z];simp)
    have ai:cP k.cl d a=2:=by
     rw[cP,z,RH (by simp)] at D
     simp only[Sa,SA,ef] at D;split at D
     ·rename_i g;exact g
     exact absurd rfl D
    have aj:cP k.cl (d+1) t=2:=by
     rw[cP,z,RH (by simp)];simp only[Sa,SA,ef];rw[RK ai]
    rw[aj] at I;have J:=(G.right (eo _ _ _ _ _ _ _)).head;refine(ih ha E Y (by simp) V (by omega) G.left ⟨_,J,?_⟩ (by simp)).join ((eQ.one J ⟨pV (by simp),E,⟨2::k.st,k.cl⟩,rfl,by simp;omega,λ_ _ _=>I.cast (by omega),λg=>?_⟩).cast (by omega))
    ·show _=(⟨cP k.cl d a::k.st,k.cl⟩:Kn);rw[ai]
    exfalso;simp at g
   ·have e0:t.kid 0=a:=by unfold Tr.kid;rw[z];rfl
    have e1:t.kid 1=b:=by unfold Tr.kid;rw[z];rfl
    have e2:t.kid 2=c:=by unfold Tr.kid;rw[z];rfl
    simp only[fP,cX,gn,RK O,e0,e1,e2] at G I R⊢;have ha:=hw a (by rw[z];simp)
    have hb:=hw b (by rw[z];simp)
    have hc:=hw c (by rw[z];simp)
    have Y:=U a (by rw[z];simp)
    have ah:=U b (by rw[z];simp)
    have ap:=U c (by rw[z];simp)
    have ab:cP k.cl d a=2/\cP k.cl d b=cP k.cl d c:=by
     rw[cP,z,RH (by simp)] at D
     simp only[Sa,SA,ef] at D;split at D
     ·rename_i g;exact g
     exact absurd rfl D
    have aj:cP k.cl (d+1) t=cP k.cl d b:=by
     rw[cP,z,RH (by simp)];simp only[Sa,SA,ef];rw[RK ab]
    rw[aj] at I;have aq:=G.left;have J:=G.right (eo _ _ _ _ _ _ _);have ad:=J.left;have ac:=J.right (eo _ _ _ _ _ _ _);have ak:=ac.tail;have kB:=ke d hb ad (by simp)
    have kC:=ke d hc ak (by simp)
    have cA:=ih ha E Y (λ_=>ab.1) V (by omega) aq kB (λ_=>⟨by omega,kC⟩)
    have cB:=ih hb E ah (by simp) V (by omega) ad ⟨_,ac.head,rfl⟩ (by simp)
    have cC:=ih hc E ap (by simp) V (by omega) ak (by show iK F _ (⟨cP k.cl d c::k.st,k.cl⟩);rw[<-ab.2];exact I.cast (by omega)) (by simp)
    have cJ:=eQ.one ac.head ⟨pV (by simp),E,⟨cP k.cl d b::k.st,k.cl⟩,rfl,by simp;omega,λg=>by simp at g,λ_=>⟨by simp;omega,I.cast (by simp;omega)⟩⟩
    exact((cA.join cB).join (cJ.join cC)).cast (by omega)
   have af: ¬t.k=14:=by unfold fh at O;omega
   have ag: ¬t.k=19:=by unfold fh at O;omega
   have hl:t.kids.length=2:=by rw[z];rfl
   have e0:t.kid 0=a:=by unfold Tr.kid;rw[z];rfl
   have e1:t.kid 1=b:=by unfold Tr.kid;rw[z];rfl
   simp only[fP,cX,gn,RH af,RH ag,RK hl,e0,e1] at G I R⊢;have ha:=hw a (by rw[z];simp)
   have hb:=hw b (by rw[z];simp)
   have Y:=U a (by rw[z];simp)
   have ah:=U b (by rw[z];simp)
   rw[rO z] at D I;have J:=G.right (eo _ _ _ _ _ _ _);have ac:=(J.right (eo _ _ _ _ _ _ _)).head;have kB:=ke d (m:=none) hb J.left (by simp)
   have cA:=ih (m:=none) ha E Y (by simp) V (by omega) G.left kB (by simp)
   have cB:=ih (m:=none) (k:=⟨cP k.cl d a::k.st,k.cl⟩) hb E ah (by simp) (by simp;omega) (by simp;omega) J.left ⟨_,ac,rfl⟩ (by simp)
   have ov:=NP t.k;have cJ:=eQ.one (dep:=dep) (cells:=cells) ac ⟨pV (by simp;omega),E,_,IK O D,by simp;omega,λ_ _ _=>I.cast (by omega),λg=>by simp at g;omega⟩
   exact((cA.join cB).join cJ).cast (by omega)
  cases m with
  |none=>exact an R G I
  |some this=>
   have I:iK F (p+cX jmp (d+1) (some this) t) k:=I;obtain⟨Z,ae⟩:=hT (by simp)
   have aa:=hm (by simp)
   cases hj:oN jmp t.k with
   |false=>
    have av:fP jmp (d+1) (some this) t k p T=fP jmp (d+1) none t k p 0++((if this then[⟨12,0,0,⟨2::k.st,k.cl⟩⟩] else[])++[⟨15,0,T,⟨2::k.st,k.cl⟩⟩]):=by
     simp only[fP,hj];rfl
    have aw:cX jmp (d+1) (some this) t=cX jmp (d+1) none t+(if this then 2 else 1):=by
     simp only[cX,hj];rfl
    rw[av] at G;rw[aw] at I Z⊢;have ar:gn jmp (d+1) none t k.st.length<=dep:=by
     have e:gn jmp (d+1) (some this) t k.st.length=gn jmp (d+1) none t k.st.length:=by simp only[gn,hj];rfl
     omega
    have ay:=Gv (jmp:=jmp) (d+1) (b:=k.st.length) h;have J:=G.right (eo _ _ _ _ _ _ _);have ao:dZ 15 0 ⟨2::k.st,k.cl⟩=some ⟨k.st,k.cl⟩:=rfl;cases this with
    |true=>
     have am:=Sub.head (s:=[⟨15,0,T,⟨2::k.st,k.cl⟩⟩]) J;have au:=Sub.head (Sub.tail (x:=⟨12,0,0,⟨2::k.st,k.cl⟩⟩) J);have c0:=an ar G.left ⟨_,am,by rw[aa]⟩
     have c1:=eQ.one (dep:=dep) (cells:=cells) am ⟨pV (by simp),E,⟨2::k.st,k.cl⟩,rfl,by simp;omega,λ_ _ _=>⟨_,au,rfl⟩,λg=>by simp at g⟩
     have c2:=eQ.one (dep:=dep) (cells:=cells) au ⟨pV (by simp),E,_,ao,by simp;omega,λ_ _ _=>I.cast (by simp;omega),λ_=>⟨by simp at Z⊢;omega,ae⟩⟩
     exact((c0.join c1).join c2).cast (by simp;omega)
    |false=>
     have am:=Sub.head J;have c0:=an ar G.left ⟨_,am,by rw[aa]⟩
     have c2:=eQ.one am ⟨pV (by simp),E,_,ao,by simp;omega,λ_ _ _=>I.cast (by simp;omega),λ_=>⟨by simp at Z⊢;omega,ae⟩⟩
     exact(c0.join c2).cast (by simp;omega)
   |true=>
    simp only[fP,cX,gn,hj,Td] at G I Z R⊢;rcases h.1 with⟨O,z,_⟩|⟨O,a,z⟩|⟨O,a,b,c,z⟩|⟨O,a,b,z⟩
    ·have h2:t.k=20\/t.k=21:=by
      unfold oN at hj;unfold dy at O;simp at hj;omega
     rw[RK h2] at G I Z⊢;by_cases g:this=decide (t.k=20)
     ·rw[RK g] at G I Z⊢;exact eQ.one G.head ⟨pV (by simp),E,k,rfl,by omega,λg=>by simp at g,λ_=>⟨by simp;omega,ae⟩⟩
     rw[RH g];intro i x g1 g2;omega
    ·have h2: ¬(t.k=20\/t.k=21):=by omega
     rw[RH h2,RK O] at G I Z R⊢;have e0:t.kid 0=a:=by unfold Tr.kid;rw[z];rfl
     rw[e0] at G I Z R⊢;have ha:=hw a (by rw[z];simp)
     have Y:=U a (by rw[z];simp)
     have ai:cP k.cl d a=2:=by
      rw[cP,z,RH (by simp)] at D
      simp only[Sa,SA,ef] at D;split at D
      ·rename_i g;exact g
      exact absurd rfl D
     exact ih ha E Y (λ_=>ai) V R G I (λ_=>⟨Z,ae⟩)
    ·have h2: ¬(t.k=20\/t.k=21):=by omega
     have ag: ¬t.k=19:=by omega
     have e0:t.kid 0=a:=by unfold Tr.kid;rw[z];rfl
     have e1:t.kid 1=b:=by unfold Tr.kid;rw[z];rfl
     have e2:t.kid 2=c:=by unfold Tr.kid;rw[z];rfl
     rw[RH h2,RH ag,RK O,e0,e1,e2] at G I Z R⊢;have ha:=hw a (by rw[z];simp)
     have hb:=hw b (by rw[z];simp)
     have hc:=hw c (by rw[z];simp)
     have Y:=U a (by rw[z];simp)
     have ah:=U b (by rw[z];simp)
     have ap:=U c (by rw[z];simp)
     have ab:cP k.cl d a=2/\cP k.cl d b=2/\cP k.cl d c=2:=by
      rw[cP,z,RH (by simp)] at aa
      simp only[Sa,SA,ef] at aa;split at aa
      ·rename_i g;exact⟨g.1,aa,by rw[<-g.2];exact aa⟩
      cases aa
     have aq:=G.left;have J:=G.right (eo _ _ _ _ _ _ _);have ad:=J.left;have ac:=J.right (eo _ _ _ _ _ _ _);have ak:=ac.tail;have kJ:iK F (p+cX jmp d (some false) a+cX jmp d (some this) b) k:=⟨_,ac.head,rfl⟩;have kB:=ke d hb ad (λ_=>kJ)
     have kE:iK F (p+cX jmp d (some false) a+cX jmp d (some this) b+1+cX jmp d (some this) c) k:=I.cast (by omega)
     have kC:=ke d hc ak (λ_=>kE)
     have cA:=ih ha E Y (λ_=>ab.1) V (by omega) aq kB (λ_=>⟨by omega,kC⟩)
     have cB:=ih hb E ah (λ_=>ab.2.1) V (by omega) ad kJ (λ_=>⟨by omega,ae⟩)
     have cC:=ih hc E ap (λ_=>ab.2.2) V (by omega) ak kE (λ_=>⟨by omega,ae⟩)
     have cJ:=eQ.one ac.head ⟨pV (by simp),E,k,rfl,by omega,λg=>by simp at g,λ_=>⟨by simp;omega,kE⟩⟩
     exact((cA.join cB).join (cJ.join cC)).cast (by omega)
    have h2: ¬(t.k=20\/t.k=21):=by unfold fh at O;omega
    have ag: ¬t.k=19:=by unfold fh at O;omega
    have af: ¬t.k=14:=by unfold fh at O;omega
    have e0:t.kid 0=a:=by unfold Tr.kid;rw[z];rfl
    have e1:t.kid 1=b:=by unfold Tr.kid;rw[z];rfl
    rw[RH h2,RH ag,RH af,e0,e1] at G I Z R⊢;have az:t.k=17\/t.k=18:=by
     unfold oN at hj;unfold fh at O;simp at hj;omega
    have ha:=hw a (by rw[z];simp)
    have hb:=hw b (by rw[z];simp)
    have Y:=U a (by rw[z];simp)
    have ah:=U b (by rw[z];simp)
    have ab:cP k.cl d a=2/\cP k.cl d b=2:=by
     rw[rO z] at D;simp only[ef] at D;rw[RH (by omega),RH (by omega),RH (by omega)] at D
     split at D
     ·rename_i g;exact g
     exact absurd rfl D
    have ad:=G.right (eo _ _ _ _ _ _ _);have kE:iK F (p+cX jmp d (some (decide (t.k=17))) a+cX jmp d (some this) b) k:=I.cast (by omega)
    have kB:=ke d hb ad (λ_=>kE)
    have cA:=ih ha E Y (λ_=>ab.1) V (by omega) G.left kB (λ_=>by
     split
     ·exact⟨by omega,ae⟩
     exact⟨by omega,kE⟩)
    have cB:=ih hb E ah (λ_=>ab.2) V (by omega) ad kE (λ_=>⟨by omega,ae⟩)
    exact(cA.join cB).cast (by omega)
def ga (z:Nat):Nat:=if z=12 then 17 else 18
def kM (jmp:Bool) (d:Nat):List fQ->List Nat->Nat->List jU
 |[],lt,_=>[⟨18,0,0,⟨[],lt⟩⟩]
 |x::r,lt,p=>
  if x.kind=11 then fP jmp d none x.c ⟨[],lt⟩ p 0++(⟨5,x.wh,0,⟨[cP lt d x.c],lt⟩⟩::kM jmp d r (lt.set x.wh (cP lt d x.c)) (p+cX jmp d none x.c+1))
  else fP jmp d (some false) x.c ⟨[],lt⟩ p (p+cX jmp d (some false) x.c+1)++(⟨ga x.kind,x.wh,0,⟨[],lt⟩⟩::kM jmp d r lt (p+cX jmp d (some false) x.c+1))
def LR (jmp:Bool) (d:Nat):List fQ->Nat
 |[]=>0
 |x::r=>max (gn jmp d (if x.kind=11 then none else some false) x.c 0) (LR jmp d r)
theorem AE (jmp) (d):∀l,LR jmp d l<=d
 |[]=>R0 _
 |x::r=>by
  have z:=rQ jmp d (if x.kind=11 then none else some false) x.c 0;have D:=AE jmp d r;rw[LR];omega
theorem uk {F fl jmp d} (I:dI fl):∀{l lt cl p},pd d lt l->lt.length=cl.length->kG lt cl->Sub F p (kM jmp d l lt p)->kX F fl p [] cl (eY d fl cl l)
 |[],lt,cl,p,_,_,_,z=>kX.stop z.head (.inr rfl)
 |x::r,lt,cl,p,E,hl,J,z=>by
  obtain⟨R,G,E⟩:=E;rcases E with⟨Y,hx,E⟩|⟨Y,U,hx,E⟩
  ·rw[kM,RK Y] at z;rw[eY,RK Y];have D:=z.right (eo _ _ _ _ _ _ _);refine Cy I d R G (by simp) J z.left ?_
   refine .go D.head (by simp) rfl ?_
   exact uk I E (by simpa using hl) (sV J hx (by omega) (kH J I R G)) D.tail
  have O: ¬x.kind=11:=by omega
  rw[kM,RH O] at z;rw[eY,RH O];have D:=z.right (eo _ _ _ _ _ _ _);have hv:=(kH J I R G).2 U;refine Cy I d R G (λ_=>U) J z.left ⟨λg=>?_,λg=>?_⟩
  ·have g:eP cl fl d x.c=0:=g;rw[g,RH (by decide)]
   exact uk I E hl J D.tail
  have g1:eP cl fl d x.c=1:=by
   rcases hv with Z|Z
   ·exact absurd Z g
   exact Z
  rw[RK g1];have V:=kX.stop (fl:=fl) (st:=[]) (cl:=cl) D.head (by unfold ga;simp only[];split<;>simp)
  have e1:decide (ga x.kind=17)=decide (x.kind=12):=by unfold ga;split<;>simp_all
  have e2:((x.wh:Int)).toNat=x.wh:=by simp
  simp only[e1,e2] at V;exact V
theorem rR {F:List jU}:∀{l lt p},pd d lt l->Sub F p (kM jmp d l lt p)->iK F p ⟨[],lt⟩
 |[],lt,p,_,z=>⟨_,z.head,rfl⟩
 |x::r,lt,p,D,z=>by
  obtain⟨E,J,D⟩:=D;by_cases G:x.kind=11
  ·rw[kM,RK G] at z;exact ke d E z.left (by simp)
  rw[kM,RH G] at z;have I:=z.right (eo _ _ _ _ _ _ _);exact ke d E z.left (λ_=>⟨_,I.head,rfl⟩)
theorem qA {F jmp d dep cells} (I:cells<=255):∀{l lt p},pd d lt l->lt.length=cells->LR jmp d l<=dep->Sub F p (kM jmp d l lt p)->eQ F dep cells p (p+(kM jmp d l lt p).length)
 |[],lt,p,_,E,_,G=>eQ.one G.head ⟨⟨by simp,by simp,λ_=>by simp[dC],λg=>by simp[cE] at g⟩,E,⟨[],lt⟩,rfl,by simp,λ_ _ g=>absurd rfl g,λg=>by simp at g⟩
 |x::r,lt,p,D,E,U,G=>by
  obtain⟨Z,R,D⟩:=D;rw[LR] at U;rcases D with⟨V,hx,D⟩|⟨V,aa,hx,D⟩
  ·rw[RK V] at U;rw[kM,RK V] at G⊢;have z:=G.right (eo _ _ _ _ _ _ _);have Y:=rR D z.tail;have c0:=Cz I d (dep:=dep) (k:=⟨[],lt⟩) (m:=none) Z E R (by simp) (by simp) (by simp;omega) G.left ⟨_,z.head,rfl⟩ (by simp)
   have c1:=eQ.one (dep:=dep) (cells:=cells) z.head ⟨⟨by simp,by simp,λ_=>by simp[dC];omega,λg=>by simp[cE] at g⟩,E,⟨[],lt.set x.wh (cP lt d x.c)⟩,by simp[dZ],by simp,λ_ _ _=>Y,λg=>by simp at g⟩
   have c2:=qA I D (by simpa using E) (dep:=dep) (jmp:=jmp) (by omega) z.tail
   exact((c0.join c1).join c2).cast (by simp[eo];omega)
  have J: ¬x.kind=11:=by omega
  rw[RH J] at U;rw[kM,RH J] at G⊢;have z:=G.right (eo _ _ _ _ _ _ _);have Y:=rR D z.tail;have c0:=Cz I d (dep:=dep) (k:=⟨[],lt⟩) (m:=some false) Z E R (λ_=>aa) (by simp) (by simp;omega) G.left ⟨_,z.head,rfl⟩ (λ_=>⟨by omega,Y⟩)
  have O:ga x.kind=17\/ga x.kind=18:=by unfold ga;split<;>simp
  have c1:=eQ.one (dep:=dep) (cells:=cells) z.head ⟨⟨by simp;omega,by simp;omega,λ_=>by rcases O with e|e<;>simp[dC,e]<;>omega,λg=>by rcases O with e|e<;>simp[cE,e] at g⟩,E,⟨[],lt⟩,by rcases O with e|e<;>simp[dZ,e],by simp,λg1 g2 g3=>by simp at g1 g2 g3;omega,λg=>by simp at g;omega⟩
  have c2:=qA I D E (dep:=dep) (jmp:=jmp) (by omega) z.tail
  exact((c0.join c1).join c2).cast (by simp[eo];omega)
structure Lk (F:List jU) (ins:List ey):Prop where
 len:ins.length=F.length
 op:∀i x,F[i]?=some x->(ins.getD i cI).op=x.op
 num:∀i x,F[i]?=some x-> ¬(x.op=15\/x.op=16)->(ins.getD i cI).n=x.n
 jump:∀i x,F[i]?=some x->(x.op=15\/x.op=16)->fS ins (ins.getD i cI)=some x.to
theorem IL (h:z=15\/z=16) (a b) (k):dZ z a k=dZ z b k:=by rcases h with rfl|rfl<;>rfl
theorem IN (h:z=15\/z=16) (a b) (p q) (st cl):gj fl ⟨z,a,p⟩ st cl=gj fl ⟨z,b,q⟩ st cl:=by rcases h with rfl|rfl<;>rfl
theorem zo:∀l:List Nat,hU l l=l
 |[]=>rfl
 |x::r=>by
  have:=zo r;simp only[hU,List.zipWith_cons_cons,Td] at*;rw[this]
theorem xc {K:Nat->Kn} {k}:∀{ts come},(∀o∈ts,∃j,o=some j/\K j=k)->(∀j,come.getD j none=none\/come.getD j none=some (K j))-> ∃z,dU come k ts=some z/\ ∀j,z.getD j none=none\/z.getD j none=some (K j)
 |[],come,_,h=>⟨come,rfl,h⟩
 |o::ts,come,G,h=>by
  obtain⟨j,rfl,I⟩:=G o (by simp)
  have E:∀i,(come.set j (some k)).getD i none=none\/(come.set j (some k)).getD i none=some (K i):=λi=>by
   by_cases e:j=i
   ·subst e;by_cases J:j<come.length
    ·rw[cT J,I];exact .inr rfl
    left;rw[RG,R2 (by simp;omega)];rfl
   rw[getD_set_ne e];exact h i
  have D:=xc (ts:=ts) (come:=come.set j (some k)) (λo O=>G o (by simp[O])) E
  rcases h j with e|e
  ·simp only[dU,e];exact D
  simp only[dU,e];rw[I,RK rfl,zo];exact D
theorem IP {ins dep cells} (G:Lk F ins) (hC:eQ F dep cells 0 F.length):∀m i come,F.length - i=m->(∀j,come.getD j none=none\/come.getD j none=some ((F.getD j ⟨0,0,0,⟨[],[]⟩⟩).kn))->iZ ins dep (ins.drop i) i come=true:=by
 intro m;induction m with
 |zero=>
  intro i come hm _;rw[R8 (by rw[G.len];omega)];rfl
 |succ m ih=>
  intro i come hm D;have hi:i<F.length:=by omega
  have Y:i<ins.length:=by rw[G.len];exact hi
  have R:ins.drop i=ins.getD i cI::ins.drop (i+1):=by
   rw[R5 Y,RG,RI Y];rfl
  rw[R,iZ];have J:=RI hi;have hg:F.getD i ⟨0,0,0,⟨[],[]⟩⟩=F[i]:=by rw[RG,J];rfl
  generalize F[i]=x at*;have c:=hC i x (R0 _) hi J;rcases D i with e|e
  ·rw[e];exact ih (i+1) come (by omega) D
  rw[e,hg];simp only[];obtain⟨I,hd,ag,hn,hj⟩:=c.doe;have Z:=G.op i x J;have ae:dZ (ins.getD i cI).op (ins.getD i cI).n.toNat x.kn=some I:=by
   rw[Z];by_cases g:x.op=15\/x.op=16
   ·rw[IL g _ x.n.toNat];exact hd
   rw[G.num i x J g];exact hd
  rw[ae];simp only[];rw[RH (by omega)]
  have aa:∀{p},iK F p I->p<F.length/\(F.getD p ⟨0,0,0,⟨[],[]⟩⟩).kn=I:=λ{p} ⟨y,hy,hk⟩=>by
   refine⟨(Sf.1 hy).1,?_⟩;rw[RG,hy];exact hk
  have U:∀o∈fb ins i (ins.getD i cI),∃j,o=some j/\(F.getD j ⟨0,0,0,⟨[],[]⟩⟩).kn=I:=by
   intro o z;have ab:x.op≠16->x.op≠17->x.op≠18-> ∃j,(if i+1<ins.length then some (i+1) else none)=some j/\(F.getD j ⟨0,0,0,⟨[],[]⟩⟩).kn=I:=λg1 g2 g3=>by
    obtain⟨q1,q2⟩:=aa (hn g1 g2 g3);rw[RK (by rw[G.len];exact q1)]
    exact⟨_,rfl,q2⟩
   have ac:x.op=15\/x.op=16-> ∃j,fS ins (ins.getD i cI)=some j/\(F.getD j ⟨0,0,0,⟨[],[]⟩⟩).kn=I:=λg=>
    ⟨_,G.jump i x J g,(aa (hj g).2).2⟩
   unfold fb at z;rw[Z] at z;by_cases O:x.op=15
   ·rw[RK O] at z;simp only[Sm,SJ,T2] at z;rcases z with rfl|rfl
    ·exact ab (by omega) (by omega) (by omega)
    exact ac (.inl O)
   rw[RH O] at z;by_cases E:x.op=16
   ·rw[RK E] at z;simp only[Sm,SJ,T2] at z;subst z;exact ac (.inr E)
   rw[RH E] at z;by_cases ad:x.op=17\/x.op=18
   ·rw[RK ad] at z;simp at z
   rw[RH ad] at z;simp only[Sm,SJ,T2] at z;subst z;exact ab E (by omega) (by omega)
  obtain⟨V,hb,af⟩:=xc U D;rw[hb];exact ih (i+1) V (by omega) af
theorem Ps (h:gj fl x st cl=some (st',cl',true)):x.op=15\/x.op=16:=by
 by_cases D:x.op=15
 ·exact .inl D
 by_cases E:x.op=16
 ·exact .inr E
 exfalso;have z:∀{a b},¬(some (a,b,false)=some (st',cl',true)):=λh=>by injection h with h;injection h with _ h;injection h with _ h;cases h
 unfold gj at h;split at h
 ·exact z h
 split at h
 ·exact z h
 split at h
 ·cases st with
  |nil=>cases h
  |cons v r=>exact z h
 split at h
 ·exact z h
 split at h
 ·cases st with
  |nil=>cases h
  |cons v r=>exact z h
 cases st with
 |nil=>cases h
 |cons v r=>
  cases r with
  |nil=>cases h
  |cons u r=>exact z h
theorem LS {ins} (E:Lk F ins) (h:kX F fl i st cl r):∀f n res,nV ins fl f i st cl n=some res->res.1=r.1/\res.2.1=r.2:=by
 refine h (λi st cl r=> ∀f n res,nV ins fl f i st cl n=some res->res.1=r.1/\res.2.1=r.2) (λi x st cl D G=>?_) (λi x st cl st' cl' j r D G I ih=>?_)
 ·intro f n res z;cases f with
  |zero=>simp[nV] at z
  |succ f=>
   have J:i<ins.length:=by rw[E.len];exact(Sf.1 D).1
   rw[nV,RK J,E.op i x D,RK G,E.num i x D (by omega)] at z
   cases z;exact⟨rfl,rfl⟩
 intro f n res z;cases f with
 |zero=>simp[nV] at z
 |succ f=>
  have J:i<ins.length:=by rw[E.len];exact(Sf.1 D).1
  rw[nV,RK J,E.op i x D,RH G] at z;have R:gj fl (ins.getD i cI) st cl=some (st',cl',j):=by
   have U:=E.op i x D;by_cases g:x.op=15\/x.op=16
   ·rw[<-I,<-IN g (ins.getD i cI).n x.n (ins.getD i cI).pl 0,<-U]
   have e2:=E.num i x D g;rw[<-I,<-U,<-e2];rfl
  rw[R] at z;cases j with
  |false=>exact ih f (n+1) res z
  |true=>
   simp only[] at z;have hj:=Ps I;rw[E.jump i x D hj] at z;exact ih f (n+1) res z
end Go.Proofs.YtfkdailfcmnjlaaGreatDoor
