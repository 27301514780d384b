/-
  A part.
-/
import Derived.Test.YtfkdailfcmnjlaaGreatDoorAll28
set_option linter.all false
set_option maxHeartbeats 40000000
set_option maxRecDepth 1000000
namespace Go.Proofs.YtfkdailfcmnjlaaGreatDoor
open Go Go.RowKit Tryz
section
attribute [local go_sem ↓] Go.wp_at_zero Go.wp_at_succ
variable {l w lp jmp v F g j jv js q w' z Y b k pl n nm u}
structure L3 where
 op:Nat
 n:Int
 tj:Nat
def fS:L3:=⟨0,0,0⟩
def er (x:mX):L3:=⟨x.op,x.n,x.to⟩
def Aw (l:List L3):List Value:=l.flatMap λx=>[Iq (x.op:Nat),Iq x.n,Iq (x.tj:Nat),Iq 0]
theorem MN (l:List L3):(Aw l).length=l.length*4:=by
 induction l with
 |nil=>rfl
 |cons x r ih=>simp[Aw] at ih⊢;omega
theorem Ld (l) (x:L3):Aw (l++[x])=Aw l++[Iq x.op,Iq x.n,Iq x.tj,Iq 0]:=by simp[Aw]
theorem Le (l:List L3):∀i,i<l.length->(Aw l)[i*4]?=some (Iq ((l.getD i fS).op))/\(Aw l)[i*4+1]?=some (Iq (l.getD i fS).n)/\(Aw l)[i*4+2]?=some (Iq ((l.getD i fS).tj:Nat))/\(Aw l)[i*4+3]?=some (Iq 0):=by
 induction l with
 |nil=>intro i z;simp at z
 |cons x r ih=>
  intro i z;have e:Aw (x::r)= Iq x.op:: Iq x.n:: Iq x.tj:: Iq 0::Aw r:=rfl;cases i with
  |zero=>rw[e];exact⟨rfl,rfl,rfl,rfl⟩
  |succ i=>
   obtain⟨a,b,c,d⟩:=ih i (by simpa using z)
   have D:(i+1)*4=i*4+4:=by omega
   rw[e,D];simp only[QI];exact⟨a,b,c,d⟩
def nQ (l:List L3) (j T:Nat):List L3:=l.set j ⟨(l.getD j fS).op,(l.getD j fS).n,T⟩
theorem nR (l:List L3) (j T:Nat):(nQ l j T).length=l.length:=by simp[nQ]
theorem MO {j:Nat} (h:j<l.length) (T):(Aw l).set (j*4+2) (Iq (T:Nat))=Aw (nQ l j T):=by
 induction l generalizing j with
 |nil=>simp at h
 |cons x r ih=>
  have e:∀x r,Aw (x::r)= Iq x.op:: Iq x.n:: Iq x.tj:: Iq 0::Aw r:=λ_ _=>rfl
  cases j with
  |zero=>rfl
  |succ j=>
   have z:(j+1)*4+2=(j*4+2)+4:=by omega
   have D:nQ (x::r) (j+1) T=x::nQ r j T:=rfl;rw[D,e,e,<-ih (by simpa using h),z]
   rfl
structure kV (w:World) (lp:Nat) (jmp) (v) (l) (dep cells):Prop where
 blk:w.heap[lp]?=some (.cells #[.bool jmp,v,Iq (dep:Nat),Iq (cells:Nat)] 194 (0,0))
 row:w.ownsRow 0 247 4 v l.length (Aw l)
theorem kV.ne {v:Value} {dep cells} (h:kV w lp jmp v l dep cells):v.ownBlock≠some lp:=λD=>by
 obtain⟨G,E⟩:=cK h.row D;have z:=h.blk;rw[E] at z;simp at z
theorem kV.only {w w':World} {dep cells} (h:kV w lp jmp v l dep cells) (z:cI F w w') (D:∀b,(b=lp\/v.ownBlock=some b)-> ¬F b):kV w' lp jmp v l dep cells:=
 ⟨(z.block lp (be h.blk) (D lp (.inl rfl))).trans h.blk,cM h.row (λk E=>z.block k (h.row.lt k E).2 (D k (.inr E)))⟩
def dG (w w':World) (lp:Nat) (jmp:Bool) (v:Value) (l:List L3) (dep cells:Nat):Prop:=
 ∃E,kV w' lp jmp E l dep cells/\cI (λb=>b=lp\/v.ownBlock=some b) w w'/\ ∀b,E.ownBlock=some b->v.ownBlock=some b\/w.heap.size<=b
theorem jE {lp:Nat} {dep cells} (G:Nat) (n) (h:kV w lp jmp v l dep cells) (hl:l.length<=5000):
 Calls prog 93 #[Pq lp,Iq G,Iq n] w λe w'=>e= .returned (Iq l.length)/\dG w w' lp jmp v (l++[⟨G,n,0⟩]) dep cells:=by
 have ab:w.cell? ⟨lp,1,none⟩=some v:=by rw[Qm w lp 1 _ _ _ h.blk];rfl
 have ac:w.frozen? ⟨lp,1,none⟩=false:=by simp[World.frozen?,h.blk]
 have ad:=be h.blk;have R:=h.ne;obtain⟨a,cap,rfl⟩:∃a cap,v= .slice a l.length cap:=by
  obtain⟨hl,h⟩:=h.row;rcases h with⟨rfl,h0⟩|⟨g,cap,ah,rfl,Z,hg,h1,h2,h3,h4⟩
  ·exact⟨none,0,by rw[h0]⟩
  exact⟨_,_,rfl⟩
 obtain⟨i0,hi,hz⟩:=QP.1 Cc;simp only[QS] at hz;obtain⟨ae,af,ag⟩:=hz;have HR:Hid (w.ownsRow 0 247 4 (.slice a l.length cap) l.length (Aw l)):=h.row;have HP:Hid (w.heap[lp]?=some (.cells #[.bool jmp,.slice a l.length cap,Iq dep,Iq cells] 194 (0,0))):=h.blk;have HN:Hid ((Value.slice a l.length cap).ownBlock≠some lp):=R;go_enter func93,ntmps93;go_wp2_with (
  at_builtin;go_must (refine wpList_append_lies _ (by rfl) _ _ 192 (by rfl) 0 247 i0 (.agg #[Iq 0,Iq 0,Iq 0,Iq 0]) 4 32 underlying192 hi ae af ag (by rfl) (by decide) _ _ _ (by rfl) (HR.out.alloc _) ⟨w.heap.size,0,none⟩ 1 1 [Iq G,Iq n,Iq 0,Iq 0] (by rfl) (by rfl) (World.news_of_block (Qp w _)) (λx hx=>by simp at hx;rcases hx with rfl|rfl|rfl<;>rfl) (by decide) (by unfold maxLen;omega) (by omega) (by simp) _ rfl ?_)
  intro gg z J E D I aa;have O:=(D.block _ (by simp;omega) (λe=>HN.out e.symm)).trans (Qu w _ _ ad)
  have e1:=(Qz O).trans ab;have e2:=(Re O).trans ac;have U:=Hi O;have V:=Hi E;have Y:=Hi D;clear O E D)
 have HL:Hid (dG w (J.setCell ⟨lp,1,none⟩ (Sq gg (l.length+1) z)) lp jmp (.slice a l.length cap) (l++[⟨G,n,0⟩]) dep cells):=by
  refine⟨Sq gg (l.length+1) z,⟨?_,?_⟩,?_,?_⟩
  ·rw[QB J lp 1 _ _ _ (U.out.trans HP.out)];rfl
  ·have h1:J.ownsRow 0 247 4 (Sq gg (l.length+1) z) (l.length+1) (Aw l++[Iq G,Iq n,Iq 0,Iq 0]):=V.out;have h2:=Rg h1 (a:=⟨lp,1,none⟩) (by
    intro e;simp[Value.ownBlock] at e;rcases I with h|h
    ·exact HN.out (by rw[h,e])
    rw[Qw] at h;omega) (Sq gg (l.length+1) z)
   rw[Ld,Qt];exact h2
  ·exact(((cI.refl _ w).alloc _).grown Y.out (λk hk=> .inl (.inr hk))).setCell (.inl (.inl rfl)) _
  intro b Z;simp[Value.ownBlock] at Z;subst Z;rcases I with h|h
  ·exact .inl h
  right;rw[h,Qw];omega
 go_ret;exact⟨rfl,HL.out⟩
theorem dG.refl {w:World} {lp jmp} {v:Value} {l dep cells} (h:kV w lp jmp v l dep cells):dG w w lp jmp v l dep cells:=⟨v,h,cI.refl _ _,λ_ z=> .inl z⟩
def fA (l:List L3) (js:List Nat) (T:Nat):List L3:=js.foldl (λl j=>nQ l j T) l
theorem rA (js:List Nat):∀(l:List L3) (T:Nat),(fA l js T).length=l.length:=by
 induction js with
 |nil=>intro l T;rfl
 |cons j r ih=>intro l T;show(fA (nQ l j T) r T).length=_;rw[ih,nR]
theorem Ce {js:List Nat} {k:Nat} (l) (T) (h:k<js.length):fA l (js.take (k+1)) T=nQ (fA l (js.take k) T) (js.getD k 0) T:=by
 unfold fA;rw[Sc,Ql h,Option.toList_some,RH];simp[Qi,Ql h]
theorem kV.setTo {w:World} {cap dep cells} (h:kV w lp jmp (Sq g l.length cap) l dep cells) (I:j<l.length) (T):kV (w.setCell ⟨g,j*4+2,none⟩ (Iq (T:Nat))) lp jmp (Sq g (nQ l j T).length cap) (Proofs.YtfkdailfcmnjlaaGreatDoor.nQ l j T) dep cells:=by
 have E:=h.ne;have J:g≠lp:=λe=>E (by rw[e];rfl)
 refine⟨?_,?_⟩
 ·rw[Qr _ _ _ _ (by simpa using λe=>J e.symm),nR];exact h.blk
 obtain⟨hl,O⟩:=h.row;refine⟨by rw[MN],?_⟩
 rcases O with⟨e,_⟩|⟨g',R,G,e,U,V,Y,Z,b5,b6⟩
 ·simp at e
 simp only[QK,QE,RL,SC,R8] at e;obtain⟨rfl,rfl⟩:=e;refine .inr ⟨g,cap,G.setIfInBounds (j*4+2) (Iq T),rfl,U,QB w g (j*4+2) _ _ _ V,by rw[nR];exact Y,Z,by simpa using b5,?_⟩
 rw[nR,<-MO I,<-b6];simp[TO]
theorem kV.slice {w:World} {lp jmp v l dep cells} (h:kV w lp jmp v l dep cells) (D:0<l.length):∃g cap,v= Sq g l.length cap/\g<w.heap.size/\(∀j,w.frozen? ⟨g,j,none⟩=false)/\ ∀j,j<l.length->w.cell? ⟨g,j*4+2,none⟩=some (Iq ((l.getD j fS).tj)):=by
 obtain⟨g,cap,e,_,z⟩:=World.ownsRow.form h.row D;subst e;refine⟨g,cap,rfl,z,λj=>World.ownsRow.frozenAt h.row j,λj E=>?_⟩
 have:=(Le l j E).2.2.1;have G:=Rs h.row (j*4+2) (by omega)
 rw[G];exact this
theorem ju {dep cells} (h:kV w lp jmp v l dep cells) (hl:l.length<=5000) (ak:js.length<=5000) (E:IR w 3 jv (js.map λj=>(j:Nat))) (I:∀j∈js,j<l.length):
 Calls prog 136 #[Pq lp,jv] w λe w'=>e= .returned (.tuple #[])/\dG w w' lp jmp v (fA l js l.length) dep cells:=by
 by_cases J:js=[]
 ·subst J
  obtain⟨ja,D,rfl⟩:=E.sl;have HL:Hid (dG w w lp jmp v (fA l [] l.length) dep cells):=dG.refl h;go_enter func136,ntmps136;go_wp2
  go_loopw [8] (λR wr=>R= Iq 0/\wr=w) (λ_ _=>0)
  case atStart=>exact⟨rfl,rfl⟩
  case round=>
   obtain⟨rfl,rfl⟩:=hrel
   go_wp2
   go_end0
   exact⟨rfl,HL.out⟩
 have aa:0<l.length:=by
  cases js with
  |nil=>exact absurd rfl J
  |cons j r=>have:=I j (by simp);omega
 obtain⟨g,cap,rfl,hg,_,_⟩:=h.slice aa;obtain⟨jg,D,rfl,am⟩:=E.form (by
  cases js with
  |nil=>exact absurd rfl J
  |cons j r=>simp)
 rw[Ro] at*;have U:Hid (kV w lp jmp (Sq g l.length cap) (fA l (js.take 0) l.length) dep cells/\cI (λb=>b=lp\/(Value.slice (some ⟨g,0,none⟩) l.length cap).ownBlock=some b) w w/\IR w 3 (Sq jg js.length D) (js.map λj=>((j:Nat):Int))):=⟨h,cI.refl _ _,E⟩
 have af:=Hi I;go_enter func136,ntmps136;go_wp2
 go_loopw [8] (λR wr=> ∃k:Nat,k<=js.length/\R= Iq k/\Hid (kV wr lp jmp (Sq g l.length cap) (fA l (js.take k) l.length) dep cells/\cI (λb=>b=lp\/(Value.slice (some ⟨g,0,none⟩) l.length cap).ownBlock=some b) w wr/\IR wr 3 (Sq jg js.length D) (js.map λj=>((j:Nat):Int)))) (λR _=>js.length - (intOf R).toNat)
 case atStart=>exact⟨0,QA _,rfl,U.out⟩
 case round=>
  obtain⟨k,hk,rfl,HI⟩:=hrel;obtain⟨G,Y,V⟩:=HI.out
  by_cases O:k<js.length
  ·have an:(0:Int)<=(k:Int)/\(k:Int)<(js.length:Int):=by omega
   have ag:=V.cell (k:=k) (by simpa using O)
   have ab:(js.map λj=>((j:Nat):Int)).getD k 0=((js.getD k 0:Nat):Int):=by
    rw[Qi,Qi,QN]
    cases js[k]?<;>rfl
   rw[ab] at ag;have ac:js.getD k 0<l.length:=af.out _ (by rw[Qi,Ql O];exact QD O)
   have z:=rA (js.take k) l l.length;obtain⟨g',aj,e',_,ad,ae⟩:=G.slice (by rw[z];exact aa)
   simp only[QK,QE,RL,SC] at e';obtain⟨rfl,-,rfl⟩:=e';have ao:=ae (js.getD k 0) (by rw[z];exact ac)
   have ap:=ad (js.getD k 0*4+2);have aq:=Qm wr lp 1 _ _ _ G.blk;have ar:(0:Int)<=((js.getD k 0:Nat):Int)/\((js.getD k 0:Nat):Int)<(l.length:Int):=by omega
   have Z:Hid (kV (wr.setCell ⟨g,js.getD k 0*4+2,none⟩ (Iq (l.length:Nat))) lp jmp (Sq g l.length cap) (fA l (js.take (k+1)) l.length) dep cells/\cI (λb=>b=lp\/(Value.slice (some ⟨g,0,none⟩) l.length cap).ownBlock=some b) w (wr.setCell ⟨g,js.getD k 0*4+2,none⟩ (Iq (l.length:Nat)))/\IR (wr.setCell ⟨g,js.getD k 0*4+2,none⟩ (Iq (l.length:Nat))) 3 (Sq jg js.length D) (js.map λj=>((j:Nat):Int))):=by
    have ah:kV wr lp jmp (Sq g (fA l (js.take k) l.length).length cap) (fA l (js.take k) l.length) dep cells:=by rw[z];exact G
    have h1:=ah.setTo (j:=js.getD k 0) (by rw[z];exact ac) l.length
    rw[nR,z] at h1;obtain⟨au,ai⟩:=cK G.row (k:=g) rfl;refine⟨by rw[Ce l l.length O];exact h1,Y.setCell (.inl (.inr rfl)) _,?_⟩
    refine V.only ((cI.refl (λq=>q=g) wr).setCell (.inl rfl) _) (λq hq f=>?_)
    subst f;exact V.ne ai (by decide) hq
   generalize (fA l (js.take k) l.length)=l2 at*;generalize js.getD k 0=jj at*;go_wp2
   go_region
   go_wp2
   exact⟨⟨k+1,by omega,by go_num,⟨⟨Z.out.1.blk,Z.out.1.row⟩,Z.out.2.1.drew,Z.out.2.2⟩⟩,by simp[intOf];omega⟩
  ·obtain rfl:k=js.length:=by omega
   have HL:Hid (dG w wr lp jmp (Sq g l.length cap) (fA l js l.length) dep cells):=by
    rw[RP] at G;exact⟨_,G,Y,λ_ hb=> .inl hb⟩
   go_wp2
   go_end0
   exact⟨rfl,HL.out⟩
theorem Lf (k) (q:fW k) (w):Calls prog 180 #[Iq k] w λe w'=>e= .returned (Iq (mY k))/\w'=w:=by
 unfold fW at q;rcases q with rfl|rfl|rfl|rfl|rfl|rfl|rfl
 all_goals
  go_enter func180,ntmps180
  go_wp2
  go_ret;exact⟨rfl,rfl⟩
theorem Cf (k:Nat) (q:k=12\/k=13) (w):Calls prog 135 #[Iq k] w λe w'=>e= .returned (Iq (jt k:Nat))/\w'=w:=by
 rcases q with rfl|rfl
 all_goals
  go_enter func135,ntmps135
  go_wp2
  go_ret;exact⟨rfl,rfl⟩
theorem dG.weak {v:Value} {dep cells} (h:dG w w' z jmp v l dep cells) (A:q=w):dG q w' z jmp v l dep cells:=A▸h
theorem Cg {dep cells lt} (h:kV w Y jmp v l dep cells) (hl:l.length<=5000) (G:dJ k) (hc:mA w b k pl n nm u lt):
 Calls prog 181 #[Pq Y,Pq b] w λe w'=>e= .returned (.tuple #[])/\dG w w' Y jmp v (l++[⟨fF ⟨k,n,lt,[]⟩,jc ⟨k,n,lt,[]⟩,0⟩]) dep cells:=by
 have D:k<=100:=by unfold dJ at G;omega
 have Z:=λw=>rk k w D
 have U:=λw=>yH k w D
 have z:=λop n=>jE op n h hl
 obtain⟨c0,c1,c2,c3,c4,c5⟩:=hc
 by_cases E:27<=k
 have I:(27<=k/\k<=35):=by unfold dJ at G;omega
 have HE:Hid (fF ⟨k,n,lt,[]⟩=4/\jc ⟨k,n,lt,[]⟩=((k - 27:Nat):Int)):=⟨by simp[fF,E],by simp[jc,E]⟩
 have A:=z 4 ((k - 27:Nat):Int);rw[Qo I,QZ I] at Z;generalize k - 27=m at*
 rotate_left
 have J: ¬(27<=k/\k<=35):=by omega
 rw[Qj J,QM J] at Z
 by_cases V:22<=k
 have I:(22<=k/\k<=26):=by unfold dJ at G;omega
 have HE:Hid (fF ⟨k,n,lt,[]⟩=3/\jc ⟨k,n,lt,[]⟩=((k - 22:Nat):Int)):=⟨by simp[fF,E,V],by simp[jc,E,V]⟩
 have A:=z 3 ((k - 22:Nat):Int);rw[Qo I,QZ I] at U;generalize k - 22=m at*
 rotate_left
 have O: ¬(22<=k/\k<=26):=by omega
 rw[Qj O,QM O] at U;have h0:k=1\/k=2\/k=20\/k=21:=by unfold dJ at G;omega
 have W4:=λw=>gQ (decide (k=20)) w
 rcases h0 with rfl|rfl|rfl|rfl;have A:=z 1 n
 rotate_left
 have A:=z 6 lt
 rotate_left
 rw[QZ rfl] at W4;have A:=z 2 (cT true)
 rotate_left
 rw[QM (by decide)] at W4
 have A:=z 2 (cT false)
 all_goals
  go_enter func181,ntmps181
  go_wp2_with (first
   |(go_at_call 171;refine(Z _).mono ?_;rintro e w' ⟨rfl,q⟩;obtain rfl:=q.symm)
   |(go_at_call 172;refine(U _).mono ?_;rintro e w' ⟨rfl,q⟩;obtain rfl:=q.symm)
   |(go_at_call 82;refine(W4 _).mono ?_;rintro e w' ⟨rfl,q⟩;obtain rfl:=q.symm)
   |(go_at_call 93;refine A.mono ?_;rintro e w2 ⟨rfl,R⟩;have HO:Hid _:=R;clear R A))
  first|refine Qs (v:= .tuple #[]) (by simp[results,results181,go_sem]) rfl ?_|go_end0
  exact⟨rfl,by first|exact HO.out|(rw[HE.out.1,HE.out.2];exact HO.out)⟩
end
variable {b x k}
def nS (jmp:Bool):Nat->Bool->Tr->Nat->List Nat
 |0,_,_,_=>[]
 |d+1,this,t,p=>
  if qe jmp t.k then
   if t.k=20\/t.k=21 then(if this=decide (t.k=20) then[p] else[])
   else if t.k=19 then nS jmp d (!this) (t.kid 0) p
   else if t.k=14 then nS jmp d this (t.kid 1) (p+cZ jmp d (some false) (t.kid 0))++nS jmp d this (t.kid 2) (p+cZ jmp d (some false) (t.kid 0)+cZ jmp d (some this) (t.kid 1)+1)
   else(if this=decide (t.k=17) then nS jmp d (decide (t.k=17)) (t.kid 0) p else[])++nS jmp d this (t.kid 1) (p+cZ jmp d (some (decide (t.k=17))) (t.kid 0))
  else[p+cZ jmp (d+1) none t+(if this then 1 else 0)]
theorem wZ (l:List L3) (a b:List Nat) (T:Nat):fA l (a++b) T=fA (fA l a T) b T:=by unfold fA;rw[RH]
theorem oE (pre post:List L3) (x) (T:Nat):nQ (pre++(x::post)) pre.length T=pre++(⟨x.op,x.n,T⟩::post):=by
 unfold nQ;have e:(pre++(x::post)).getD pre.length fS=x:=by
  rw[Qi,QQ (Qn _)];simp
 rw[e,Sx _ _ (Qn _)];simp
theorem jL (jmp) (d) (m) (t) (k) (p T):((gL jmp d m t k p T).map er).length=cZ jmp d m t:=by rw[Ro,fX]
theorem Aa {jmp:Bool} (d):∀{t k this pre post p} T,gU d t->pre.length=p->fA (pre++((gL jmp d (some this) t k p 0).map er++post)) (nS jmp d this t p) T=pre++((gL jmp d (some this) t k p T).map er++post):=by
 induction d with
 |zero=>intro t k this pre post p T h;exact h.elim
 |succ d ih=>
  intro t k this pre post p T h E;have J:=h.2;cases O:qe jmp t.k with
  |false=>
   have R:∀T,gL jmp (d+1) (some this) t k p T=gL jmp (d+1) none t k p 0++((if this then[⟨12,0,0,⟨2::k.st,k.cl⟩⟩] else[])++[⟨15,0,T,⟨2::k.st,k.cl⟩⟩]):=λT=>by
    simp only[gL,O];rfl
   have aa:nS jmp (d+1) this t p=[p+cZ jmp (d+1) none t+(if this then 1 else 0)]:=by simp only[nS,O];rfl
   rw[R 0,R T,aa];have hl:=jL jmp (d+1) none t k p 0;cases this with
   |true=>
    have e:=oE (pre++((gL jmp (d+1) none t k p 0).map er++[⟨12,0,0⟩])) post ⟨15,0,0⟩ T;rw[Qt,Qt,hl,E] at e;simpa [fA,er,R0] using e
   |false=>
    have e:=oE (pre++(gL jmp (d+1) none t k p 0).map er) post ⟨15,0,0⟩ T;rw[Qt,hl,E] at e;simpa [fA,er] using e
  |true=>
   simp only[gL,nS,O,RO];rcases h.1 with⟨D,z,_⟩|⟨D,a,z⟩|⟨D,a,b,c,z⟩|⟨D,a,b,z⟩
   ·have G:t.k=20\/t.k=21:=by
     unfold qe at O;unfold dJ at D;simp at O;omega
    simp only[Qo G];by_cases g:this=decide (t.k=20)
    ·simp only[Qo g];have e:=oE pre post ⟨16,0,0⟩ T;rw[E] at e;simpa [fA,er] using e
    simp only[Qj g];rfl
   ·have G: ¬(t.k=20\/t.k=21):=by omega
    rw[Qj G,Qj G,Qo D,Qo D,Qj G,Qo D];have U:t.kid 0=a:=by unfold Tr.kid;rw[z];rfl
    rw[U];exact ih T (J a (by rw[z];simp)) E
   ·have G: ¬(t.k=20\/t.k=21):=by omega
    have V: ¬t.k=19:=by omega
    have U:t.kid 0=a:=by unfold Tr.kid;rw[z];rfl
    have e1:t.kid 1=b:=by unfold Tr.kid;rw[z];rfl
    have e2:t.kid 2=c:=by unfold Tr.kid;rw[z];rfl
    simp only[Qj G,Qj V,Qo D,U,e1,e2];rw[wZ];have Y:=jL jmp d (some false) a k p (p+cZ jmp d (some false) a+cZ jmp d (some this) b+1);have lb:=λT=>jL jmp d (some this) b k (p+cZ jmp d (some false) a) T
    have Z:=ih (t:=b) (k:=k) (this:=this) (pre:=pre++(gL jmp d (some false) a k p (p+cZ jmp d (some false) a+cZ jmp d (some this) b+1)).map er) (post:=⟨16,0,p+cZ jmp d (some false) a+cZ jmp d (some this) b+1+cZ jmp d (some this) c⟩::((gL jmp d (some this) c k (p+cZ jmp d (some false) a+cZ jmp d (some this) b+1) 0).map er++post)) T (J b (by rw[z];simp)) (p:=p+cZ jmp d (some false) a) (by rw[Qt,Y,E])
    have I:=ih (t:=c) (k:=k) (this:=this) (pre:=pre++((gL jmp d (some false) a k p (p+cZ jmp d (some false) a+cZ jmp d (some this) b+1)).map er++((gL jmp d (some this) b k (p+cZ jmp d (some false) a) T).map er++[⟨16,0,p+cZ jmp d (some false) a+cZ jmp d (some this) b+1+cZ jmp d (some this) c⟩]))) (post:=post) T (J c (by rw[z];simp)) (p:=p+cZ jmp d (some false) a+cZ jmp d (some this) b+1) (by rw[Qt,Qt,Qt,Y,lb,E];simp;omega)
    simp only[QU,QL,QW,SI,RW,er] at Z I⊢;rw[Z,I]
   have G: ¬(t.k=20\/t.k=21):=by unfold fW at D;omega
   have V: ¬t.k=19:=by unfold fW at D;omega
   have ab: ¬t.k=14:=by unfold fW at D;omega
   have U:t.kid 0=a:=by unfold Tr.kid;rw[z];rfl
   have e1:t.kid 1=b:=by unfold Tr.kid;rw[z];rfl
   simp only[Qj G,Qj V,Qj ab,U,e1];rw[wZ];have Y:=λT=>jL jmp d (some (decide (t.k=17))) a k p T
   by_cases g:this=decide (t.k=17)
   ·simp only[Qo g];have Z:=ih (t:=a) (k:=k) (this:=decide (t.k=17)) (pre:=pre) (post:=(gL jmp d (some this) b k (p+cZ jmp d (some (decide (t.k=17))) a) 0).map er++post) T (J a (by rw[z];simp)) E
    have I:=ih (t:=b) (k:=k) (this:=this) (pre:=pre++(gL jmp d (some (decide (t.k=17))) a k p T).map er) (post:=post) T (J b (by rw[z];simp)) (p:=p+cZ jmp d (some (decide (t.k=17))) a) (by rw[Qt,Y,E])
    simp only[QU,QW] at Z I⊢;rw[Z,I]
   simp only[Qj g];have I:=ih (t:=b) (k:=k) (this:=this) (pre:=pre++(gL jmp d (some (decide (t.k=17))) a k p (p+cZ jmp d (some (decide (t.k=17))) a+cZ jmp d (some this) b)).map er) (post:=post) T (J b (by rw[z];simp)) (p:=p+cZ jmp d (some (decide (t.k=17))) a) (by rw[Qt,Y,E])
   simp only[QU,QW] at I⊢;show fA (pre++_) _ T=_;rw[I]
theorem Ab {x:ek} (h:rY b x):cr b x.pl=x.op:=by have:=h.here;rw[this];rfl
theorem Fy {x:ek} (h:rY b x) (q:cG x.op=2):x.n=(cr b (x.pl+1)):=by
 have z:x.n=nI b x.op x.pl:=by have:=h.here;rw[this];rfl
 rw[z];unfold nI
 rw[Qj (by intro e;rw[e] at q;simp[cG] at q),q]
 simp[fb]
theorem yS {x:ek} (h:rY b x) (q:cG x.op=3):x.n=(cr b (x.pl+1)*256+cr b (x.pl+2)):=by
 have z:x.n=nI b x.op x.pl:=by have:=h.here;rw[this];rfl
 rw[z];unfold nI
 rw[Qj (by intro e;rw[e] at q;simp[cG] at q),q]
 simp[fb]
theorem Ip (U:rY b x) (G:b.length<=4000) (I:k.st.length<=100) (hc:k.cl.length=cr b 2) (J:jV k.st) (V:sN k.cl) (w):
 Calls prog 46 #[S b,Iq x.pl,oK k] w λe w'=>mR (eo x.op x.n.toNat k) e/\Below w.heap.size w w':=by
 have hN:=kf U;have R:k.cl.length<=255:=by have:=eS b 2;omega
 have Y:=Ab U;have hf:=U.fits;have aa:=SP U.size;have E:x.pl<(ByteArray.mk b.toArray).size:=by show x.pl<b.length;omega
 have q:=(ga b x.pl E).trans Y;have A:cG x.op=2-> ∃D:x.pl+1<(ByteArray.mk b.toArray).size,((ByteArray.mk b.toArray)[x.pl+1]).toNat=x.n.toNat:=λZ=>by
  have O:=Fy U Z;refine⟨by show x.pl+1<b.length;omega,?_⟩
  rw[ga b (x.pl+1) (by show x.pl+1<b.length;omega),O];rfl
 have z:cG x.op=2->(x.n.toNat:Int)<=dE x.op (cr b 2):=λZ=>by
  obtain⟨q1,q2,_⟩:=hN.two Z;omega
 obtain⟨o1,o2⟩:=hN.op
 by_cases q1:x.op<=3
 ·exact Hp G I J E q (by omega) w
 by_cases q2:16<=x.op
 ·exact Hq G I J E q (by omega) w
 by_cases q3:x.op=4\/x.op=5\/x.op=6\/x.op=9
 rotate_left
 ·exact Hr G I J E q (by omega) w
 rcases q3 with e|e|e|e
 ·rw[e] at q A z⊢
  obtain⟨D,O⟩:=A rfl;have z:=z rfl;have:dE 4 (cr b 2)=8:=rfl;exact Pn G I R J V E q D O (by omega) w
 ·rw[e] at q A z⊢
  obtain⟨D,O⟩:=A rfl;have z:=z rfl;have:dE 5 (cr b 2)=(cr b 2:Int) - 1:=rfl;exact Po G I R J V E q D O (by omega) w
 ·rw[e] at q A z⊢
  obtain⟨D,O⟩:=A rfl;have z:=z rfl;have:dE 6 (cr b 2)=(cr b 2:Int) - 1:=rfl;exact Pp G I R J V E q D O (by omega) w
 ·rw[e] at q⊢;exact Pr G I R J V E q w
section
attribute [local go_sem ↓] Go.wp_at_zero Go.wp_at_succ
variable {w v lv l lp jmp g q A D j wr z R i E p cs T w'}
theorem dG.trans {w D E:World} {lp jmp} {v:Value} {G I J O c1 c2} (V:dG w D lp jmp v G J c1) (Y:∀z,kV D lp jmp z G J c1->dG D E lp jmp z I O c2):dG w E lp jmp v I O c2:=by
 obtain⟨z,a1,R,U⟩:=V;obtain⟨Z,a2,o2,f2⟩:=Y z a1;refine⟨Z,a2,R.trans o2 (λ_ _ h=>h) (λi hi h=>?_),λb hb=>?_⟩
 ·rcases h with h|h
  ·exact .inl h
  ·rcases U i h with h|h
   ·exact .inr h
   ·omega
 ·rcases f2 b hb with h|h
  ·exact U b h
  ·right;have:=R.size;omega
theorem xb (jmp) (d):∀m t k z p T,(gL jmp d m t k p T).map er=(gL jmp d m t z p T).map er:=by
 induction d with
 |zero=>intros;rfl
 |succ d ih=>
  intro m t k z p T;have E:(gL jmp (d+1) none t k p 0).map er=(gL jmp (d+1) none t z p 0).map er:=by
   simp only[gL]
   (repeat' split)<;>simp only[QU,QL,Q9,er]
   ·rw[ih _ _ k z,ih _ _ k z,ih _ (t.kid 2) k z]
   ·rw[ih _ _ k z]
   ·rw[ih _ (t.kid 0) k z,ih _ (t.kid 1) _ ⟨cR z.cl d (t.kid 0)::z.st,z.cl⟩]
  cases m with
  |none=>exact E
  |some this=>
   cases J:qe jmp t.k with
   |false=>
    have I:∀k T,gL jmp (d+1) (some this) t k p T=gL jmp (d+1) none t k p 0++((if this then[⟨12,0,0,⟨2::k.st,k.cl⟩⟩] else[])++[⟨15,0,T,⟨2::k.st,k.cl⟩⟩]):=λk T=>by
     simp only[gL,J];rfl
    simp only[I,QU,E]
    cases this<;>rfl
   |true=>
    simp only[gL,J,RO]
    (repeat' split)
    all_goals first
     |rfl
     |exact ih _ _ k z _ _
     |(simp only[QU,QL,er];rw[ih _ (t.kid 0) k z,ih _ (t.kid 1) k z,ih _ (t.kid 2) k z])
     |(simp only[QU];rw[ih _ (t.kid 0) k z,ih _ (t.kid 1) k z])
def BR (w:World) (v:Value) (D:List UInt8):Prop:=w.ownsRow 0 5 1 v D.length (D.map λc=>Value.int .u8 (c.toNat:Nat))
theorem BR.sl {l:LB} (h:BR w v l):∃a cap,v= .slice a l.length cap:=by
 obtain⟨E,h⟩:=h;rcases h with⟨rfl,z⟩|⟨g,cap,D,rfl,G,I,J,O,h3,R⟩
 ·exact⟨none,0,by rw[z]⟩
 exact⟨_,_,rfl⟩
theorem Fz:(prog.info? 5).map (λi=>(i.zero,i.size,i.bytes))=some (some (.int .u8 0),1,1):=by kernel_rfl
theorem Ch (n:Int) (c:Nat):∀k,k<=c->(ou n c).take k=(List.range k).map λj=>um n (c - 1 - j):=by
 intro k G;apply Sb;intro i;by_cases D:i<k
 ·have E:i<(ou n c).length:=by rw[px];omega
  rw[Tp,Qo D,QN,RX D,Ql E];have z:=Fg n c i (by omega)
  unfold cr at z;rw[Qi,Ql E] at z;simp only[RZ,Sz] at z⊢;rw[RD.1 z]
 rw[Tp,Qj D,QC (by simp;omega)]
structure PW (w wr) (v bv:Value) (bs) (n) (c k):Prop where
 row:BR wr bv (bs++(ou n c).take k)
 only:cI (λb=>v.ownBlock=some b) w wr
 own:∀b,bv.ownBlock=some b->v.ownBlock=some b\/w.heap.size<=b
theorem tR {z:LB} (n) (c:Nat) (hc:c<=8) (h:BR w v z) (hl:z.length<=10000):
 Calls prog 140 #[v,Iq n,Iq c] w λe w'=>(∃v',e= .returned v'/\BR w' v' (z++ou n c)/\ ∀b,v'.ownBlock=some b->v.ownBlock=some b\/w.heap.size<=b)/\cI (λb=>v.ownBlock=some b) w w':=by
 obtain⟨i0,hi,hz⟩:=QP.1 Fz;simp only[QS] at hz;obtain⟨ac,ad,ae⟩:=hz;have J:Hid (PW w w v v z n c 0):=⟨by simpa using h,cI.refl _ _,λ_ R=> .inl R⟩
 obtain⟨a,cap,hv⟩:=h.sl;clear h;go_enter func140,ntmps140;go_wp2;go_loopw [0,7] (λbv lv wr=> ∃k,k<=c/\lv= Iq (c - 1 - k)/\Hid (PW w wr v bv z n c k)) (λ_ lv _=>((intOf lv)+1).toNat)
 case atStart=>exact⟨0,QA _,by simp,J.out⟩
 case round=>
  obtain⟨k,hk,rfl,U⟩:=hrel;obtain⟨E,O,I⟩:=U.out;by_cases ai:k<c
  ·obtain⟨a2,G,rfl⟩:=E.sl;obtain⟨m,hm⟩:∃m,c=k+1+m:=⟨c - (k+1),by omega⟩
   have Z:(c:Int) - 1 - k=(m:Int):=by omega
   have D:(z++(ou n c).take k).length=z.length+k:=by rw[Qt,SJ,px];omega
   rw[Z];rw[D] at E I⊢;have aj:m<=7:=by omega
   have HR:Hid (wr.ownsRow 0 5 1 (.slice a2 (z.length+k) G) (z.length+k) ((z++(ou n c).take k).map λc=>Value.int .u8 c.toNat)):=by
    have h:=E;unfold BR at h;rw[D] at h;exact h
   have HV:Hid (n / 2^(8*m) %256=((um n m).toNat)):=by
    show _=_;rw[Ke,Int.pow_mul];have h1:0<=(n /(2^8)^m) %256:=TG _ (by decide)
    have h2:((2:Int)^8)=256:=by decide
    rw[h2] at h1⊢;omega
   have HT:Hid (z++(ou n c).take (k+1)=(z++(ou n c).take k)++[um n m]):=by
    show _=_;rw[Ch n c (k+1) (by omega),Ch n c k (by omega),TJ,QU,QW]
    have e:c - 1 - k=m:=by omega
    simp[e]
   have HO:=Hi O;have HF:=Hi I;have aa:=Hi D;have HM:=Hi hm;clear E U J O I D hm Z;go_wp2_with (
    at_builtin;go_must (refine wpList_append_lies _ (by rfl) _ _ 155 (by rfl) 0 5 i0 (.int .u8 0) 1 1 underlying155 hi ac ad ae (by rfl) (by decide) _ _ _ (by rfl) (HR.out.alloc _) ⟨wr.heap.size,0,none⟩ 1 1 [.int .u8 (n / 2^(8*m) %256)] (by rfl) (by rfl) (World.news_of_block (Qp wr _)) (λx hx=>by simp at hx;rcases hx with rfl;rfl) (by decide) (by unfold maxLen;omega) (by omega) (by simp) _ rfl ?_)
    intro gg ab w5 V Y af ah)
   have HN:Hid (PW w w5 v (Sq gg (z.length+k+1) ab) z n c (k+1)):=by
    have ag:=((cI.refl (λb=>(Value.slice a2 (z.length+k) G).ownBlock=some b) wr).alloc _).grown Y (λk hk=> .inl hk)
    refine⟨?_,HO.out.trans ag (λ_ _ h=>h) (λi hi h=>?_),λb R=>?_⟩
    ·rw[HT.out];unfold BR;rw[Qt,aa.out,QU];have e:List.map (λc=>Value.int .u8 c.toNat) [um n m]=[.int .u8 (n / 2^(8*m) %256)]:=by rw[HV.out];rfl
     rw[e];exact V
    ·rcases HF.out i h with h|h
     ·exact h
     omega
    simp[Value.ownBlock] at R;subst R;rcases af with h|h
    ·exact HF.out _ h
    right;have:=HO.out.size;rw[h,Qw];omega
   go_roundw
   case rel=>exact⟨k+1,by omega,by have:=HM.out;congr 1;omega,HN.out⟩
   case measure=>have:=HM.out;simp[intOf]
  obtain rfl:k=c:=by omega
  have HL:=Hi U.out;clear E O I U J;go_wp2;go_ret;obtain⟨E,O,I⟩:=HL.out;rw[Q4 (by rw[px];exact Qn _)] at E
  exact⟨⟨_,rfl,E,I⟩,O⟩
def sG (l:List L3) (i:Nat):Nat:=3+((l.take i).map λx=>1+dq x.op).sum
theorem Lg (l:List L3):sG l 0=3:=by simp[sG]
theorem Ci {l:List L3} {i:Nat} (h:i<l.length):sG l (i+1)=sG l i+(1+dq (l.getD i fS).op):=by
 unfold sG;rw[Sc,Ql h,Qi,Ql h,QU,List.sum_append];simp only[Option.toList_some,QL,Q9,SR,List.sum_nil,RZ];omega
theorem Ew (l:List L3) (i:Nat):sG l i<=3+9*i:=by
 induction i with
 |zero=>simp[sG]
 |succ i ih=>
  by_cases h:i<l.length
  ·rw[Ci h];have:=lW (l.getD i fS).op;omega
  unfold sG at ih⊢;rw[Q4 (by omega)] at ih⊢
  omega
def oF (l:List L3) (k:Nat):List Int:=(List.range l.length).map λi=>if i<k then((sG l i:Nat):Int) else 0
theorem sH (l:List L3) (k:Nat):(oF l k).length=l.length:=by simp[oF]
theorem Lh (l) {k:Nat} (h:k<l.length):(oF l k).set k (sG l k)=oF l (k+1):=by
 apply Sb;intro i;by_cases E:i<l.length
 ·have e:∀k,(oF l k)[i]?=some (if i<k then((sG l i:Nat):Int) else 0):=λk=>by simp[oF,E]
  by_cases z:k=i
  ·subst z;rw[List.getElem?_set_self (by rw[sH];exact h),e,Qo (by omega)]
  rw[S9 z,e,e];by_cases D:i<k
  ·rw[Qo D,Qo (by omega)]
  rw[Qj D,Qj (by omega)]
 rw[QC (by rw[Rx,sH];omega),QC (by rw[sH];omega)]
def Cj (w:World) (lv:Value) (l:List L3):Prop:= ∃a cap,lv= .slice a l.length cap/\ ∀j,j<l.length-> ∃g,a=some ⟨g,0,none⟩/\w.cell? ⟨g,j*4,none⟩=some (Iq ((l.getD j fS).op:Nat))/\w.cell? ⟨g,j*4+1,none⟩=some (Iq (l.getD j fS).n)/\w.cell? ⟨g,j*4+2,none⟩=some (Iq ((l.getD j fS).tj:Nat))/\w.cell? ⟨g,j*4+3,none⟩=some (Iq 0)
theorem Cj.below {w w':World} (h:Cj w lv l) (z:Bl w w'):Cj w' lv l:=by
 obtain⟨a,cap,e,E⟩:=h;refine⟨a,cap,e,λj G=>?_⟩
 obtain⟨g,I,c0,c1,c2,c3⟩:=E j G;have D:=Qk w _ c0;exact⟨g,I,by rw[z.cell (p:=⟨g,j*4,none⟩) D];exact c0,by rw[z.cell (p:=⟨g,j*4+1,none⟩) D];exact c1,by rw[z.cell (p:=⟨g,j*4+2,none⟩) D];exact c2,by rw[z.cell (p:=⟨g,j*4+3,none⟩) D];exact c3⟩
theorem kV.ins {v:Value} {dep cells} (h:kV w lp jmp v l dep cells):Cj w v l:=by
 by_cases E:0<l.length
 ·obtain⟨g,cap,e,_,I⟩:=World.ownsRow.form h.row E;subst e;refine⟨_,cap,rfl,λj z=>⟨g,rfl,?_⟩⟩
  obtain⟨a,b,c,d⟩:=Le l j z;have D:=λq O=>Rs h.row q (by omega)
  exact⟨(D (j*4) (by omega)).trans a,(D (j*4+1) (by omega)).trans b,(D (j*4+2) (by omega)).trans c,(D (j*4+3) (by omega)).trans d⟩
 have e:l=[]:=Rc (by omega)
 subst e;obtain⟨R,G⟩:=h.row;rcases G with⟨rfl,_⟩|⟨g,cap,J,rfl,_⟩
 ·exact⟨none,0,rfl,λj z=>by simp at z⟩
 exact⟨_,cap,rfl,λj z=>by simp at z⟩
theorem Ck:(prog.info? 3).map (λi=>(i.zero,i.size,i.bytes))=some (some (Iq 0),1,8):=by kernel_rfl
theorem Cl {lv:Value} (h:Cj w lv l) (hl:l.length<=5000):
 Calls prog 137 #[lv] w λe w'=>(∃g,e= .returned (Sq g l.length l.length)/\w.heap.size<=g/\w'.heap[g]?=some (.cells ((oF l l.length).map (Value.int .i64)).toArray 3 (0,0)))/\Bl w w':=by
 have ae:=run_make_row' 38 3 (Iq 0) 8 underlying38 Ck rfl .i64 .i64 l.length (by omega) (by omega)
 have HI:=Hi h;have U:=λV n tj w=>qo V n tj 0 w
 obtain⟨a,cap,rfl,_⟩:=h;have I:Hid ((w.alloc (.cells (madeCells #[Iq 0] l.length) 3)).heap[w.heap.size]?=some (.cells ((oF l 0).map (Value.int .i64)).toArray 3 (0,0))/\Bl w (w.alloc (.cells (madeCells #[Iq 0] l.length) 3))):=by
  refine⟨?_,(Qq _ _).alloc (Qn _) _⟩;have e:madeCells #[Iq 0] l.length=((oF l 0).map (Value.int .i64)).toArray:=by
   apply Array.ext
   ·rw[RT];simp[oF]
   intro i h1 h2;simp[madeCells,oF,Tg]
  rw[<-e];exact Qp w _
 unfold fG at U;go_enter func137,ntmps137;go_wp2_with fail;generalize w.alloc (.cells (madeCells #[Iq 0] l.length) 3)=W0 at*;go_loopw [4,12] (λav R wr=> ∃k,k<=l.length/\R= Iq k/\av= Iq (sG l k)/\Hid (wr.heap[w.heap.size]?=some (.cells ((oF l k).map (Value.int .i64)).toArray 3 (0,0))/\Bl w wr)) (λ_ R _=>l.length - (intOf R).toNat)
 case atStart=>exact⟨0,QA _,rfl,by rw[Lg];rfl,I.out⟩
 case round=>
  obtain⟨k,hk,rfl,rfl,O⟩:=hrel;obtain⟨D,E⟩:=O.out;by_cases G:k<l.length
  ·obtain⟨a',ac,Y,Z⟩:=Cj.below HI.out E;simp only[QK,R8] at Y;obtain⟨rfl,rfl⟩:=Y;obtain⟨g,rfl,c0,c1,c2,c3⟩:=Z k G;have af:0<=k/\k<l.length:=by omega
   have ad:=Ew l k;have HS:=Hi (Ci G);have ag:=lW (l.getD k fS).op;have aa:=be D;have ai:wr.cell? ⟨w.heap.size,k,none⟩=some (Iq ((oF l k).getD k 0)):=by
    rw[Qm wr _ k _ _ _ D,Qx,QN,Qi,Ql (by rw[sH];exact G)];rfl
   have aj:wr.frozen? ⟨w.heap.size,k,none⟩=false:=by simp[World.frozen?,D]
   have HB:Hid (∀o J,Below ((wr.setCell ⟨w.heap.size,k,none⟩ (Iq (sG l k))).alloc o).heap.size ((wr.setCell ⟨w.heap.size,k,none⟩ (Iq (sG l k))).alloc o) J->J.heap[w.heap.size]?=some (.cells ((oF l (k+1)).map (Value.int .i64)).toArray 3 (0,0))/\Bl w J):=λo J hb=>by
    have q0:Bl w (wr.setCell ⟨w.heap.size,k,none⟩ (Iq (sG l k))):=E.setCell (Qn _) _;have q1:Bl w ((wr.setCell ⟨w.heap.size,k,none⟩ (Iq (sG l k))).alloc o):=q0.alloc q0.size _;refine⟨(hb.block _ (by simp;omega)).trans ((Qu _ o _ (by simpa using aa)).trans ?_),q1.trans (hb.mono q1.size)⟩
    rw[QB wr _ k _ _ _ D,<-Lh l G,TI];simp
   generalize sG l k=pp at*;generalize (l.getD k fS).op=V at*;generalize (l.getD k fS).n=nn at*;generalize (l.getD k fS).tj=tt at*;generalize (oF l k).getD k 0=z at*;go_wp2_with (first|(go_at_call 139;refine(U _ _ _ _).mono ?_;rintro e J ⟨rfl,ab⟩))
   exact⟨⟨k+1,by omega,by go_num,by rw[HS.out];congr 1,HB.out _ _ ab⟩,by simp[intOf];omega⟩
  obtain rfl:k=l.length:=by omega
  have HL:=Hi O.out;go_wp2;go_ret;exact⟨⟨_,rfl,Qn _,HL.out.1⟩,HL.out.2⟩
theorem uy (w:World) (q z A:Obj):Bl w (((w.alloc q).alloc z).alloc A):=(((Qq _ _).alloc (Qn _) _).alloc (by simp) _).alloc (by simp;omega) _
theorem Ir (x y:LB) (k) (w:World):Calls prog 48 #[.agg #[.bool false,S x,S y],oK k] w λe w'=>e= .returned (.tuple #[oK k,.bool true])/\Bl w w':=by
 unfold oK;have D:Hid (∀q z A,Bl w (((w.alloc q).alloc z).alloc A)):=λq z A=>uy w q z A
 go_enter func48,ntmps48;go_wp2;refine Qs (v:= .tuple #[.agg #[.bool true,S (gz k.st),S (jm k.cl)],.bool true]) (by simp[results,results48,go_sem]) rfl ?_
 exact⟨rfl,D.out _ _ _⟩
def sI (x y:List UInt8) (i:Nat):List UInt8:=(List.range i).map λj=>if x.getD j 0=y.getD j 0 then x.getD j 0 else 45
theorem Is (x y:LB) (i:Nat):sI x y (i+1)=sI x y i++[if x.getD i 0=y.getD i 0 then x.getD i 0 else 45]:=by simp[sI,TJ]
theorem Cm (x y:LB) (i:Nat):(sI x y i).length=i:=by simp[sI]
theorem Oh {a b:List Nat} (G:sN a) (I:sN b) (J:a.length=b.length):sI (jm a) (jm b) a.length=jm (im a b):=by
 apply Sb;intro i;by_cases z:i<a.length
 ·have q:i<b.length:=by omega
  rw[sI,QN,RX z,Sz,zW a z,zW b q];have D:=G.getD i;have E:=I.getD i;simp only[jm,im,QN,List.getElem?_zipWith,Ql z,Ql q,Sz];rw[Qi,Ql z] at D⊢;rw[Qi,Ql q] at E⊢;simp only[RZ] at*;by_cases A:a[i]=b[i]
  ·rw[A];simp
  rw[Qj (λh=>A (zS D E h))];simp[A,qP]
 rw[QC (by rw[Cm];omega),QC (by rw[lO];simp[im];omega)]
theorem It (A q B z:LB) (hl:q.length=z.length) (hc:q.length<=255) (w:World):Calls prog 48 #[.agg #[.bool true,S A,S q],.agg #[.bool true,S B,S z]] w λe w'=>e= .returned (.tuple #[.agg #[.bool true,S A,S (sI q z q.length)],.bool (decide (A=B))])/\Bl w w':=by
 obtain⟨D,E⟩:∃D,((w.alloc (.cells #[.bool true,S A,S q] 124)).alloc (.cells #[.bool true,S B,S z] 124)).alloc (.cells #[.bool false,.string ⟨#[]⟩,.string ⟨#[]⟩] 124)=D:=⟨_,rfl⟩;have O:Bl w D:=by rw[<-E];exact uy w _ _ _
 have k1:D.heap[w.heap.size]?=some (.cells #[.bool true,S A,S q] 124 (0,0)):=by
  rw[<-E];exact(Qu _ _ _ (by simp;omega)).trans ((Qu _ _ _ (by simp)).trans (Qp w _))
 have k2:D.heap[w.heap.size+1]?=some (.cells #[.bool true,S B,S z] 124 (0,0)):=by
  rw[<-E];have h:=Qp (w.alloc (.cells #[.bool true,S A,S q] 124)) (.cells #[.bool true,S B,S z] 124);rw[Qw] at h;exact(Qu _ _ _ (by simp)).trans h
 have k3:D.heap[w.heap.size+1+1]?=some (.cells #[.bool false,.string ⟨#[]⟩,.string ⟨#[]⟩] 124 (0,0)):=by
  rw[<-E];have h:=Qp ((w.alloc (.cells #[.bool true,S A,S q] 124)).alloc (.cells #[.bool true,S B,S z] 124)) (.cells #[.bool false,.string ⟨#[]⟩,.string ⟨#[]⟩] 124);rw[Qw,Qw] at h;exact h
 have HW:=Hi E;have HK:Hid (∀W,Bl D W->W.heap[w.heap.size]?=some (.cells #[.bool true,S A,S q] 124 (0,0))/\W.heap[w.heap.size+1]?=some (.cells #[.bool true,S B,S z] 124 (0,0))/\W.heap[w.heap.size+1+1]?=some (.cells #[.bool false,.string ⟨#[]⟩,.string ⟨#[]⟩] 124 (0,0))/\Bl w W):=λW h=>⟨(h.block _ (be k1)).trans k1,(h.block _ (be k2)).trans k2,(h.block _ (be k3)).trans k3,O.trans (h.mono O.size)⟩
 clear E O k1 k2 k3;go_enter func48,ntmps48;go_wp2_with fail;rw[HW.out];go_loopw [6,7] (λsv av wr=> ∃i,i<=q.length/\av= Iq i/\sv=S (sI q z i)/\Hid (Bl D wr)) (λ_ av _=>q.length - (intOf av).toNat)
 case atStart=>exact⟨0,by omega,rfl,rfl,Qq _ _⟩
 case round=>
  obtain⟨i,hi,rfl,rfl,HI⟩:=hrel;obtain⟨V,Y,I,b4⟩:=HK.out _ HI.out;have c2:Cq wr w.heap.size 2 (S q):=Qm wr _ 2 _ _ _ V;have d2:Cq wr (w.heap.size+1) 2 (S z):=Qm wr _ 2 _ _ _ Y;by_cases aa:i<q.length
  ·have ac:i<(ByteArray.mk q.toArray).size:=aa;have ad:i<(ByteArray.mk z.toArray).size:=by show i<z.length;omega
   have pa:=ga q i ac;have pb:=ga z i ad;have J:=Is q z i;have ab:Hid (Bl D wr.drew):=HI.out.drew;have aj:(0:Int)<=(i:Int)/\(i:Int)<=(i:Int)+1/\(i:Int)+1<=(q.length:Int):=by omega
   have ae:({data:=q.toArray}:ByteArray).extract i (i+1)=⟨(cut q i (i+1)).toArray⟩:=gm _ _ _;have af:cut q i (i+1)=[q.getD i 0]:=by
    unfold cut;apply Sb;intro j;rcases j with _|j
    ·simp[SV,Qi,Ql aa]
    simp;omega
   rw[af] at ae;have ak:=Cm q z i;generalize hx:q.getD i 0=x at*;generalize hy:z.getD i 0=y at*;generalize sI q z i=m at*;clear HK V Y I b4 HW;by_cases R:x=y
   ·subst R;rw[Qo rfl] at J;have U:Hid (S (sI q z (i+1))= .string (BA m++BA [x])):=by show _=_;rw[J,ni]
    clear J;go_wp2_with fail;go_region
    all_goals go_wp2
    all_goals exact⟨⟨i+1,by omega,by go_num,U.out.symm,ab.out⟩,by simp[intOf];omega⟩
   rw[Qj R] at J;have U:Hid (S (sI q z (i+1))= .string (BA m++BA [45])):=by show _=_;rw[J,ni]
   have ag: ¬(x.toNat=y.toNat):=λh=>R (RD.1 h)
   have ah:(x.toNat==y.toNat)=false:=by simp;omega
   clear J;go_wp2_with fail;go_region
   all_goals go_wp2
   all_goals exact⟨⟨i+1,by omega,by go_num,U.out.symm,ab.out⟩,by simp[intOf];omega⟩
  obtain rfl:i=q.length:=by omega
  have c1:Cq wr w.heap.size 1 (S A):=Qm wr _ 1 _ _ _ V;have d1:Cq wr (w.heap.size+1) 1 (S B):=Qm wr _ 1 _ _ _ Y;have r0:Cq wr (w.heap.size+1+1) 0 (.bool false):=Qm wr _ 0 _ _ _ I;have r1:Cq wr (w.heap.size+1+1) 1 (.string ⟨#[]⟩):=Qm wr _ 1 _ _ _ I;have r2:Cq wr (w.heap.size+1+1) 2 (.string ⟨#[]⟩):=Qm wr _ 2 _ _ _ I;have Z:∀o,wr.frozen? ⟨w.heap.size+1+1,o,none⟩=false:=λo=>by simp[World.frozen?,I]
  have g0:=Z 0;have g1:=Z 1;have g2:=Z 2;have HB:Hid (∀v0 v1 v2,Bl w (((wr.setCell ⟨w.heap.size+1+1,0,none⟩ v0).setCell ⟨w.heap.size+1+1,1,none⟩ v1).setCell ⟨w.heap.size+1+1,2,none⟩ v2)):=λv0 v1 v2=>((b4.setCell (by simp only[];omega) _).setCell (by simp only[];omega) _).setCell (by simp only[];omega) _
  generalize hm:sI q z q.length=m at*;have HM:Hid (sI q z q.length=m):=hm;have HL:Hid (q.length=z.length):=hl;clear HK V Y I b4 HW Z HI hm;by_cases G:A=B
  ·subst G;go_wp2_with fail;go_region
   all_goals go_wp2
   all_goals refine Qs (v:= .tuple #[.agg #[.bool true,S A,S m],.bool true]) (by simp[results,results48,go_sem,cY,cN,eY,r0,r1,r2]) rfl ?_
   all_goals exact⟨by rw[<-HL.out,HM.out];try simp,(HB.out _ _ _).drew⟩
  have ag: ¬((⟨A.toArray⟩:ByteArray)=⟨B.toArray⟩):=λh=>G (by injection h with h;simpa using RK Array.toList h)
  go_wp2_with fail;go_region
  all_goals go_wp2
  all_goals refine Qs (v:= .tuple #[.agg #[.bool true,S A,S m],.bool false]) (by simp[results,results48,go_sem,cY,cN,eY,r0,r1,r2,G]) rfl ?_
  all_goals exact⟨by rw[HM.out];simp[G],(HB.out _ _ _).drew⟩
theorem Iu {a k:Kn} (A:jV a.st) (D:sN a.cl) (h3:jV k.st) (E:sN k.cl) (z:a.cl.length=k.cl.length) (G:a.cl.length<=255) (w):Calls prog 48 #[oK a,oK k] w λe w'=>e= .returned (.tuple #[oK ⟨a.st,im a.cl k.cl⟩,.bool (decide (a.st=k.st))])/\Bl w w':=by
 have h:=It (gz a.st) (jm a.cl) (gz k.st) (jm k.cl) (by rw[lO,lO];exact z) (by rw[lO];exact G) w
 refine h.mono λe w' ⟨I,J⟩=>⟨?_,J⟩
 rw[I,lO,Oh D E z];have e:decide (gz a.st=gz k.st)=decide (a.st=k.st):=by
  by_cases q:a.st=k.st
  ·rw[q];simp
  rw[QM q,QM (λh=>q (Fu A h3 h))]
 rw[e];rfl
def fH (x:ek):List Int:=(ki x).map λ(p:Nat)=>(p:Int)
theorem FA {w:World} {n cap:Nat} (q:n=l.length) (z:cap=l.length) (A:0<l.length) (D:l.length<=10):IR (w.alloc (.cells (l.map (Value.int .i64)).toArray 3)) 3 (Sq w.heap.size n cap) l:=by
 subst q;subst z;refine⟨by simp,.inr ⟨w.heap.size,l.length,(l.map (Value.int .i64)).toArray,by simp,?_,Qp w _,?_,?_,?_,?_⟩⟩
 ·exact QA _
 ·exact Qn _
 ·unfold maxLen;omega
 ·simp
 rw[TL,Q4 (by simp)]
theorem Iv {b:LB} {x:ek} (z:rY b x) (hb:b.length<=4000) (w):
 Calls prog 47 #[S b,Iq x.pl] w λe w'=>(∃v,e= .returned v/\IR w' 3 v (fH x))/\Bl w w':=by
 have q:=Ab z;have R:=z.fits;have J:0<cG x.op:=SP z.size;have O:=kf z;obtain⟨U,V⟩:=O.op;have ha:x.pl<(ByteArray.mk b.toArray).size:=by show x.pl<b.length;omega
 have aa:((ByteArray.mk b.toArray)[x.pl]).toNat=x.op:=(ga b x.pl ha).trans q;have G:=λw=>wQ x.op (by omega) w
 have HB:Hid (∀o,Bl w (w.alloc o)):=λo=>(Qq _ _).alloc (Qn _) _
 have ad:x.pl<b.length:=by omega
 have hq:0<=x.pl/\x.pl<b.length:=by omega
 by_cases Y:x.op=15\/x.op=16
 ·have h3:cG x.op=3:=by rcases Y with e|e<;>rw[e]<;>rfl
  have hn:=yS z h3;have ab:x.pl+1<(ByteArray.mk b.toArray).size:=by show x.pl+1<b.length;omega
  have ac:x.pl+2<(ByteArray.mk b.toArray).size:=by show x.pl+2<b.length;omega
  have b1:((ByteArray.mk b.toArray)[x.pl+1]).toNat=cr b (x.pl+1):=ga b _ ab;have b2:((ByteArray.mk b.toArray)[x.pl+2]).toNat=cr b (x.pl+2):=ga b _ ac;have l1:=eS b (x.pl+1);have l2:=eS b (x.pl+2);have q1:0<=x.pl+1/\x.pl+1<b.length:=by omega
  have q2:(0:Int)<=(x.pl:Int)+2/\(x.pl:Int)+2<(b.length:Int):=by omega
  have I:Hid (fH x=if x.op=15 then[((x.pl:Int)+3),((x.pl:Int)+3+(cr b (x.pl+1):Int)*256+(cr b (x.pl+2):Int))] else[((x.pl:Int)+3+(cr b (x.pl+1):Int)*256+(cr b (x.pl+2):Int))]):=by
   show fH x=_;unfold fH ki;rcases Y with e|e<;>simp[e,hn]<;>omega
  rw[h3] at G;generalize cr b (x.pl+1)=u1 at*;generalize cr b (x.pl+2)=u2 at*;generalize x.pl=pl at*;rcases Y with Z|Z<;>rw[Z] at aa G I
  all_goals
   go_enter func47,ntmps47;go_wp2_with (
    go_at_call 49;apply(G _).mono;rintro e w' ⟨rfl,rfl⟩)
   go_region;go_wp2;go_ret;refine⟨⟨_,rfl,?_⟩,(HB.out _).drew⟩;rw[I.out];exact FA rfl rfl (by simp) (by simp)
 have D: ¬x.op=15:=by omega
 have E: ¬x.op=16:=by omega
 by_cases A:x.op=17\/x.op=18
 ·have I:Hid (fH x=[]):=by
   show fH x=_;unfold fH ki;rw[Qj D,Qj E,Qo A];rfl
  have h2:cG x.op=2:=by rcases A with e|e<;>rw[e]<;>rfl
  rw[h2] at G;generalize x.op=op at*;generalize x.pl=pl at*;rcases A with rfl|rfl
  all_goals
   go_enter func47,ntmps47;go_wp2_with (
    go_at_call 49;apply(G _).mono;rintro e w' ⟨rfl,rfl⟩)
   refine Qs (v:= .slice none 0 0) (by simp[results,results47,go_sem]) rfl ?_
   exact⟨⟨_,rfl,by rw[I.out];exact IR.nil _ _⟩,Qq _ _⟩
 have I:Hid (fH x=[(x.pl:Int)+(cG x.op:Int)]):=by
  show fH x=_;unfold fH ki;rw[Qj D,Qj E,Qj A];simp
 have h9:=zC x.op;have ae:(x.op==15)=false:=by simp;omega
 have af:(x.op==16)=false:=by simp;omega
 have ag:(x.op==17)=false:=by simp;omega
 have ah:(x.op==18)=false:=by simp;omega
 generalize cG x.op=sz at*;generalize x.op=op at*;generalize x.pl=pl at*;go_enter func47,ntmps47;go_wp2_with (
  go_at_call 49;apply(G _).mono;rintro e w' ⟨rfl,rfl⟩)
 refine Qs (v:= Sq w'.heap.size 1 1) (by simp[results,results47,go_sem]) rfl ?_
 refine⟨⟨_,rfl,?_⟩,HB.out _⟩;rw[I.out];exact FA rfl rfl (by simp) (by simp)
theorem Iw:(prog.info? 4).map (λi=>(i.zero,i.size,i.bytes))=some (some (.bool false),1,1):=by kernel_rfl
def uK (n:Nat) (ins:List ek):Array Value:=((Dw n ins).map Value.bool).toArray
theorem Ix (n:Nat) (ins:List ek):(uK n ins).size=n:=by simp[uK,se]
theorem sJ {n p:Nat} (ins:List ek) (h:p<n):(uK n ins)[p]?=some (.bool (yD ins p)):=by
 unfold uK;rw[Qx,QN,zJ ins h];rfl
theorem Iy (n:Nat) (ins) (x:ek):(uK n ins).setIfInBounds x.pl (.bool true)=uK n (ins++[x]):=by
 unfold uK;rw[<-GN,TI];simp
theorem Iz (n:Nat):madeCells #[.bool false] n=uK n []:=by
 apply Array.ext
 ·rw[RT,Ix]
 intro i q z;rw[RT] at q;have e:=sJ [] q;rw[Tu z] at e;injection e with e;rw[e];simp[madeCells,yD,Tg]
def Oi (n q:Nat) (r:Option (List ek)) (e:Ending) (w':World):Prop:=match r with
 |none=>e= .returned (.slice none 0 0)
 |some ins=> ∃g,q<=g/\e= .returned (.slice (some ⟨g,0,none⟩) n n)/\w'.heap[g]?=some (.cells (uK n ins) 4 (0,0))
def Oj (b:List UInt8) (w wr:World) (R:Option (List ek)) (a:Nat):Prop:= ∃pre,wg b a pre R/\wr.heap[w.heap.size]?=some (.cells (uK b.length pre) 4 (0,0))/\Below w.heap.size w wr
theorem xc {b:LB} (h4:4<=b.length) (hb:b.length<=4000) (w:World):
 Calls prog 45 #[S b] w λe w'=>Oi b.length w.heap.size (qM (b.length+1) b 3) e w'/\Bl w w':=by
 have ac:=run_make_row' (P:=prog) 120 4 (.bool false) 1 underlying120 Iw rfl .i64 .i64 b.length (by omega) (by omega)
 have Z:Hid (Oj b w (w.alloc (.cells (madeCells #[.bool false] b.length) 4)) (qM (b.length+1) b 3) 3):=⟨[],wg.first (by omega),by rw[<-Iz];exact Qp w _,(Qq _ _).alloc (Qn _) _⟩
 generalize qM (b.length+1) b 3=R at*;have G:=λI (h:I<256) w=>wQ I h w
 have W2:=λI cells (h:I<256) (hc:cells<256) w=>Hm I cells h hc w
 go_enter func45,ntmps45;go_wp2_with fail;generalize ad:w.alloc (.cells (madeCells #[.bool false] b.length) 4)=W0 at*;go_loopw [4,5] (λav _ wr=> ∃a:Nat,a<=b.length/\av= Iq a/\Hid (Oj b w wr R a)) (λav _ _=>b.length - (intOf av).toNat)
 case atStart=>exact⟨3,by omega,rfl,Z.out⟩
 case round=>
  obtain⟨a,ag,rfl,HI⟩:=hrel;obtain⟨pre,J,z,A⟩:=HI.out;by_cases V:a<b.length
  ·have ha:a<(ByteArray.mk b.toArray).size:=V;have ah:((ByteArray.mk b.toArray)[a]).toNat=cr b a:=ga b a ha;have ae:2<(ByteArray.mk b.toArray).size:=by show 2<b.length;omega
   have ai:((ByteArray.mk b.toArray)[2]).toNat=cr b 2:=ga b 2 ae;have aa:=eS b a;have hc:=eS b 2;have G:=λw=>G (cr b a) aa w
   have W2:=λw=>W2 (cr b a) (cr b 2) aa hc w
   have ab:=zC (cr b a);have q0:(0:Int)<=(a:Int)/\(a:Int)<(b.length:Int):=by omega
   have q:Hid (¬(cG (cr b a)≠0/\a+cG (cr b a)<=b.length/\(cG (cr b a)=2->(cr b (a+1):Int)<=dE (cr b a) (cr b 2)))->R=none):=J.bad V;have aj:wr.cell? ⟨w.heap.size,a,none⟩=some (.bool (yD pre a)):=by rw[Qm wr _ a _ _ _ z,sJ pre V]
   have ak:wr.frozen? ⟨w.heap.size,a,none⟩=false:=by simp[World.frozen?,z]
   have D:Hid (cG (cr b a)≠0/\a+cG (cr b a)<=b.length/\(cG (cr b a)=2->(cr b (a+1):Int)<=dE (cr b a) (cr b 2))-> ∀n,Oj b w ((wr.drewN n).setCell ⟨w.heap.size,a,none⟩ (.bool true)) R (a+cG (cr b a))):=λhg n=>by
    refine⟨_,J.step V hg,?_,(below_drewN A n).setCell (Qn _) _⟩;rw[<-Iy];exact QB (wr.drewN n) _ a _ _ _ z
   have O:Hid _:=A;by_cases Y:cG (cr b a)=0
   ·have U:Hid (R=none):=q.out (λh=>h.1 Y)
    rw[Y] at G;generalize cr b a=I at*;go_wp2_with (
     go_at_call 49;refine(G _).mono ?_;rintro e w' ⟨rfl,rfl⟩)
    go_quiet (fail);go_wp2;go_ret;exact⟨by rw[U.out];rfl,below_drewN O.out _⟩
   by_cases hB:a+cG (cr b a)<=b.length
   ·by_cases hC:cG (cr b a)=2
    ·have af:a+1<(ByteArray.mk b.toArray).size:=by show a+1<b.length;omega
     have am:((ByteArray.mk b.toArray)[a+1]).toNat=cr b (a+1):=ga b _ af;have q1:(0:Int)<=(a:Int)+1/\(a:Int)+1<(b.length:Int):=by omega
     have hu:=eS b (a+1);by_cases hD:(cr b (a+1):Int)<=dE (cr b a) (cr b 2)
     ·have HG:Hid _:=D.out ⟨Y,hB,λ_=>hD⟩
      rw[hC] at HG G;have n5:decide (dE (cr b a) (cr b 2)<(cr b (a+1):Int))=false:=by simp;omega
      have n1:decide ((b.length:Int)<(a:Int)+2)=false:=by simp;omega
      generalize dE (cr b a) (cr b 2)=bd at*;generalize cr b (a+1)=u at*;generalize cr b 2=c2 at*;generalize cr b a=I at*;go_wp2_with (
       go_at_call 49;refine(G _).mono ?_;rintro e w' ⟨rfl,rfl⟩)
      go_quiet (first|(go_at_call 95;refine Calls.quiet_of_same (W2 _)))
      go_wp2;exact⟨⟨a+2,by omega,by go_num,HG.out _⟩,by simp[intOf];omega⟩
     have U:Hid (R=none):=q.out (λh=>hD (h.2.2 hC))
     rw[hC] at G;have n5:dE (cr b a) (cr b 2)<(cr b (a+1):Int):=by omega
     have n1:decide ((b.length:Int)<(a:Int)+2)=false:=by simp;omega
     generalize dE (cr b a) (cr b 2)=bd at*;generalize cr b (a+1)=u at*;generalize cr b 2=c2 at*;generalize cr b a=I at*;go_wp2_with (
      go_at_call 49;refine(G _).mono ?_;rintro e w' ⟨rfl,rfl⟩)
     go_quiet (first|(go_at_call 95;refine Calls.quiet_of_same (W2 _)))
     go_wp2;go_ret;exact⟨by rw[U.out];rfl,below_drewN O.out _⟩
    have HG:Hid _:=D.out ⟨Y,hB,λh=>absurd h hC⟩
    generalize cG (cr b a)=E at*;generalize cr b a=I at*;have n0:((E:Int)==0)=false:=by simp;omega
    have n2:((E:Int)==2)=false:=by simp;omega
    have n1:decide ((b.length:Int)<(a:Int)+(E:Int))=false:=by simp;omega
    go_wp2_with (
     go_at_call 49;refine(G _).mono ?_;rintro e w' ⟨rfl,rfl⟩)
    go_quiet (fail);go_wp2;exact⟨⟨a+E,by omega,by go_num,HG.out _⟩,by simp[intOf];omega⟩
   have U:Hid (R=none):=q.out (λh=>hB h.2.1)
   generalize cG (cr b a)=E at*;generalize cr b a=I at*;have n0:((E:Int)==0)=false:=by simp;omega
   have n1:(b.length:Int)<(a:Int)+(E:Int):=by omega
   have an:IntKind.i64.wrap ((a:Int)+(E:Int))=(a:Int)+(E:Int):=by rw[Q0];omega
   go_wp2_with (
    go_at_call 49;refine(G _).mono ?_;rintro e w' ⟨rfl,rfl⟩)
   go_quiet (fail);go_wp2;go_ret;exact⟨by rw[U.out];rfl,below_drewN O.out _⟩
  have U:Hid (R=some pre):=J.last (by omega)
  have HX:Hid _:=And.intro z A;go_wp2;go_ret;exact⟨by rw[U.out];exact⟨_,Qn _,rfl,HX.out.1⟩,HX.out.2⟩
def MP (o:Option Kn):Value:= .bool o.isSome
def MQ (o:Option Kn):Value:=match o with
 |none=>S []
 |some k=>S (gz k.st)
def MR (o:Option Kn):Value:=match o with
 |none=>S []
 |some k=>S (jm k.cl)
structure tS (w:World) (g:Nat) (kl:List (Option Kn)):Prop where
 blk:∃cs,w.heap[g]?=some (.cells cs 124 (0,0))/\cs.size=kl.length*3
 c0:∀j,j<kl.length->w.cell? ⟨g,j*3,none⟩=some (MP (kl.getD j none))
 c1:∀j,j<kl.length->w.cell? ⟨g,j*3+1,none⟩=some (MQ (kl.getD j none))
 c2:∀j,j<kl.length->w.cell? ⟨g,j*3+2,none⟩=some (MR (kl.getD j none))
theorem tS.frz {w:World} (h:tS w g q) (j):w.frozen? ⟨g,j,none⟩=false:=by
 obtain⟨cs,z,_⟩:=h.blk;simp[World.frozen?,z]
theorem tS.of_block {w w':World} (h:tS w g A) (z:w'.heap[g]?=w.heap[g]?):tS w' g A:=
 ⟨by rw[z];exact h.blk,λj q=>by rw[Qz z];exact h.c0 j q,λj q=>by rw[Qz z];exact h.c1 j q,λj q=>by rw[Qz z];exact h.c2 j q⟩
theorem tS.lt {w:World} (h:tS w g q):g<w.heap.size:=by
 obtain⟨cs,z,_⟩:=h.blk;exact be z
theorem tS.set (h:tS w g D) (E:j<D.length) (o):tS (((w.setCell ⟨g,j*3,none⟩ (MP o)).setCell ⟨g,j*3+1,none⟩ (MQ o)).setCell ⟨g,j*3+2,none⟩ (MR o)) g (D.set j o):=by
 obtain⟨cs,G,J⟩:=h.blk;have O:=QB w g (j*3) cs 124 (MP o) G;have R:=QB _ g (j*3+1) _ 124 (MQ o) O;have I:=QB _ g (j*3+2) _ 124 (MR o) R;have z:∀q,(((w.setCell ⟨g,j*3,none⟩ (MP o)).setCell ⟨g,j*3+1,none⟩ (MQ o)).setCell ⟨g,j*3+2,none⟩ (MR o)).cell? ⟨g,q,none⟩=if q=j*3+2 then some (MR o) else if q=j*3+1 then some (MQ o) else if q=j*3 then some (MP o) else w.cell? ⟨g,q,none⟩:=λq=>by
  rw[Qm _ g q _ _ _ I,Qm w g q _ _ _ G];by_cases a:q=j*3+2
  ·subst a;rw[Qo rfl,Rk,Qo rfl,Qo (by simp;omega)]
  rw[Qj a,Rm (by omega)]
  by_cases b:q=j*3+1
  ·subst b;rw[Qo rfl,Rk,Qo rfl,Qo (by simp;omega)]
  rw[Qj b,Rm (by omega)]
  by_cases c:q=j*3
  ·subst c;rw[Qo rfl,Rk,Qo rfl,Qo (by omega)]
  rw[Qj c,Rm (by omega)]
 refine⟨⟨_,I,by simpa using J⟩,λi A=>?_,λi A=>?_,λi A=>?_⟩
 ·rw[Rx] at A;rw[z,Qj (by omega),Qj (by omega)]
  by_cases e:j=i
  ·subst e;rw[Qo rfl,cQ E]
  rw[Qj (by omega),getD_set_ne e];exact h.c0 i A
 ·rw[Rx] at A;rw[z,Qj (by omega)]
  by_cases e:j=i
  ·subst e;rw[Qo rfl,cQ E]
  rw[Qj (by omega),Qj (by omega),getD_set_ne e];exact h.c1 i A
 rw[Rx] at A;rw[z];by_cases e:j=i
 ·subst e;rw[Qo rfl,cQ E]
 rw[Qj (by omega),Qj (by omega),Qj (by omega),getD_set_ne e];exact h.c2 i A
theorem Ex:(prog.info? 124).map (λi=>(i.zero,i.size,i.bytes))=some (some (.agg #[.bool false,.string ⟨#[]⟩,.string ⟨#[]⟩]),3,40):=by kernel_rfl
theorem Ey {w:World} {g n:Nat} (h:w.heap[g]?=some (.cells (madeCells #[.bool false,.string ⟨#[]⟩,.string ⟨#[]⟩] (n*3)) 124 (0,0))):tS w g (List.replicate n none):=by
 have z:=λj=>Qm w g j _ _ _ h
 have A:∀j,(List.replicate n (none:Option Kn)).getD j none=none:=λj=>by
  rw[Qi,Q8];split<;>rfl
 refine⟨⟨_,h,by rw[RT,Rl]⟩,λj D=>?_,λj D=>?_,λj D=>?_⟩<;>rw[Rl] at D
 ·have e:j*3 %3=0:=by omega
  have q:j*3<n*3:=by omega
  rw[z,A];unfold madeCells;simp[e,q,MP]
 ·have e:(j*3+1) %3=1:=by omega
  have q:j*3+1<n*3:=by omega
  rw[z,A];unfold madeCells;simp[e,q,MQ]
 have e:(j*3+2) %3=2:=by omega
 have q:j*3+2<n*3:=by omega
 rw[z,A];unfold madeCells;simp[e,q,MR]
structure PK (b:List UInt8) (ins) (w wr) (sg lg at_:Nat) (R) (i) (kl come):Prop where
 fl:Fi b ins (cr b 1) at_ i kl come R
 ty:mB (cr b 2) come
 kn:tS wr lg kl
 st:wr.heap[sg]?=some (.cells (uK b.length ins) 4 (0,0))
 bel:Below w.heap.size w wr
 lo:w.heap.size<=sg/\w.heap.size<=lg
theorem PK.below {b:LB} {ins at_ come} (h:PK b ins w wr A D at_ R i E come) (q:Bl wr z):PK b ins w z A D at_ R i E come:=
 ⟨h.fl,h.ty,h.kn.of_block (q.block _ h.kn.lt),(q.block _ (be h.st)).trans h.st,h.bel.trans (q.mono h.bel.size),h.lo⟩
def Cn (l:List L3) (i:Nat) (x:L3):Int:=if x.op=15\/x.op=16 then(sG l x.tj:Int) - (sG l i:Int) - ((1+dq x.op:Nat):Int) else x.n
def IA (l:List L3) (i:Nat) (x:L3):List UInt8:=UInt8.ofNat x.op::ou (Cn l i x) (dq x.op)
def IB (l:List L3) (k:Nat):List UInt8:=(List.range k).flatMap λi=>IA l i (l.getD i fS)
theorem Co (l:List L3) (k:Nat):IB l (k+1)=IB l k++IA l k (l.getD k fS):=by
 unfold IB;rw[TJ,List.flatMap_append];simp
theorem FB (l:List L3) (k:Nat):(IB l k).length<=9*k:=by
 induction k with
 |zero=>simp[IB]
 |succ k ih=>
  rw[Co,Qt];have:(IA l k (l.getD k fS)).length<=9:=by
   unfold IA;rw[QH,px];have:=lW (l.getD k fS).op;omega
  omega
def Pu (dep cells:Nat) (l:List L3):List UInt8:=[71,UInt8.ofNat dep,UInt8.ofNat cells]++IB l l.length
structure Nz (w wr) (pg:Nat) (bv) (dep cells:Nat) (l) (k):Prop where
 row:BR wr bv ([71,UInt8.ofNat dep,UInt8.ofNat cells]++IB l k)
 bel:Below w.heap.size w wr
 pl:wr.heap[pg]?=some (.cells ((oF l l.length).map (Value.int .i64)).toArray 3 (0,0))
 own:∀b,bv.ownBlock=some b->w.heap.size<=b
theorem NA {l:LB} (h:BR w v l) (A:w.heap[p]?=some (.cells cs T z)) (D:T≠5):v.ownBlock≠some p:=λe=>by
 obtain⟨E,q⟩:=cK h e;rw[A] at q;simp at q;exact D q.2.1
theorem Nz.below {dep cells:Nat} (h:Nz w wr z A dep cells l k) (q:Bl wr w'):Nz w w' z A dep cells l k:=
 ⟨cD h.row q,h.bel.trans (q.mono h.bel.size),(q.block _ (be h.pl)).trans h.pl,h.own⟩
theorem Nz.more {dep cells} (h:Nz w wr A z dep cells l k) {D:LB} (J:BR w' q D) (E:cI (λb=>z.ownBlock=some b) wr w') (O:∀b,q.ownBlock=some b->z.ownBlock=some b\/wr.heap.size<=b):
 BR w' q D/\Bl w w'/\w'.heap[A]?=some (.cells ((oF l l.length).map (Value.int .i64)).toArray 3 (0,0))/\ ∀b,q.ownBlock=some b->w.heap.size<=b:=by
 refine⟨J,h.bel.trans (E.below h.bel.size (λk _ R=>h.own k R)),(E.block _ (be h.pl) (NA h.row h.pl (by decide))).trans h.pl,λb U=>?_⟩
 rcases O b U with G|G
 ·exact h.own b G
 have:=h.bel.size;omega
theorem MT {cap} {z:LB} (A:((UInt8.ofNat q).toNat)=(q:Int)) (h:w.ownsRow 0 5 1 (Sq g (z.length+1) cap) (z.length+1) ((z.map λc=>Value.int .u8 c.toNat)++[.int .u8 q])):BR w (Sq g (z.length+1) cap) (z++[UInt8.ofNat q]):=by
 unfold BR;rw[Qt,QU];have e:List.map (λc=>Value.int .u8 c.toNat) [UInt8.ofNat q]=[.int .u8 q]:=by simp only[QL,Q9,A]
 rw[e];exact h
theorem uY (l) {i:Nat} (h:i<l.length):((oF l l.length).map (Value.int .i64)).toArray[i]?=some (Iq (sG l i)):=by
 rw[Qx,QN];unfold oF;rw[QN,RX h];simp[h]
set_option maxHeartbeats 8000000 in
theorem IC {lv : Value} {l : List L3} {dep cells : Nat} (h : Cj w lv l) (hl : l.length <= 1000) (hop :∀ x ∈ l, x.op < 256 /\ ((x.op = 15 \/ x.op = 16) -> x.tj < l.length)) (hd : dep <= 255) (hc : cells <= 255) :
    Calls prog 94 #[Iq dep, Iq cells, lv] w λe w' => e = .returned (S (Pu dep cells l)) /\ Below w.heap.size w w' := by
  have W0 := Cl h (by omega)
  have HI : Hid _ := h;have HOP : Hid (∀ i, i < l.length -> (l.getD i fS).op < 256 /\ (((l.getD i fS).op = 15 \/ (l.getD i fS).op = 16) -> (l.getD i fS).tj < l.length)) := λi hi => by
    have := hop (l.getD i fS) (by rw [Qi, Ql hi]; exact QD _)
    exact this
  obtain ⟨i0, hi, hz⟩ := QP.1 Fz;simp only [QS] at hz;obtain ⟨hz0, hz1, hz2⟩ := hz;obtain ⟨a, cap, rfl, _⟩ := h;clear hop;go_enter func94, ntmps94;go_wp2_with fail;apply W0.mono;rintro e w1 ⟨⟨pg, rfl, hpg, hpl⟩, hb1⟩;have ed : ((UInt8.ofNat dep).toNat : Int) = (dep : Int) := by rw [R1]; omega
  have ec : ((UInt8.ofNat cells).toNat : Int) = (cells : Int) := by rw [R1]; omega
  have HI0 : Hid (Nz w (w1.alloc (.cells #[.int .u8 71, .int .u8 (dep : Nat), .int .u8 (cells : Nat)] 5)) pg (Sq w1.heap.size 3 3) dep cells l 0) := by
    have hbA : Below w1.heap.size w1 (w1.alloc (.cells #[.int .u8 71, .int .u8 (dep : Nat), .int .u8 (cells : Nat)] 5)) := (Qq _ _).alloc (Qn _) _;refine ⟨?_, hb1.trans (hbA.mono hb1.size), (hbA.block _ (be hpl)).trans hpl, λb hb => ?_⟩
    · refine ⟨rfl, .inr ⟨w1.heap.size, 3, #[.int .u8 71, .int .u8 (dep : Nat), .int .u8 (cells : Nat)], rfl, QA _, Qp w1 _, Qn _, by unfold maxLen; omega, rfl, ?_⟩⟩
      simp [IB]; omega
    · simp [Value.ownBlock] at hb
      have := hb1.size;omega
  clear ed ec hpl hb1 W0;go_wp2
  go_loopw [8, 21] (λbv iv wr => ∃ k : Nat, k <= l.length /\ iv = Iq k /\ Hid (Nz w wr pg bv dep cells l k)) (λ_ iv _ => l.length - (intOf iv).toNat)
  case atStart => exact ⟨0, QA _, rfl, HI0.out⟩
  case round =>
    obtain ⟨k, hk, rfl, HX⟩ := hrel
    by_cases hlt : k < l.length
    · have hX := HX.out
      obtain ⟨bs, hbs⟩ :∃ bs : List UInt8, [71, UInt8.ofNat dep, UInt8.ofNat cells] ++ IB l k = bs := ⟨_, rfl⟩;have hrow := hX.row;rw [hbs] at hrow;have hbl : bs.length <= 9003 := by rw [<- hbs]; have := FB l k; simp; omega
      have HBS : Hid _ := hbs;clear hbs;obtain ⟨ba, bcap, rfl⟩ := BR.sl hrow;have HROW : Hid (BR wr (.slice ba bs.length bcap) bs) := hrow;clear hrow;obtain ⟨a', cap', e', hcl⟩ := Cj.below (w := w) HI.out hX.bel;simp only [QK, R8] at e';obtain ⟨rfl, rfl⟩ := e';obtain ⟨g, rfl, c0, c1, c2, c3⟩ := hcl k hlt;obtain ⟨ho1, ho2⟩ := HOP.out k hlt;have hkb : (0 : Int) <= (k : Int) /\ (k : Int) < (l.length : Int) := by omega
      have HNX : Hid (IB l (k + 1) = IB l k ++ (UInt8.ofNat (l.getD k fS).op :: ou (Cn l k (l.getD k fS)) (dq (l.getD k fS).op))) := Co l k;have HNL : Hid (Cn l k (l.getD k fS) = if (l.getD k fS).op = 15 \/ (l.getD k fS).op = 16 then (sG l (l.getD k fS).tj : Int) - (sG l k : Int) - ((1 + dq (l.getD k fS).op : Nat) : Int) else (l.getD k fS).n) := rfl
      have hwb := FB l k;have hp0 := (Qm wr _ k _ _ _ hX.pl).trans (uY l hlt);have hpT : (l.getD k fS).tj < l.length -> wr.cell? ⟨pg, (l.getD k fS).tj, none⟩ = some (Iq ((sG l (l.getD k fS).tj : Nat) : Int)) := λht => (Qm wr _ _ _ _ _ hX.pl).trans (uY l ht)
      have hpb := Ew l k;have hpb2 := λ(ht : (l.getD k fS).tj < l.length) => Ew l (l.getD k fS).tj
      generalize Cn l k (l.getD k fS) = nL at *;generalize (l.getD k fS).op = op at *;generalize (l.getD k fS).n = nn at *;generalize (l.getD k fS).tj = tj at *;have hfl := lW op;have W1 := λw => yO op nn tj 0 w
      have W2 := λw => qo op nn tj 0 w
      have W3 := λw => qQ op w
      unfold fG at W1 W2;have ho8 : ((UInt8.ofNat op).toNat : Int) = (op : Int) := by rw [R1]; omega
      have HO8 : Hid _ := ho8;have hgl : g < wr.heap.size := Qk wr _ c0;have g1 : g ≠ wr.heap.size := by omega
      have g2 : wr.heap.size ≠ g := by omega
      have hA : Below wr.heap.size wr (wr.alloc (.cells #[Iq (op : Nat), Iq nn, Iq (tj : Nat), Iq 0] 247)) := (Qq _ _).alloc (Qn _) _;have hxA : (wr.alloc (.cells #[Iq (op : Nat), Iq nn, Iq (tj : Nat), Iq 0] 247)).heap[wr.heap.size]? = some (.cells #[Iq (op : Nat), Iq nn, Iq (tj : Nat), Iq 0] 247 (0, 0)) := Qp wr _;have HXA : Hid _ := hxA;have HA : Hid _ := hA;have HBX : Hid _ := hX;clear hX HX ho8 hcl hA hxA
      by_cases hj : op = 15 \/ op = 16 <;> first
        | (have ht := ho2 hj
           have hb2 := hpb2 ht;have ej : decide (op = 15 \/ op = 16) = true := QZ hj;rw [ej] at W1;rw [Qo hj] at HNL;clear hpT hpb2 ho2 ej hj;go_wp2_with fail;apply(W1 _).mono;rintro e w2 ⟨rfl, hbc⟩;have hB2 : Below wr.heap.size wr w2 := HA.out.trans (hbc.mono HA.out.size);have h2 := HBX.out.below hB2;have x2 := (hbc.block _ (by simp)).trans HXA.out
           have P0 :∀ W, Below w2.heap.size w2 W -> W.cell? ⟨pg, k, none⟩ = some (Iq ((sG l k : Nat) : Int)) := λW hb => by rw [hb.cell (p := ⟨pg, k, none⟩) (be h2.pl)]; exact (Qm w2 _ k _ _ _ h2.pl).trans (uY l hlt)
           have P1 :∀ W, Below w2.heap.size w2 W -> W.cell? ⟨pg, tj, none⟩ = some (Iq ((sG l tj : Nat) : Int)) := λW hb => by rw [hb.cell (p := ⟨pg, tj, none⟩) (be h2.pl)]; exact (Qm w2 _ tj _ _ _ h2.pl).trans (uY l ht)
           have X0 :∀ W, Below w2.heap.size w2 W -> W.cell? ⟨wr.heap.size, 0, none⟩ = some (Iq (op : Nat)) := λW hb => by rw [hb.cell (p := ⟨wr.heap.size, 0, none⟩) (be x2)]; exact Qm w2 _ 0 _ _ _ x2
           have X1 :∀ W, Below w2.heap.size w2 W -> W.cell? ⟨wr.heap.size, 1, none⟩ = some (Iq nn) := λW hb => by rw [hb.cell (p := ⟨wr.heap.size, 1, none⟩) (be x2)]; exact Qm w2 _ 1 _ _ _ x2
           have X2 :∀ W, Below w2.heap.size w2 W -> W.cell? ⟨wr.heap.size, 2, none⟩ = some (Iq (tj : Nat)) := λW hb => by rw [hb.cell (p := ⟨wr.heap.size, 2, none⟩) (be x2)]; exact Qm w2 _ 2 _ _ _ x2
           have X3 :∀ W, Below w2.heap.size w2 W -> W.cell? ⟨wr.heap.size, 3, none⟩ = some (Iq 0) := λW hb => by rw [hb.cell (p := ⟨wr.heap.size, 3, none⟩) (be x2)]; exact Qm w2 _ 3 _ _ _ x2
           have hS0 : Below w2.heap.size w2 w2 := Qq _ _;have KD : Hid (∀ W : World, Below w2.heap.size w2 W -> Below w2.heap.size w2 W.drew) := λW h => h.drew
           have KB : Hid (∀ W W' : World, Below w2.heap.size w2 W -> Below W.heap.size W W' -> Below w2.heap.size w2 W') := λW W' h h' => h.trans (h'.mono h.size)
           have htb : (0 : Int) <= (tj : Int) /\ (tj : Int) < (l.length : Int) := by omega
           have hso : 1 + dq op <= 9 := by omega
           generalize 1 + dq op = so at *;generalize sG l tj = pt at *;generalize sG l k = pk at *;have hr1 : IntKind.i64.wrap ((pt : Int) - (pk : Int)) = (pt : Int) - (pk : Int) := by rw [Q0]; omega
           have hr2 : IntKind.i64.wrap ((pt : Int) - (pk : Int) - (so : Int)) = nL := by rw [HNL.out, Q0]; omega
           have HH2 : Hid _ := h2;have HX2 : Hid _ := x2;have HB2 : Hid _ := hB2;clear W1 hbc h2 x2 hB2 c0 c1 c2 c3 hp0 hwb HXA HA HBX;go_wp2
           go_region_held3 (λW => Below w2.heap.size w2 W) (first | assumption | exact KB.out _ _ (by assumption) hb3 | exact KD.out _ hS0 | exact KD.out _ (by assumption) | go_keep)
             (first
               | (go_at_call 139; refine (W2 _).mono ?_; rintro e w3 ⟨rfl, hb3⟩))
           all_goals
             rename_i hHeld
             have hB3 : Below wr.heap.size wr w3 := HB2.out.trans (hHeld.mono HB2.out.size);have h3 := HH2.out.below hHeld;have x3 := (hHeld.block _ (be HX2.out)).trans HX2.out
             try rw [hr1, hr2]
             clear P0 P1 X0 X1 X2 X3 hHeld hb3 hS0 KD KB HNL hr1 hr2 hb2 ht htb hso W2)
        | (have ej : decide (op = 15 \/ op = 16) = false := QM hj
           rw [ej] at W1;rw [Qj hj] at HNL;have HNL2 : Hid (nn = nL) := HNL.out.symm;clear hpT hpb2 ho2 ej hj HNL W2;go_wp2_with fail;apply(W1 _).mono;rintro e w3 ⟨rfl, hbc⟩;have hB3 : Below wr.heap.size wr w3 := HA.out.trans (hbc.mono HA.out.size);have h3 := HBX.out.below hB3;have x3 := (hbc.block _ (by simp)).trans HXA.out
           rw [HNL2.out]
           clear hbc W1 c0 c1 c2 c3 hp0 hwb HXA HA HBX HNL2)
      all_goals
        have HR : Hid (w3.ownsRow 0 5 1 (.slice ba bs.length bcap) bs.length (bs.map λc => Value.int .u8 (c.toNat : Nat))) := cD HROW.out hB3
        have y0 : w3.cell? ⟨wr.heap.size, 0, none⟩ = some (Iq (op : Nat)) := Qm w3 _ 0 _ _ _ x3;have hxl := be x3;have HXL : Hid _ := x3;have HWL : Hid _ := h3;have HBR : Hid (BR w3 (.slice ba bs.length bcap) bs) := cD HROW.out hB3;have W5 := λ(w' : World) (v : Value) (b2 : List UInt8) (hb : BR w' v b2) (hl : b2.length <= 10000) => tR nL (dq op) hfl hb hl
        clear hB3 h3 x3 hpb
        go_wp2_with (first
          | (at_builtin; go_must (refine wpList_append_lies _ (by rfl) _ _ 155 (by rfl) 0 5 i0 (.int .u8 0) 1 1 underlying155 hi hz0 hz1 hz2 (by rfl) (by decide) _ _ _ (by rfl) (HR.out.alloc _) ⟨w3.heap.size, 0, none⟩ 1 1 [.int .u8 (op : Nat)] (by rfl) (by rfl) (World.news_of_block (Qp w3 _)) (λx hx => by simp at hx; rcases hx with rfl; rfl) (by decide) (by unfold maxLen; omega) (by omega) (by simp) _ rfl ?_); intro gg cap2 w5 hown3 hgrow hat hlt3; have hr5 : BR w5 (Sq gg (bs.length + 1) cap2) (bs ++ [UInt8.ofNat op]) := MT HO8.out hown3; have ho5 : cI (λb => (Value.slice ba bs.length bcap).ownBlock = some b) w3 w5 := ((cI.refl (λb => (Value.slice ba bs.length bcap).ownBlock = some b) w3).alloc _).grown hgrow (λk hk => .inl hk); have x5 := (ho5.block _ hxl (NA HBR.out HXL.out (by decide))).trans HXL.out; have z0 : w5.cell? ⟨wr.heap.size, 0, none⟩ = some (Iq (op : Nat)) := Qm w5 _ 0 _ _ _ x5; have hf5 :∀ b, (Value.slice (some ⟨gg, 0, none⟩) (bs.length + 1) cap2).ownBlock = some b -> (Value.slice ba bs.length bcap).ownBlock = some b \/ w3.heap.size <= b := λb hb => (by simp [Value.ownBlock] at hb; subst hb; rcases hat with h | h; exact .inl h; right; rw [h, Qw]; omega); have H5 : Hid _ := hr5; have HO5 : Hid _ := ho5; have HF5 : Hid _ := hf5; clear hown3 hgrow hat hlt3 hr5 ho5 x5 hf5)
          | (go_at_call 141; refine (W3 _).mono ?_; rintro e w' ⟨rfl, hw'⟩; have hw2 := hw'.symm; clear hw'; subst hw2))
        apply(W5 _ _ _ H5.out (by simp; omega)).mono
        rintro e w6 ⟨⟨v6, rfl, hr6, hf6⟩, ho6⟩;have HN : Hid (Nz w w6 pg v6 dep cells l (k + 1)) := by
          obtain ⟨m1, m2, m3, m4⟩ := HWL.out.more hr6 (HO5.out.trans ho6 (λ_ _ h => h) (λi hi h => (HF5.out i h).resolve_right (by omega))) (λb hb => by
            rcases hf6 b hb with h | h
            · exact HF5.out b h
            · right; have := HO5.out.size; omega)
          refine ⟨?_, m2, m3, m4⟩;rw [HNX.out, <- QW, HBS.out];have e : bs ++ UInt8.ofNat op :: ou nL (dq op) = bs ++ [UInt8.ofNat op] ++ ou nL (dq op) := by simp
          rw [e];exact m1
        clear hr6 hf6 ho6 W5 H5 HO5 HF5;go_wp2
        go_roundw
        case rel => exact ⟨k + 1, by omega, by go_num, HN.out⟩
        case measure => simp [intOf]; omega
    · obtain rfl : k = l.length := by omega
      have hX := HX.out;obtain ⟨bs, hbs⟩ :∃ bs : List UInt8, [71, UInt8.ofNat dep, UInt8.ofNat cells] ++ IB l l.length = bs := ⟨_, rfl⟩;have hrow := hX.row;rw [hbs] at hrow;have HE : Hid (bs = Pu dep cells l) := hbs.symm;have h0 : 0 < bs.length := by rw [<- hbs]; simp
      obtain ⟨g, bcap, rfl, _, _⟩ := World.ownsRow.form hrow h0;have hcv : (convert 155 9 (Sq g bs.length bcap)).run prog wr = .ok (S bs) wr := by
        refine Sn wr 155 9 5 ⟨g, 0, none⟩ bcap bs underlying155 underlying5 underlying9 λj hj => ?_
        have hc := Rs hrow j (by omega)
        rw [Addr.add_mid];simp only [QO];rw [hc];simp [QN, Ql hj]
      have HBL : Hid _ := hX.bel;clear hbs hX HX hrow;go_wp2;go_ret;exact ⟨by show Ending.returned (S bs) = _; rw [HE.out], HBL.out⟩
end
variable {u n z F w w' pl l nm d t}
def Ac (F:Nat->Prop) (w:World) (u:Value) (n:Nat) (E:Nat->Nat):Prop:= ∃a cap,u= .slice a n cap/\ ∀j,j<n-> ∃g,a=some ⟨g,0,none⟩/\ ¬F g/\w.cell? ⟨g,j,none⟩=some (Pq (E j))
def gB (F:Nat->Prop):Nat->World->Nat->Tr->Prop
 |0,_,_,_=>False
 |d+1,w,b,t=> ∃(pl:Int) (nm:List UInt8) (u:Value) (D:Nat->Nat),¬F b/\mA w b t.k pl t.n nm u t.l/\Ac F w u t.kids.length D/\ ∀j,j<t.kids.length->gB F d w (D j) (t.kid j)
theorem Ac.un {F:Nat->Prop} {w:World} (h:Ac F w u n z):oA w u n z:=by
 obtain⟨a,cap,e,h⟩:=h;refine⟨a,cap,e,λj D=>?_⟩
 obtain⟨g,e,_,c⟩:=h j D;exact⟨g,e,c⟩
theorem gB.tr {d:Nat}:∀{w b t},gB F d w b t->oJ d w b t:=by
 induction d with
 |zero=>intro w b t h;exact h.elim
 |succ d ih=>
  intro w b t h;obtain⟨pl,nm,u,z,_,D,E,h3⟩:=h;exact⟨pl,nm,u,z,D,E.un,λj G=>ih (h3 j G)⟩
theorem Ac.only {w w':World} (h:Ac F w u n z) (E:cI F w w'):Ac F w' u n z:=by
 obtain⟨a,cap,e,h⟩:=h;refine⟨a,cap,e,λj G=>?_⟩
 obtain⟨g,e,D,c⟩:=h j G;exact⟨g,e,D,by rw[Qz (w:=w) (a:=⟨g,j,none⟩) (E.block g (Qk w _ c) D)];exact c⟩
theorem xd (h:mA w b k pl n nm u l) (z: ¬F b) (D:cI F w w'):mA w' b k pl n nm u l:=by
 have e:∀j,w'.cell? ⟨b,j,none⟩=w.cell? ⟨b,j,none⟩:=λj=>Qz (w:=w) (a:=⟨b,j,none⟩) (D.block b (Qk w _ h.c0) z)
 exact⟨(e 0).trans h.c0,(e 1).trans h.c1,(e 2).trans h.c2,(e 3).trans h.c3,(e 4).trans h.c4,(e 5).trans h.c5⟩
theorem gB.only {F} {d:Nat}:∀{w w' b t},gB F d w b t->cI F w w'->gB F d w' b t:=by
 induction d with
 |zero=>intro w w' b t h;exact h.elim
 |succ d ih=>
  intro w w' b t h z;obtain⟨pl,nm,u,E,D,G,I,h3⟩:=h;exact⟨pl,nm,u,E,D,xd G D z,I.only z,λj J=>ih (h3 j J) z⟩
theorem gB.below (h:gB F d w b t) (z:Below w.heap.size w w'):gB F d w' b t:=h.only (cI.of_below z)
theorem Ac.below {w w':World} (h:Ac F w u n z) (D:Below w.heap.size w w'):Ac F w' u n z:=h.only (cI.of_below D)
theorem Ac.more {F G:Nat->Prop} {w:World} (h:Ac F w u n z) (D:∀g,g<w.heap.size->G g->F g):Ac G w u n z:=by
 obtain⟨a,cap,e,h⟩:=h;refine⟨a,cap,e,λj E=>?_⟩
 obtain⟨g,e,I,c⟩:=h j E;exact⟨g,e,λx=>I (D g (Qk w _ c) x),c⟩
theorem gB.more {F G} {d:Nat}:∀{w b t},gB F d w b t->(∀g,g<w.heap.size->G g->F g)->gB G d w b t:=by
 induction d with
 |zero=>intro w b t h;exact h.elim
 |succ d ih=>
  intro w b t h z;obtain⟨pl,nm,u,O,R,I,U,h3⟩:=h;exact⟨pl,nm,u,O,λx=>R (z b (Qk w _ I.c0) x),I,U.more z,λj V=>ih (h3 j V) z⟩
theorem gB.up {d:Nat}:∀{w b t},gB F d w b t-> ∀{e},d<=e->gB F e w b t:=by
 induction d with
 |zero=>intro w b t h;exact h.elim
 |succ d ih=>
  intro w b t h e J;obtain⟨e,rfl⟩:∃q,e=q+1:=⟨e - 1,by omega⟩
  obtain⟨pl,nm,u,z,D,E,G,h3⟩:=h;exact⟨pl,nm,u,z,D,E,G,λj I=>ih (h3 j I) (by omega)⟩
theorem oJ.off {d:Nat}:∀{w b t},oJ d w b t->gB (λg=>w.heap.size<=g) d w b t:=by
 induction d with
 |zero=>intro w b t h;exact h.elim
 |succ d ih=>
  intro w b t h;obtain⟨pl,nm,u,R,G,z,h3⟩:=h;obtain⟨a,cap,e,z⟩:=z;refine⟨pl,nm,u,R,λx=>?_,G,⟨a,cap,e,λj D=>?_⟩,λj D=>ih (h3 j D)⟩
  ·have:=Qk w _ G.c0;simp only[] at this;omega
  ·obtain⟨g,e,c⟩:=z j D
   exact⟨g,e,λx=>by have:=Qk w _ c;simp only[] at this;omega,c⟩
section
attribute [local go_sem ↓] Go.wp_at_zero Go.wp_at_succ
variable {jmp p J lp v l' D G E c2}
def gE (jmp:Bool) (d:Nat) (m:Option Bool) (t:Tr) (p:Nat):List L3:=(gL jmp d m t ⟨[],[]⟩ p 0).map er
theorem jA (jmp) (d:Nat) (m) (t) (p):(gE jmp d m t p).length=cZ jmp d m t:=jL _ _ _ _ _ _ _
theorem MU {d:Nat} (z:t.k≠14) (D:t.k≠19) (E:t.kids.length≠2):gE jmp (d+1) none t p=[⟨fF t,jc t,0⟩]:=by
 unfold gE;simp only[gL];rw[Qj z,Qj D,Qj E];rfl
theorem Ok {d:Nat} (z:t.k=19):gE jmp (d+1) none t p=gE jmp d none (t.kid 0) p++[⟨12,0,0⟩]:=by
 unfold gE;simp only[gL];rw[Qj (by omega),Qo z];simp[er]
theorem Ol {d:Nat} (z:t.k≠14) (D:t.k≠19) (E:t.kids.length=2):gE jmp (d+1) none t p=gE jmp d none (t.kid 0) p++(gE jmp d none (t.kid 1) (p+cZ jmp d none (t.kid 0))++[⟨mY t.k,0,0⟩]):=by
 unfold gE;simp only[gL];rw[Qj z,Qj D,Qo E];simp only[QU,QL,Q9,er];rw[xb jmp d none (t.kid 1) _ ⟨[],[]⟩]
theorem xg (l:List L3) (j T:Nat):fA l [j] T=nQ l j T:=rfl
structure Ax (F:Nat->Prop) (w0 w:World) (lp) (jmp) (v) (l) (dep cells):Prop where
 at_:kV w lp jmp v l dep cells
 lp0:F lp\/w0.heap.size<=lp
 own:∀g,v.ownBlock=some g->F g\/w0.heap.size<=g
 bel:cI F w0 w
theorem Ax.next {F:Nat->Prop} {dep cells} (h:Ax F J w lp jmp v l dep cells) (ho:dG w w' lp jmp v l' D z):
 ∃G,Ax F J w' lp jmp G l' D z/\(∀{jv js},IR w 3 jv js->IR w' 3 jv js)/\w.heap.size<=w'.heap.size/\(∀{O R U c2},dG w' O lp jmp G R U c2->dG w O lp jmp v R U c2):=by
 obtain⟨G,a1,E,V⟩:=ho;have Y:cI F J w':=h.bel.trans E (λ_ _ h=>h) (λk aa Z=>by
  rcases Z with rfl|Z
  ·exact h.lp0.resolve_right (by omega)
  exact(h.own k Z).resolve_right (by omega))
 refine⟨G,⟨a1,h.lp0,λg I=>?_,Y⟩,λ{jv js} hj=>hj.only E (λg I hF=>?_),E.size,λ{O R U c2} h2=>?_⟩
 ·rcases V g I with h1|h1
  ·exact h.own g h1
  right;have:=h.bel.size;omega
 ·rcases hF with rfl|hF
  ·exact hj.ne h.at_.blk (by decide) I
  obtain⟨cs,hc⟩:=cK h.at_.row hF;exact hj.ne hc (by decide) I
 obtain⟨v2,a2,o2,f2⟩:=h2;refine⟨v2,a2,E.trans o2 (λ_ _ h=>h) (λi hi h=>?_),λb Y=>?_⟩
 ·rcases h with h|h
  ·exact .inl h
  rcases V i h with h|h
  ·exact .inr h
  omega
 rcases f2 b Y with h|h
 ·exact V b h
 right;have:=E.size;omega
theorem Ax.below {F:Nat->Prop} {dep cells} (h:Ax F G w lp jmp v l dep cells) (z:Bl w w'):Ax F G w' lp jmp v l dep cells:=
 ⟨⟨(z.block _ (be h.at_.blk)).trans h.at_.blk,cD h.at_.row z⟩,h.lp0,h.own,h.bel.trans (cI.of_below z) (λ_ _ h=>h) (λ_ _ h=>h)⟩
theorem dG.from (I:Bl w z) (h:dG z D lp jmp v E G c2):dG w D lp jmp v E G c2:=by
 obtain⟨O,a2,R,U⟩:=h;refine⟨O,a2,(cI.of_below I).trans R (λ_ _ h=>h) (λ_ _ h=>h),λb J=>?_⟩
 rcases U b J with h|h
 ·exact .inl h
 right;have:=I.size;omega
structure Li (W) (b) (t:Tr) (pl) (nm) (u) (bl):Prop where
 cc:mA W b t.k pl t.n nm u t.l
 un:oA W u t.kids.length bl
theorem qp (h:gB F (d+1) D b t):∃pl nm u z,(∀W,cI F D W->Li W b t pl nm u z)/\ ∀j,j<t.kids.length->gB F d D (z j) (t.kid j):=by
 obtain⟨pl,nm,u,z,G,I,J,h3⟩:=h;exact⟨pl,nm,u,z,λW E=>⟨xd I G E,(J.only E).un⟩,h3⟩
def yT (jmp:Bool) (d:Nat):Prop:= ∀{F:Nat->Prop} {t:Tr} {E w:World} {lp b bn dep cells:Nat} {v:Value} {l:List L3},gU d t->gB F d E b t->Ax F E w lp jmp v l dep cells->l.length+cZ jmp d none t<=4900->bn+d<=1000->dep<=1000->
 Calls prog 133 #[Pq lp,Pq b,Iq bn] w λe w'=>e= .returned (.tuple #[])/\dG w w' lp jmp v (l++gE jmp d none t l.length) (max dep (fZ jmp d none t bn)) cells
def rB (jmp:Bool) (d:Nat):Prop:= ∀{F:Nat->Prop} {t:Tr} {z w:World} {lp b bn dep cells:Nat} {v:Value} {l:List L3} {this:Bool},gU d t->gB F d z b t->Ax F z w lp jmp v l dep cells->l.length+cZ jmp d (some this) t<=4900->bn+d<=1000->dep<=1000->
 Calls prog 134 #[Pq lp,.bool this,Pq b,Iq bn] w λe w'=> ∃jv,e= .returned jv/\IR w' 3 jv ((nS jmp d this t l.length).map λj=>((j:Nat):Int))/\(∀g,jv.ownBlock=some g->w.heap.size<=g)/\dG w w' lp jmp v (l++gE jmp d (some this) t l.length) (max dep (fZ jmp d (some this) t bn)) cells
end
section
variable {jmp a c m p}
theorem FD (z:l.length=p) (U:gU d a):
 nQ (fA (l++gE jmp d (some false) a p++gE jmp d m b (p+cZ jmp d (some false) a)++[⟨16,0,0⟩]) (nS jmp d false a p) (p+cZ jmp d (some false) a+cZ jmp d m b+1)++gE jmp d m c (p+cZ jmp d (some false) a+cZ jmp d m b+1)) (p+cZ jmp d (some false) a+cZ jmp d m b) (p+cZ jmp d (some false) a+cZ jmp d m b+1+cZ jmp d m c)
  =l++((gL jmp d (some false) a ⟨[],[]⟩ p (p+cZ jmp d (some false) a+cZ jmp d m b+1)).map er++(gE jmp d m b (p+cZ jmp d (some false) a)++(⟨16,0,p+cZ jmp d (some false) a+cZ jmp d m b+1+cZ jmp d m c⟩::gE jmp d m c (p+cZ jmp d (some false) a+cZ jmp d m b+1)))):=by
 have V:=Aa (jmp:=jmp) d (t:=a) (k:=⟨[],[]⟩) (this:=false) (pre:=l) (post:=gE jmp d m b (p+cZ jmp d (some false) a)++[⟨16,0,0⟩]) (p+cZ jmp d (some false) a+cZ jmp d m b+1) U z;have Y:l++gE jmp d (some false) a p++gE jmp d m b (p+cZ jmp d (some false) a)++[⟨16,0,0⟩]=l++((gL jmp d (some false) a ⟨[],[]⟩ p 0).map er++(gE jmp d m b (p+cZ jmp d (some false) a)++[⟨16,0,0⟩])):=by
  show l++(gL jmp d (some false) a ⟨[],[]⟩ p 0).map er++_++_=_;simp
 rw[Y,V];have D:=oE (l++((gL jmp d (some false) a ⟨[],[]⟩ p (p+cZ jmp d (some false) a+cZ jmp d m b+1)).map er++gE jmp d m b (p+cZ jmp d (some false) a))) (gE jmp d m c (p+cZ jmp d (some false) a+cZ jmp d m b+1)) ⟨16,0,0⟩ (p+cZ jmp d (some false) a+cZ jmp d m b+1+cZ jmp d m c);rw[Qt,Qt,jL,jA,z,<-R0] at D;have Z:l++((gL jmp d (some false) a ⟨[],[]⟩ p (p+cZ jmp d (some false) a+cZ jmp d m b+1)).map er++(gE jmp d m b (p+cZ jmp d (some false) a)++[⟨16,0,0⟩]))++gE jmp d m c (p+cZ jmp d (some false) a+cZ jmp d m b+1)=l++((gL jmp d (some false) a ⟨[],[]⟩ p (p+cZ jmp d (some false) a+cZ jmp d m b+1)).map er++gE jmp d m b (p+cZ jmp d (some false) a))++(⟨16,0,0⟩::gE jmp d m c (p+cZ jmp d (some false) a+cZ jmp d m b+1)):=by simp
 rw[Z,D];simp
section
variable {jmp : Bool} {d : Nat} {t : Tr} {p : Nat} {this : Bool}
theorem Om (I:qe jmp t.k=false):gE jmp (d+1) (some this) t p=gE jmp (d+1) none t p++((if this then[⟨12,0,0⟩] else[])++[⟨15,0,0⟩]):=by
 have z:gL jmp (d+1) (some this) t ⟨[],[]⟩ p 0=gL jmp (d+1) none t ⟨[],[]⟩ p 0++((if this then[⟨12,0,0,⟨2::[],[]⟩⟩] else[])++[⟨15,0,0,⟨2::[],[]⟩⟩]):=by
  simp only[gL,I];rfl
 unfold gE;rw[z];simp only[QU];cases this<;>rfl
theorem Ez (z:qe jmp t.k=false):cZ jmp (d+1) (some this) t=cZ jmp (d+1) none t+(if this then 2 else 1):=by simp only[cZ,z];rfl
theorem On {b:Nat} (z:qe jmp t.k=false):fZ jmp (d+1) (some this) t b=fZ jmp (d+1) none t b:=by simp only[fZ,z];rfl
theorem Ad (z:qe jmp t.k=false):nS jmp (d+1) this t p=[p+cZ jmp (d+1) none t+(if this then 1 else 0)]:=by simp only[nS,z];rfl
theorem Ae (z:qe jmp t.k=true) (D:t.k=20\/t.k=21):gE jmp (d+1) (some this) t p=(if this=decide (t.k=20) then[⟨16,0,0⟩] else[])/\cZ jmp (d+1) (some this) t=(if this=decide (t.k=20) then 1 else 0)/\(∀b,fZ jmp (d+1) (some this) t b=0)/\nS jmp (d+1) this t p=(if this=decide (t.k=20) then[p] else[]):=by
 refine⟨?_,?_,λb=>?_,?_⟩
 ·unfold gE;simp only[gL,z,RO,Qo D];split<;>rfl
 ·simp only[cZ,z,RO,Qo D]
 ·simp only[fZ,z,RO,Qo D]
 simp only[nS,z,RO,Qo D]
theorem EA (z:qe jmp t.k=true) (D:t.k=19):gE jmp (d+1) (some this) t p=gE jmp d (some (!this)) (t.kid 0) p/\cZ jmp (d+1) (some this) t=cZ jmp d (some (!this)) (t.kid 0)/\(∀b,fZ jmp (d+1) (some this) t b=fZ jmp d (some (!this)) (t.kid 0) b)/\nS jmp (d+1) this t p=nS jmp d (!this) (t.kid 0) p:=by
 have E: ¬(t.k=20\/t.k=21):=by omega
 refine⟨?_,?_,λb=>?_,?_⟩
 ·unfold gE;simp only[gL,z,RO,Qj E,Qo D]
 ·simp only[cZ,z,RO,Qj E,Qo D]
 ·simp only[fZ,z,RO,Qj E,Qo D]
 simp only[nS,z,RO,Qj E,Qo D]
theorem Lj (z:qe jmp t.k=true) (D:t.k=14):
 gE jmp (d+1) (some this) t p=(gL jmp d (some false) (t.kid 0) ⟨[],[]⟩ p (p+cZ jmp d (some false) (t.kid 0)+cZ jmp d (some this) (t.kid 1)+1)).map er++(gE jmp d (some this) (t.kid 1) (p+cZ jmp d (some false) (t.kid 0))++(⟨16,0,p+cZ jmp d (some false) (t.kid 0)+cZ jmp d (some this) (t.kid 1)+1+cZ jmp d (some this) (t.kid 2)⟩::gE jmp d (some this) (t.kid 2) (p+cZ jmp d (some false) (t.kid 0)+cZ jmp d (some this) (t.kid 1)+1)))
 /\cZ jmp (d+1) (some this) t=cZ jmp d (some false) (t.kid 0)+cZ jmp d (some this) (t.kid 1)+1+cZ jmp d (some this) (t.kid 2)
 /\(∀b,fZ jmp (d+1) (some this) t b=max (fZ jmp d (some false) (t.kid 0) b) (max (fZ jmp d (some this) (t.kid 1) b) (fZ jmp d (some this) (t.kid 2) b)))
 /\nS jmp (d+1) this t p=nS jmp d this (t.kid 1) (p+cZ jmp d (some false) (t.kid 0))++nS jmp d this (t.kid 2) (p+cZ jmp d (some false) (t.kid 0)+cZ jmp d (some this) (t.kid 1)+1):=by
 have E: ¬(t.k=20\/t.k=21):=by omega
 have h3: ¬t.k=19:=by omega
 refine⟨?_,?_,λb=>?_,?_⟩
 ·unfold gE;simp only[gL,z,RO,Qj E,Qj h3,Qo D,QU,QL,er]
 ·simp only[cZ,z,RO,Qj E,Qj h3,Qo D]
 ·simp only[fZ,z,RO,Qj E,Qj h3,Qo D]
 simp only[nS,z,RO,Qj E,Qj h3,Qo D]
theorem Af (z:qe jmp t.k=true) (G:t.k=17\/t.k=18):
 gE jmp (d+1) (some this) t p=(gL jmp d (some (decide (t.k=17))) (t.kid 0) ⟨[],[]⟩ p (if this=decide (t.k=17) then 0 else p+cZ jmp d (some (decide (t.k=17))) (t.kid 0)+cZ jmp d (some this) (t.kid 1))).map er++gE jmp d (some this) (t.kid 1) (p+cZ jmp d (some (decide (t.k=17))) (t.kid 0))
 /\cZ jmp (d+1) (some this) t=cZ jmp d (some (decide (t.k=17))) (t.kid 0)+cZ jmp d (some this) (t.kid 1)
 /\(∀b,fZ jmp (d+1) (some this) t b=max (fZ jmp d (some (decide (t.k=17))) (t.kid 0) b) (fZ jmp d (some this) (t.kid 1) b))
 /\nS jmp (d+1) this t p=(if this=decide (t.k=17) then nS jmp d (decide (t.k=17)) (t.kid 0) p else[])++nS jmp d this (t.kid 1) (p+cZ jmp d (some (decide (t.k=17))) (t.kid 0)):=by
 have D: ¬(t.k=20\/t.k=21):=by omega
 have h3: ¬t.k=19:=by omega
 have E: ¬t.k=14:=by omega
 refine⟨?_,?_,λb=>?_,?_⟩
 ·unfold gE;simp only[gL,z,RO,Qj D,Qj h3,Qj E,QU]
 ·simp only[cZ,z,RO,Qj D,Qj h3,Qj E]
 ·simp only[fZ,z,RO,Qj D,Qj h3,Qj E]
 simp only[nS,z,RO,Qj D,Qj h3,Qj E]
theorem Oo (z:t.k=14):cZ jmp (d+1) none t=cZ jmp d (some false) (t.kid 0)+cZ jmp d none (t.kid 1)+1+cZ jmp d none (t.kid 2)/\(∀b,fZ jmp (d+1) none t b=max (fZ jmp d (some false) (t.kid 0) b) (max (fZ jmp d none (t.kid 1) b) (fZ jmp d none (t.kid 2) b)))
 /\gE jmp (d+1) none t p=(gL jmp d (some false) (t.kid 0) ⟨[],[]⟩ p (p+cZ jmp d (some false) (t.kid 0)+cZ jmp d none (t.kid 1)+1)).map er++(gE jmp d none (t.kid 1) (p+cZ jmp d (some false) (t.kid 0))++(⟨16,0,p+cZ jmp d (some false) (t.kid 0)+cZ jmp d none (t.kid 1)+1+cZ jmp d none (t.kid 2)⟩::gE jmp d none (t.kid 2) (p+cZ jmp d (some false) (t.kid 0)+cZ jmp d none (t.kid 1)+1))):=by
 refine⟨by simp only[cZ,Qo z],λb=>by simp only[fZ,Qo z],?_⟩
 unfold gE;simp only[gL,Qo z,QU,QL,er]
theorem MV (z:t.k=19):cZ jmp (d+1) none t=cZ jmp d none (t.kid 0)+1/\ ∀b,fZ jmp (d+1) none t b=fZ jmp d none (t.kid 0) b:=by
 have h: ¬t.k=14:=by omega
 exact⟨by simp only[cZ,Qj h,Qo z],λb=>by simp only[fZ,Qj h,Qo z]⟩
theorem MW (z:t.k≠14) (D:t.k≠19) (E:t.kids.length=2):cZ jmp (d+1) none t=cZ jmp d none (t.kid 0)+cZ jmp d none (t.kid 1)+1/\ ∀b,fZ jmp (d+1) none t b=max (fZ jmp d none (t.kid 0) b) (fZ jmp d none (t.kid 1) (b+1)):=
 ⟨by simp only[cZ,Qj z,Qj D,Qo E],λb=>by simp only[fZ,Qj z,Qj D,Qo E]⟩
theorem Ll (z:t.k≠14) (D:t.k≠19) (E:t.kids.length≠2):cZ jmp (d+1) none t=1/\ ∀b,fZ jmp (d+1) none t b=b+1:=
 ⟨by simp only[cZ,Qj z,Qj D,Qj E],λb=>by simp only[fZ,Qj z,Qj D,Qj E]⟩
theorem Ag (d):∀{t:Tr} {this p},∀j∈nS jmp d this t p,p<=j/\j<p+cZ jmp d (some this) t:=by
 induction d with
 |zero=>intro t this p j z;simp[nS] at z
 |succ d ih=>
  intro t this p j z;cases D:qe jmp t.k with
  |false=>
   rw[Ad D] at z;rw[Ez D];simp at z;subst z;cases this<;>simp<;>omega
  |true=>
   by_cases R:t.k=20\/t.k=21
   ·obtain⟨_,E,_,G⟩:=Ae D R;rw[G] at z;rw[E];split at z
    ·rename_i h;rw[Qo h];simp at z;omega
    simp at z
   by_cases h3:t.k=19
   ·obtain⟨_,E,_,G⟩:=EA D h3;rw[G] at z;rw[E];exact ih j z
   by_cases U:t.k=14
   ·obtain⟨_,E,_,G⟩:=Lj D U;rw[G] at z;rw[E];rcases Rn.1 z with z|z
    ·have:=ih j z;omega
    have:=ih j z;omega
   have V:t.k=17\/t.k=18:=by unfold qe at D;simp at D;omega
   obtain⟨_,E,_,G⟩:=Af D V;rw[G] at z;rw[E];rcases Rn.1 z with z|z
   ·split at z
    ·have:=ih j z;omega
    simp at z
   have:=ih j z;omega
theorem oG (d):∀{t:Tr} {this p},(nS jmp d this t p).length<=cZ jmp d (some this) t:=by
 induction d with
 |zero=>intro t this p;simp[nS]
 |succ d ih=>
  intro t this p;cases z:qe jmp t.k with
  |false=>rw[Ad z,Ez z];cases this<;>simp
  |true=>
   by_cases G:t.k=20\/t.k=21
   ·obtain⟨_,D,_,E⟩:=Ae z G;rw[E,D];split<;>simp
   by_cases h3:t.k=19
   ·obtain⟨_,D,_,E⟩:=EA z h3;rw[E,D];exact ih
   by_cases I:t.k=14
   ·obtain⟨_,D,_,E⟩:=Lj z I;rw[E,D,Qt];have a1:= @ih (t.kid 1) this (p+cZ jmp d (some false) (t.kid 0));have a2:= @ih (t.kid 2) this (p+cZ jmp d (some false) (t.kid 0)+cZ jmp d (some this) (t.kid 1)+1);omega
   have J:t.k=17\/t.k=18:=by unfold qe at z;simp at z;omega
   obtain⟨_,D,_,E⟩:=Af z J;rw[E,D,Qt];have a1:= @ih (t.kid 0) (decide (t.k=17)) p;have a2:= @ih (t.kid 1) this (p+cZ jmp d (some (decide (t.k=17))) (t.kid 0));split
   ·omega
   simp;omega
end
end
section
attribute [local go_sem ↓] Go.wp_at_zero Go.wp_at_succ
variable {D I jmp w0 lp bn v j}
theorem xh (w:World) (x:Int):IR (w.alloc (.cells #[Iq x] 3)) 3 (Sq w.heap.size 1 1) [x]:=by
 refine⟨rfl,.inr ⟨w.heap.size,1,#[Iq x],rfl,QA _,Qp w _,Qn _,by unfold maxLen;omega,rfl,rfl⟩⟩
theorem kL {t:Tr} (h:∀W,cI F D W->Li W b t pl nm u I) (h0:0<t.kids.length):
 ∃g cap,∀W,cI F D W->W.cell? ⟨b,0,none⟩=some (Iq t.k)/\W.cell? ⟨b,4,none⟩=some (Sq g t.kids.length cap)/\ ∀j,j<t.kids.length->W.cell? ⟨g,j,none⟩=some (Pq (I j)):=by
 obtain⟨a,cap,e,hc⟩:=(h D (cI.refl _ _)).un;obtain⟨g,J,_⟩:=hc 0 h0;refine⟨g,cap,λW O=>?_⟩
 obtain⟨a',aa,E,R⟩:=(h W O).un;have U:=(h W O).cc;rw[e] at E;simp only[QK,R8] at E;obtain⟨rfl,rfl⟩:=E;refine⟨U.c0,by rw[U.c4,e,J],λj hj=>?_⟩
 obtain⟨g',z,c⟩:=R j hj;rw[J] at z;simp only[QE,RL,SC] at z;rw[z];exact c
theorem Ah (HL:yT jmp d) (HJ:rB jmp d) {dep cells} (hw:gU (d+1) t) (hk:t.k=14) (hT:gB F (d+1) w0 b t) (h:Ax F w0 w lp jmp v l dep cells) (ar:l.length+cZ jmp (d+1) none t<=4900) (aD:bn+(d+1)<=1000) (au:dep<=1000):
 Calls prog 179 #[Pq lp,Pq b,Iq bn] w λe w'=>e= .returned (.tuple #[])/\dG w w' lp jmp v (l++gE jmp (d+1) none t l.length) (max dep (fZ jmp (d+1) none t bn)) cells:=by
 obtain⟨es,ed,eg⟩:=Oo (jmp:=jmp) (d:=d) (p:=l.length) hk;rw[es] at ar;rw[ed,eg];obtain⟨ka,kb,kc,D⟩:∃ka kb kc,t.kids=[ka,kb,kc]:=by
  rcases hw.1 with⟨z,_⟩|⟨z,_⟩|⟨_,h2⟩|⟨z,_⟩
  ·unfold dJ at z;omega
  ·omega
  ·exact h2
  ·unfold fW at z;omega
 have aa:t.kids.length=3:=by rw[D];rfl
 obtain⟨pl,nm,u,bl,HN,HK⟩:=qp hT;obtain⟨g,cap,Y⟩:=kL HN (by omega)
 have E:∀j,j<3->gU d (t.kid j):=λj Z=>hw.2 _ (by
  unfold Tr.kid;rw[Qi,Ql (by omega)]
  exact QD _)
 have HT:=λj (Z:j<3)=>HK j (by omega)
 rw[aa] at Y;have FC:Hid (∀W,cI F w0 W->Cq W b 4 (Sq g 3 cap)/\Cq W g 0 (Pq (bl 0))/\Cq W g 1 (Pq (bl 1))/\Cq W g 2 (Pq (bl 2))):=λW hb=>⟨(Y W hb).2.1,(Y W hb).2.2 0 (by omega),(Y W hb).2.2 1 (by omega),(Y W hb).2.2 2 (by omega)⟩
 have aE:=rj jmp d (some false) (t.kid 0) bn;have aF:=rj jmp d none (t.kid 1) bn;have av:=Hi (FD (jmp:=jmp) (d:=d) (a:=t.kid 0) (b:=t.kid 1) (c:=t.kid 2) (m:=none) (l:=l) (p:=l.length) rfl (E 0 (by omega)))
 have ag:= @Ag jmp d (t.kid 0) false l.length;have aH:= @oG jmp d (t.kid 0) false l.length;have lA:=jA jmp d (some false) (t.kid 0) l.length;have lB:=jA jmp d none (t.kid 1) (l.length+cZ jmp d (some false) (t.kid 0));have HB:=Hi h;have W1:=HJ (this:=false) (bn:=bn) (E 0 (by omega)) (HT 0 (by omega)) h (by omega) (by omega) au
 obtain⟨c4,c0,_,_⟩:=FC.out w h.bel;have ah:=Hi E;have ai:=Hi HT;have aw:=Hi ag;go_enter func179,ntmps179;go_wp2_with fail;apply W1.mono;rintro e w1 ⟨jv,rfl,ab,_,G⟩;obtain⟨v1,z,k1,z1,g1⟩:=HB.out.next G;have W2:=HL (bn:=bn) (ah.out 1 (by omega)) (ai.out 1 (by omega)) z (by rw[Qt,lA];omega) (by omega) (by omega)
 rw[Qt,lA] at W2;obtain⟨d4,_,d1,_⟩:=FC.out w1 z.bel;have aj:=Hi z;have ax:Hid _:= @g1;have ak:=Hi ab;go_wp2_with fail;apply W2.mono;rintro e w2 ⟨rfl,I⟩;obtain⟨v2,h2,k2,z2,g2⟩:=aj.out.next I;have am:=Hi (k2 ak.out);have W3:=jE 16 0 h2.at_ (by simp only[Qt,lA,lB];omega)
 obtain⟨ix,ac⟩:∃ix:Nat,l.length+cZ jmp d (some false) (t.kid 0)+cZ jmp d none (t.kid 1)=ix:=⟨_,rfl⟩;have hJ:(l++gE jmp d (some false) (t.kid 0) l.length++gE jmp d none (t.kid 1) (l.length+cZ jmp d (some false) (t.kid 0))).length=ix:=by
  simp only[Qt,lA,lB];exact ac
 rw[hJ] at W3;have an:=Hi ac;have ao:=Hi h2;have ay:Hid _:= @g2;go_wp2_with fail;apply W3.mono;rintro e w3 ⟨rfl,J⟩;obtain⟨v3,h3,k3,z3,g3⟩:=ao.out.next J;have O:(l++gE jmp d (some false) (t.kid 0) l.length++gE jmp d none (t.kid 1) (l.length+cZ jmp d (some false) (t.kid 0))++[(⟨16,0,0⟩:L3)]).length=l.length+cZ jmp d (some false) (t.kid 0)+cZ jmp d none (t.kid 1)+1:=by
  simp only[Qt,lA,lB,QH,Q7]
 have W4:=ju (jv:=jv) (js:=nS jmp d false (t.kid 0) l.length) h3.at_ (by rw[O];omega) (by omega) (k3 am.out) (λj Z=>by have:=aw.out j Z;rw[O];omega)
 rw[O] at W4;have ap:=Hi h3;have az:Hid _:= @g3;go_wp2_with fail;apply W4.mono;rintro e w4 ⟨rfl,R⟩;obtain⟨v4,h4,k4,z4,g4⟩:=ap.out.next R;have U:=rA (nS jmp d false (t.kid 0) l.length) (l++gE jmp d (some false) (t.kid 0) l.length++gE jmp d none (t.kid 1) (l.length+cZ jmp d (some false) (t.kid 0))++[(⟨16,0,0⟩:L3)]) (l.length+cZ jmp d (some false) (t.kid 0)+cZ jmp d none (t.kid 1)+1);rw[O] at U;have W5:=HL (bn:=bn) (ah.out 2 (by omega)) (ai.out 2 (by omega)) h4 (by rw[U];omega) (by omega) (by omega)
 rw[U] at W5;obtain⟨d4,_,_,d2⟩:=FC.out w4 h4.bel;have aq:=Hi h4;have aA:Hid _:= @g4;go_wp2_with fail;apply W5.mono;rintro e w5 ⟨rfl,V⟩;obtain⟨v5,h5,k5,z5,g5⟩:=aq.out.next V;have ad:Below w5.heap.size w5 (w5.alloc (.cells #[Iq (ix:Nat)] 3)):=(Qq _ _).alloc (Qn _) _;have ae:(fA (l++gE jmp d (some false) (t.kid 0) l.length++gE jmp d none (t.kid 1) (l.length+cZ jmp d (some false) (t.kid 0))++[(⟨16,0,0⟩:L3)]) (nS jmp d false (t.kid 0) l.length) (l.length+cZ jmp d (some false) (t.kid 0)+cZ jmp d none (t.kid 1)+1)++gE jmp d none (t.kid 2) (l.length+cZ jmp d (some false) (t.kid 0)+cZ jmp d none (t.kid 1)+1)).length=l.length+cZ jmp d (some false) (t.kid 0)+cZ jmp d none (t.kid 1)+1+cZ jmp d none (t.kid 2):=by
  rw[Qt,U,jA]
 have W6:=ju (js:=[ix]) (h5.below ad).at_ (by rw[ae];omega) (by simp) (xh w5 _) (λj Z=>by simp only[R4] at Z;have:=an.out;rw[Z,ae];omega)
 have aB:Hid _:= @g5;have aC:=Hi ad;go_wp2_with fail;apply W6.mono;rintro e w6 ⟨rfl,af⟩;go_wp2
 go_end0
 refine⟨rfl,?_⟩;have hf:=ax.out (ay.out (az.out (aA.out (aB.out (dG.from aC.out af)))));rw[xg,ae,<-an.out,av.out] at hf;have em:max (max (max dep (fZ jmp d (some false) (t.kid 0) bn)) (fZ jmp d none (t.kid 1) bn)) (fZ jmp d none (t.kid 2) bn)=max dep (max (fZ jmp d (some false) (t.kid 0) bn) (max (fZ jmp d none (t.kid 1) bn) (fZ jmp d none (t.kid 2) bn))):=by omega
 rw[em] at hf;exact hf
theorem dG.dep {dep cells} (h:dG w z lp jmp v l dep cells) (x):dG w (z.setCell ⟨lp,2,none⟩ (Iq (x:Nat))) lp jmp v l x cells:=by
 obtain⟨I,a1,J,O⟩:=h;refine⟨I,⟨?_,?_⟩,J.setCell (.inl (.inl rfl)) _,O⟩
 ·rw[QB z lp 2 _ _ _ a1.blk];rfl
 ·exact Rg a1.row (a:=⟨lp,2,none⟩) a1.ne _
theorem lz (z:gU (d+1) t) (D:j<t.kids.length):gU d (t.kid j):=z.2 _ (by
 unfold Tr.kid;rw[Qi,Ql D];exact QD _)
theorem Lm {d:Nat} (HL:yT jmp d) (HJ:rB jmp d):yT jmp (d+1):=by
 intro F t w0 w lp b bn dep cells v l Y hT h Z ah ab;obtain⟨pl,nm,u,bl,U,HK⟩:=qp hT;have c0:=(U w h.bel).cc.c0;rcases Y.1 with⟨E,D,_⟩|⟨E,ka,D⟩|⟨E,_⟩|⟨E,ka,kb,D⟩
 ·have J:t.k≠14:=by unfold dJ at E;omega
  have O:t.k≠19:=by unfold dJ at E;omega
  have R:t.kids.length≠2:=by rw[D];decide
  obtain⟨es,ed⟩:=Ll (jmp:=jmp) (d:=d) J O R;rw[MU J O R,ed];have I:=Cg h.at_ (by omega) E (U w h.bel).cc
  have ew:fF ⟨t.k,t.n,t.l,[]⟩=fF t/\jc ⟨t.k,t.n,t.l,[]⟩=jc t:=⟨rfl,rfl⟩;rw[ew.1,ew.2] at I;obtain⟨a,cap,eu,_⟩:=(U w h.bel).un;have c4:w.cell? ⟨b,4,none⟩=some (.slice a t.kids.length cap):=by rw[(U w h.bel).cc.c4,eu]
  rw[D] at c4;have af:((t.k:Int)==14)=false:=by simp;omega
  have ag:((t.k:Int)==19)=false:=by simp;omega
  generalize fF t=op at*;generalize jc t=n at*;generalize t.k=k at*;go_enter func133,ntmps133;go_wp2_with fail;apply I.mono;rintro e w1 ⟨rfl,z⟩;have HO:Hid (dG w w1 lp jmp v (l++[⟨op,n,0⟩]) dep cells):=z;obtain⟨v1,a1,_,_⟩:=z;have p2:=Qm w1 lp 2 _ _ _ a1.blk;have pf:w1.frozen? ⟨lp,2,none⟩=false:=by simp[World.frozen?,a1.blk]
  by_cases hm:bn+1<=dep
  ·have i1:max (dep:Int) ((bn:Int)+1)=(dep:Int):=by omega
   have i2: ¬(dep:Int)<(bn:Int)+1:=by omega
   have EM:Hid (max dep (bn+1)=dep):=by show _=_;omega
   go_wp2
   go_end0
   refine⟨rfl,?_⟩;rw[EM.out];exact dG.dep HO.out dep
  ·have i1:max (dep:Int) ((bn:Int)+1)=(bn:Int)+1:=by omega
   have i3: ¬(bn:Int)+1<=(dep:Int):=by omega
   have EM:Hid (max dep (bn+1)=bn+1):=by show _=_;omega
   go_wp2
   go_end0
   refine⟨rfl,?_⟩;rw[EM.out];exact dG.dep HO.out (bn+1)
 ·have ai:t.kids.length=1:=by rw[D];rfl
  obtain⟨es,ed⟩:=MV (jmp:=jmp) (d:=d) E;rw[Ok E,ed];rw[es] at Z;obtain⟨g,cap,V⟩:=kL U (by omega)
  rw[ai] at V;have I:=HL (bn:=bn) (lz Y (j:=0) (by omega)) (HK 0 (by omega)) h (by omega) (by omega) ab
  obtain⟨_,c4,hg⟩:=V w h.bel;have q0:=hg 0 (by omega)
  have lA:=jA jmp d none (t.kid 0) l.length;rw[E] at c0;have HB:=Hi h;go_enter func133,ntmps133;go_wp2_with fail;apply I.mono;rintro e w1 ⟨rfl,z⟩;obtain⟨v1,h1,_,_,g1⟩:=HB.out.next z;have W2:=jE 12 0 h1.at_ (by rw[Qt,lA];omega)
  have ac:Hid _:= @g1;generalize (l++gE jmp d none (t.kid 0) l.length).length=ix at*;go_wp2_with fail;apply W2.mono;rintro e w2 ⟨rfl,G⟩;have aj:=Hi G;go_wp2;refine Qs (v:= .tuple #[]) (by simp[results,results133,go_sem]) rfl ?_
  refine⟨rfl,?_⟩;have hf:=ac.out aj.out;rw[QW] at hf;exact hf
 ·have I:=Ah HL HJ Y E hT h Z ah ab
  rw[E] at c0;go_enter func133,ntmps133;go_wp2_with fail;apply I.mono;rintro e w1 ⟨rfl,z⟩;have HO:=Hi z;go_wp2;refine Qs (v:= .tuple #[]) (by simp[results,results133,go_sem]) rfl ?_
  exact⟨rfl,HO.out⟩
 ·have J:t.k≠14:=by unfold fW at E;omega
  have O:t.k≠19:=by unfold fW at E;omega
  have R:t.kids.length=2:=by rw[D];rfl
  obtain⟨es,ed⟩:=MW (jmp:=jmp) (d:=d) J O R;rw[Ol J O R,ed];rw[es] at Z;obtain⟨g,cap,V⟩:=kL U (by omega)
  rw[R] at V;have FC:Hid (∀W,cI F w0 W->Cq W b 0 (Iq t.k)/\Cq W b 4 (Sq g 2 cap)/\Cq W g 0 (Pq (bl 0))/\Cq W g 1 (Pq (bl 1))):=λW hb=>⟨(V W hb).1,(V W hb).2.1,(V W hb).2.2 0 (by omega),(V W hb).2.2 1 (by omega)⟩
  have I:=HL (bn:=bn) (lz Y (j:=0) (by omega)) (HK 0 (by omega)) h (by omega) (by omega) ab
  have ak:=Hi (lz Y (j:=1) (by omega))
  have am:=Hi (HK 1 (by omega))
  obtain⟨_,c4,q0,_⟩:=FC.out w h.bel;have lA:=jA jmp d none (t.kid 0) l.length;have lB:=jA jmp d none (t.kid 1) (l.length+cZ jmp d none (t.kid 0));have av:=rj jmp d none (t.kid 0) bn;have W4:=λW=>Lf t.k E W
  have af:((t.k:Int)==14)=false:=by simp;omega
  have ag:((t.k:Int)==19)=false:=by simp;omega
  have HB:=Hi h;generalize t.k=k at*;go_enter func133,ntmps133;go_wp2_with fail;apply I.mono;rintro e w1 ⟨rfl,z⟩;obtain⟨v1,h1,_,_,g1⟩:=HB.out.next z;have W2:=HL (bn:=bn+1) ak.out am.out h1 (by rw[Qt,lA];omega) (by omega) (by omega)
  rw[Qt,lA] at W2;have an:=Hi W2;have eb:((bn+1:Nat):Int)=(bn:Int)+1:=by omega
  rw[eb] at W2;obtain⟨_,d4,_,d1⟩:=FC.out w1 h1.bel;have ac:Hid _:= @g1;have ao:=Hi h1;go_wp2_with fail;apply W2.mono;rintro e w2 ⟨rfl,G⟩;obtain⟨v2,h2,_,_,g2⟩:=ao.out.next G;have W3:=jE (mY k) 0 h2.at_ (by simp only[Qt,lA,lB];omega)
  obtain⟨e0,_,_,_⟩:=FC.out w2 h2.bel;have ap:Hid _:= @g2;generalize (l++gE jmp d none (t.kid 0) l.length++gE jmp d none (t.kid 1) (l.length+cZ jmp d none (t.kid 0))).length=ix at*;generalize ad:mY k=op at*;have aq:=Hi ad
  go_wp2_with (first
   |(go_at_call 180;refine(W4 _).mono ?_;rintro e w' ⟨rfl,ae⟩;have ar:=ae.symm;clear ae;subst ar)
   |fail)
  apply W3.mono;rintro e w3 ⟨rfl,aa⟩;have au:=Hi aa;go_wp2;refine Qs (v:= .tuple #[]) (by simp[results,results133,go_sem]) rfl ?_
  refine⟨rfl,?_⟩;have hf:=ac.out (ap.out au.out);rw[QW,QW] at hf;have em:max (max dep (fZ jmp d none (t.kid 0) bn)) (fZ jmp d none (t.kid 1) (bn+1))=max dep (max (fZ jmp d none (t.kid 0) bn) (fZ jmp d none (t.kid 1) (bn+1))):=by omega
  rw[em,<-aq.out] at hf;exact hf
end
end Go.Proofs.YtfkdailfcmnjlaaGreatDoor
