/-
  A part.
-/
import Derived.Test.YtfkdailfcmnjlaaGreatDoorCompiles01
set_option linter.all false
set_option maxHeartbeats 40000000
set_option maxRecDepth 1000000
namespace Go.Proofs.YtfkdailfcmnjlaaGreatDoor
variable {ts d n t i x L r s a b D E I J w O Z c k p R F G xs ys zs pol}
structure Sy where
 k:Nat
 text:List UInt8
 kids:List Sy
def Ky:Sy:=⟨0,[],[]⟩
def wd (t:Tok):Nat×List UInt8:=(t.k,t.text)
def Mt (ts:List Tok):Nat->List (Nat×List UInt8)->Prop
 |_,[]=>True
 |i,w::r=>wd (cr ts i)=w/\Mt ts (i+1) r
theorem Mt.left {ts} {a:List (Nat×LB)}:∀{i} {b:List (Nat×LB)},Mt ts i (a++b)->Mt ts i a:=by
 induction a with
 |nil=>intro i b _;trivial
 |cons w a ih=>intro i b h;exact⟨h.1,ih h.2⟩
theorem Mt.right {a:List (Nat×LB)}:∀{i} {b:List (Nat×LB)},Mt ts i (a++b)->Mt ts (i+a.length) b:=by
 induction a with
 |nil=>intro i b h;exact h
 |cons w a ih=>
  intro i b h;have:=ih h.2;rw[show i+(w::a).length=i+1+a.length from by simp;omega]
  exact this
def uG (t:Tok) (s:Sy):Prop:=t.k=s.k/\(if s.k=110 then dG t.text=dG s.text else t.text=s.text)
def mX:Nat->List Pt->Nat->Sy->Prop
 |0,_,_,_=>False
 |d+1,L,i,s=>i<L.length/\uG (L.getD i cD).tok s/\(L.getD i cD).subs.length=s.kids.length/\ ∀j,j<s.kids.length->mX d L ((L.getD i cD).subs.getD j 0) (s.kids.getD j Ky)
theorem mX.more:∀{L i s},mX d L i s-> ∀new,mX d (L++new) i s:=by
 induction d with
 |zero=>intro L i s h;exact h.elim
 |succ d ih=>
  intro L i s h new;obtain⟨E,z,h3,D⟩:=h;rw[<-gL E] at z h3 D;exact⟨by simp;omega,z,h3,λj G=>ih (D j G) new⟩
theorem mX.up:∀{L i s},mX d L i s->mX (d+1) L i s:=by
 induction d with
 |zero=>intro L i s h;exact h.elim
 |succ d ih=>intro L i s h;exact⟨h.1,h.2.1,h.2.2.1,λj z=>ih (h.2.2.2 j z)⟩
def cS:Nat->Sy->Nat
 |0,_=>0
 |d+1,s=>1+(s.kids.map (cS d)).sum
structure RA (d i n) (L) (s) (r:Rd):Prop where
 ok:r.ok=true
 at_:r.i=i+n
 new:∃new,r.L=L++new
 len:r.L.length=L.length+cS d s
 top:r.top+1=r.L.length
 is:mX d r.L r.top s
def Pa (n:Nat) (t:Tok):Prop:= ∀m,n<=m->di m->eX m t=false
theorem Pa.up (h:Pa n t):Pa (n+1) t:=λm D z=>h m (by omega) z
def jD (d n:Nat) (z:List (Nat×List UInt8)) (s:Sy):Prop:=
 ∀(ts:List Tok) (i:Nat) (L:List Pt) (x f:Nat) (r:Rd),Mt ts i z->Pa (if n=6 then 0 else n) (cr ts (i+z.length))->P f n ts i L x=some r->RA d i z.length L s r
def DW (w:Nat×List UInt8) (x:List UInt8):Bool:=(w.1==107||w.1==115)&&w.2==x
theorem jE {w:Nat×LB} (h:wd t=w) (x:LB):eE t x=DW w x:=by subst h;rfl
def Hd (E:List (Nat×List UInt8)):Prop:= ∃w r,E=w::r/\DW w iw=false/\DW w lT=false
theorem Hd.more {z:List (Nat×LB)} (h:Hd z) (m:List (Nat×LB)):Hd (z++m):=by
 obtain⟨w,r,rfl,h⟩:=h;exact⟨w,r++m,rfl,h⟩
theorem mw (h:P 0 n ts i L x=some r):False:=by rw[P] at h;cases h
theorem jD.chain {G:List (Nat×LB)} (z:di n) (h:jD d (n+1) G s):jD d n G s:=by
 intro ts i L x f r J E I;have O:n≠6:=by unfold di at z;omega
 have R:n+1≠6:=by unfold di at z;omega
 rw[RH O] at E;cases f with
 |zero=>exact(mw I).elim
 |succ f=>
  obtain⟨a,U,D⟩:=jd z I;have g:=h ts i L 0 f a J (by rw[RH R];exact E.up) U
  rcases D with⟨_,D⟩|⟨e,_⟩
  ·cases f with
   |zero=>exact(mw D).elim
   |succ f=>
    have:=om z D (by rw[g.at_];exact E n (RL _) z)
    subst this;exact⟨rfl,g.at_,g.new,g.len,g.top,g.is⟩
  rw[g.ok] at e;cases e
theorem jD.part {z:List (Nat×LB)} (G:Hd z) (h:jD d 3 z s):jD d 2 z s:=by
 intro ts i L x f r D I E;cases f with
 |zero=>exact(mw E).elim
 |succ f=>
  obtain⟨w,q,rfl,J,_⟩:=G;exact h ts i L 0 f r D I.up (rE E (by rw[jE D.1,J];simp))
theorem jD.cond {z:List (Nat×LB)} (G:∃w r,z=w::r/\DW w lT=false) (h:jD d 0 z s):jD d 6 z s:=by
 intro ts i L x f r D I E;cases f with
 |zero=>exact(mw E).elim
 |succ f=>
  obtain⟨w,q,rfl,J⟩:=G;exact h ts i L 0 f r D I (rF E (by rw[jE D.1,J];simp))
theorem Hd.if_ {z:List (Nat×LB)} (h:Hd z):∃w r,z=w::r/\DW w lT=false:=by
 obtain⟨w,r,e,_,h⟩:=h;exact⟨w,r,e,h⟩
theorem jD.to4 {z:List (Nat×LB)} (h:jD d 5 z s):jD d 4 z s:=h.chain (by simp[di])
theorem jD.to3 {z:List (Nat×LB)} (h:jD d 4 z s):jD d 3 z s:=h.chain (by simp[di])
theorem jD.to1 {z:List (Nat×LB)} (h:jD d 2 z s):jD d 1 z s:=h.chain (by simp[di])
theorem jD.to0 {z:List (Nat×LB)} (h:jD d 1 z s):jD d 0 z s:=h.chain (by simp[di])
theorem jD.out {D:List (Nat×LB)} (G:Hd D) (h:jD d 5 D s) (Y:n<=6):jD d n D s:=by
 have I:=h.to4;have h3:=I.to3;have J:=h3.part G;have O:=J.to1;have R:=O.to0;have Z:=R.cond G.if_;match n,Y with
 |0,_=>exact R
 |1,_=>exact O
 |2,_=>exact J
 |3,_=>exact h3
 |4,_=>exact I
 |5,_=>exact h
 |6,_=>exact Z
theorem jD.from_ {D:List (Nat×LB)} (z:Hd D) (E:di n) (h:jD d n D s):jD d 6 D s:=by
 rcases E with rfl|rfl|rfl|rfl
 ·exact h.cond z.if_
 ·exact h.to0.cond z.if_
 ·exact(h.part z).to1.to0.cond z.if_
 exact(h.to3.part z).to1.to0.cond z.if_
theorem jD.up {d n} {z:List (Nat×LB)} {s} (D:cS (d+1) s=cS d s) (h:jD d n z s):jD (d+1) n z s:=λts i L x f r E G I=>by
 have g:=h ts i L x f r E G I;exact⟨g.ok,g.at_,g.new,by rw[D];exact g.len,g.top,g.is.up⟩
theorem Bu {w:Nat×LB} (h:wd t=w) (n:Nat):eX n t=eX n ⟨w.1,w.2,0⟩:=by subst h;rfl
theorem Bv (E:di n) (h:eX n t=true):Pa (n+1) t:=by
 unfold eX at h;have z:0<=du (fY n) t.text:=by simp at h;exact h.1
 intro m O D;unfold di at E D;unfold eX;have J:du (fY m) t.text<0:=by
  rcases E with rfl|rfl|rfl|rfl
  ·have:t.text=[111,114]:=by
    unfold fY at z;simp only[Td] at z;unfold du at z;split at z
    ·rename_i e;simp at e;exact e.symm
    unfold du at z;simp at z
   rcases D with rfl|rfl|rfl|rfl<;>first|omega|(rw[this];decide)
  ·have:t.text=[97,110,100]:=by
    unfold fY at z;simp at z;unfold du at z;split at z
    ·rename_i e;simp at e;exact e.symm
    unfold du at z;simp at z
   rcases D with rfl|rfl|rfl|rfl<;>first|omega|(rw[this];decide)
  ·have:t.text=[61]\/t.text=[60]\/t.text=[60,61]:=by
    by_cases G:t.text=[61]
    ·exact .inl G
    by_cases I:t.text=[60]
    ·exact .inr (.inl I)
    by_cases h3:t.text=[60,61]
    ·exact .inr (.inr h3)
    exfalso;simp[fY,du,SY G,SY I,SY h3] at z
   rcases D with rfl|rfl|rfl|rfl<;>first|omega|(rcases this with e|e|e<;>(rw[e];decide))
  rcases D with rfl|rfl|rfl|rfl<;>omega
 have:decide (0<=du (fY m) t.text)=false:=by simp;omega
 rw[this];rfl
theorem Pb (I:uG t s) (z:s.kids=[D,E]) (J:mX d L a D) (O:mX d L b E):mX (d+1) (L++[⟨t,[a,b]⟩]) L.length s:=by
 refine⟨by simp,by rw[eI];exact I,by rw[eI,z];rfl,λj G=>?_⟩
 rw[eI,z];rw[z] at G;match j,G with
 |0,_=>exact J.more _
 |1,_=>exact O.more _
theorem jD.two {z E:List (Nat×LB)} (G:di n) (hw:eX n ⟨w.1,w.2,0⟩=true) (ha:jD d (n+1) z I) (hb:jD d (n+1) E J):jD (d+1) n (z++w::E) ⟨w.1,w.2,[I,J]⟩:=by
 intro ts i L x f r hm hj hP;have h6:n≠6:=by unfold di at G;omega
 have h5:n+1≠6:=by unfold di at G;omega
 have R:w.1≠110:=by unfold eX at hw;simp at hw;omega
 rw[RH h6] at hj;have aa:(z++w::E).length=z.length+1+E.length:=by simp;omega
 rw[aa] at hj⊢;have ac:=hm.left;obtain⟨U,ad⟩:=hm.right;have V:eX n (cr ts (i+z.length))=true:=by rw[Bu U];exact hw
 cases f with
 |zero=>exact(mw hP).elim
 |succ f=>
  obtain⟨a,ae,D⟩:=jd G hP;have g:=ha ts i L 0 f a ac (by rw[RH h5];exact Bv G V) ae
  rcases D with⟨_,D⟩|⟨e,_⟩
  ·cases f with
   |zero=>exact(mw D).elim
   |succ f=>
    rw[g.at_] at D;obtain⟨b,af,ag⟩:=nG G D V;have Y:Pa n (cr ts (i+z.length+1+E.length)):=by rw[show i+z.length+1+E.length=i+(z.length+1+E.length) from by omega];exact hj
    have q:=hb ts (i+z.length+1) a.L 0 f b ad (by rw[RH h5];exact Y.up) af
    have ah:uG (cr ts (i+z.length)) ⟨w.1,w.2,[I,J]⟩:=by
     have e:=U;unfold wd at e;refine⟨by rw[<-e],?_⟩
     show(if w.1=110 then _ else _);rw[RH R,<-e]
    obtain⟨na,ai⟩:=g.new;obtain⟨nb,Z⟩:=q.new;have ia:mX d b.L a.top I:=by rw[Z];exact g.is.more _
    have hI:=Pb ah rfl ia q.is;have hL:∃new,b.L++[⟨cr ts (i+z.length),[a.top,b.top]⟩]=L++new:=⟨na++nb++[⟨cr ts (i+z.length),[a.top,b.top]⟩],by rw[Z,ai];simp⟩
    have hc:(b.L++[(⟨cr ts (i+z.length),[a.top,b.top]⟩:Pt)]).length=L.length+cS (d+1) ⟨w.1,w.2,[I,J]⟩:=by
     simp[cS];rw[q.len,g.len];omega
    rcases ag with⟨e,_⟩|⟨_,⟨_,D⟩|⟨_,D⟩⟩
    ·rw[q.ok] at e;cases e
    ·subst D;exact⟨rfl,by show b.i=_;rw[q.at_];omega,hL,hc,by simp[lN],hI⟩
    cases f with
    |zero=>exact(mw D).elim
    |succ f=>
     have:=om G D (by rw[q.at_];exact Y n (RL _) G)
     subst this;exact⟨rfl,by show b.i=_;rw[q.at_];omega,hL,hc,by simp,hI⟩
  rw[g.ok] at e;cases e
theorem sr {n:Nat} (h:wd t=(115,[41])\/wd t=(115,[59])\/wd t=(107,iX)\/wd t=(107,iY)):Pa n t:=by
 intro m _ D;unfold di at D;rcases h with h|h|h|h<;>(rw[Bu h];rcases D with rfl|rfl|rfl|rfl<;>decide)
theorem jD.brackets {z:List (Nat×LB)} (h:jD d 6 z s):jD d 5 ((115,[40])::(z++[(115,[41])])) s:=by
 intro ts i L x f r I _ D;cases f with
 |zero=>exact(mw D).elim
 |succ f=>
  obtain⟨J,E⟩:=I;obtain⟨h3,_⟩:=E.right;obtain⟨a,O,R⟩:=mr D (by rw[jE J];rfl)
  have g:=h ts (i+1) L 0 f a E.left (sr (.inl h3)) O;have G:eE (cr ts a.i) [41]=true:=by rw[g.at_,jE h3];rfl
  rcases R with⟨_,_,rfl⟩|⟨U,_⟩
  ·exact⟨g.ok,by show a.i+1=_;rw[g.at_];simp;omega,g.new,g.len,g.top,g.is⟩
  exact absurd ⟨g.ok,G⟩ U
theorem pB (z:List (Nat×LB)):Hd ((115,[40])::z):=⟨_,_,rfl,by decide,by decide⟩
theorem jD.not_ {z:List (Nat×LB)} (h:jD d 2 z s):jD (d+1) 2 ((107,iw)::z) ⟨107,iw,[s]⟩:=by
 intro ts i L x f r R U E;cases f with
 |zero=>exact(mw E).elim
 |succ f=>
  obtain⟨G,V⟩:=R;obtain⟨a,Y,ok,hi,Z⟩:=oj E (by rw[jE G];rfl)
  have g:=h ts (i+1) L 0 f a V (by rw[show i+1+z.length=i+((107,iw)::z).length from by simp;omega];exact U) Y
  have:=Z g.ok;subst this;obtain⟨na,I⟩:=g.new;refine⟨rfl,by show a.i=_;rw[g.at_];simp;omega,⟨na++[Pt.mk (cr ts i) [a.top]],by show a.L++_=_;rw[I];simp⟩,by simp[lN,cS];rw[g.len];omega,by simp[lN],?_⟩
  refine⟨by simp[lN],?_,?_,λj J=>?_⟩
  ·show uG ((a.L++[Pt.mk (cr ts i) [a.top]]).getD a.L.length cD).tok _;rw[eI];have e:=G;unfold wd at e;exact⟨by have:=Te Prod.fst e;exact this,by rw[RH (by show ¬107=110;decide)];have:=Te Prod.snd e;exact this⟩
  ·show((a.L++[Pt.mk (cr ts i) [a.top]]).getD a.L.length cD).subs.length=_;rw[eI];rfl
  show mX d (a.L++[Pt.mk (cr ts i) [a.top]]) (((a.L++[Pt.mk (cr ts i) [a.top]]).getD a.L.length cD).subs.getD j 0) _;rw[eI];match j,J with
  |0,_=>exact g.is.more _
theorem jD.if_ {z D E:List (Nat×LB)} (ha:jD d 6 z J) (hb:jD d 6 D O) (hc:jD d 6 E Z):jD (d+1) 6 ((107,lT)::(z++(107,iX)::(D++(107,iY)::E))) ⟨107,lT,[J,O,Z]⟩:=by
 intro ts i L x f r hm hj hP;have R:((107,lT)::(z++(107,iX)::(D++(107,iY)::E))).length=1+z.length+1+D.length+1+E.length:=by simp;omega
 rw[R] at hj⊢;cases f with
 |zero=>exact(mw hP).elim
 |succ f=>
  obtain⟨h1,h2⟩:=hm;have ma:=h2.left;obtain⟨h3,h4⟩:=h2.right;have mb:=h4.left;obtain⟨h5,mc⟩:=h4.right;obtain⟨a,b,c,pa,U,V,ok,hi,hr⟩:=mq hP (by rw[jE h1];rfl)
  have g:=ha ts (i+1) L 0 f a ma (sr (.inr (.inr (.inl h3)))) pa;unfold Nx at U V;rw[RK ⟨g.ok,by rw[g.at_,jE h3];rfl⟩,g.at_] at U
  have q:=hb ts _ a.L 0 f b mb (sr (.inr (.inr (.inr h5)))) U;rw[RK ⟨q.ok,by rw[q.at_,jE h5];rfl⟩,q.at_] at V
  have u:=hc ts _ b.L 0 f c mc (by rw[show i+1+z.length+1+D.length+1+E.length=i+(1+z.length+1+D.length+1+E.length) from by omega];exact hj) V
  obtain⟨_,_,rfl⟩:=hr u.ok;obtain⟨na,aa⟩:=g.new;obtain⟨ab,I⟩:=q.new;obtain⟨ac,G⟩:=u.new;have ia:mX d c.L a.top J:=by rw[G,I];exact(g.is.more _).more _
  have ib:mX d c.L b.top O:=by rw[G];exact q.is.more _
  refine⟨rfl,by show c.i=_;rw[u.at_];omega,⟨na++ab++ac++[Pt.mk (cr ts i) [a.top,b.top,c.top]],by show c.L++_=_;rw[G,I,aa];simp⟩,by simp[lN,cS];rw[u.len,q.len,g.len];omega,by simp[lN],?_⟩
  refine⟨by simp[lN],?_,?_,λj ad=>?_⟩
  ·show uG ((c.L++[Pt.mk (cr ts i) [a.top,b.top,c.top]]).getD c.L.length cD).tok _;rw[eI];have e:=h1;unfold wd at e;exact⟨by have:=Te Prod.fst e;exact this,by rw[RH (by show ¬107=110;decide)];have:=Te Prod.snd e;exact this⟩
  ·show((c.L++[Pt.mk (cr ts i) [a.top,b.top,c.top]]).getD c.L.length cD).subs.length=_;rw[eI];rfl
  show mX d (c.L++[Pt.mk (cr ts i) [a.top,b.top,c.top]]) (((c.L++[Pt.mk (cr ts i) [a.top,b.top,c.top]]).getD c.L.length cD).subs.getD j 0) _;rw[eI];match j,ad with
  |0,_=>exact ia.more _
  |1,_=>exact ib.more _
  |2,_=>exact u.is.more _
theorem jD.one {w:Nat×LB} (D:dP ⟨w.1,w.2,0⟩=true) (E:s.kids=[]) (V:uG ⟨w.1,w.2,0⟩ s):jD (d+1) 5 [w] s:=by
 intro ts i L x f r Y _ I;cases f with
 |zero=>exact(mw I).elim
 |succ f=>
  obtain⟨z,_⟩:=Y;have e:dP (cr ts i)=true:=by subst z;exact D
  have J: ¬eE (cr ts i) [40]=true:=by
   rw[jE z];intro h;unfold DW at h;unfold dP at D;simp only[TA,Uh] at h;rw[h.2] at D;revert D;have z:=h.1;simp at z;rcases z with z|z<;>rw[z]<;>decide
  rcases kQ I J with⟨_,rfl⟩|⟨O,_⟩
  ·refine⟨rfl,rfl,⟨_,rfl⟩,by simp[cS,E],by simp,by simp,?_,?_,λj R=>?_⟩
   ·show uG ((L++[Pt.mk (cr ts i) []]).getD L.length cD).tok _;rw[eI];subst z;exact V
   ·show((L++[Pt.mk (cr ts i) []]).getD L.length cD).subs.length=_;rw[eI,E];rfl
   rw[E] at R;exact absurd R (by simp)
  rw[e] at O;cases O
theorem DX {w:Nat×List UInt8} (D:dP ⟨w.1,w.2,0⟩=true):Hd [w]:=by
 refine⟨w,[],rfl,?_,?_⟩<;>
 ·rw[Tv]
  intro h;unfold DW at h;unfold dP at D;simp only[TA,Uh] at h;rw[h.2] at D
  revert D
  have z:=h.1;simp at z;rcases z with z|z<;>rw[z]<;>decide
def mx (s:List UInt8):Option (Nat×List UInt8):=
 if s.takeWhile im≠[] then(if big (s.takeWhile im) then none else some (110,s.takeWhile im))
 else if s.takeWhile ig≠[] then
  (if ml (s.takeWhile ig) then some (107,s.takeWhile ig)
   else if(s.takeWhile ig).length<=8 then some (111,s.takeWhile ig) else none)
 else match s with
  |[]=>none
  |c::r=>
   if c.toNat=60 then(if(r.getD 0 0).toNat=61 then some (115,[60,61]) else some (115,[60]))
   else if c.toNat=40\/c.toNat=41\/c.toNat=59\/c.toNat=43\/c.toNat=45\/c.toNat=61 then some (115,[c])
   else none
theorem yI (p) (l:LB) (a:Nat):cut l a (de p l a)=(l.drop a).takeWhile p:=by
 unfold cut de;rw[U5];generalize l.drop a=s;induction s with
 |nil=>rfl
 |cons c s ih=>
  by_cases h:p c=true
  ·rw[Tg h];simp[ih]
  rw[S0 h];rfl
theorem uH (l:LB) (a:Nat):fv l a=(mx (l.drop a)).map λw=>⟨w.1,w.2,a⟩:=by
 unfold fv mx;rw[yI,yI];have z:∀p,(a<de p l a)↔(l.drop a).takeWhile p≠[]:=λp=>by
  unfold de;rw[<-Uq];omega
 have G:∀p,de p l a - a=((l.drop a).takeWhile p).length:=λp=>by unfold de;omega
 rw[G];by_cases D:a<de im l a
 ·rw[RK D,RK ((z _).1 D)];split<;>rfl
 rw[RH D,RH (λh=>D ((z _).2 h))]
 by_cases E:a<de ig l a
 ·rw[RK E,RK ((z _).1 E)];split
  ·rfl
  split<;>rfl
 rw[RH E,RH (λh=>E ((z _).2 h))]
 have I:l[a]?=(l.drop a)[0]?:=by rw[TN];rfl
 have J:l.getD (a+1) 0=(l.drop a).getD 1 0:=by rw[RG,RG,TN]
 rw[I,J];cases l.drop a with
 |nil=>rfl
 |cons c r=>
  simp only[RZ,R9];repeat' split
  all_goals rfl
def lx:Nat->List UInt8->Option (List (Nat×List UInt8))
 |0,_=>none
 |f+1,l=>
  if l.dropWhile jB=[] then some []
  else match mx (l.dropWhile jB) with
   |none=>none
   |some w=>(lx f ((l.dropWhile jB).drop w.2.length)).map λr=>w::r
theorem G2 (p) (l:LB) (a:Nat):l.drop (de p l a)=(l.drop a).dropWhile p:=by
 unfold de;rw[<-List.drop_drop];generalize l.drop a=s;induction s with
 |nil=>rfl
 |cons c s ih=>
  by_cases h:p c=true
  ·rw[Tg h,UQ h];simpa using ih
  rw[S0 h,UR h];rfl
theorem Pc (l:LB) (f:Nat):∀a (z:List (Nat×LB)),lx f (l.drop a)=some z-> ∃ts,jQ f l a=(ts,none)/\ts.map wd=z++[(101,[])]:=by
 induction f with
 |zero=>intro a z h;cases h
 |succ f ih=>
  intro a z h;rw[lx,<-G2] at h;rw[jQ];by_cases D:l.drop (de jB l a)=[]
  ·rw[RK D] at h;rw[RK (List.drop_eq_nil_iff.1 D)];simp at h;subst h;exact⟨_,rfl,rfl⟩
  rw[RH D] at h;rw[RH (λe=>D (List.drop_eq_nil_iff.2 e)),uH]
  cases G:mx (l.drop (de jB l a)) with
  |none=>rw[G] at h;cases h
  |some w=>
   rw[G] at h;simp only[Su] at h;obtain⟨r,I,rfl⟩:=h;rw[List.drop_drop] at I;obtain⟨ts,V,Y⟩:=ih _ _ I;simp only[TH];rw[V];exact⟨_,rfl,by rw[Sa,Y];rfl⟩
def LX (l:List UInt8) (G:List (Nat×List UInt8)):Prop:= ∀f,l.length<f->lx f l=some G
def OK (s:List UInt8):Prop:= ∀c r,s=c::r->im c=false/\ig c=false
theorem LX.nil:LX [] []:=λf h=>by
 obtain⟨f,rfl⟩:∃g,f=g+1:=⟨f - 1,by simp at h;omega⟩
 rfl
theorem Kz (z:jB c=true) (f) (s:LB):lx (f+1) (c::s)=lx (f+1) s:=by
 rw[lx,lx,UQ z]
theorem LX.blank (D:jB c=true) {s:LB} {z:List (Nat×LB)} (h:LX s z):LX (c::s) z:=λf E=>by
 obtain⟨f,rfl⟩:∃g,f=g+1:=⟨f - 1,by omega⟩
 rw[Kz D];exact h _ (by simp at E;omega)
theorem LX.word {s w:LB} {z:List (Nat×LB)} (h:LX s z) (I:∀c r,w++s=c::r->jB c=false) (J:mx (w++s)=some (k,w)) (D:w≠[]):LX (w++s) ((k,w)::z):=λf O=>by
 obtain⟨f,rfl⟩:∃g,f=g+1:=⟨f - 1,by omega⟩
 have R:(w++s).dropWhile jB=w++s:=by
  cases e:w++s with
  |nil=>rfl
  |cons c r=>rw[UR];rw[I c r e];simp
 have V:=Uq.2 D;rw[lx,R,RH (by simp[D]),J]
 simp only[];rw[List.drop_left,h f (by simp at O;omega)]
 rfl
theorem KC {w s:LB} (z:∀c∈w,p c=true) (D:∀c r,s=c::r->p c=false):(w++s).takeWhile p=w:=by
 induction w with
 |nil=>
  cases s with
  |nil=>rfl
  |cons c r=>rw[Tp,S0];rw[D c r rfl];simp
 |cons c w ih=>
  rw[T7,Tg (z c (by simp)),ih (λd E=>z d (by simp[E]))]
theorem vV {s:LB} (h:p c=false):(c::s).takeWhile p=[]:=by
 rw[S0];rw[h];simp
theorem vW {c:UInt8} (h:ig c=true):im c=false/\jB c=false:=by
 simp[ig] at h;constructor
 ·simp[im];omega
 simp[jB];omega
theorem G3 {c:UInt8} (h:im c=true):ig c=false/\jB c=false:=by
 simp[im] at h;constructor
 ·simp[ig];omega
 simp[jB];omega
theorem LX.letters {s w:LB} {E:List (Nat×LB)} (h:LX s E) (J:OK s) (O:w≠[]) (G:∀c∈w,ig c=true) (R:(ml w=true/\k=107)\/(ml w=false/\w.length<=8/\k=111)):LX (w++s) ((k,w)::E):=by
 obtain⟨c,r,rfl⟩:∃c r,w=c::r:=by cases w with
  |nil=>exact absurd rfl O
  |cons c r=>exact⟨c,r,rfl⟩
 have I:=G c (by simp)
 refine h.word (λd q e=>?_) ?_ (by simp)
 ·simp at e;rw[<-e.1];exact(vW I).2
 unfold mx;rw[KC G (λd q e=>(J d q e).2)]
 rw[show(c::r++s).takeWhile im=[] from vV (vW I).1];rw[RH (by simp),RK (by simp)]
 rcases R with⟨z,rfl⟩|⟨z,U,rfl⟩
 ·rw[RK z]
 rw[RH (by rw[z];simp),RK U]
theorem LX.digits {s w:LB} {D:List (Nat×LB)} (h:LX s D) (G:OK s) (I:w≠[]) (E:∀c∈w,im c=true) (O:dG w<=9223372036854775807):LX (w++s) ((110,w)::D):=by
 obtain⟨c,r,rfl⟩:∃c r,w=c::r:=by cases w with
  |nil=>exact absurd rfl I
  |cons c r=>exact⟨c,r,rfl⟩
 have J:=E c (by simp)
 refine h.word (λd q e=>?_) ?_ (by simp)
 ·simp at e;rw[<-e.1];exact(G3 J).2
 unfold mx;rw[KC E (λd q e=>(G d q e).1),RK (by simp),RH]
 unfold big;simp;omega
theorem LX.sign {s:LB} {z:List (Nat×LB)} (h:LX s z) (E:c.toNat=40\/c.toNat=41\/c.toNat=59\/c.toNat=43\/c.toNat=45\/c.toNat=61):LX (c::s) ((115,[c])::z):=by
 refine h.word (w:=[c]) (λd q e=>?_) ?_ (by simp)
 ·simp at e;rw[<-e.1];simp[jB];omega
 show mx (c::s)=_;unfold mx;rw[vV (by simp[im];omega),vV (by simp[ig];omega),RH (by simp),RH (by simp)]
 show(if c.toNat=60 then _ else _)=_;rw[RH (by omega),RK E]
theorem LX.less {s:LB} {z:List (Nat×LB)} (h:LX s z) (D:∀c r,s=c::r->c.toNat≠61):LX (60::s) ((115,[60])::z):=by
 refine h.word (w:=[60]) (λd q e=>?_) ?_ (by simp)
 ·simp at e;rw[<-e.1];decide
 show mx (60::s)=_;unfold mx;rw[vV (by decide),vV (by decide),RH (by simp),RH (by simp)]
 show(if(60:UInt8).toNat=60 then(if(s.getD 0 0).toNat=61 then _ else _) else _)=_;rw[RK (by decide),RH]
 cases s with
 |nil=>decide
 |cons c r=>exact D c r rfl
theorem LX.atMost {s:LB} {z:List (Nat×LB)} (h:LX s z):LX (60::61::s) ((115,[60,61])::z):=by
 refine h.word (w:=[60,61]) (λd q e=>?_) ?_ (by simp)
 ·simp at e;rw[<-e.1];decide
 show mx (60::61::s)=_;unfold mx;rw[vV (by decide),vV (by decide),RH (by simp),RH (by simp)]
 rfl
theorem vX (h:im c=false/\ig c=false) (s:LB):OK (c::s):=λd r e=>by
 simp at e;rw[<-e.1];exact h
def vY:List (List UInt8):=dw++dz++[mn,mo]
def qX:List (Nat×List UInt8):=[(107,[111,114]),(107,[97,110,100]),(115,[61]),(115,[60]),(115,[60,61]),(115,[43]),(115,[45])]
def RB (s:Sy):Prop:=(s.k=110/\dG s.text<=9223372036854775807)\/(s.k=111/\s.text≠[]/\(∀c∈s.text,ig c=true)/\ml s.text=false/\s.text.length<=8)\/(s.k=107/\s.text∈vY)
def Nl:Nat->Sy->Prop
 |0,_=>False
 |d+1,s=>((s.kids=[]/\RB s)\/(s.k=107/\s.text=iw/\s.kids.length=1)\/(s.k=107/\s.text=lT/\s.kids.length=3)\/((s.k,s.text)∈qX/\s.kids.length=2))/\ ∀c∈s.kids,Nl d c
def fC:Nat->Sy->List UInt8
 |0,_=>[]
 |d+1,s=>if s.k=110 then pz (dG s.text) else pA s.text (s.kids.map (fC d))
def rI (w:Nat×List UInt8):List (List (Nat×List UInt8))->List (Nat×List UInt8)
 |[]=>[w]
 |[a]=>(115,[40])::(((107,iw)::a)++[(115,[41])])
 |[a,b]=>(115,[40])::((a++w::b)++[(115,[41])])
 |a::b::c::_=>(115,[40])::(((107,lT)::(a++(107,iX)::(b++(107,iY)::c)))++[(115,[41])])
def iz:Nat->Sy->List (Nat×List UInt8)
 |0,_=>[]
 |d+1,s=>if s.k=110 then[(110,pz (dG s.text))] else rI (s.k,s.text) (s.kids.map (iz d))
theorem Bw {n:Nat} (h:n<256):(UInt8.ofNat n).toNat=n:=by simp;omega
theorem KH (l:LB) (c:UInt8):dG (l++[c])=dG l*10+(c.toNat - 48):=by unfold dG;rw[Tl];rfl
theorem Nn (f:Nat):∀n,n<10^f->0<f->(∀c∈jZ f n,im c=true)/\dG (jZ f n)=n/\jZ f n≠[]:=by
 induction f with
 |zero=>intro n _ h;omega
 |succ f ih=>
  intro n D _;rw[jZ];by_cases h:n<10
  ·rw[RK h];have e:(UInt8.ofNat (48+n)).toNat=48+n:=Bw (by omega)
   refine⟨λc z=>?_,?_,by simp⟩
   ·simp only[Sm,SJ,T2] at z;subst z;unfold im;rw[e];simp;omega
   unfold dG;simp only[To,List.foldl_nil];rw[e];omega
  rw[RH h];rw[UT] at D;have E:0<f:=by
   rcases UU f with rfl|G
   ·simp at D;omega
   exact G
  obtain⟨I,J,h3⟩:=ih (n / 10) (by omega) E
  have e:(UInt8.ofNat (48+n %10)).toNat=48+n %10:=Bw (by omega)
  refine⟨λc z=>?_,?_,by simp⟩
  ·rw[SV] at z;rcases z with z|z
   ·exact I c z
   simp only[Sm,SJ,T2] at z;subst z;unfold im;rw[e];simp;omega
  rw[KH,J,e];omega
theorem Bx {n:Nat} (h:n<=9223372036854775807):(∀c∈pz n,im c=true)/\dG (pz n)=n/\pz n≠[]:=by
 have:10^20=100000000000000000000:=by decide
 exact Nn 20 n (by omega) (by decide)
theorem yJ:∀x∈vY,x≠[]/\(∀c∈x,ig c=true)/\ml x=true/\dP ⟨107,x,0⟩=true:=by decide
theorem Ge {α:Type} {l:List α} (h:l.length=1):∃a,l=[a]:=Tu.1 h
theorem Gf {α:Type} {l:List α} (h:l.length=2):∃a b,l=[a,b]:=by
 match l,h with
 |[a,b],_=>exact⟨a,b,rfl⟩
theorem yK {α:Type} {l:List α} (h:l.length=3):∃a b c,l=[a,b,c]:=by
 match l,h with
 |[a,b,c],_=>exact⟨a,b,c,rfl⟩
theorem KI {w:Nat×LB} (z:w∈qX) {s:LB} {D:List (Nat×LB)} (h:LX s D) (E:OK s) (G:∀c r,s=c::r->c.toNat≠61):LX (w.2++s) (w::D):=by
 simp only[qX,Sm,SJ,T2] at z;rcases z with rfl|rfl|rfl|rfl|rfl|rfl|rfl
 ·exact h.letters E (by decide) (by decide) (.inl ⟨by decide,rfl⟩)
 ·exact h.letters E (by decide) (by decide) (.inl ⟨by decide,rfl⟩)
 ·exact h.sign (by decide)
 ·exact h.less G
 ·exact h.atMost
 ·exact h.sign (by decide)
 exact h.sign (by decide)
theorem gx (s:LB):OK (32::s):=vX (by decide) s
theorem vZ (s:LB):OK (41::s):=vX (by decide) s
theorem LX.sp {s:LB} {z:List (Nat×LB)} (h:LX s z):LX (32::s) z:=h.blank (by decide)
theorem LX.opn {s:LB} {z:List (Nat×LB)} (h:LX s z):LX (40::s) ((115,[40])::z):=h.sign (by decide)
theorem LX.shut {s:LB} {z:List (Nat×LB)} (h:LX s z):LX (41::s) ((115,[41])::z):=h.sign (by decide)
theorem LX.kw {s:LB} {z:List (Nat×LB)} (h:LX s z) (D:OK s) (w:LB) (E:w∈vY++lS):LX (w++s) ((107,w)::z):=by
 have:∀w∈vY++lS,w≠[]/\(∀c∈w,ig c=true)/\ml w=true:=by decide
 obtain⟨G,I,h3⟩:=this w E;exact h.letters D G I (.inl ⟨h3,rfl⟩)
theorem G4 (d):∀{s},Nl d s-> ∀{rest:LB} {D:List (Nat×LB)},LX rest D->OK rest->LX (fC d s++rest) (iz d s++D):=by
 induction d with
 |zero=>intro s h;exact h.elim
 |succ d ih=>
  intro s h rest D I R;obtain⟨Y,E⟩:=h;rw[fC,iz];by_cases z:s.k=110
  ·rw[RK z,RK z];have Z:dG s.text<=9223372036854775807:=by
    rcases Y with⟨_,⟨_,h⟩|⟨e,_⟩|⟨e,_⟩⟩|⟨e,_⟩|⟨e,_⟩|⟨e,_⟩
    ·exact h
    ·omega
    ·omega
    ·omega
    ·omega
    rw[z] at e;simp[qX] at e
   obtain⟨t1,t2,t3⟩:=Bx Z;exact I.digits R t3 t1 (by rw[t2];exact Z)
  rw[RH z,RH z];rcases Y with⟨hn,G⟩|⟨e1,e2,G⟩|⟨e1,e2,G⟩|⟨hw,G⟩
  ·rw[hn];show LX (s.text++rest) ((s.k,s.text)::D);rcases G with⟨e,_⟩|⟨e,U,h2,h3,h4⟩|⟨e,U⟩
   ·exact absurd e z
   ·rw[e];exact I.letters R U h2 (.inr ⟨h3,h4,rfl⟩)
   rw[e];obtain⟨g1,g2,g3,_⟩:=yJ _ U;exact I.letters R g1 g2 (.inl ⟨g3,rfl⟩)
  ·obtain⟨a,J⟩:=Ge G;rw[J] at E⊢;have O:=E a (by simp)
   show LX (uF++fC d a++[41]++rest) _;rw[show uF++fC d a++[41]++rest=40::(iw++(32::(fC d a++(41::rest)))) from by simp[uF,iw]]
   rw[show rI (s.k,s.text) (List.map (iz d) [a])++D=(115,[40])::((107,iw)::(iz d a++((115,[41])::D))) from by simp[rI]]
   exact(((ih O I.shut (vZ _)).sp).kw (gx _) iw (by decide)).opn
  ·obtain⟨a,b,c,J⟩:=yK G;rw[J] at E⊢;have O:=E a (by simp)
   have kb:=E b (by simp)
   have kc:=E c (by simp)
   show LX (ve++fC d a++mu++fC d b++ow++fC d c++[41]++rest) _;rw[show ve++fC d a++mu++fC d b++ow++fC d c++[41]++rest=40::(lT++(32::(fC d a++(32::(iX++(32::(fC d b++(32::(iY++(32::(fC d c++(41::rest)))))))))))) from by simp[ve,mu,ow,lT,iX,iY]]
   rw[show rI (s.k,s.text) (List.map (iz d) [a,b,c])++D=(115,[40])::((107,lT)::(iz d a++((107,iX)::(iz d b++((107,iY)::(iz d c++((115,[41])::D))))))) from by simp[rI]]
   exact((ih O ((ih kb ((ih kc I.shut (vZ _)).sp.kw (gx _) iY (by decide)).sp (gx _)).sp.kw (gx _) iX (by decide)).sp (gx _)).sp.kw (gx _) lT (by decide)).opn
  obtain⟨a,b,J⟩:=Gf G;rw[J] at E⊢;have O:=E a (by simp)
  have kb:=E b (by simp)
  show LX ([40]++fC d a++[32]++s.text++[32]++fC d b++[41]++rest) _;rw[show[40]++fC d a++[32]++s.text++[32]++fC d b++[41]++rest=40::(fC d a++(32::(s.text++(32::(fC d b++(41::rest)))))) from by simp]
  rw[show rI (s.k,s.text) (List.map (iz d) [a,b])++D=(115,[40])::(iz d a++((s.k,s.text)::(iz d b++((115,[41])::D)))) from by simp[rI]]
  refine(ih O (LX.sp ?_) (gx _)).opn;exact KI hw (ih kb I.shut (vZ _)).sp (gx _) (λc r e=>by simp at e;rw[<-e.1];decide)
theorem G5 {w:Nat×LB} (D:w∈qX):∃n,di n/\eX n ⟨w.1,w.2,0⟩=true:=by
 simp only[qX,Sm,SJ,T2] at D;rcases D with rfl|rfl|rfl|rfl|rfl|rfl|rfl
 ·exact⟨0,.inl rfl,by decide⟩
 ·exact⟨1,.inr (.inl rfl),by decide⟩
 ·exact⟨3,.inr (.inr (.inl rfl)),by decide⟩
 ·exact⟨3,.inr (.inr (.inl rfl)),by decide⟩
 ·exact⟨3,.inr (.inr (.inl rfl)),by decide⟩
 ·exact⟨4,.inr (.inr (.inr rfl)),by decide⟩
 exact⟨4,.inr (.inr (.inr rfl)),by decide⟩
theorem jD.both {E G:List (Nat×LB)} {w:Nat×LB} (hw:w∈qX) (ha:jD d 5 E O) (D:Hd E) (hb:jD d 5 G R) (U:Hd G):jD (d+1) 6 (E++w::G) ⟨w.1,w.2,[O,R]⟩:=by
 obtain⟨n,I,hj⟩:=G5 hw;have V:n+1<=6:=by unfold di at I;omega
 exact(jD.two I hj (ha.out D V) (hb.out U V)).from_ (D.more _) I
theorem jD.nots {z:List (Nat×LB)} (h:jD d 5 z s) (D:Hd z):jD (d+1) 6 ((107,iw)::z) ⟨107,iw,[s]⟩:=
 (h.out D (by omega)).not_.to1.to0.cond ⟨_,_,rfl,by decide⟩
theorem KJ (d):∀{s:Sy},Nl d s->jD d 5 (iz d s) s/\Hd (iz d s):=by
 induction d with
 |zero=>intro s h;exact h.elim
 |succ d ih=>
  intro s h;obtain⟨V,E⟩:=h;obtain⟨k,D,ad⟩:=s;simp only[] at V E;rw[iz];simp only[];rcases V with⟨hn,G⟩|⟨J,O,G⟩|⟨J,O,G⟩|⟨Y,G⟩
  ·subst hn;rcases G with⟨e,hv⟩|⟨e,Z,h2,h3,h4⟩|⟨e,Z⟩
   ·simp only[] at e;subst e;rw[RK rfl];have z:dP ⟨110,pz (dG D),0⟩=true:=rfl;exact⟨jD.one z rfl ⟨rfl,by rw[RK rfl];exact(Bx hv).2.1⟩,DX z⟩
   ·simp only[] at e;subst e;rw[RH (by decide)]
    have z:dP ⟨111,D,0⟩=true:=rfl;exact⟨jD.one z rfl ⟨rfl,by rw[RH (by show ¬111=110;decide)]⟩,DX z⟩
   simp only[] at e;subst e;rw[RH (by decide)]
   have z:=(yJ _ Z).2.2.2;exact⟨jD.one z rfl ⟨rfl,by rw[RH (by show ¬107=110;decide)]⟩,DX z⟩
  ·subst J O;obtain⟨a,rfl⟩:=Ge G;obtain⟨I,z⟩:=ih (E a (by simp))
   rw[RH (by decide)]
   exact⟨(I.nots z).brackets,pB _⟩
  ·subst J O;obtain⟨a,b,c,rfl⟩:=yK G;obtain⟨I,z⟩:=ih (E a (by simp))
   obtain⟨rb,R⟩:=ih (E b (by simp))
   obtain⟨rc,hc⟩:=ih (E c (by simp))
   rw[RH (by decide)]
   exact⟨(jD.if_ (I.out z (RL 6)) (rb.out R (RL 6)) (rc.out hc (RL 6))).brackets,pB _⟩
  obtain⟨a,b,rfl⟩:=Gf G;obtain⟨I,z⟩:=ih (E a (by simp))
  obtain⟨rb,R⟩:=ih (E b (by simp))
  rw[RH (by rintro rfl;simp[qX] at Y)]
  exact⟨(jD.both Y I z rb R).brackets,pB _⟩
structure qY where
 name:List UInt8
 allow:Bool
 sy:Sy
def hW (s:qY):List (Nat×List UInt8):=if s.name=[] then[(107,if s.allow then gB else nF),(107,lT)] else[(107,vO),(111,s.name),(115,[61])]
def uI (p:qY×List (Nat×List UInt8)):List (Nat×List UInt8):=hW p.1++(p.2++[(115,[59])])
structure Qs (d i n) (L) (s:qY) (r:vP):Prop where
 ok:r.ok=true
 at_:r.i=i+n
 new:∃new,r.L=L++new
 len:r.L.length=L.length+cS d s.sy
 name:r.it.name=s.name
 allow:r.it.allow=s.allow
 top:r.it.top+1=r.it.parts
 parts:r.it.parts=r.L.length
 is:mX d r.L r.it.top s.sy
theorem By {c:List (Nat×LB)} (G:jD d 6 c s.sy) (D:Mt ts i (c++[(115,[59])])) (I:x.name=s.name) (J:x.allow=s.allow) (h:fB F ts i L x=some r):Qs d i (c.length+1) L s r:=by
 unfold fB at h;cases z:P F 6 ts i L 0 with
 |none=>rw[z] at h;cases h
 |some a=>
  rw[z] at h;simp only[] at h;obtain⟨E,_⟩:=D.right;have g:=G ts i L 0 F a D.left (sr (.inr (.inl E))) z;rw[RK g.ok,RK (by rw[g.at_,jE E];rfl)] at h
  simp at h;subst h;exact⟨rfl,by show a.i+1=_;rw[g.at_];omega,g.new,g.len,I,J,g.top,rfl,g.is⟩
theorem KK {c:List (Nat×LB)} (I:jD d 6 c s.sy) (O:s.name≠[]->s.allow=false) (D:Mt ts i (uI (s,c))) (h:gI F ts i L=some r):Qs d i (uI (s,c)).length L s r:=by
 unfold uI hW at*;simp only[] at*;unfold gI at h;by_cases E:s.name=[]
 ·rw[RK E] at D⊢;obtain⟨z,G,h3⟩:=D;have R:eE (cr ts i) vO=false:=by rw[jE z];cases s.allow<;>rfl
  have J:(eE (cr ts i) gB||eE (cr ts i) nF)=true:=by rw[jE z,jE z];cases s.allow<;>rfl
  rw[R,RH (by simp),RK J,RK (by rw[jE G];rfl)] at h
  have g:=By I h3 (by exact E.symm) (by
   show((cr ts i).text==gB)=s.allow;have:(cr ts i).text=(if s.allow=true then gB else nF):=Te Prod.snd z;rw[this];cases s.allow<;>rfl) h
  refine⟨g.ok,?_,g.new,g.len,g.name,g.allow,g.top,g.parts,g.is⟩;rw[g.at_];simp;omega
 rw[RH E] at D⊢;obtain⟨z,G,h3,U⟩:=D;rw[RK (by rw[jE z];rfl)] at h
 have V:(cr ts (i+1)).k=111:=Te Prod.fst G;have Y:=Te Prod.snd G;rw[RK V,RK (by rw[jE h3];rfl)] at h
 have g:=By I U (by exact Y) (O E).symm h
 refine⟨g.ok,?_,g.new,g.len,g.name,g.allow,g.top,g.parts,g.is⟩;rw[g.at_];simp;omega
def nh (d:Nat) (L:List Pt):List dk->List qY->Nat->Prop
 |[],[],fr=>L.length=fr
 |x::r,s::q,fr=>x.name=s.name/\x.allow=s.allow/\mX d L x.top s.sy/\x.top+1=x.parts/\x.parts=fr+cS d s.sy/\nh d L r q x.parts
 |_,_,_=>False
def vg (pol:List (qY×List (Nat×List UInt8))):List (Nat×List UInt8):=pol.flatMap uI
theorem G6 (pol:List (qY×List (Nat×LB))):∀g i L xs R,(∀p∈pol,jD d 6 p.2 p.1.sy/\(p.1.name≠[]->p.1.allow=false))->Mt ts i (vg pol)->(cr ts (i+(vg pol).length)).k=101->dx F ts g i L xs=some R->
 R.ok=true/\ ∃new D,R.L=L++new/\R.xs=xs++D/\nh d R.L D (pol.map Prod.fst) L.length:=by
 induction pol with
 |nil=>
  intro g i L xs R _ _ E h;have:=kR h E;subst this;exact⟨rfl,[],[],by simp,by simp,rfl⟩
 |cons p pol ih=>
  intro g i L xs R O G E h;obtain⟨s,c⟩:=p;have e:vg ((s,c)::pol)=uI (s,c)++vg pol:=by simp[vg]
  rw[e] at G E;have J: ¬(cr ts i).k=101:=by
   have z:=G.left;unfold uI hW at z;by_cases U:s.name=[]
   ·simp only[RK U] at z;have:(cr ts i).k=107:=Te Prod.fst z.1;omega
   simp only[RH U] at z;have:(cr ts i).k=107:=Te Prod.fst z.1;omega
  obtain⟨r,g',hr,I⟩:=rG h J;obtain⟨V,Y⟩:=O (s,c) (by simp)
  have q:=KK V Y G.left hr;rcases I with⟨_,I⟩|⟨Z,_⟩
  ·rw[q.at_] at I;have aa:(cr ts (i+(uI (s,c)).length+(vg pol).length)).k=101:=by
    rw[RT] at E;rw[Th];exact E
   obtain⟨ok,new,D,h1,h2,h3⟩:=ih g' _ r.L (xs++[r.it]) R (λp ab=>O p (by simp[ab])) G.right aa I
   obtain⟨n1,ac⟩:=q.new;refine⟨ok,n1++new,r.it::D,by rw[h1,ac];simp,by rw[h2];simp,?_⟩
   refine⟨q.name,q.allow,by rw[h1];exact q.is.more _,q.top,by rw[q.parts,q.len],?_⟩
   rw[q.parts];exact h3
  rw[q.ok] at Z;cases Z
theorem Pd {z:List (Nat×LB)} (h:ts.map wd=z++[(101,[])]):Mt ts 0 z/\(cr ts (0+z.length)).k=101:=by
 have D:∀z pre ts,ts.map wd=z++[(101,[])]->Mt (pre++ts) pre.length z/\(cr (pre++ts) (pre.length+z.length)).k=101:=by
  intro z;induction z with
  |nil=>
   intro pre ts h;obtain⟨t,rfl⟩:∃t,ts=[t]:=by
    have:ts.length=1:=by have:=Te List.length h;simpa using this
    exact Tu.1 this
   simp at h;refine⟨trivial,?_⟩;unfold cr;simp[RG];exact Te Prod.fst h
  |cons w z ih=>
   intro pre ts h;cases ts with
   |nil=>simp at h
   |cons t ts=>
    simp at h;have:=ih (pre++[t]) ts h.2;simp at this;refine⟨⟨?_,this.1⟩,?_⟩
    ·unfold cr;simp[RG];exact h.1
    rw[show pre.length+(w::z).length=pre.length+1+z.length from by simp;omega];exact this.2
 exact D z [] ts h
def Bz {β:Type} (N:Tok->List β->β) (z:β):Nat->List Pt->Nat->β
 |0,_,_=>z
 |f+1,L,i=>N (L.getD i cD).tok ((L.getD i cD).subs.map (Bz N z f L))
def G7 (s:Sy):Tok:=⟨s.k,s.text,0⟩
def Kq {β:Type} (N:Tok->List β->β) (z:β):Nat->Sy->β
 |0,_=>z
 |d+1,s=>N (G7 s) (s.kids.map (Kq N z d))
def Fair {β:Type} (N:Tok->List β->β):Prop:= ∀(t:Tok) (s:Sy) (l:List β),uG t s->(t.k=110->l=[])->N t l=N (G7 s) l
theorem Pe {β:Type} (F) (G:Sy->β) {js:List Nat} {ks:List Sy} (D:js.length=ks.length) (h:∀j,j<ks.length->F (js.getD j 0)=G (ks.getD j Ky)):js.map F=ks.map G:=by
 apply Uo
 ·simp[D]
 intro j I E;have z:j<ks.length:=by simpa using E
 have:=h j z;simp only[List.getElem_map];rw[RG,RG,RI (by omega),RI z] at this
 exact this
theorem zV (h:qV p) (z:p.tok.k=110):p.subs=[]:=by
 rcases h with⟨_,h⟩|⟨h,_⟩|⟨h,_⟩|⟨n,_,h,_⟩
 ·exact h
 ·unfold eE at h;rw[z] at h;simp at h
 ·unfold eE at h;rw[z] at h;simp at h
 unfold eX at h;rw[z] at h;simp at h
theorem su {β} {N:Tok->List β->β} {z:β} (J:Fair N) (f):∀{d L D i s},dN f L D i->mX d L i s->Bz N z f L i=Kq N z d s:=by
 induction f with
 |zero=>intro d L D i s h;exact h.elim
 |succ f ih=>
  intro d L D i s E G;cases d with
  |zero=>exact G.elim
  |succ d=>
   obtain⟨Y,O,h3,R⟩:=G;rw[Bz,Kq,J _ s _ O (λe=>by rw[zV E.2.1 e];rfl)]
   rw[Pe (Bz N z f L) (Kq N z d) h3 λj U=>?_]
   obtain⟨V,I⟩:=iH _ E.2.2 ((L.getD i cD).subs.getD j 0) (by
    generalize (L.getD i cD).subs=q at*;rw[RG,RI (by omega)]
    exact R4 _)
   exact ih I (R j U)
def tO (t:Tok) (l:List (List UInt8)):List UInt8:=if t.k=110 then pz (dG t.text) else pA t.text l
theorem DY:Fair tO:=λt s l h _=>by
 obtain⟨D,z⟩:=h;unfold tO G7;rw[D];by_cases h:s.k=110
 ·rw[RK h] at z⊢;rw[RK h,z]
 rw[RH h] at z⊢;rw[RH h,z]
theorem KL (f:Nat) (L:List Pt):∀i,je f L i=Bz tO [] f L i:=by
 induction f with
 |zero=>intro i;rfl
 |succ f ih=>intro i;rw[je,Bz,tO,Sh λj _=>ih j]
theorem G8 (d:Nat):∀s,fC d s=Kq tO [] d s:=by
 induction d with
 |zero=>intro s;rfl
 |succ d ih=>intro s;rw[fC,Kq,tO,Sh λj _=>ih j];rfl
def No (_:Tok) (l:List Nat):Nat:=l.foldl max 0+1
theorem Pf (f:Nat) (L:List Pt):∀i,dep f L i=Bz No 1 f L i:=by
 induction f with
 |zero=>intro i;rfl
 |succ f ih=>
  intro i;rw[dep,Bz,No,gO,List.foldl_map];have:∀js m,List.foldl (λm j=>max m (dep f L j)) m js=List.foldl (λx y=>max x (Bz No 1 f L y)) m js:=by
   intro js;induction js with
   |nil=>intro m;rfl
   |cons j js z=>intro m;rw[To,To,ih j];exact z _
  rw[this]
def dS (d:Nat) (s:Sy):Nat:=Kq No 1 d s
def KM (good:List UInt8->Bool) (t:Tok) (l:List Bool):Bool:=if t.k=111 then good t.text else l.all id
theorem KN (good:LB->Bool):Fair (KM good):=λt s l h _=>by
 obtain⟨D,z⟩:=h;unfold KM G7;rw[D];by_cases h:s.k=111
 ·rw[RH (by omega)] at z;rw[RK h,RK h,z]
 rw[RH h,RH h]
theorem zW (h:∀j,F j=none↔G j=true) (js:List Nat):fH F js=none↔(js.map G).all id=true:=by
 induction js with
 |nil=>simp[fH]
 |cons j js ih=>
  rw[fH];cases z:F j with
  |some p=>
   have: ¬G j=true:=λe=>by rw[(h j).2 e] at z;cases z
   simp[this]
  |none=>
   have:=(h j).1 z;simp only[Sa,Vj,this,id,TC];exact ih
theorem Pg {bad:Tok->Bool} {good:LB->Bool} (z:∀t,t.k=111->bad t=!good t.text) (f) (L):∀i,km bad f L i=none↔Bz (KM good) true f L i=true:=by
 induction f with
 |zero=>intro i;simp[km,Bz]
 |succ f ih=>
  intro i;rw[km,Bz,KM];by_cases h:(L.getD i cD).tok.k=111
  ·rw[RK h,RK h,z _ h];cases good (L.getD i cD).tok.text<;>simp
  rw[RH h,RH h];exact zW (λj=>ih j) _
def Qt (good:List UInt8->Bool) (d:Nat) (s:Sy):Bool:=Kq (KM good) true d s
def OL (xs:List dk) (its:List UInt8) (t:Tok) (l:List UInt8):UInt8:=if l.contains 0 then 0 else UInt8.ofNat (eT xs its t l)
theorem Np (xs:List dk) (its:LB):Fair (OL xs its):=λt s l h _=>by
 obtain⟨D,z⟩:=h;unfold OL G7 eT;rw[D];by_cases h:s.k=110
 ·simp only[RK h]
 rw[RH h] at z;rw[z]
theorem Qu (xs) (its:LB) (f) (L):∀i,dr xs its L f i=Bz (OL xs its) 0 f L i:=by
 induction f with
 |zero=>intro i;rfl
 |succ f ih=>intro i;rw[dr,Bz,OL,Sh λj _=>ih j]
def Qk (xs:List dk) (its:List UInt8) (d:Nat) (s:Sy):UInt8:=Kq (OL xs its) 0 d s
theorem pC (h:xs.map dk.name=ys.map dk.name) (s:LB):∀k,cW xs s k=cW ys s k:=by
 induction xs generalizing ys with
 |nil=>
  intro k;cases ys with
  |nil=>rfl
  |cons=>simp at h
 |cons x xs ih=>
  intro k;cases ys with
  |nil=>simp at h
  |cons y ys=>
   simp at h;cases k with
   |zero=>rfl
   |succ k=>rw[cW,cW,h.1,ih h.2 k]
theorem G9 (h:xs.map dk.name=ys.map dk.name) (its:LB):OL xs its=OL ys its:=by
 funext t l;unfold OL eT;rw[pC h]
def yL (s:qY):dk:=⟨s.name,s.allow,0,0,0,0⟩
theorem nh.names:∀{pol} {fr:Nat},nh d L xs pol fr->xs.map dk.name=(pol.map yL).map dk.name:=by
 induction xs with
 |nil=>intro pol fr h;cases pol with
  |nil=>rfl
  |cons=>exact h.elim
 |cons x xs ih=>intro pol fr h;cases pol with
  |nil=>exact h.elim
  |cons s pol=>simp only[Sa,h.1,ih h.2.2.2.2.2];rfl
def yM (d:Nat):List qY->Nat->Nat->Nat->Bool
 |[],_,_,_=>true
 |s::r,lets,i,fr=>
  !decide (10<lets+(if s.name==[] then 0 else 1)\/20<i+1 - (lets+(if s.name==[] then 0 else 1))\/200<fr+cS d s.sy\/20<dS d s.sy)&&yM d r (lets+(if s.name==[] then 0 else 1)) (i+1) (fr+cS d s.sy)
def rJ (xs:List dk) (i:Nat) (s:List UInt8):Bool:=decide (0<=cW xs s i)
def nA (xs:List dk) (d:Nat):List qY->Nat->Bool
 |[],_=>true
 |s::r,i=>!decide (s.name≠[]/\0<=cW xs s.name i)&&(Qt (rJ xs i) d s.sy&&nA xs d r (i+1))
def tP (xs:List dk) (d:Nat):List qY->List UInt8->Bool
 |[],_=>true
 |s::r,its=>!decide ((Qk xs its d s.sy).toNat=0\/(s.name=[]/\(Qk xs its d s.sy).toNat≠116))&&tP xs d r (its++[Qk xs its d s.sy])
theorem Ha:∀{pol fr z} lets i,ek L xs z->nh d L xs pol fr->(eK L xs lets i=none↔yM d pol lets i fr=true):=by
 induction xs with
 |nil=>intro pol fr z lets i _ h;cases pol with
  |nil=>simp[eK,yM]
  |cons=>exact h.elim
 |cons x xs ih=>intro pol fr z lets i G h;cases pol with
  |nil=>exact h.elim
  |cons s pol=>
   obtain⟨J,U,h3,V,I,O⟩:=h;have R:dep (x.top+1) L x.top=dS d s.sy:=by rw[Pf];exact su (λ_ _ _ _ _=>rfl) _ G.1.fit h3
   have E:=ih (lets+(if s.name==[] then 0 else 1)) (i+1) G.2.2 O;rw[eK,yM,R,J,I];rw[I] at E;by_cases D:10<lets+(if s.name==[] then 0 else 1)\/20<i+1 - (lets+(if s.name==[] then 0 else 1))\/200<fr+cS d s.sy\/20<dS d s.sy
   ·rw[RK D,Sr D];simp
   rw[RH D,Sc D];simpa using E
theorem DZ (J:iq L):∀{pol fr z} i,ek L xs z->nh d L xs pol fr->(dq ys L xs z i=none↔nA ys d pol i=true):=by
 induction xs with
 |nil=>intro pol fr z i _ h;cases pol with
  |nil=>simp[dq,nA]
  |cons=>exact h.elim
 |cons x xs ih=>intro pol fr z i G h;cases pol with
  |nil=>exact h.elim
  |cons s pol=>
   obtain⟨O,V,h3,I,Y,R⟩:=h;have U:km (nI ys i) (x.top+1) L x.top=none↔Qt (rJ ys i) d s.sy=true:=by
    rw[Pg (good:=rJ ys i) (λt _=>by unfold nI rJ;by_cases h:0<=cW ys t.text i<;>simp[h]<;>omega),su (KN _) _ G.1.fit h3];rfl
   have E:=ih (pol:=pol) (fr:=x.parts) (i+1) G.2.2 R;have e:=(dN.res (xs:=ys) (n:=i) J.up G.1.fit).1;rw[<-I] at E;rw[dq,<-I,e,nA,O];by_cases D:s.name≠[]/\0<=cW ys s.name i
   ·rw[RK D,Sr D];simp
   rw[RH D,Sc D];simp only[Vh,TC,TA,Option.or_eq_none_iff];rw[U,E]
theorem D4 (G:ys.map dk.name=zs.map dk.name):∀{pol fr z} (its:LB),ek L xs z->nh d L xs pol fr->(dF ys L xs its=none↔tP zs d pol its=true):=by
 induction xs with
 |nil=>intro pol fr z its _ h;cases pol with
  |nil=>simp[dF,tP]
  |cons=>exact h.elim
 |cons x xs ih=>intro pol fr z its E h;cases pol with
  |nil=>exact h.elim
  |cons s pol=>
   obtain⟨I,R,h3,U,V,J⟩:=h;have O:dr ys its L (x.top+1) x.top=Qk zs its d s.sy:=by
    rw[Qu,su (Np _ _) _ E.1.fit h3,G9 G];rfl
   rw[dF,tP,O,I];by_cases D:(Qk zs its d s.sy).toNat=0\/(s.name=[]/\(Qk zs its d s.sy).toNat≠116)
   ·rw[RK D,Sr D];simp
   rw[RH D,Sc D];simp only[Vh,TC];exact ih _ E.2.2 J
theorem zX (h:xs.map dk.name=ys.map dk.name) (d) (pol:List qY):∀i,nA xs d pol i=nA ys d pol i:=by
 induction pol with
 |nil=>intro i;rfl
 |cons s pol ih=>
  intro i;have e:rJ xs i=rJ ys i:=by funext t;unfold rJ;rw[pC h]
  rw[nA,nA,pC h,e,ih]
def Ql (d:Nat) (pol:List qY):Prop:=yM d pol 0 0 0=true/\nA (pol.map yL) d pol 0=true/\tP (pol.map yL) d pol []=true
theorem sw (U:R.ok=true) (V:iq R.L) (D:ek R.L R.xs 0) (z:nh d R.L R.xs pol 0):(da ts R=(0,0)↔Ql d pol)/\((da ts R).1=0->Ql d pol):=by
 have O:=Ha 0 0 D z;have E:=DZ (ys:=R.xs) V 0 D z;rw[zX z.names] at E;have h3:=D4 z.names [] D z;unfold da Ql;rw[RH (by rw[U];simp)]
 cases G:eK R.L R.xs 0 0 with
 |some p=>
  have: ¬yM d pol 0 0 0=true:=λh=>by rw[O.2 h] at G;cases G
  simp[this]
 |none=>
  have Y:=O.1 G;simp only[];cases I:dq R.xs R.L R.xs 0 0 with
  |some p=>
   have: ¬nA (pol.map yL) d pol 0=true:=λh=>by rw[E.2 h] at I;cases I
   simp[this]
  |none=>
   have Z:=E.1 I;simp only[];cases J:dF R.xs R.L R.xs [] with
   |some p=>
    have: ¬tP (pol.map yL) d pol []=true:=λh=>by rw[h3.2 h] at J;cases J
    simp[this]
   |none=>
    have k3:=h3.1 J;simp[Y,Z,k3]
def BB (s:qY):List UInt8:=if s.name=[] then(if s.allow then qk else tN) else oZ++s.name++ye
def lG (d:Nat) (pol:List qY):List UInt8:=pol.flatMap λs=>BB s++fC d s.sy++[59,10]
theorem rK:∀{pol} {fr z:Nat},ek L xs z->nh d L xs pol fr->ox L xs=lG d pol:=by
 induction xs with
 |nil=>intro pol fr z _ h;cases pol with
  |nil=>rfl
  |cons=>exact h.elim
 |cons x xs ih=>intro pol fr z D h;cases pol with
  |nil=>exact h.elim
  |cons s pol=>
   obtain⟨E,G,h3,J,O,I⟩:=h;have e:yH L x=BB s++fC d s.sy++[59,10]:=by
    unfold yH Bt BB;rw[E,G,KL,G8,su DY _ D.1.fit h3]
   have:=ih D.2.2 I;unfold ox lG at*;rw[List.flatMap_cons,List.flatMap_cons,e,this]
theorem LX.nl {s:LB} {D:List (Nat×LB)} (h:LX s D):LX (10::s) D:=h.blank (by decide)
theorem LX.semi {s:LB} {z:List (Nat×LB)} (h:LX s z):LX (59::s) ((115,[59])::z):=h.sign (by decide)
def D5 (s:qY):Prop:=s.name=[]\/((∀c∈s.name,ig c=true)/\ml s.name=false/\s.name.length<=8/\s.allow=false)
theorem yN (pol:List qY):(∀s∈pol,Nl d s.sy/\D5 s)->LX (lG d pol) (vg (pol.map λs=>(s,iz d s.sy))):=by
 induction pol with
 |nil=>intro _;exact LX.nil
 |cons s pol ih=>
  intro h;obtain⟨E,G⟩:=h s (by simp)
  have J:=ih λs E=>h s (by simp[E])
  have e:lG d (s::pol)=BB s++(fC d s.sy++(59::10::lG d pol)):=by unfold lG;simp
  have O:vg ((s::pol).map λs=>(s,iz d s.sy))=hW s++(iz d s.sy++((115,[59])::vg (pol.map λs=>(s,iz d s.sy)))):=by simp[vg,uI]
  rw[e,O];have I:=G4 d E J.nl.semi (vX (by decide) _)
  unfold BB hW;by_cases z:s.name=[]
  ·rw[RK z,RK z];have D:=(I.sp.kw (gx _) lT (by decide)).sp
   cases s.allow with
   |true=>exact D.kw (gx _) gB (by decide)
   |false=>exact D.kw (gx _) nF (by decide)
  rw[RH z,RH z];rcases G with G|⟨R,U,V,_⟩
  ·exact absurd G z
  have D:LX (61::32::(fC d s.sy++(59::10::lG d pol))) _:=I.sp.sign (by decide)
  have h3:=(D.sp.letters (gx _) z R (.inr ⟨U,V,rfl⟩)).sp.kw (gx _) vO (by decide)
  rw[show oZ++s.name++ye++(fC d s.sy++(59::10::lG d pol))=vO++(32::(s.name++(32::61::32::(fC d s.sy++(59::10::lG d pol))))) from by simp[oZ,ye,vO]]
  exact h3
end Go.Proofs.YtfkdailfcmnjlaaGreatDoor
