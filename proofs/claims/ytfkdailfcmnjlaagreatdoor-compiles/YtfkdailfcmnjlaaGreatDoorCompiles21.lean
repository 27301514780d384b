/-
  A part.
-/
import Derived.Test.YtfkdailfcmnjlaaGreatDoorCompiles20
set_option linter.all false
set_option maxHeartbeats 40000000
set_option maxRecDepth 1000000
namespace Go.Proofs.YtfkdailfcmnjlaaGreatDoor
open Go Go.RowKit Tryz
variable {q i j D p o z R E I n a pre x F l m d lets lt' lv lv' fl t}
def rz (n:Int) (left:Nat):UInt8:=UInt8.ofNat ((n /(256:Int)^left) %256).toNat
def nY (n:Int):Nat->List UInt8
 |0=>[]
 |c+1=>rz n c::nY n c
theorem mQ (n:Int):∀c,(nY n c).length=c
 |0=>rfl
 |c+1=>by rw[nY,R7,mQ n c]
def oO (q:Nat×Int):List UInt8:=UInt8.ofNat q.1::nY q.2 (cE q.1 - 1)
theorem CA {q:Nat×Int} (h:cE q.1≠0):(oO q).length=cE q.1:=by
 unfold oO;rw[R7,mQ];omega
def lL (Q:List (Nat×Int)):List UInt8:=Q.flatMap oO
def nZ:List (Nat×Int)->Nat->List ey
 |[],_=>[]
 |q::r,a=>⟨q.1,q.2,a⟩::nZ r (a+cE q.1)
structure Pu (cells:Nat) (q:Nat×Int):Prop where
 num:NO cells q.1 q.2
 far:cE q.1=3->0<=q.2/\q.2<65536
theorem zp {a b:LB} {i:Nat}:cy (a++b) (a.length+i)=cy b i:=by
 unfold cy;rw[RG,RG,Sg (by omega)];simp
theorem CB (n:Int) (c):(rz n c).toNat=((n /256^c) %256).toNat:=by
 unfold rz;have z:0<=(n /256^c) %256:=UL _ (by decide)
 rw[S7];omega
theorem LU (n) (c):n /256^(c+1)=n /(256:Int)^c / 256:=by
 rw[Int.pow_succ,Int.ediv_ediv_of_nonneg (by exact Int.le_of_lt (Int.pow_pos (by decide)))]
theorem LV (n) (b:LB) (a c):∀m,m<=c->(∀i,i<m->cy b (a+i)=(rz n (c - 1 - i)).toNat)->(eO b a m)=(n /256^(c - m)) %256^m
 |0,_,_=>by simp[eO,Int.emod_one]
 |m+1,hm,D=>by
  have ih:=LV n b a c m (by omega) (λi hi=>D i (by omega))
  rw[eO,D m (by omega),CB]
  have E:c - m=c - (m+1)+1:=by omega
  have G:c - 1 - m=c - (m+1):=by omega
  rw[E,LU] at ih;rw[G];generalize n /256^(c - (m+1))=q at*;have I:0<=q %256:=UL _ (by decide)
  rw[Int.natCast_add,Int.natCast_mul,ih,TI I];have J:(0:Int)<256^m:=Int.pow_pos (by decide)
  have hd:=(Int.mul_ediv_add_emod q 256).symm;have hq:=Int.mul_ediv_add_emod (q / 256) (256^m);generalize O:(q / 256) %256^m=x at*;generalize hy:(q / 256) /(256:Int)^m=y at*;have Z:0<=x/\x<(256:Int)^m:=by rw[<-O];exact⟨UL _ (by omega),Int.emod_lt_of_pos _ J⟩
  have hr:q %256<256:=Int.emod_lt_of_pos _ (by decide)
  rw[Int.pow_succ];generalize (256:Int)^m=P at*;have R:P*256*y=256*(P*y):=by rw[Int.mul_comm P 256,Int.mul_assoc]
  generalize q %256=r at*;have e:q=(x*256+r)+P*256*y:=by rw[R];omega
  rw[e,Int.add_mul_emod_self_left,U2 (by omega) (by omega)]
  rfl
theorem AG (n:Int):∀(c i:Nat),i<c->cy (nY n c) i=(rz n (c - 1 - i)).toNat
 |0,i,h=>by omega
 |c+1,0,_=>rfl
 |c+1,i+1,h=>by
  have:=AG n c i (by omega)
  have e:cy (nY n (c+1)) (i+1)=cy (nY n c) i:=rfl;rw[e,this];congr 2;omega
theorem LW {cells} (h:Pu cells q) (pre post:LB):pR (pre++(oO q++post)) pre.length=⟨q.1,q.2,pre.length⟩/\cy (pre++(oO q++post)) pre.length=q.1:=by
 obtain⟨z,n⟩:=q;have Z:=h.num.ops;simp only[] at Z;have R:cy (pre++(oO (z,n)++post)) pre.length=z:=by
  have:=zp (a:=pre) (b:=oO (z,n)++post) (i:=0);rw[Us] at this;rw[this];show(UInt8.ofNat z).toNat=z;rw[S7];omega
 refine⟨?_,R⟩;unfold pR;rw[R];congr 1;have hb:∀i,i<cE z - 1->cy (pre++(oO (z,n)++post)) (pre.length+1+i)=(rz n (cE z - 1 - 1 - i)).toNat:=λi U=>by
  rw[Th,zp];have e:cy (oO (z,n)++post) (1+i)=cy (nY n (cE z - 1)++post) i:=by
   rw[Nat.add_comm];rfl
  rw[e,Cu (by rw[mQ];exact U),AG _ _ _ U]
 have I:=LV n (pre++(oO (z,n)++post)) (pre.length+1) (cE z - 1) (cE z - 1) (RL _) hb;rw[Nat.sub_self,Int.pow_zero,Int.ediv_one] at I;generalize pre++(oO (z,n)++post)=B at*;unfold mK;by_cases J:z=1
 ·subst J;rw[RK rfl];have e8:cE 1 - 1=8:=rfl;rw[e8] at I;have E:=h.num.big rfl;unfold dL at E;simp only[] at E;have O:(256:Int)^8=18446744073709551616:=by decide
  rw[O] at I;unfold fg;split<;>omega
 rw[RH J,I];have D:cE z=2\/cE z=1\/cE z=3:=by
  unfold cE;rw[RH J];(repeat' split)<;>omega
 rcases D with D|D|D
 ·have:=h.num.two D;simp only[] at this;rw[D];show n %256^1=n;rw[Int.pow_one];exact U2 this.1 (by omega)
 ·have:=h.num.one D;simp only[] at this;rw[D,this];rfl
 have:=h.far D;simp only[] at this;rw[D];show n %(256:Int)^2=n;have O:(256:Int)^2=65536:=by decide
 rw[O];exact U2 this.1 this.2
theorem CC:∀(Q:List (Nat×Int)) (a:Nat),(nZ Q a).length=Q.length
 |[],_=>rfl
 |q::r,a=>by rw[nZ,R7,CC r,R7]
theorem uO (q:Nat×Int) (r:List (Nat×Int)):lL (q::r)=oO q++lL r:=rfl
theorem zq {cells} {h3:LB} (Y:cy h3 2=cells) (D:h3.length=3):∀Q (pre:LB) f,(∀q∈Q,Pu cells q)->Q.length<f->pj f (h3++(pre++lL Q)) (3+pre.length)=some (nZ Q (3+pre.length))
 |[],pre,f,_,I=>by
  obtain⟨f,rfl⟩:∃g,f=g+1:=⟨f - 1,by simp at I;omega⟩
  rw[pj,RK (by simp[lL,D])];rfl
 |q::r,pre,f,Z,I=>by
  obtain⟨f,rfl⟩:∃g,f=g+1:=⟨f - 1,by simp at I;omega⟩
  have R:=Z q (by simp)
  have ho:=R.num.ops;have O:cE q.1≠0:=by
   have e:q.1=1\/q.1=2\/q.1=3\/q.1=4\/q.1=5\/q.1=6\/q.1=7\/q.1=8\/q.1=9\/q.1=10\/q.1=11\/q.1=12\/q.1=13\/q.1=14\/q.1=15\/q.1=16\/q.1=17\/q.1=18:=by omega
   rcases e with e|e|e|e|e|e|e|e|e|e|e|e|e|e|e|e|e|e<;>rw[e]<;>decide
  have E:=CA O;obtain⟨U,V⟩:=LW R (h3++pre) (lL r);rw[Sk,RT,D] at U V;rw[uO,pj,RH (by simp[D,E];omega),V,RK]
  ·have ih:=zq Y D r (pre++oO q) f (λq aa=>Z q (by simp[aa])) (by simp at I;omega)
   rw[Sk,RT,E,<-Th] at ih;rw[ih,U];rfl
  refine⟨O,by simp[D,E];omega,λJ=>?_⟩
  have:=R.num.two J;have e2:cy (h3++(pre++(oO q++lL r))) 2=cells:=by rw[Cu (by omega)];exact Y
  rw[e2];have G:(pR (h3++(pre++(oO q++lL r))) (3+pre.length)).n=q.2:=by rw[U]
  unfold pR mK at G;rw[V,RH (by intro e;rw[e] at J;simp[cE] at J),J] at G
  simp only[] at G;have e3:eO (h3++(pre++(oO q++lL r))) (3+pre.length+1) (2 - 1)=cy (h3++(pre++(oO q++lL r))) (3+pre.length+1):=by simp[eO]
  rw[e3] at G;rw[G];exact this.2.1
theorem Gw:∀(Q:List (Nat×Int)) a i q,Q[i]?=some q->(nZ Q a).getD i cI=⟨q.1,q.2,a+((Q.take i).map λq=>cE q.1).sum⟩
 |[],_,_,_,h=>by simp at h
 |q::r,a,0,z,h=>by simp at h;subst h;rfl
 |q::r,a,i+1,z,h=>by
  rw[nZ,R9,Gw r _ i z (by simpa using h)]
  simp;omega
def kK (x:ey):List Nat:=
 if x.op=15 then[x.pl+3,x.pl+3+x.n.toNat] else if x.op=16 then[x.pl+3+x.n.toNat] else if x.op=17\/x.op=18 then[] else[x.pl+cE x.op]
theorem EY (x:ey):(kK x).length<=2:=by unfold kK;(repeat' split)<;>simp
def zr (ins:List ey) (p:Nat):Bool:=ins.any λy=>y.pl==p
theorem Gy {ins:List ey} {p:Nat}:zr ins p=true↔ ∃j,j<ins.length/\(ins.getD j cI).pl=p:=by
 unfold zr;rw[U9];constructor
 ·rintro⟨y,D,e⟩;obtain⟨j,z,rfl⟩:=List.getElem_of_mem D;exact⟨j,z,by rw[RG,RI z];simpa using e⟩
 rintro⟨j,z,e⟩;exact⟨_,iA z,by simpa using e⟩
theorem EZ {ins:List ey} {j:Nat} (h:j<ins.length):zr ins (ins.getD j cI).pl=true:=Gy.2 ⟨j,h,rfl⟩
theorem um {b:LB} {ins} (h:fz b ins):∀x∈ins,cE x.op≠0:=λx z=>(h.each x z).size
theorem xd {b:LB} {ins} (h:fz b ins) (z:i<j) (D:j<ins.length):(ins.getD i cI).pl<(ins.getD j cI).pl:=by
 have E:=mL (um h) h.order i j z D;have G:=um h _ (iA (ins:=ins) (i:=i) (by omega))
 omega
theorem LY {b:LB} {ins} (h:fz b ins) (z:i<ins.length) (D:j<ins.length) (e:(ins.getD i cI).pl=(ins.getD j cI).pl):i=j:=by
 rcases Nat.lt_trichotomy i j with g|g|g
 ·have:=xd h g D;omega
 ·exact g
 have:=xd h g z;omega
theorem lC {b:LB} {ins} (h:fz b ins) (z:i<ins.length):3<=(ins.getD i cI).pl/\(ins.getD i cI).pl<b.length:=(nW (um h) h.order).2 i z
theorem pW {e:Nat}:∀{ins a},oI a e ins-> ∀i,i<ins.length->(i+1<ins.length->(ins.getD (i+1) cI).pl=(ins.getD i cI).pl+cE (ins.getD i cI).op)/\(¬i+1<ins.length->(ins.getD i cI).pl+cE (ins.getD i cI).op=e)
 |[],a,h,i,D=>by simp at D
 |x::r,a,h,i,D=>by
  obtain⟨E,z⟩:=h;cases i with
  |succ i=>
   have:=pW z i (by simpa using D)
   simp only[R9,R7] at*;exact⟨λg=>this.1 (by omega),λg=>this.2 (by omega)⟩
  |zero=>
   cases r with
   |nil=>
    refine⟨λg=>by simp at g,λ_=>?_⟩
    have z:a+cE x.op=e:=z;simp;omega
   |cons y s=>
    refine⟨λ_=>?_,λg=>by simp at g⟩
    have h3:=z.1;simp;omega
def NQ (b:List UInt8) (ins:List ey) (p:Nat):Option Nat->Prop
 |some j=>j<ins.length/\(ins.getD j cI).pl=p
 |none=>b.length<=p\/zr ins p=false
theorem NR {b:LB} {ins} (h:fz b ins) (z:i<ins.length):NQ b ins ((ins.getD i cI).pl+cE (ins.getD i cI).op) (if i+1<ins.length then some (i+1) else none):=by
 obtain⟨D,E⟩:=pW h.order i z;split
 ·rename_i g;exact⟨g,D g⟩
 rename_i g;exact .inl (by rw[E g];exact RL _)
theorem Gz (b:LB) (ins) (x):NQ b ins (x.pl+3+x.n.toNat) (fS ins x):=by
 cases e:fS ins x with
 |none=>
  refine .inr ?_;unfold fS at e;rw[UY] at e;unfold zr;rw[List.any_eq_false];intro y D;have:=e y D;simpa using this
 |some j=>
  unfold fS at e;rw[TO] at e;obtain⟨z,E,_⟩:=e;refine⟨z,?_⟩;rw[RG,RI z];simpa using E
theorem LZ {b:LB} {ins} (h:fz b ins) (O:i<ins.length):(fb ins i (ins.getD i cI)).length=(kK (ins.getD i cI)).length/\ ∀m,m<(kK (ins.getD i cI)).length->NQ b ins ((kK (ins.getD i cI)).getD m 0) ((fb ins i (ins.getD i cI)).getD m none):=by
 have I:=NR h O;have J:=Gz b ins (ins.getD i cI);generalize ins.getD i cI=x at*;unfold fb kK;by_cases z:x.op=15
 ·rw[RK z,RK z];have e:cE x.op=3:=by rw[z];rfl
  rw[e] at I;refine⟨rfl,λm D=>?_⟩
  have:m=0\/m=1:=by simp at D;omega
  rcases this with rfl|rfl
  ·exact I
  exact J
 rw[RH z,RH z];by_cases E:x.op=16
 ·rw[RK E,RK E];refine⟨rfl,λm D=>?_⟩
  obtain rfl:m=0:=by simp at D;omega
  exact J
 rw[RH E,RH E];by_cases G:x.op=17\/x.op=18
 ·rw[RK G,RK G];exact⟨rfl,λm D=>by simp at D⟩
 rw[RH G,RH G];refine⟨rfl,λm D=>?_⟩
 obtain rfl:m=0:=by simp at D;omega
 exact I
structure Kr (b:List UInt8) (ins:List ey) (kl come:List (Option Kn)):Prop where
 plen:kl.length=b.length
 clen:come.length=ins.length
 same:∀i,i<ins.length->kl.getD (ins.getD i cI).pl none=come.getD i none
theorem Kr.set {b:LB} {ins come} (h:Kr b ins D come) (E:fz b ins) (z:j<ins.length/\(ins.getD j cI).pl=p) (v):Kr b ins (D.set p v) (come.set j v):=by
 obtain⟨z,rfl⟩:=z;refine⟨by rw[SW];exact h.plen,by rw[SW];exact h.clen,λi G=>?_⟩
 by_cases e:j=i
 ·subst e;rw[cT (by rw[h.plen];exact(lC E z).2),cT (by rw[h.clen];exact z)]
 rw[getD_set_ne (λg=>e (LY E z G g)),getD_set_ne e]
 exact h.same i G
theorem E6 {b:LB} {ins come} (h:Kr b ins D come) (I:fz b ins) (R:NQ b ins p o) (k) (r):
 (o=none->(b.length<=p\/zr ins p=false)/\dU come k (o::r)=none)/\
 (∀j,o=some j->p<b.length/\zr ins p=true/\j<ins.length/\(D.getD p none=none->dU come k (o::r)=dU (come.set j (some k)) k r/\Kr b ins (D.set p (some k)) (come.set j (some k)))/\(∀a,D.getD p none=some a->come.getD j none=some a/\(a.st≠k.st->dU come k (o::r)=none)/\(a.st=k.st->dU come k (o::r)=dU (come.set j (some ⟨a.st,hU a.cl k.cl⟩)) k r/\Kr b ins (D.set p (some ⟨a.st,hU a.cl k.cl⟩)) (come.set j (some ⟨a.st,hU a.cl k.cl⟩))))):=by
 constructor
 ·rintro rfl;exact⟨R,rfl⟩
 rintro j rfl;obtain⟨z,J⟩:=R;have E:=(lC I z).2;have G:=EZ z;have O:=h.same j z;rw[J] at E G O;refine⟨E,G,z,λe=>?_,λa e=>?_⟩
 ·rw[O] at e;exact⟨by simp only[dU,e],h.set I ⟨z,J⟩ _⟩
 rw[O] at e;refine⟨e,λg=>by simp only[dU,e];rw[RH g],λg=>⟨by simp only[dU,e];rw[RK g],h.set I ⟨z,J⟩ _⟩⟩
structure GA (b:List UInt8) (ins:List ey) (depth at_ i) (kl come) (R):Prop where
 pc:Kr b ins kl come
 le:i<=ins.length
 old:∀j,j<i->(ins.getD j cI).pl<at_
 new:∀j,i<=j->j<ins.length->at_<=(ins.getD j cI).pl
 res:R=iZ ins depth (ins.drop i) i come
theorem GA.skip {b:LB} {ins at_ come} (h:GA b ins z at_ i D come R) (E:zr ins at_=false):GA b ins z (at_+1) i D come R:=
 ⟨h.pc,h.le,λj I=>by have:=h.old j I;omega,λj J G=>by
  have h3:=h.new j J G;rcases Ux h3 with g|g
  ·exact g
  rw[g,EZ G] at E;exact absurd E (by decide),h.res⟩
theorem GA.here {b:LB} {ins at_ come} (h:GA b ins D at_ i E come R) (G:fz b ins) (I:zr ins at_=true):i<ins.length/\(ins.getD i cI).pl=at_/\E.getD at_ none=come.getD i none/\ins.drop i=ins.getD i cI::ins.drop (i+1):=by
 obtain⟨j,J,e⟩:=Gy.1 I;have O:i<=j:=Nat.le_of_not_lt λg=>by have:=h.old j g;omega
 have z:i<ins.length:=by omega
 have V:=h.new i (RL _) z;have U:i=j:=by
  rcases Ux O with g|g
  ·have:=xd G g J;omega
  exact g
 subst U;refine⟨z,e,?_,?_⟩
 ·rw[<-e];exact h.pc.same i z
 rw[R5 z,RG,RI z];rfl
theorem GA.next {b:LB} {ins at_ come} (h:GA b ins z at_ i I come R) (G:fz b ins) (J:zr ins at_=true) (O:Kr b ins E D) (U:R=iZ ins z (ins.drop (i+1)) (i+1) D):GA b ins z (at_+1) (i+1) E D R:=by
 obtain⟨V,e,_,_⟩:=h.here G J;refine⟨O,V,λj Y=>?_,λj h1 Z=>?_,U⟩
 ·rcases Ux (Nat.le_of_lt_succ Y) with g|g
  ·have:=h.old j g;omega
  subst g;omega
 have:=xd G (show i<j by omega) Z
 omega
theorem GA.last {b:LB} {ins come} (h:GA b ins z b.length i D come R) (E:fz b ins):R=true:=by
 have e:i=ins.length:=by
  rcases Ux h.le with g|g
  ·have G:=h.new i (RL _) g;have I:=(lC E g).2;omega
  exact g
 rw[h.res,e,T8];rfl
theorem GA.first {b:LB} {ins:List ey} (z cells) (D:fz b ins) (G:0<ins.length):GA b ins z 3 0 ((List.replicate b.length none).set 3 (some ⟨[],List.replicate cells 0⟩)) (iG cells ins.length) (iZ ins z ins 0 (iG cells ins.length)):=by
 have I:(ins.getD 0 cI).pl=3:=by
  have:=D.order;cases ins with
  |nil=>simp at G
  |cons x r=>exact this.1
 have h3:3<b.length:=by have:=(lC D G).2;omega
 refine⟨⟨by simp,qv _ _ G,λi O=>?_⟩,R0 _,λj J=>by omega,λj _ J=>(lC D J).1,by rw[Un]⟩
 cases i with
 |zero=>rw[I,cT (by simpa using h3)];rfl
 |succ i=>
  have:=xd D (show 0<i+1 by omega) O
  rw[getD_set_ne (by omega)]
  unfold iG;have e:∀n j,(List.replicate n (none:Option Kn)).getD j none=none:=λn j=>by
   rw[RG,Sn];split<;>rfl
  rw[R9,e,e]
def E7 (n:Nat) (ins:List ey):List Bool:=(List.range n).map λp=>zr ins p
theorem sX (n:Nat) (ins:List ey):(E7 n ins).length=n:=by simp[E7]
theorem AH (ins:List ey) (h:p<n):(E7 n ins)[p]?=some (zr ins p):=by simp[E7,h]
theorem IQ {n:Nat} (ins) (x):(E7 n ins).set x.pl true=E7 n (ins++[x]):=by
 apply TF;intro p;by_cases z:p<n
 ·rw[AH _ z];by_cases e:x.pl=p
  ·subst e;rw[List.getElem?_set_self (by rw[sX];exact z)]
   simp[zr]
  rw[UI e,AH _ z];simp[zr,e]
 rw[R2 (by rw[SW,sX];omega),R2 (by rw[sX];omega)]
structure xe (b:List UInt8) (a) (pre) (R):Prop where
 le:a<=b.length
 go:∃f,b.length<f+a/\R=(pj f b a).map (pre++ ·)
theorem xe.first {b:LB} (h:3<=b.length):xe b 3 [] (pj (b.length+1) b 3):=⟨h,b.length+1,by omega,by simp⟩
theorem xe.bad {b:LB} (h:xe b a pre R) (D:a<b.length) (z: ¬(cE (cy b a)≠0/\a+cE (cy b a)<=b.length/\(cE (cy b a)=2->(cy b (a+1))<=dC (cy b a) (cy b 2)))):R=none:=by
 obtain⟨f,E,e⟩:=h.go;rw[e];cases f with
 |zero=>rfl
 |succ f=>rw[pj,RH (by omega),RH z];rfl
theorem xe.step {b:LB} (h:xe b a pre R) (D:a<b.length) (z:cE (cy b a)≠0/\a+cE (cy b a)<=b.length/\(cE (cy b a)=2->(cy b (a+1))<=dC (cy b a) (cy b 2))):xe b (a+cE (cy b a)) (pre++[pR b a]) R:=by
 obtain⟨f,E,e⟩:=h.go;cases f with
 |zero=>omega
 |succ f=>
  refine⟨z.2.1,f,by have:=z.1;omega,?_⟩
  rw[e,pj,RH (by omega),RK z,Option.map_map]
  congr 1;funext l;simp
theorem xe.last {b:LB} (h:xe b a pre R) (z:b.length<=a):R=some pre:=by
 obtain⟨f,D,e⟩:=h.go;rw[e];cases f with
 |succ f=>rw[pj,RK z];simp
 |zero=>have:=h.le;omega
def vq (l:List jU):Nat:=(l.map λx=>cE x.op).sum
theorem jy (a b:List jU):vq (a++b)=vq a+vq b:=by simp[vq]
theorem jm (x:jU) (b:List jU):vq (x::b)=cE x.op+vq b:=by simp[vq]
theorem qB:vq []=0:=rfl
theorem vK {d:Nat} {t a:Tr} (z:t.kids=[a]):eR (d+1) t=1+eR d a:=by rw[eR,z];simp
theorem vL {d:Nat} {t a b:Tr} (z:t.kids=[a,b]):eR (d+1) t=1+eR d a+eR d b:=by rw[eR,z];simp;omega
theorem AI {d:Nat} {t a b c:Tr} (z:t.kids=[a,b,c]):eR (d+1) t=1+eR d a+eR d b+eR d c:=by rw[eR,z];simp;omega
theorem IS (k:Nat):cE (jH k)=1:=by unfold jH;(repeat' split)<;>rfl
theorem IT (t:Tr):cE (eU t)<=9:=vH _
theorem zt {jmp:Bool} (d):∀{t k m p T},hY d t->vq (fP jmp d m t k p T)+(if m=none then 4 else 0)<=13*eR d t:=by
 induction d with
 |zero=>intro t k m p T h;exact h.elim
 |succ d ih=>
  intro t k m p T h;have I:=h.2;have aa:vq (fP jmp (d+1) none t k p 0)+4<=13*eR (d+1) t:=by
   rcases h.1 with⟨D,z,_⟩|⟨D,a,z⟩|⟨D,a,b,c,z⟩|⟨D,a,b,z⟩
   ·have J: ¬t.k=14:=by unfold dy at D;omega
    have O: ¬t.k=19:=by unfold dy at D;omega
    simp only[fP,RH J,RH O,z,Sx];rw[RH (by decide),jm,qB]
    have:=IT t;have:=oK h;simp only[];omega
   ·have J: ¬t.k=14:=by omega
    have R:t.kid 0=a:=by unfold Tr.kid;rw[z];rfl
    simp only[fP,RH J,RK D,R];have G:=ih (k:=k) (m:=none) (p:=p) (T:=0) (I a (by rw[z];simp))
    rw[jy,jm,qB,vK z];have e:cE 12=1:=rfl;simp only[e];simp at G;omega
   ·have R:t.kid 0=a:=by unfold Tr.kid;rw[z];rfl
    have U:t.kid 1=b:=by unfold Tr.kid;rw[z];rfl
    have Y:t.kid 2=c:=by unfold Tr.kid;rw[z];rfl
    simp only[fP,RK D,R,U,Y];have G:=λp T=>ih (k:=k) (m:=some false) (p:=p) (T:=T) (I a (by rw[z];simp))
    have E:=λp T=>ih (k:=k) (m:=none) (p:=p) (T:=T) (I b (by rw[z];simp))
    have h3:=λp T=>ih (k:=k) (m:=none) (p:=p) (T:=T) (I c (by rw[z];simp))
    simp only[Td,reduceCtorEq,Ui] at G E h3;rw[jy,jy,jm,AI z];have e:cE 16=3:=rfl;simp only[e];have G:=G p (p+cX jmp d (some false) a+cX jmp d none b+1);have E:=E (p+cX jmp d (some false) a) 0;have h3:=h3 (p+cX jmp d (some false) a+cX jmp d none b+1) 0;omega
   have J: ¬t.k=14:=by unfold fh at D;omega
   have O: ¬t.k=19:=by unfold fh at D;omega
   have hl:t.kids.length=2:=by rw[z];rfl
   have R:t.kid 0=a:=by unfold Tr.kid;rw[z];rfl
   have U:t.kid 1=b:=by unfold Tr.kid;rw[z];rfl
   simp only[fP,RH J,RH O,RK hl,R,U];have G:=ih (k:=k) (m:=none) (p:=p) (T:=0) (I a (by rw[z];simp))
   have E:=ih (k:=⟨cP k.cl d a::k.st,k.cl⟩) (m:=none) (p:=p+cX jmp d none a) (T:=0) (I b (by rw[z];simp))
   rw[jy,jy,jm,qB,vL z];simp only[IS];simp at G E;omega
  cases m with
  |none=>exact aa
  |some this=>
   simp only[reduceCtorEq,Ui,Us];cases V:oN jmp t.k with
   |false=>
    have Z:fP jmp (d+1) (some this) t k p T=fP jmp (d+1) none t k p 0++((if this then[⟨12,0,0,⟨2::k.st,k.cl⟩⟩] else[])++[⟨15,0,T,⟨2::k.st,k.cl⟩⟩]):=by
     simp only[fP,V];rfl
    rw[Z,jy];have:vq ((if this then[(⟨12,0,0,⟨2::k.st,k.cl⟩⟩:jU)] else[])++[⟨15,0,T,⟨2::k.st,k.cl⟩⟩])<=4:=by cases this<;>simp[vq,cE]
    omega
   |true=>
    simp only[fP,V,Td];rcases h.1 with⟨D,z,_⟩|⟨D,a,z⟩|⟨D,a,b,c,z⟩|⟨D,a,b,z⟩
    ·have E:t.k=20\/t.k=21:=by
      unfold oN at V;unfold dy at D;simp at V;omega
     rw[RK E];have:=oK h;have e:cE 16=3:=rfl;split
     ·rw[jm,qB];simp only[e];omega
     rw[qB];omega
    ·have E: ¬(t.k=20\/t.k=21):=by omega
     have R:t.kid 0=a:=by unfold Tr.kid;rw[z];rfl
     rw[RH E,RK D,R,vK z];have G:=ih (k:=k) (m:=some (!this)) (p:=p) (T:=T) (I a (by rw[z];simp))
     simp at G;omega
    ·have E: ¬(t.k=20\/t.k=21):=by omega
     have O: ¬t.k=19:=by omega
     have R:t.kid 0=a:=by unfold Tr.kid;rw[z];rfl
     have U:t.kid 1=b:=by unfold Tr.kid;rw[z];rfl
     have Y:t.kid 2=c:=by unfold Tr.kid;rw[z];rfl
     rw[RH E,RH O,RK D,R,U,Y,AI z,jy,jy,jm];have G:=ih (k:=k) (m:=some false) (p:=p) (T:=p+cX jmp d (some false) a+cX jmp d (some this) b+1) (I a (by rw[z];simp))
     have E:=ih (k:=k) (m:=some this) (p:=p+cX jmp d (some false) a) (T:=T) (I b (by rw[z];simp))
     have h3:=ih (k:=k) (m:=some this) (p:=p+cX jmp d (some false) a+cX jmp d (some this) b+1) (T:=T) (I c (by rw[z];simp))
     simp only[reduceCtorEq,Ui] at G E h3;have e:cE 16=3:=rfl;simp only[e];omega
    have E: ¬(t.k=20\/t.k=21):=by unfold fh at D;omega
    have O: ¬t.k=19:=by unfold fh at D;omega
    have J: ¬t.k=14:=by unfold fh at D;omega
    have R:t.kid 0=a:=by unfold Tr.kid;rw[z];rfl
    have U:t.kid 1=b:=by unfold Tr.kid;rw[z];rfl
    rw[RH E,RH O,RH J,R,U,vL z,jy];have G:=λT=>ih (k:=k) (m:=some (decide (t.k=17))) (p:=p) (T:=T) (I a (by rw[z];simp))
    have E:=ih (k:=k) (m:=some this) (p:=p+cX jmp d (some (decide (t.k=17))) a) (T:=T) (I b (by rw[z];simp))
    simp only[reduceCtorEq,Ui] at G E;have G:=G (if this=decide (t.k=17) then T else p+cX jmp d (some (decide (t.k=17))) a+cX jmp d (some this) b);omega
theorem rS {jmp d}:∀{l lt p},pd d lt l->vq (kM jmp d l lt p)<=13*gH d l+2*l.length+2
 |[],lt,p,_=>by simp[kM,vq,cE]
 |x::r,lt,p,z=>by
  obtain⟨E,V,z⟩:=z;have G:gH d (x::r)=eR d x.c+gH d r:=by simp[gH]
  have J:cE 5=2:=rfl;rcases z with⟨I,O,z⟩|⟨I,Y,O,z⟩
  ·rw[kM,RK I,jy,jm,G];have R:=zt (jmp:=jmp) d (k:=⟨[],lt⟩) (m:=none) (p:=p) (T:=0) E;have U:=rS (jmp:=jmp) (p:=p+cX jmp d none x.c+1) z;simp only[J,R7];omega
  have D: ¬x.kind=11:=by omega
  rw[kM,RH D,jy,jm,G];have R:=zt (jmp:=jmp) d (k:=⟨[],lt⟩) (m:=some false) (p:=p) (T:=p+cX jmp d (some false) x.c+1) E;have U:=rS (jmp:=jmp) (p:=p+cX jmp d (some false) x.c+1) z;have e:cE (ga x.kind)=2:=by unfold ga;split<;>rfl
  simp only[e,R7];omega
def AJ (F:List jU) (i:Nat):Nat:=3+vq (F.take i)
theorem CD {F:List jU} (h:F[i]?=some x):AJ F (i+1)=AJ F i+cE x.op:=by
 unfold AJ;rw[TG,h,jy];simp[jm,qB];omega
theorem E8 {F:List jU} {i j:Nat} (h:i<=j):AJ F i<=AJ F j:=by
 unfold AJ;have:F.take j=F.take i++(F.take j).drop i:=by
  have:=TP i (F.take j);rw[List.take_take,Vd h] at this;exact this.symm
 rw[this,jy];omega
def CE (F:List jU) (i:Nat) (x:jU):Int:=if x.op=15\/x.op=16 then(AJ F x.to:Int) - AJ F i - 3 else x.n
def qF (F:List jU):List (Nat×Int):=F.mapIdx λi x=>(x.op,CE F i x)
def mR (dep cells:Nat) (F:List jU):List UInt8:=[71,UInt8.ofNat dep,UInt8.ofNat cells]++([]++lL (qF F))
theorem CF {F:List jU} {x:jU} (h:F[i]?=some x):(qF F)[i]?=some (x.op,CE F i x):=by
 unfold qF;rw[List.getElem?_mapIdx,h];rfl
theorem rT (F:List jU):(qF F).length=F.length:=by simp[qF]
theorem GB (F:List jU) (i:Nat):((qF F).take i).map (λq=>cE q.1)=(F.take i).map λx=>cE x.op:=by
 apply TF;intro j;rw[Se,Se,Ud,Ud];split
 ·cases e:F[j]? with
  |none=>rw[R2 (by rw[rT];exact List.getElem?_eq_none_iff.1 e)];rfl
  |some x=>rw[CF e];rfl
 rfl
theorem xg {cells:Nat}:∀{Q:List (Nat×Int)},(∀q∈Q,cE q.1≠0)->(lL Q).length=(Q.map λq=>cE q.1).sum
 |[],_=>rfl
 |q::r,h=>by
  rw[uO,RT,CA (h q (by simp)),xg (cells:=cells) (λq z=>h q (by simp[z]))]
  simp
theorem uo {z:Nat} (h:1<=z/\z<=18):cE z≠0:=by
 have e:z=1\/z=2\/z=3\/z=4\/z=5\/z=6\/z=7\/z=8\/z=9\/z=10\/z=11\/z=12\/z=13\/z=14\/z=15\/z=16\/z=17\/z=18:=by omega
 rcases e with e|e|e|e|e|e|e|e|e|e|e|e|e|e|e|e|e|e<;>rw[e]<;>decide
theorem GC:∀{F:List jU},(∀x∈F,1<=cE x.op)->F.length<=vq F
 |[],_=>R0 _
 |x::r,h=>by
  have D:=h x (by simp)
  have E:=GC (F:=r) (λx z=>h x (by simp[z]))
  rw[jm,R7];omega
theorem NS {dep cells} (Z:eQ F dep cells 0 F.length) (h0:0<F.length) (am:vq F<=3990) (hd:dep<=24) (hc:cells<=255) (hs:iK F 0 ⟨[],List.replicate cells 0⟩):
 fE (mR dep cells F)=some (nZ (qF F) 3)/\Lk F (nZ (qF F) 3)/\(mR dep cells F).length=3+vq F/\cy (mR dep cells F) 2=cells:=by
 have ai:∀q∈qF F,cE q.1≠0:=λq hq=>by
  obtain⟨i,E⟩:=Ug.1 hq;have D:i<F.length:=by rw[<-rT F];exact(Sf.1 E).1
  have z:=RI D;rw[CF z] at E;cases E;exact uo (Z i _ (R0 _) D z).num.ops
 have an:AJ F F.length=3+vq F:=by unfold AJ;rw[Ti]
 have R:(mR dep cells F).length=3+vq F:=by
  unfold mR;rw[RT,RT,xg (cells:=cells) ai];have:=GB F F.length;rw[Sz (by rw[rT];exact RL _),Ti] at this
  rw[this];simp[vq]
 have ag:∀q∈qF F,Pu cells q:=λq hq=>by
  obtain⟨i,E⟩:=Ug.1 hq;have D:i<F.length:=by rw[<-rT F];exact(Sf.1 E).1
  have z:=RI D;rw[CF z] at E;cases E;have c:=Z i _ (R0 _) D z;generalize F[i]=x at*;obtain⟨k',ao,_,_,hj⟩:=c.doe;by_cases g:x.op=15\/x.op=16
  ·have G:cE x.op=3:=by rcases g with e|e<;>rw[e]<;>rfl
   obtain⟨j1,y,j2,_⟩:=hj g;have U:=(Sf.1 j2).1;have h1:=E8 (F:=F) (show i+1<=x.to by omega)
   have h2:=E8 (F:=F) (show x.to<=F.length by omega)
   rw[CD z,G] at h1;have I:CE F i x=(AJ F x.to:Int) - AJ F i - 3:=RK g;exact⟨⟨c.num.ops,λe=>by simp at e;omega,λe=>by simp at e;omega,λe=>by simp at e;omega⟩,λ_=>by simp only[I];omega⟩
  have I:CE F i x=x.n:=RH g;have G: ¬cE x.op=3:=λe=>by
   unfold cE at e;(repeat' split at e)<;>omega
  exact⟨by simp only[I];exact c.num,λe=>absurd e G⟩
 have ab:cy (mR dep cells F) 2=cells:=by
  show(UInt8.ofNat cells).toNat=cells;rw[S7];omega
 have aa:pj ((mR dep cells F).length+1) (mR dep cells F) 3=some (nZ (qF F) 3):=by
  refine zq (cells:=cells) (h3:=[71,UInt8.ofNat dep,UInt8.ofNat cells]) ?_ rfl (qF F) [] _ ag ?_
  ·show(UInt8.ofNat cells).toNat=cells;rw[S7];omega
  rw[R,rT];have:F.length<=vq F:=by
   have ah:∀x∈F,1<=cE x.op:=λx z=>by
    obtain⟨i,E⟩:=Ug.1 z;have D:=(Sf.1 E).1;exact Ub (uo (Z i _ (R0 _) D E).num.ops)
   exact GC ah
  omega
 have ac:=wU _ aa (by rw[R];omega)
 have V:fz (mR dep cells F) (nZ (qF F) 3):=⟨ac.1,ac.2⟩;have J:(nZ (qF F) 3).length=F.length:=by rw[CC,rT]
 have Y:∀i x,F[i]?=some x->(nZ (qF F) 3).getD i cI=⟨x.op,CE F i x,AJ F i⟩:=λi x z=>by
  rw[Gw _ _ _ _ (CF z),GB];rfl
 have hL:Lk F (nZ (qF F) 3):=by
  refine⟨J,λi x z=>by rw[Y i x z],λi x z g=>by rw[Y i x z];exact RH g,λi x z g=>?_⟩
  have D:=(Sf.1 z).1;obtain⟨k',_,_,_,hj⟩:=(Z i x (R0 _) D z).doe;obtain⟨j1,y,j2,_⟩:=hj g;have U:=(Sf.1 j2).1;have G:cE x.op=3:=by rcases g with e|e<;>rw[e]<;>rfl
  have h1:=E8 (F:=F) (show i+1<=x.to by omega)
  rw[CD z,G] at h1;have O:=Gz (mR dep cells F) (nZ (qF F) 3) ((nZ (qF F) 3).getD i cI);have ep:((nZ (qF F) 3).getD i cI).pl+3+((nZ (qF F) 3).getD i cI).n.toNat=AJ F x.to:=by
   rw[Y i x z];have I:CE F i x=(AJ F x.to:Int) - AJ F i - 3:=RK g;simp only[I];omega
  rw[ep] at O;have aj:=Y x.to y j2;have ad:((nZ (qF F) 3).getD x.to cI).pl=AJ F x.to:=by rw[aj]
  cases e:fS (nZ (qF F) 3) ((nZ (qF F) 3).getD i cI) with
  |none=>
   rw[e] at O;exfalso;rcases O with g1|g1
   ·have:=(lC V (i:=x.to) (by rw[J];exact U)).2
    omega
   rw[<-ad,EZ (by rw[J];exact U)] at g1;cases g1
  |some j=>
   rw[e] at O;obtain⟨q1,q2⟩:=O;rw[LY V q1 (by rw[J];exact U) (by rw[q2,ad])]
 refine⟨?_,hL,R,ab⟩;have ae:cy (mR dep cells F) 1=dep:=by
  show(UInt8.ofNat dep).toNat=dep;rw[S7];omega
 have ak:cy (mR dep cells F) 0=71:=rfl;have h1:1<=vq F:=by
  cases F with
  |nil=>simp at h0
  |cons x r=>
   have:=uo (Z 0 x (R0 _) (by simp) rfl).num.ops
   rw[jm];omega
 unfold fE;rw[RH (by rw[R,ak,ae];omega),aa]
 simp only[];have af:=IP hL Z F.length 0 (iG cells F.length) (by omega) (λj=>by
  cases j with
  |zero=>
   obtain⟨y,hy,hk⟩:=hs;right;rw[RG,RG,hy];simp[iG,hk]
  |succ j=>
   left;unfold iG;rw[R9,RG,Sn];split<;>rfl)
 rw[Un] at af;rw[ae,ab,J,af];rfl
def kL:List fQ->Nat->Nat
 |[],c=>c
 |x::r,c=>kL r (if x.kind=11 then x.wh+1 else c)
def OT (x:fQ):Nat×Nat:=(x.kind,x.wh)
def Ry (p q:Nat×Nat):Prop:=p.1=11->q.1=11->p.2<q.2
theorem qC:∀{l:List fQ} {c:Nat},(l.map OT).Pairwise Ry->(∀x∈l,x.kind=11->c<=x.wh)->c<=kL l c/\ ∀x∈l,x.kind=11->x.wh<kL l c
 |[],c,_,_=>⟨RL _,by simp⟩
 |x::r,c,G,J=>by
  rw[Sa,List.pairwise_cons] at G;rw[kL];by_cases E:x.kind=11
  ·rw[RK E];obtain⟨O,I⟩:=qC (c:=x.wh+1) G.2 (λy z D=>by
    have:=G.1 (OT y) (Tk z) E D;exact this)
   have:=J x (by simp) E
   refine⟨by omega,λy z D=>?_⟩
   simp only[Sm] at z;rcases z with rfl|z
   ·omega
   exact I y z D
  rw[RH E];obtain⟨O,I⟩:=qC G.2 (λy z=>J y (by simp[z]))
  refine⟨O,λy z D=>?_⟩
  simp only[Sm] at z;rcases z with rfl|z
  ·exact absurd D E
  exact I y z D
theorem zu (h:∀x∈l,x.kind=11->x.wh<m):∀{c:Nat},c<=m->kL l c<=m:=by
 induction l with
 |nil=>intro c z;exact z
 |cons x r ih=>
  intro c z;rw[kL];refine ih (λy D=>h y (by simp[D])) ?_
  split
  ·rename_i E;have:=h x (by simp) E;omega
  exact z
theorem CG {lt lt':List Nat} (h:∀i,lt'.getD i 0=lt.getD i 0) (d):∀t,cP lt' d t=cP lt d t:=by
 induction d with
 |zero=>intro t;rfl
 |succ d ih=>
  intro t;rw[cP,cP,Sh (λc _=>ih c)]
  unfold ee;rw[h]
theorem CH {lv lv' fl:List Int} (h:∀i,lv'.getD i 0=lv.getD i 0) (d):∀t,eP lv' fl d t=eP lv fl d t:=by
 induction d with
 |zero=>intro t;rfl
 |succ d ih=>
  intro t;rw[eP,eP,Sh (λc _=>ih c)]
  unfold gS;rw[h]
theorem sY {α:Type} {l z:List α} {d:α} (h:∀i,z.getD i d=l.getD i d) (D:j<l.length) (E:j<z.length) (v:α):∀i,(z.set j v).getD i d=(l.set j v).getD i d:=λi=>by
 by_cases e:j=i
 ·subst e;rw[cT D,cT E]
 rw[getD_set_ne e,getD_set_ne e,h]
theorem pd.other {d:Nat}:∀{l lt lt'},pd d lt l->(∀i,lt'.getD i 0=lt.getD i 0)->(∀x∈l,x.kind=11->x.wh<lt'.length)->pd d lt' l
 |[],_,_,_,_,_=>trivial
 |x::r,lt,lt',h,E,D=>by
  obtain⟨U,V,h3⟩:=h;have e:=CG E d x.c;refine⟨U,by rw[e];exact V,?_⟩
  rcases h3 with⟨z,G,I⟩|⟨z,O,G,I⟩
  ·refine .inl ⟨z,D x (by simp) z,pd.other I (by rw[e];exact sY E G (D x (by simp) z) _) (λy J R=>by rw[SW];exact D y (by simp[J]) R)⟩
  exact .inr ⟨z,by rw[e];exact O,G,pd.other I E (λy J=>D y (by simp[J]))⟩
theorem rU {d fl}:∀{l D z},(∀i,z.getD i 0=D.getD i 0)->(∀x∈l,x.kind=11->x.wh<D.length/\x.wh<z.length)->eY d fl z l=eY d fl D l
 |[],_,_,_,_=>rfl
 |x::r,D,z,G,I=>by
  rw[eY,eY,CH G];by_cases E:x.kind=11
  ·rw[RK E,RK E];have:=I x (by simp) E
   exact rU (sY G this.1 this.2 _) (λy J O=>by rw[SW,SW];exact I y (by simp[J]) O)
  rw[RH E,RH E,rU G (λy J=>I y (by simp[J]))]
theorem AK {d:Nat}:∀{l lt},pd d lt l-> ∀x∈l,x.kind=11->x.wh<lt.length
 |[],_,_=>by simp
 |x::r,lt,h=>by
  obtain⟨O,R,h3⟩:=h;intro y z E;simp only[Sm] at z;rcases h3 with⟨G,I,D⟩|⟨G,J,I,D⟩
  ·rcases z with rfl|z
   ·exact I
   have:=AK D y z E;simpa using this
  rcases z with rfl|z
  ·omega
  exact AK D y z E
theorem vM {p d}:∀{l lets},((uj p d lets l).map OT).Sublist (l.map OT)
 |[],_=>List.Sublist.slnil
 |x::r,lets=>by
  rw[uj];split
  ·exact(vM).trans (Uy _ _)
  exact(vM).cons_cons _
theorem xh:∀{l:List fQ},(jG l).Sublist l
 |[]=>List.Sublist.slnil
 |x::r=>by
  rw[jG];split
  ·exact(xh).trans (Uy _ _)
  split
  ·exact(List.nil_sublist r).cons_cons _
  exact(xh).cons_cons _
theorem xi {d:Nat}:∀{l:List fQ},(iQ d l).1.Sublist l
 |[]=>List.Sublist.slnil
 |x::r=>by
  rw[iQ];split
  ·exact(xi).trans (Uy _ _)
  exact(xi).cons_cons _
theorem CI {p:mY}:((o9 p d l).map OT).Sublist (l.map OT):=by
 unfold o9;split
 ·exact((xi.trans xh).map OT).trans vM
 exact vM
theorem sZ:∀{l:List fQ} {m:Nat},nX m l->(l.map OT).Pairwise Ry/\ ∀x∈l,x.kind=11->m<=x.wh
 |[],_,_=>⟨List.Pairwise.nil,by simp⟩
 |x::r,m,h=>by
  rcases h with⟨G,U,h⟩|⟨G,h⟩
  ·obtain⟨I,E⟩:=sZ h;refine⟨List.Pairwise.cons (λy D J O=>?_) I,λy D g=>?_⟩
   ·obtain⟨z,R,rfl⟩:=Tc.1 D;have:=E z R O;show x.wh<z.wh;omega
   simp only[Sm] at D;rcases D with rfl|D
   ·omega
   have:=E y D g;omega
  obtain⟨I,E⟩:=sZ h;refine⟨List.Pairwise.cons (λy D J O=>absurd J G) I,λy D g=>?_⟩
  simp only[Sm] at D;rcases D with rfl|D
  ·exact absurd g G
  exact E y D g
def kY (p:mY) (d:Nat) (l:List fQ):List UInt8:=
 mR (LR p.jmp d (o9 p d l)) (kL (o9 p d l) 0) (kM p.jmp d (o9 p d l) (List.replicate (kL (o9 p d l) 0) 0) 0)
theorem IU (hd:d<=24) (hT:pd d eB l) (hS:nX 0 l) (hn:gH d l<=200) (hl:l.length<=30):
 ∃ins,fE (kY p d l)=some ins/\(kY p d l).length<=13*gH d l+2*l.length+5/\ ∀fl,dI fl-> ∃s,jx (kY p d l) ins fl=some ((eY d fl jM l).1,(eY d fl jM l).2,s):=by
 have hR:=λfl (J:dI fl)=>Gu (p:=p) J hT hS
 obtain⟨r1,_,r3,r4⟩:=hR jF lV;have aa:=(sZ hS).1.sublist (CI (p:=p) (d:=d) (l:=l));have R:=AK r1;have ae:eB.length=10:=rfl;unfold kY;generalize o9 p d l=L at*;have af:kL L 0<=10:=zu (λx G I=>by have:=R x G I;omega) (by omega)
 have U:=(qC aa (λ_ _ _=>R0 _)).2
 generalize kL L 0=C at*;have hz:∀i,(List.replicate C 0).getD i 0=eB.getD i 0:=λi=>by
  rw[gX,RG,Sn];split<;>rfl
 have D:=r1.other hz (λx G I=>by rw[SH];exact U x G I)
 have ag:=rS (jmp:=p.jmp) (p:=0) D;have z:Sub (kM p.jmp d L (List.replicate C 0) 0) 0 (kM p.jmp d L (List.replicate C 0) 0):=⟨[],[],by simp,rfl⟩
 have E:=qA (jmp:=p.jmp) (dep:=LR p.jmp d L) (cells:=C) (by omega) D (by simp) (RL _) z
 rw[Sw] at E;have V:=rR D z;have h0:0<(kM p.jmp d L (List.replicate C 0) 0).length:=by
  obtain⟨y,hy,_⟩:=V;exact(Sf.1 hy).1
 have ab:vq (kM p.jmp d L (List.replicate C 0) 0)<=3990:=by omega
 have ah:=AE p.jmp d L;obtain⟨c1,c2,c3,c4⟩:=NS E h0 ab (by omega) (by omega) V
 refine⟨_,c1,by omega,λfl J=>?_⟩
 obtain⟨a,r,s,hj,_⟩:=Ct c1 J;have hV:kG (List.replicate C 0) (List.replicate C 0):=λi hi=>by
  rw[hz i,gX] at hi;exact absurd rfl hi
 have Y:=uk J D (by simp) hV z
 have O:=hj;unfold jx at O;rw[c4] at O;obtain⟨Z,q2⟩:=LS c2 Y _ _ _ O;have ac:eY d fl (List.replicate C 0) L=eY d fl jM l:=by
  rw[<-(hR fl J).2.1];refine rU (λi=>?_) (λx G I=>⟨by have:=R x G I;show x.wh<10;omega,by rw[SH];exact U x G I⟩)
  rw[RG,Sn];have ad:∀j,jM.getD j 0=0:=λj=>by
   unfold jM;rw[RG];rcases j with _|_|_|_|_|_|_|_|_|_|j<;>simp
  rw[ad];split<;>rfl
 rw[ac] at Z q2;refine⟨s,?_⟩;rw[hj];simp only[] at Z q2;rw[Z,q2]
def L0 (p:mY) (lets:List Tr) (d:Nat) (t:Tr):Tr:=⟨t.k,t.n,t.l,t.kids.map (kW p lets d)⟩
def L4 (p:mY) (lets:List Tr) (d:Nat) (t:Tr):Tr:=if p.inl then oJ lets (L0 p lets d t) else L0 p lets d t
def OU (p:mY) (lets:List Tr) (d:Nat) (t:Tr):Tr:=if p.fol then mN (d+1) (L4 p lets d t) else L4 p lets d t
theorem zv {lt} (R:wW p lets lt lt' lv lv' fl) (hV:kG lt' lv') (hF:dI fl) (h:hY (d+1) t) (J:cP lt (d+1) t≠0):Alike lt lt' lv lv' fl (d+1) t (L4 p lets d t):=by
 unfold L4 L0;have Y:=nw h J;have G:∀c∈t.kids,Alike lt lt' lv lv' fl d c (kW p lets d c):=λc D=>wZ R hV hF (h.2 c D) (Y c D)
 have Z:(t.kids.map (kW p lets d)).map (cP lt' d)=t.kids.map (cP lt d):=by
  rw[TD];exact Sh λc D=>(G c D).ty
 have aa:(t.kids.map (kW p lets d)).map (eP lv' fl d)=t.kids.map (eP lv fl d):=by
  rw[TD];exact Sh λc D=>(G c D).ev
 have ab:hY (d+1) ⟨t.k,t.n,t.l,t.kids.map (kW p lets d)⟩:=by
  refine⟨?_,λc D=>?_⟩
  ·rcases h.1 with⟨E,z,h3,h4⟩|⟨E,a,z⟩|⟨E,a,b,c,z⟩|⟨E,a,b,z⟩
   ·exact .inl ⟨E,by rw[z];rfl,h3,h4⟩
   ·exact .inr (.inl ⟨E,_,by rw[z];rfl⟩)
   ·exact .inr (.inr (.inl ⟨E,_,_,_,by rw[z];rfl⟩))
   ·exact .inr (.inr (.inr ⟨E,_,_,by rw[z];rfl⟩))
  ·obtain⟨x,hx,rfl⟩:=Tc.1 D
   exact(G x hx).wf
 have ac:eR (d+1) ⟨t.k,t.n,t.l,t.kids.map (kW p lets d)⟩<=eR (d+1) t:=by
  rw[eR,eR];simp only[TD];have:=rP (l:=t.kids) (f:=eR d∘kW p lets d) (g:=eR d) λc D=>(G c D).cnt
  omega
 have base:(t.k=2->lt'.getD t.l.toNat 0=lt.getD t.l.toNat 0/\lv'.getD t.l.toNat 0=lv.getD t.l.toNat 0)->Alike lt lt' lv lv' fl (d+1) t ⟨t.k,t.n,t.l,t.kids.map (kW p lets d)⟩:=λhl=>by
  refine⟨ab,?_,?_,ac⟩
  ·rw[cP,cP]
   simp only[Z,UK];have e:ee lt' ⟨t.k,t.n,t.l,t.kids.map (kW p lets d)⟩=ee lt t:=by
    unfold ee;simp only[]
    by_cases E:t.k=1
    ·rw[RK E,RK E]
    ·rw[RH E,RH E]
     by_cases z:t.k=2
     ·rw[RK z,RK z,(hl z).1]
     ·rw[RH z,RH z]
   rw[e]
  rw[eP,eP];simp only[aa]
  congr 1
  unfold gS;simp only[]
  by_cases E:t.k=1
  ·rw[RK E,RK E]
  ·rw[RH E,RH E]
   by_cases z:t.k=2
   ·rw[RK z,RK z,(hl z).2]
   ·rw[RH z,RH z]
 have I:t.k=2->t.kids=[]/\lt.getD t.l.toNat 0≠0:=λz=>by
  have O:=oL h (by unfold dy;omega)
  refine⟨O,?_⟩;rw[cP,RK O] at J;unfold ee at J
  rwa [RH (by omega),RK z] at J
 by_cases U:p.inl=true
 ·rw[RK U]
  unfold oJ;simp only[]
  by_cases D:t.k=2/\(lets.getD t.l.toNat fL).kids=[]
  ·rw[RK D]
   obtain⟨O,ad⟩:=I D.1;obtain⟨V,o2,o3⟩:=R.one _ ad U D.2;refine⟨V.up (by omega),?_,?_,?_⟩
   ·rw[nu V (by omega),o2,cP,RK O]
    unfold ee;rw[RH (by omega),RK D.1]
   ·rw[pU V (by omega),o3,eP,O]
    show _=gS lv fl t
    unfold gS;rw[RH (by omega),RK D.1]
   ·rw[qw V (by omega),eR,D.2]
    have:=oK h
    simpa using this
  ·rw[RH D]
   refine base λz=>?_
   exact R.same _ (I z).2 λe=>D ⟨z,e.2⟩
 ·rw[RH U]
  exact base λz=>R.same _ (I z).2 λe=>U e.1
theorem IV {lt} (I:wW p lets lt lt' lv lv' fl) (E:kG lt' lv') (G:dI fl) (h:hY (d+1) t) (D:cP lt (d+1) t≠0):Alike lt lt' lv lv' fl (d+1) t (OU p lets d t):=by
 have z:=zv I E G h D;unfold OU
 split
 ·exact z.trans (wY E G z.wf (by rw[z.ty];exact D))
 ·exact z
section
attribute [local go_sem ↓] Go.wp_at_zero Go.wp_at_succ
variable {w w' G b}
def dD (v:Value) (z:List (List UInt8×Int)) (w:World):Prop:=
 z.length<=maxLen/\ ∃a cap,v= .slice a z.length cap/\ ∀i,i<z.length-> ∃b o,a=some ⟨b,o,none⟩/\w.cell? ⟨b,o+i*2,none⟩=some (S (z.getD i ([],0)).1)/\w.cell? ⟨b,o+i*2+1,none⟩=some (Iq (z.getD i ([],0)).2)/\dL (z.getD i ([],0)).2
theorem dD.below {v:Value} {z:List (LB×Int)} (h:dD v z w) (D:Bl w w'):dD v z w':=by
 obtain⟨E,a,cap,G,I⟩:=h;refine⟨E,a,cap,G,λi J=>?_⟩
 obtain⟨b,o,e,c0,c1,O⟩:=I i J;refine⟨b,o,e,?_,?_,O⟩
 ·rw[D.cell (RN w _ c0)];exact c0
 rw[D.cell (RN w _ c1)];exact c1
def dX (D:Int) (I:List (List UInt8×Int)) (u:List UInt8):Int:=match I with
 |[]=>D
 |x::r=>if x.1==u then x.2 else dX D r u
theorem xj (D:Int) (z:List (LB×Int)) (u:LB) (i) (h:i<z.length):dX D (z.drop i) u=if(z.getD i ([],0)).1==u then(z.getD i ([],0)).2 else dX D (z.drop (i+1)) u:=by
 rw[R5 h,dX,RG,RI h];rfl
theorem IW {mv} {z:List (LB×Int)} (u:LB) (w) (h:dD lv z w):
 Calls prog 83 #[.agg #[lv,Iq D,mv,.bool E],S u] w λe w'=>e= .returned (Iq (dX D z u))/\Bl w w':=by
 obtain⟨hm,a,cap,rfl,U⟩:=h;unfold maxLen at hm;have V:=(RP w.heap.size w).alloc (RL _) (.cells #[.slice a z.length cap,Iq D,mv,.bool E] 50);have G:(w.alloc (.cells #[.slice a z.length cap,Iq D,mv,.bool E] 50)).heap[w.heap.size]?=some (.cells #[.slice a z.length cap,Iq D,mv,.bool E] 50 (0,0)):=RO w _;have Y:=Hi (And.intro V G);have HC:=Hi U;go_enter func83,ntmps83;go_wp2_with fail;obtain⟨I,Z⟩:=Y.out;generalize aa:w.alloc (.cells #[.slice a z.length cap,Iq D,mv,.bool E] 50)=R at*;have q0:=RM R w.heap.size 0 _ _ _ Z;simp only[RY,RZ,RX] at q0;have HB:=Hi I;go_loop [5,6] (λn i=> ∃j,j<=z.length/\i= Iq (j - 1)/\ ∃v,n= Iq v/\Hid (v=dX D (z.drop j) u)) (λ_ i=>(intOf i+1).toNat)
 case atStart=>exact⟨z.length,RL _,rfl,D,rfl,by show _=_;rw[T8];rfl⟩
 case round=>
  obtain⟨j,hj,rfl,v,rfl,HV⟩:=hrel;by_cases h0:j=0
  ·subst h0;go_wp2_with fail;go_ret;exact⟨by rw[HV.out];rfl,HB.out⟩
  obtain⟨q,rfl⟩:∃q,j=q+1:=⟨j - 1,by omega⟩
  obtain⟨b,o,rfl,c0,c1,hn⟩:=HC.out q (by omega)
  have O:=Hi (xj D z u q (by omega))
  have ab:R.cell? ⟨b,o+q*2,none⟩=some (S (z.getD q ([],0)).1):=by rw[I.cell (p:=⟨b,o+q*2,none⟩) (RN w _ c0)];exact c0
  have ac:R.cell? ⟨b,o+q*2+1,none⟩=some (Iq (z.getD q ([],0)).2):=by rw[I.cell (p:=⟨b,o+q*2+1,none⟩) (RN w _ c1)];exact c1
  have ei:((q+1:Nat):Int) - 1=(q:Int):=by omega
  have b1:(q:Int)<(z.length:Int):=by omega
  rw[ei];generalize z.getD q ([],0)=x at*;cases G:(x.1==u) with
  |true=>
   have J:Hid (dX D (z.drop q) u=x.2):=by show _=_;rw[O.out,RK G]
   go_wp2_with fail;go_round
   case rel=>exact⟨q,by omega,by simp,x.2,rfl,J.out.symm⟩
   case measure=>simp[intOf]
  |false=>
   have J:Hid (dX D (z.drop q) u=v):=by show _=_;rw[O.out,RH (by rw[G];simp),HV.out]
   go_wp2_with fail;go_round
   case rel=>exact⟨q,by omega,by simp,v,rfl,J.out.symm⟩
   case measure=>simp[intOf]
def dW (G:List (List UInt8×Int)) (u:List UInt8):Int:=match G with
 |[]=>0
 |x::r=>if x.1==u then fJ x.2 else dW r u
theorem uP (z:List (LB×Int)) (u:LB) (i) (h:i<z.length):dW (z.drop i) u=if(z.getD i ([],0)).1==u then fJ (z.getD i ([],0)).2 else dW (z.drop (i+1)) u:=by
 rw[R5 h,dW,RG,RI h];rfl
theorem Pv {mv} {z:List (LB×Int)} (u:LB) (w) (h:dD mv z w):
 Calls prog 84 #[.agg #[lv,Iq D,mv,.bool E],S u] w λe w'=>e= .returned (Iq (dW z u))/\Bl w w':=by
 obtain⟨hm,a,cap,rfl,U⟩:=h;unfold maxLen at hm;have V:=(RP w.heap.size w).alloc (RL _) (.cells #[lv,Iq D,.slice a z.length cap,.bool E] 50);have G:(w.alloc (.cells #[lv,Iq D,.slice a z.length cap,.bool E] 50)).heap[w.heap.size]?=some (.cells #[lv,Iq D,.slice a z.length cap,.bool E] 50 (0,0)):=RO w _;have Y:=Hi (And.intro V G);have HC:=Hi U;go_enter func84,ntmps84;go_wp2_with fail;obtain⟨I,Z⟩:=Y.out;generalize aa:w.alloc (.cells #[lv,Iq D,.slice a z.length cap,.bool E] 50)=R at*;have q0:=RM R w.heap.size 2 _ _ _ Z;simp only[RY,RZ,RX] at q0;have HB:=Hi I;go_loop [5,6] (λn i=> ∃j,j<=z.length/\i= Iq (j - 1)/\ ∃v,n= Iq v/\Hid (v=dW (z.drop j) u)) (λ_ i=>(intOf i+1).toNat)
 case atStart=>exact⟨z.length,RL _,rfl,0,rfl,by show _=_;rw[T8];rfl⟩
 case round=>
  obtain⟨j,hj,rfl,v,rfl,HV⟩:=hrel;by_cases h0:j=0
  ·subst h0;go_wp2_with fail;go_ret;exact⟨by rw[HV.out];rfl,HB.out⟩
  obtain⟨q,rfl⟩:∃q,j=q+1:=⟨j - 1,by omega⟩
  obtain⟨b,o,rfl,c0,c1,hn⟩:=HC.out q (by omega)
  have O:=Hi (uP z u q (by omega))
  have ab:R.cell? ⟨b,o+q*2,none⟩=some (S (z.getD q ([],0)).1):=by rw[I.cell (p:=⟨b,o+q*2,none⟩) (RN w _ c0)];exact c0
  have ac:R.cell? ⟨b,o+q*2+1,none⟩=some (Iq (z.getD q ([],0)).2):=by rw[I.cell (p:=⟨b,o+q*2+1,none⟩) (RN w _ c1)];exact c1
  have ei:((q+1:Nat):Int) - 1=(q:Int):=by omega
  have b1:(q:Int)<(z.length:Int):=by omega
  rw[ei];generalize z.getD q ([],0)=x at*;cases G:(x.1==u) with
  |true=>
   have J:Hid (dW (z.drop q) u=fJ x.2):=by show _=_;rw[O.out,RK G]
   have WK:=λW=>yX hn W
   generalize fJ x.2=kx at*;go_wp2_with fail;apply(WK _).mono;rintro e w5 ⟨rfl,rfl⟩;go_wp2_with fail;go_round
   case rel=>exact⟨q,by omega,by simp,kx,rfl,J.out.symm⟩
   case measure=>simp[intOf]
  |false=>
   have J:Hid (dW (z.drop q) u=v):=by show _=_;rw[O.out,RH (by rw[G];simp),HV.out]
   go_wp2_with fail;go_round
   case rel=>exact⟨q,by omega,by simp,v,rfl,J.out.symm⟩
   case measure=>simp[intOf]
theorem E9 {mv} {z:List (LB×Int)} (u:LB) (w) (h:dD lv z w):
 Calls prog 79 #[.agg #[lv,Iq D,mv,.bool G],S u] w λe w'=>e= .returned (Iq (dX D z u))/\Bl w w':=by
 obtain⟨hm,a,cap,rfl,hc⟩:=h;unfold maxLen at hm;have hb:=(RP w.heap.size w).alloc (RL _) (.cells #[.slice a z.length cap,Iq D,mv,.bool G] 50);have O:(w.alloc (.cells #[.slice a z.length cap,Iq D,mv,.bool G] 50)).heap[w.heap.size]?=some (.cells #[.slice a z.length cap,Iq D,mv,.bool G] 50 (0,0)):=RO w _;have H0:=Hi (And.intro hb O);have HC:=Hi hc;go_enter func79,ntmps79;go_wp2;obtain⟨V,Y⟩:=H0.out;generalize w.alloc (.cells #[.slice a z.length cap,Iq D,mv,.bool G] 50)=wz at*;go_loopw [10] (λi wr=> ∃j,j<=z.length/\i= Iq j/\Hid (dX D z u=dX D (z.drop j) u)/\Bl w wr/\wr.heap[w.heap.size]?=some (.cells #[.slice a z.length cap,Iq D,mv,.bool G] 50 (0,0))) (λi _=>z.length - (intOf i).toNat)
 case atStart=>exact⟨0,R0 _,rfl,rfl,V,Y⟩
 case round=>
  obtain⟨j,hj,rfl,J,E,I⟩:=hrel;have q1:=RM wr w.heap.size 1 _ _ _ I;simp only[RY,RZ,RX] at q1;by_cases Z:j<z.length
  ·obtain⟨b,o,rfl,c0,c1,hn⟩:=HC.out j Z;have U:=Hi (xj D z u j Z);have ab:wr.cell? ⟨b,o+j*2,none⟩=some (S (z.getD j ([],0)).1):=by rw[E.cell (p:=⟨b,o+j*2,none⟩) (RN w _ c0)];exact c0
   have ae:wr.cell? ⟨b,o+j*2+1,none⟩=some (Iq (z.getD j ([],0)).2):=by rw[E.cell (p:=⟨b,o+j*2+1,none⟩) (RN w _ c1)];exact c1
   have lb:=RN wr _ ab;simp only at lb;have b0:0<=j:=by omega
   have b1:j<z.length:=by omega
   generalize z.getD j ([],0)=x at*;have aa:Hid (Bl w (wr.alloc (.cells #[S x.1,Iq x.2] 108))):=E.alloc E.size _;have ac:Hid ((wr.alloc (.cells #[S x.1,Iq x.2] 108)).heap[w.heap.size]?=some (.cells #[.slice (some ⟨b,o,none⟩) z.length cap,Iq D,mv,.bool G] 50 (0,0))):=by show _=_;rw[RV _ _ _ (cq I)];exact I
   cases O:(x.1==u) with
   |true=>
    have R:Hid (dX D z u=x.2):=by show _=_;rw[J.out,U.out,RK O]
    go_wp2;go_ret;exact⟨by rw[R.out];rfl,aa.out⟩
   |false=>
    have R:Hid (dX D z u=dX D (z.drop (j+1)) u):=by show _=_;rw[J.out,U.out,RH (by rw[O];simp)]
    go_wp2;go_roundw
    case rel=>exact⟨j+1,by omega,by simp,R.out,aa.out,ac.out⟩
    case measure=>simp[intOf];omega
  have ad:j=z.length:=by omega
  subst ad;have HE:Hid (dX D z u=D):=by show _=_;rw[J.out,T8];rfl
  have HB:=Hi E;go_wp2;go_ret;exact⟨by rw[HE.out];rfl,HB.out⟩
theorem yt {mv} {z:List (LB×Int)} (u:LB) (w) (h:dD mv z w):
 Calls prog 80 #[.agg #[lv,Iq E,mv,.bool G],S u] w λe w'=>e= .returned (Iq (dW z u))/\Bl w w':=by
 obtain⟨hm,a,cap,rfl,hc⟩:=h;unfold maxLen at hm;have hb:=(RP w.heap.size w).alloc (RL _) (.cells #[lv,Iq E,.slice a z.length cap,.bool G] 50);have O:(w.alloc (.cells #[lv,Iq E,.slice a z.length cap,.bool G] 50)).heap[w.heap.size]?=some (.cells #[lv,Iq E,.slice a z.length cap,.bool G] 50 (0,0)):=RO w _;have H0:=Hi (And.intro hb O);have HC:=Hi hc;go_enter func80,ntmps80;go_wp2;obtain⟨V,Y⟩:=H0.out;generalize w.alloc (.cells #[lv,Iq E,.slice a z.length cap,.bool G] 50)=wz at*;go_loopw [10] (λi wr=> ∃j,j<=z.length/\i= Iq j/\Hid (dW z u=dW (z.drop j) u)/\Bl w wr/\wr.heap[w.heap.size]?=some (.cells #[lv,Iq E,.slice a z.length cap,.bool G] 50 (0,0))) (λi _=>z.length - (intOf i).toNat)
 case atStart=>exact⟨0,R0 _,rfl,rfl,V,Y⟩
 case round=>
  obtain⟨j,hj,rfl,J,D,I⟩:=hrel;have q1:=RM wr w.heap.size 1 _ _ _ I;simp only[RY,RZ,RX] at q1;by_cases Z:j<z.length
  ·obtain⟨b,o,rfl,c0,c1,hn⟩:=HC.out j Z;have U:=Hi (uP z u j Z);have ab:wr.cell? ⟨b,o+j*2,none⟩=some (S (z.getD j ([],0)).1):=by rw[D.cell (p:=⟨b,o+j*2,none⟩) (RN w _ c0)];exact c0
   have ae:wr.cell? ⟨b,o+j*2+1,none⟩=some (Iq (z.getD j ([],0)).2):=by rw[D.cell (p:=⟨b,o+j*2+1,none⟩) (RN w _ c1)];exact c1
   have lb:=RN wr _ ab;simp only at lb;have b0:0<=j:=by omega
   have b1:j<z.length:=by omega
   generalize z.getD j ([],0)=x at*;have aa:Hid (Bl w (wr.alloc (.cells #[S x.1,Iq x.2] 110))):=D.alloc D.size _;have ac:Hid ((wr.alloc (.cells #[S x.1,Iq x.2] 110)).heap[w.heap.size]?=some (.cells #[lv,Iq E,.slice (some ⟨b,o,none⟩) z.length cap,.bool G] 50 (0,0))):=by show _=_;rw[RV _ _ _ (cq I)];exact I
   cases O:(x.1==u) with
   |true=>
    have R:Hid (dW z u=fJ x.2):=by show _=_;rw[J.out,U.out,RK O]
    have WK:=λW=>uJ x.2 W
    generalize fJ x.2=kx at*;go_wp2_with fail;apply(WK _).mono;rintro e w5 ⟨rfl,rfl⟩;go_wp2;go_ret;exact⟨by rw[R.out];rfl,aa.out⟩
   |false=>
    have R:Hid (dW z u=dW (z.drop (j+1)) u):=by show _=_;rw[J.out,U.out,RH (by rw[O];simp)]
    go_wp2;go_roundw
    case rel=>exact⟨j+1,by omega,by simp,R.out,aa.out,ac.out⟩
    case measure=>simp[intOf];omega
  have ad:j=z.length:=by omega
  subst ad;have HE:Hid (dW z u=0):=by show _=_;rw[J.out,T8];rfl
  have HB:=Hi D;go_wp2;go_ret;exact⟨by rw[HE.out];rfl,HB.out⟩
theorem iL (G:x∈([[43],[45],[60],[60,61],[61],[111,114],[97,110,100]])) (I:dL a) (J:dL b) (w):
 Calls prog 126 #[Iq (kn x),Iq a,Iq b] w λe w'=>e= .returned (Iq (oA x a b))/\w'=w:=by
 simp only[Sm,SJ,T2] at G;rcases G with rfl|rfl|rfl|rfl|rfl|rfl|rfl
 ·have D:Hid (oA [43] a b=fy (a+b)):=rfl
  have z:=λW=>BX I J W
  rw[show kn [43]=6 from by decide]
  generalize fy (a+b)=r at*;go_enter func126,ntmps126;go_wp2_with fail;apply(z _).mono;rintro e E ⟨rfl,rfl⟩;go_wp2;go_ret;exact⟨by rw[D.out];rfl,rfl⟩
 ·have D:Hid (oA [45] a b=fy (a - b)):=rfl
  have z:=λW=>BY I J W
  rw[show kn [45]=7 from by decide]
  generalize fy (a - b)=r at*;go_enter func126,ntmps126;go_wp2_with fail;apply(z _).mono;rintro e E ⟨rfl,rfl⟩;go_wp2;go_ret;exact⟨by rw[D.out];rfl,rfl⟩
 ·have D:Hid (oA [60] a b=cR (decide (a<b))):=rfl
  have z:=λW=>yY a b W
  rw[show kn [60]=10 from by decide]
  generalize cR (decide (a<b))=r at*;go_enter func126,ntmps126;go_wp2_with fail;apply(z _).mono;rintro e E ⟨rfl,rfl⟩;go_wp2;go_ret;exact⟨by rw[D.out];rfl,rfl⟩
 ·have D:Hid (oA [60,61] a b=cR (decide (a<=b))):=rfl
  have z:=λW=>uK a b W
  rw[show kn [60,61]=9 from by decide]
  generalize cR (decide (a<=b))=r at*;go_enter func126,ntmps126;go_wp2_with fail;apply(z _).mono;rintro e E ⟨rfl,rfl⟩;go_wp2;go_ret;exact⟨by rw[D.out];rfl,rfl⟩
 ·have D:Hid (oA [61] a b=cR (a==b)):=rfl
  have z:=λW=>wG a b W
  rw[show kn [61]=8 from by decide]
  generalize cR (a==b)=r at*;go_enter func126,ntmps126;go_wp2_with fail;apply(z _).mono;rintro e E ⟨rfl,rfl⟩;go_wp2;go_ret;exact⟨by rw[D.out];rfl,rfl⟩
 ·have D:Hid (oA [111,114] a b=cR (a==1||b==1)):=rfl
  have z:=λW=>Gn a b W
  rw[show kn [111,114]=17 from by decide]
  generalize cR (a==1||b==1)=r at*;go_enter func126,ntmps126;go_wp2_with fail;apply(z _).mono;rintro e E ⟨rfl,rfl⟩;go_wp2;go_ret;exact⟨by rw[D.out];rfl,rfl⟩
 ·have D:Hid (oA [97,110,100] a b=cR (a==1&&b==1)):=rfl
  have z:=λW=>BV a b W
  rw[show kn [97,110,100]=18 from by decide]
  generalize cR (a==1&&b==1)=r at*;go_enter func126,ntmps126;go_wp2_with fail;apply(z _).mono;rintro e E ⟨rfl,rfl⟩;go_wp2;go_ret;exact⟨by rw[D.out];rfl,rfl⟩
structure Ev where
 sender:List UInt8
 target:List UInt8
 wants:Int
 need:Int
 when_:Int
structure zw where
 levels:List (List UInt8×Int)
 dflt:Int
 members:List (List UInt8×Int)
 open_:Bool
def zx (e:Ev):Value:= .agg #[S e.sender,S e.target,Iq e.wants,Iq e.need,Iq e.when_]
def lW (lv mv:Value) (s:zw):Value:= .agg #[lv,Iq s.dflt,mv,.bool s.open_]
def dM (e:Ev) (s:zw):List Int:=[dX s.dflt s.levels e.sender,dX s.dflt s.levels e.target,e.need,e.when_,dW s.members e.sender,dW s.members e.target,fJ e.wants,cR (e.sender==e.target),cR s.open_]
abbrev IX (w q z A D wh lv E mv G W):=Below w.heap.size w W/\W.cell? ⟨w.heap.size,0,none⟩=some (S q)/\W.cell? ⟨w.heap.size,1,none⟩=some (S z)/\W.cell? ⟨w.heap.size,2,none⟩=some (.int .i64 A)/\W.cell? ⟨w.heap.size,3,none⟩=some (.int .i64 D)/\W.cell? ⟨w.heap.size,4,none⟩=some (.int .i64 wh)/\W.cell? ⟨w.heap.size+1,0,none⟩=some (lv)/\W.cell? ⟨w.heap.size+1,1,none⟩=some (.int .i64 E)/\W.cell? ⟨w.heap.size+1,2,none⟩=some (mv)/\W.cell? ⟨w.heap.size+1,3,none⟩=some (.bool G)
theorem xk {lv mv:Value} (e) (s) (w) (h1:dD lv s.levels w) (h2:dD mv s.members w) (hw:dL e.wants):
 Calls prog 41 #[zx e,lW lv mv s] w λen w'=>(∃gf,en= .returned (Sq gf 9 9)/\ ∀i,i<9->w'.cell? ⟨gf,i,none⟩=some (Iq ((dM e s).getD i 0)))/\Below w.heap.size w w':=by
 unfold zx lW;obtain⟨q,z,E,G,wh⟩:=e;obtain⟨U,A,V,D⟩:=s;simp only[] at*
 have I:Below w.heap.size w ((w.alloc (.cells #[S q,S z,Iq E,Iq G,Iq wh] 46)).alloc (.cells #[lv,Iq A,mv,.bool D] 50)):=((RP _ _).alloc (RL _) _).alloc (by simp) _
 have J:((w.alloc (.cells #[S q,S z,Iq E,Iq G,Iq wh] 46)).alloc (.cells #[lv,Iq A,mv,.bool D] 50)).heap[w.heap.size]?=some (.cells #[S q,S z,Iq E,Iq G,Iq wh] 46 (0,0)):=by rw[RV _ _ _ (by simp)];exact RO w _
 have O:((w.alloc (.cells #[S q,S z,Iq E,Iq G,Iq wh] 46)).alloc (.cells #[lv,Iq A,mv,.bool D] 50)).heap[w.heap.size+1]?=some (.cells #[lv,Iq A,mv,.bool D] 50 (0,0)):=by have e:=RO (w.alloc (.cells #[S q,S z,Iq E,Iq G,Iq wh] 46)) (.cells #[lv,Iq A,mv,.bool D] 50);rw[RW] at e;exact e
 have H0:=Hi (And.intro I (And.intro J O));have WL:∀(u:List UInt8) (W:World),Below w.heap.size w W->Calls prog 83 #[.agg #[lv,Iq A,mv,.bool D],S u] W λe w'=>e= .returned (Iq (dX A U u))/\Below W.heap.size W w':=λu W Y=>IW u W (h1.below Y)
 have WI:∀(u:List UInt8) (W:World),Below w.heap.size w W->Calls prog 84 #[.agg #[lv,Iq A,mv,.bool D],S u] W λe w'=>e= .returned (Iq (dW V u))/\Below W.heap.size W w':=λu W Y=>Pv u W (h2.below Y)
 have WK:=λW=>yX hw W
 have WT:=λb W=>tU b W
 have KP:Hid (∀W W',(IX w q z E G wh lv A mv D W)->Below W.heap.size W W'->(IX w q z E G wh lv A mv D W')):=λW W' hS Y=>by
  obtain⟨R,a0,a1,a2,a3,a4,a5,a6,a7,a8⟩:=hS;refine⟨R.trans (Y.mono R.size),?_,?_,?_,?_,?_,?_,?_,?_,?_⟩
  all_goals (rw[Y.cell (RN W _ (by assumption))];assumption)
 have KD:Hid (∀W:World,(IX w q z E G wh lv A mv D W)->(IX w q z E G wh lv A mv D W.drew)):=λW hS=>by
  obtain⟨R,a0,a1,a2,a3,a4,a5,a6,a7,a8⟩:=hS;exact⟨R.drew,a0,a1,a2,a3,a4,a5,a6,a7,a8⟩
 have HF:Hid (dM ⟨q,z,E,G,wh⟩ ⟨U,A,V,D⟩=[dX A U q,dX A U z,G,wh,dW V q,dW V z,fJ E,cR (q==z),cR D]):=rfl;go_enter func41,ntmps41;go_wp2_with fail;obtain⟨I,J,O⟩:=H0.out;generalize ((w.alloc (.cells #[S q,S z,Iq E,Iq G,Iq wh] 46)).alloc (.cells #[lv,Iq A,mv,.bool D] 50))=wz at*;have ad:IX w q z E G wh lv A mv D wz:=by
  refine⟨I,?_,?_,?_,?_,?_,?_,?_,?_,?_⟩
  all_goals first|(rw[RM wz w.heap.size _ _ _ _ J];rfl)|(rw[RM wz (w.heap.size+1) _ _ _ _ O];rfl)
 go_region_held3 (IX w q z E G wh lv A mv D) (first|exact KD.out _ (by assumption)|exact KP.out _ _ (by assumption) (by assumption)|exact KP.out _ _ (by assumption) ((RP _ _).alloc (RL _) _)|assumption|go_keep)
  (first
   |(go_at_call 83;refine(WL _ _ (by exact UB (by assumption))).mono ?_;rintro e Z ⟨rfl,ae⟩)
   |(go_at_call 84;refine(WI _ _ (by exact UB (by assumption))).mono ?_;rintro e Z ⟨rfl,ae⟩)
   |(go_at_call 85;refine(WK _).mono ?_;rintro e Z ⟨rfl,rfl⟩)
   |(go_at_call 86;refine(WT _ _).mono ?_;rintro e Z ⟨rfl,rfl⟩))
 rename_i hHeld
 have ab:=hHeld.1;have aa:=RO Z (.cells #[Iq (dX A U q),Iq (dX A U z),Iq G,Iq wh,Iq (dW V q),Iq (dW V z),Iq (fJ E),Iq (cR (q==z)),Iq (cR D)] 2);have HN:=Hi (And.intro ab aa);go_wp2_with fail;go_ret;refine⟨⟨Z.heap.size,rfl,λi hi=>?_⟩,HN.out.1⟩
 rw[RM _ Z.heap.size i _ _ _ HN.out.2,HF.out];have e9:i=0\/i=1\/i=2\/i=3\/i=4\/i=5\/i=6\/i=7\/i=8:=by omega
 rcases e9 with rfl|rfl|rfl|rfl|rfl|rfl|rfl|rfl|rfl<;>rfl
end
end Go.Proofs.YtfkdailfcmnjlaaGreatDoor
