/-
  A part.
-/
import Derived.Test.YtfkdailfcmnjlaaGreatDoorHa
set_option linter.all false
set_option maxHeartbeats 40000000
set_option maxRecDepth 1000000
namespace Go.Proofs.YtfkdailfcmnjlaaGreatDoor
variable {f ts i x L r n g F xs R b z t p D a E G c j T bad' fr s d}
def dm (p:UInt8->Bool) (l:List UInt8) (k:Nat):Nat:=k+((l.drop k).takeWhile p).length
theorem fJ (p:UInt8->Bool) (l:List UInt8) (k) (h:k<l.length) (z:p l[k]=true):dm p l k=dm p l (k+1):=by
 unfold dm;rw[QF h,SE z];simp;omega
theorem lL (p:UInt8->Bool) (l:List UInt8) (k) (h:k<l.length) (z:p l[k]=false):dm p l k=k:=by
 unfold dm;rw[QF h,SF (by simp[z])]
 simp
theorem lY (p:UInt8->Bool) (l:List UInt8) (k) (h:l.length<=k):dm p l k=k:=by
 unfold dm;rw[QG h];simp
theorem pM (p:UInt8->Bool) (l:List UInt8) (k):k<=dm p l k:=by unfold dm;omega
theorem jW (p:UInt8->Bool) (l:List UInt8) (k) (h:k<=l.length):dm p l k<=l.length:=by
 unfold dm;have z:((l.drop k).takeWhile p).length<=(l.drop k).length:=(List.takeWhile_sublist p).length_le;rw[TB] at z;omega
def jk (c:UInt8):Bool:=decide (48<=c.toNat)&&decide (c.toNat<=57)
def jn (c:UInt8):Bool:=decide (97<=c.toNat)&&decide (c.toNat<=122)
def kM (c:UInt8):Bool:=c.toNat==32||c.toNat==10
def xy (c:UInt8):Bool:=c.toNat==48
def cut (l:List UInt8) (a b:Nat):List UInt8:=(l.drop a).take (b - a)
def dW (l:List UInt8):Nat:=l.foldl (λn c=>n*10+(c.toNat - 48)) 0
def dx (l:List (List UInt8)) (s:List UInt8):Int:=match l with
 |[]=> -1
 |x::r=>if x==s then 0 else(if dx r s<0 then -1 else dx r s+1)
theorem jx (l:List (List UInt8)) (s:List UInt8): -1<=dx l s:=by
 induction l with
 |nil=>simp[dx]
 |cons x r ih=>unfold dx;split;omega;split<;>omega
theorem Ay (l:List (List UInt8)) (s) (k) (z:k<l.length):dx (l.drop k) s=if l[k]==s then 0 else(if dx (l.drop (k+1)) s<0 then -1 else dx (l.drop (k+1)) s+1):=by
 rw[QF z,dx]
def dy:List (List UInt8):=[[110,111,110,101],[105,110,118,105,116,101],[106,111,105,110],[108,101,97,118,101],[98,97,110]]
def dC:List (List UInt8):=[[108,101,118,101,108],[114,97,110,107],[110,101,101,100],[119,104,101,110],[115,101,110,100,101,114],[116,97,114,103,101,116],[119,97,110,116,115],[115,101,108,102],[111,112,101,110]]
def nW:List (List UInt8):=[[108,101,116],[97,108,108,111,119],[100,101,110,121],[105,102],[116,104,101,110],[101,108,115,101],[111,114],[97,110,100],[110,111,116],[116,114,117,101],[102,97,108,115,101]]
def qU (s:List UInt8):Bool:=decide (0<=dx dy s)||decide (0<=dx dC s)||decide (0<=dx nW s)
def big (s:List UInt8):Bool:=decide (9223372036854775807<dW s)
structure Tok where
 k:Nat
 text:List UInt8
 pl:Nat
def fk (l:List UInt8) (a:Nat):Option Tok:=
 if a<dm jk l a then(if big (cut l a (dm jk l a)) then none else some ⟨110,cut l a (dm jk l a),a⟩)
 else if a<dm jn l a then
  (if qU (cut l a (dm jn l a)) then some ⟨107,cut l a (dm jn l a),a⟩
   else if dm jn l a - a<=8 then some ⟨111,cut l a (dm jn l a),a⟩ else none)
 else match l[a]? with
  |none=>none
  |some c=>
   if c.toNat=60 then(if(l.getD (a+1) 0).toNat=61 then some ⟨115,[60,61],a⟩ else some ⟨115,[60],a⟩)
   else if c.toNat=40\/c.toNat=41\/c.toNat=59\/c.toNat=43\/c.toNat=45\/c.toNat=61 then some ⟨115,[c],a⟩
   else none
def kP:Nat->List UInt8->Nat->List Tok×Option Nat
 |0,_,_=>([],none)
 |f+1,l,a=>
  if l.length<=dm kM l a then([⟨101,[],l.length⟩],none)
  else match fk l (dm kM l a) with
   |none=>([],some (dm kM l a))
   |some t=>(t::(kP f l (dm kM l a+t.text.length)).1,(kP f l (dm kM l a+t.text.length)).2)
structure Pt where
 tok:Tok
 subs:List Nat
structure Rd where
 ok:Bool
 i:Nat
 L:List Pt
 top:Nat
def ik:Tok:=⟨0,[],0⟩
def cq (ts:List Tok) (i:Nat):Tok:=ts.getD i ik
def eJ (t:Tok) (x:List UInt8):Bool:=(t.k==107||t.k==115)&&t.text==x
def oI:List UInt8:=[105,102]
def lC:List UInt8:=[116,104,101,110]
def lD:List UInt8:=[101,108,115,101]
def km:List UInt8:=[110,111,116]
def mG:List UInt8:=[116,114,117,101]
def mS:List UInt8:=[102,97,108,115,101]
def CJ:List UInt8:=[108,101,116]
def ir:List UInt8:=[97,108,108,111,119]
def qA:List UInt8:=[100,101,110,121]
def iO (n:Nat):List (List UInt8):=if n=0 then[[111,114]] else if n=1 then[[97,110,100]] else if n=3 then[[61],[60],[60,61]] else[[43],[45]]
def iB (n:Nat) (t:Tok):Bool:=decide (0<=dx (iO n) t.text)&&(t.k==107||t.k==115)
def eH (t:Tok):Bool:=t.k==110||t.k==111||(t.k==107&&(decide (0<=dx dy t.text)||decide (0<=dx dC t.text)||t.text==mG||t.text==mS))
def oL (i:Nat):Option Rd:=some ⟨false,i,[],0⟩
def mT (r:Rd) (t:Tok) (z:List Nat):Rd:=⟨true,r.i,r.L++[⟨t,z⟩],r.L.length⟩
def dZ (o:Option Rd) (k:Rd->Option Rd):Option Rd:=match o with
 |none=>none
 |some r=>if r.ok then k r else some r
def P:Nat->Nat->List Tok->Nat->List Pt->Nat->Option Rd
 |0,_,_,_,_,_=>none
 |f+1,z,ts,i,L,x=>
  if z=6 then
   if eJ (cq ts i) oI then
    dZ (P f 6 ts (i+1) L 0) λa=>
    if eJ (cq ts a.i) lC then
     dZ (P f 6 ts (a.i+1) a.L 0) λb=>
     if eJ (cq ts b.i) lD then
      dZ (P f 6 ts (b.i+1) b.L 0) λc=>some (mT c (cq ts i) [a.top,b.top,c.top])
     else oL b.i
    else oL a.i
   else P f 0 ts i L 0
  else if z=5 then
   if eJ (cq ts i) [40] then
    dZ (P f 6 ts (i+1) L 0) λa=>if eJ (cq ts a.i) [41] then some {a with i:=a.i+1} else oL a.i
   else if eH (cq ts i) then some ⟨true,i+1,L++[⟨cq ts i,[]⟩],L.length⟩
   else oL i
  else if z=2 then
   if eJ (cq ts i) km then dZ (P f 2 ts (i+1) L 0) λa=>some (mT a (cq ts i) [a.top])
   else P f 3 ts i L 0
  else if z<10 then dZ (P f (z+1) ts i L 0) λa=>P f (10+z) ts a.i a.L a.top
  else
   if iB (z - 10) (cq ts i) then
    dZ (P f (z - 9) ts (i+1) L 0) λb=>
    if z=13 then some (mT b (cq ts i) [x,b.top]) else P f z ts b.i (b.L++[⟨cq ts i,[x,b.top]⟩]) b.L.length
   else some ⟨true,i,L,x⟩
def iC (t:Tok):Int:=if t.k=110 then dW t.text else 0
def lE (t:Tok):Prop:=t.text.length<=1000/\(t.k=110->(∀c∈t.text,jk c=true)/\dW t.text<=9223372036854775807)
def Nx (f:Nat) (ts:List Tok) (a b:Rd) (x:List UInt8):Prop:=
 if a.ok=true/\eJ (cq ts a.i) x=true then P f 6 ts (a.i+1) a.L 0=some b else b.ok=false/\b.i=a.i
theorem nr (h:P (f+1) 6 ts i L x=some r) (U:eJ (cq ts i) oI=true):
 ∃a b c:Rd,P f 6 ts (i+1) L 0=some a/\Nx f ts a b lC/\Nx f ts b c lD/\r.ok=c.ok/\r.i=c.i/\(c.ok=true->a.ok=true/\b.ok=true/\r=mT c (cq ts i) [a.top,b.top,c.top]):=by
 rw[P,Qo rfl,Qo U] at h;cases R:P f 6 ts (i+1) L 0 with
 |none=>rw[R] at h;simp[dZ] at h
 |some a=>
  rw[R] at h;simp only[dZ] at h;by_cases z:a.ok=true
  ·rw[Qo z] at h;by_cases G:eJ (cq ts a.i) lC=true
   ·rw[Qo G] at h;cases I:P f 6 ts (a.i+1) a.L 0 with
    |none=>rw[I] at h;simp at h
    |some b=>
     rw[I] at h;simp only at h;by_cases D:b.ok=true
     ·rw[Qo D] at h;by_cases J:eJ (cq ts b.i) lD=true
      ·rw[Qo J] at h;cases O:P f 6 ts (b.i+1) b.L 0 with
       |none=>rw[O] at h;simp at h
       |some c=>
        rw[O] at h;simp only at h;refine⟨a,b,c,rfl,?_,?_,?_⟩
        ·unfold Nx;rw[Qo ⟨z,G⟩];exact I
        ·unfold Nx;rw[Qo ⟨D,J⟩];exact O
        by_cases E:c.ok=true
        ·rw[Qo E] at h;simp at h;subst h;exact⟨by simp[mT,E],rfl,λ_=>⟨z,D,rfl⟩⟩
        rw[Qj E] at h;simp at h;subst h;exact⟨rfl,rfl,λe=>absurd e E⟩
      rw[Qj J] at h;simp[oL] at h;subst h;refine⟨a,b,⟨false,b.i,[],0⟩,rfl,?_,?_,rfl,rfl,λe=>by simp at e⟩
      ·unfold Nx;rw[Qo ⟨z,G⟩];exact I
      unfold Nx;rw[Qj (λe=>J e.2)];exact⟨rfl,rfl⟩
     rw[Qj D] at h;simp at h;subst h;refine⟨a,b,⟨false,b.i,[],0⟩,rfl,?_,?_,by simpa using D,rfl,λe=>by simp at e⟩
     ·unfold Nx;rw[Qo ⟨z,G⟩];exact I
     unfold Nx;rw[Qj (λe=>D e.1)];exact⟨rfl,rfl⟩
   rw[Qj G] at h;simp[oL] at h;subst h;refine⟨a,⟨false,a.i,[],0⟩,⟨false,a.i,[],0⟩,rfl,?_,?_,rfl,rfl,λe=>by simp at e⟩
   ·unfold Nx;rw[Qj (λe=>G e.2)];exact⟨rfl,rfl⟩
   unfold Nx;rw[Qj (λe=>by simp at e)];exact⟨rfl,rfl⟩
  rw[Qj z] at h;simp at h;subst h;refine⟨a,⟨false,a.i,[],0⟩,⟨false,a.i,[],0⟩,rfl,?_,?_,by simpa using z,rfl,λe=>by simp at e⟩
  ·unfold Nx;rw[Qj (λe=>z e.1)];exact⟨rfl,rfl⟩
  unfold Nx;rw[Qj (λe=>by simp at e)];exact⟨rfl,rfl⟩
theorem ns (h:P (f+1) 5 ts i L x=some r) (G:eJ (cq ts i) [40]=true):
 ∃a:Rd,P f 6 ts (i+1) L 0=some a/\((a.ok=true/\eJ (cq ts a.i) [41]=true/\r={a with i:=a.i+1})\/(¬(a.ok=true/\eJ (cq ts a.i) [41]=true)/\r.ok=false/\r.i=a.i)):=by
 rw[P,Qj (by decide),Qo rfl,Qo G] at h
 cases E:P f 6 ts (i+1) L 0 with
 |none=>rw[E] at h;simp[dZ] at h
 |some a=>
  rw[E] at h;simp only[dZ] at h;refine⟨a,rfl,?_⟩;by_cases z:a.ok=true
  ·rw[Qo z] at h;by_cases D:eJ (cq ts a.i) [41]=true
   ·rw[Qo D] at h;simp at h;exact .inl ⟨z,D,h.symm⟩
   rw[Qj D] at h;simp[oL] at h;subst h;exact .inr ⟨λe=>D e.2,rfl,rfl⟩
  rw[Qj z] at h;simp at h;subst h;exact .inr ⟨λe=>z e.1,by simpa using z,rfl⟩
theorem lQ (h:P (f+1) 5 ts i L x=some r) (D: ¬eJ (cq ts i) [40]=true):
 (eH (cq ts i)=true/\r=⟨true,i+1,L++[⟨cq ts i,[]⟩],L.length⟩)\/(eH (cq ts i)=false/\r=⟨false,i,[],0⟩):=by
 rw[P,Qj (by decide),Qo rfl,Qj D] at h
 by_cases z:eH (cq ts i)=true
 ·rw[Qo z] at h;simp at h;exact .inl ⟨z,h.symm⟩
 rw[Qj z] at h;simp[oL] at h;exact .inr ⟨by simpa using z,h.symm⟩
theorem pN (h:P (f+1) 2 ts i L x=some r) (E:eJ (cq ts i) km=true):
 ∃a:Rd,P f 2 ts (i+1) L 0=some a/\r.ok=a.ok/\r.i=a.i/\(a.ok=true->r=mT a (cq ts i) [a.top]):=by
 rw[P,Qj (by decide),Qj (by decide),Qo rfl,Qo E] at h
 cases D:P f 2 ts (i+1) L 0 with
 |none=>rw[D] at h;simp[dZ] at h
 |some a=>
  rw[D] at h;simp only[dZ] at h;refine⟨a,rfl,?_⟩;by_cases z:a.ok=true
  ·rw[Qo z] at h;simp at h;subst h;exact⟨by simp[mT,z],rfl,λ_=>rfl⟩
  rw[Qj z] at h;simp at h;subst h;exact⟨rfl,rfl,λe=>absurd e z⟩
theorem qV (h:P (f+1) 2 ts i L x=some r) (z: ¬eJ (cq ts i) km=true):P f 3 ts i L 0=some r:=by
 rw[P,Qj (by decide),Qj (by decide),Qo rfl,Qj z] at h;exact h
def dD (n:Nat):Prop:=n=0\/n=1\/n=3\/n=4
theorem jN (E:dD n) (h:P (f+1) n ts i L x=some r):
 ∃a,P f (n+1) ts i L 0=some a/\((a.ok=true/\P f (10+n) ts a.i a.L a.top=some r)\/(a.ok=false/\r=a)):=by
 unfold dD at E;rw[P,Qj (by omega),Qj (by omega),Qj (by omega),Qo (by omega)] at h
 cases D:P f (n+1) ts i L 0 with
 |none=>rw[D] at h;simp[dZ] at h
 |some a=>
  rw[D] at h;simp only[dZ] at h;refine⟨a,rfl,?_⟩;by_cases z:a.ok=true
  ·rw[Qo z] at h;exact .inl ⟨z,h⟩
  rw[Qj z] at h;simp at h;exact .inr ⟨by simpa using z,h.symm⟩
theorem pO (z:dD n) (h:P (g+1) (10+n) ts i L x=some r) (D:iB n (cq ts i)=false):r=⟨true,i,L,x⟩:=by
 unfold dD at z;rw[P,Qj (by omega),Qj (by omega),Qj (by omega),Qj (by omega),show 10+n - 10=n from by omega,Qj (by simp[D])] at h
 simp at h;exact h.symm
theorem oM (E:dD n) (h:P (g+1) (10+n) ts i L x=some r) (G:iB n (cq ts i)=true):
 ∃b,P g (n+1) ts (i+1) L 0=some b/\((b.ok=false/\r=b)\/(b.ok=true/\((n=3/\r=mT b (cq ts i) [x,b.top])\/(n≠3/\P g (10+n) ts b.i (b.L++[⟨cq ts i,[x,b.top]⟩]) b.L.length=some r)))):=by
 unfold dD at E;rw[P,Qj (by omega),Qj (by omega),Qj (by omega),Qj (by omega),show 10+n - 10=n from by omega,show 10+n - 9=n+1 from by omega,Qo G] at h
 cases D:P g (n+1) ts (i+1) L 0 with
 |none=>rw[D] at h;simp[dZ] at h
 |some b=>
  rw[D] at h;simp only[dZ] at h;refine⟨b,rfl,?_⟩;by_cases z:b.ok=true
  ·rw[Qo z] at h;by_cases h3:n=3
   ·rw[Qo (by omega)] at h;simp at h;exact .inr ⟨z,.inl ⟨h3,h.symm⟩⟩
   rw[Qj (by omega)] at h;exact .inr ⟨z,.inr ⟨h3,h⟩⟩
  rw[Qj z] at h;simp at h;exact .inl ⟨by simpa using z,h.symm⟩
theorem qW (h:P (f+1) 6 ts i L x=some r) (z: ¬eJ (cq ts i) oI=true):P f 0 ts i L 0=some r:=by
 rw[P,Qo rfl,Qj z] at h;exact h
structure dw where
 name:List UInt8
 allow:Bool
 top:Nat
 pl:Nat
 named:Nat
 parts:Nat
structure At where
 ok:Bool
 i:Nat
 L:List Pt
 it:dw
def dr:dw:=⟨[],false,0,0,0,0⟩
def dV (i:Nat):Option At:=some ⟨false,i,[],dr⟩
def gj (f:Nat) (ts:List Tok) (i:Nat) (L:List Pt) (x:dw):Option At:=match P f 6 ts i L 0 with
 |none=>none
 |some a=>if a.ok then(if eJ (cq ts a.i) [59] then some ⟨true,a.i+1,a.L,{x with top:=a.top,parts:=a.L.length}⟩ else dV a.i) else dV a.i
def iF (f:Nat) (ts:List Tok) (i:Nat) (L:List Pt):Option At:=
 if eJ (cq ts i) CJ then
  if(cq ts (i+1)).k=111 then
   if eJ (cq ts (i+2)) [61] then gj f ts (i+3) L ⟨(cq ts (i+1)).text,false,0,(cq ts i).pl,(cq ts (i+1)).pl,0⟩ else dV (i+2)
  else dV (i+1)
 else if eJ (cq ts i) ir||eJ (cq ts i) qA then
  if eJ (cq ts (i+1)) oI then gj f ts (i+2) L ⟨[],(cq ts i).text==ir,0,(cq ts i).pl,0,0⟩ else dV (i+1)
 else dV i
def cz:Pt:=⟨ik,[]⟩
def gT (F:Nat->Nat) (l:List Nat):Nat:=l.foldl (λm j=>max m (F j)) 0
theorem rD (F:Nat->Nat) (l:List Nat) (k) (z:k<l.length):gT F (l.take (k+1))=max (gT F (l.take k)) (F l[k]):=by
 unfold gT;rw[Rw z,RH];rfl
theorem nX (F:Nat->Nat) (M) (h:∀j,F j<=M) (l):gT F l<=M:=by
 have:∀(l:List Nat) (m:Nat),m<=M->l.foldl (λm j=>max m (F j)) m<=M:=by
  intro l
  induction l with
  |nil=>intro m z;simpa using z
  |cons x l D=>intro m z;rw[R9];exact D _ (by have:=h x;omega)
 exact this l 0 (QA _)
def dep:Nat->List Pt->Nat->Nat
 |0,_,_=>1
 |f+1,L,i=>gT (dep f L) (L.getD i cz).subs+1
def xZ (L:List Pt):Prop:= ∀i,i<L.length->(L.getD i cz).subs.length<=3/\ ∀j∈(L.getD i cz).subs,j<i
theorem lR (f:Nat) (L) (i):dep f L i<=f+1:=by
 induction f generalizing i with
 |zero=>simp[dep]
 |succ f ih=>
  rw[dep];have:=nX (dep f L) (f+1) ih (L.getD i cz).subs;omega
def cX:List dw->List UInt8->Nat->Int
 |[],_,_=> -1
 |_::_,_,0=> -1
 |x::r,s,k+1=>if x.name==s then 0 else(if cX r s k<0 then -1 else cX r s k+1)
theorem rE (l:List dw) (s) (k): -1<=cX l s k:=by
 induction l generalizing k with
 |nil=>simp[cX]
 |cons x r ih=>
  cases k with
  |zero=>simp[cX]
  |succ k=>unfold cX;have:=ih k;split;omega;split<;>omega
theorem CK (l:List dw) (s) (k m) (z:k<l.length) (E:0<m):cX (l.drop k) s m=if l[k].name==s then 0 else(if cX (l.drop (k+1)) s (m - 1)<0 then -1 else cX (l.drop (k+1)) s (m - 1)+1):=by
 obtain⟨m,rfl⟩:∃D,m=D+1:=⟨m - 1,by omega⟩
 rw[QF z,cX];rfl
theorem u7 (l:List dw) (s:List UInt8):cX l s 0= -1:=by cases l<;>rfl
theorem rF (l:List dw) (s) (k):cX l s k<k/\cX l s k<l.length:=by
 induction l generalizing k with
 |nil=>simp[cX];omega
 |cons x r ih=>
  cases k with
  |zero=>simp[cX];omega
  |succ k=>unfold cX;have:=ih k;simp only[QH];split;omega;split<;>omega
def fz (L:List Pt):List dw->Nat->Nat->Option Nat
 |[],_,_=>none
 |x::r,lets,i=>
  if 10<lets+(if x.name==[] then 0 else 1)\/20<i+1 - (lets+(if x.name==[] then 0 else 1))\/200<x.parts\/20<dep (x.top+1) L x.top then some x.pl
  else fz L r (lets+(if x.name==[] then 0 else 1)) (i+1)
def mU (pl:Nat):Option Nat->Option Nat
 |none=>some pl
 |some p=>if pl<p then some pl else some p
def fK (xs:List dw) (i:Nat) (t:Tok) (o:Option Nat):Option Nat:=
 if t.k=111/\cX xs t.text i<0 then mU t.pl o else o
def dO (xs:List dw) (L:List Pt) (i:Nat):Nat->Nat->Option Nat->Option Nat
 |0,_,o=>o
 |c+1,k,o=>dO xs L i c (k+1) (fK xs i (L.getD k cz).tok o)
def dt (xs:List dw) (L:List Pt):List dw->Nat->Nat->Option Nat
 |[],_,_=>none
 |x::r,fr,i=>if x.name≠[]/\0<=cX xs x.name i then some x.named
  else(dO xs L i (x.parts - fr) fr none).or (dt xs L r x.parts (i+1))
def oN (x s:List UInt8):Nat:=
 if x=[43]\/x=[45] then(if s=[110,110] then 110 else 0)
 else if x=[60]\/x=[60,61] then(if s=[110,110] then 116 else 0)
 else if x=[61] then(if(s.getD 0 0).toNat=(s.getD 1 0).toNat then 116 else 0)
 else if x=[111,114]\/x=[97,110,100] then(if s=[116,116] then 116 else 0)
 else if x=[110,111,116] then(if s=[116] then 116 else 0)
 else if x=[105,102] then(if(s.getD 0 0).toNat=116/\(s.getD 1 0).toNat=(s.getD 2 0).toNat then(s.getD 1 0).toNat else 0)
 else 0
def eX (xs:List dw) (its:List UInt8) (t:Tok) (s:List UInt8):Nat:=
 if t.k=110 then 110
 else if t.k=111 then(its.getD (cX xs t.text its.length).toNat 0).toNat
 else if 0<=dx dC t.text then(([110,110,110,110,109,109,109,116,116]:List UInt8).getD (dx dC t.text).toNat 0).toNat
 else if 0<=dx dy t.text then 109
 else if t.text=mG\/t.text=mS then 116
 else oN t.text s
theorem FK (x s:List UInt8):oN x s<256:=by
 have h:=(s.getD 1 0).toNat_lt;unfold oN
 repeat' split
 all_goals omega
theorem FL (xs) (its:List UInt8) (t:Tok) (s):eX xs its t s<256:=by
 have h:=FK t.text s;unfold eX
 repeat' split
 all_goals first
  |omega
  |exact UInt8.toNat_lt _
def dk (xs:List dw) (its:List UInt8) (L:List Pt):Nat->Nat->UInt8
 |0,_=>0
 |f+1,k=>if((L.getD k cz).subs.map (dk xs its L f)).contains 0 then 0 else UInt8.ofNat (eX xs its (L.getD k cz).tok ((L.getD k cz).subs.map (dk xs its L f)))
def dP (xs:List dw) (L:List Pt):List dw->List UInt8->Option Nat
 |[],_=>none
 |x::r,its=>
  if(dk xs its L (x.top+1) x.top).toNat=0\/(x.name=[]/\(dk xs its L (x.top+1) x.top).toNat≠116) then some x.pl
  else dP xs L r (its++[dk xs its L (x.top+1) x.top])
structure nY where
 ok:Bool
 i:Nat
 L:List Pt
 xs:List dw
def dH (F:Nat) (ts:List Tok):Nat->Nat->List Pt->List dw->Option nY
 |0,_,_,_=>none
 |g+1,i,L,xs=>
  if(cq ts i).k=101 then some ⟨true,i,L,xs⟩
  else match iF F ts i L with
   |none=>none
   |some r=>if r.ok then dH F ts g r.i r.L (xs++[r.it]) else some ⟨false,r.i,[],[]⟩
theorem nt (h:dH F ts g i L xs=some R) (z:(cq ts i).k=101):R=⟨true,i,L,xs⟩:=by
 cases g with
 |zero=>rw[dH] at h;simp at h
 |succ g=>rw[dH,Qo z] at h;simp at h;exact h.symm
theorem u9 (h:dH F ts g i L xs=some R) (E: ¬(cq ts i).k=101):
 ∃r G,iF F ts i L=some r/\((r.ok=true/\dH F ts G r.i r.L (xs++[r.it])=some R)\/(r.ok=false/\R=⟨false,r.i,[],[]⟩)):=by
 cases g with
 |zero=>rw[dH] at h;simp at h
 |succ g=>
  rw[dH,Qj E] at h
  cases D:iF F ts i L with
  |none=>rw[D] at h;simp at h
  |some r=>
   rw[D] at h;simp only at h;refine⟨r,g,rfl,?_⟩
   by_cases z:r.ok=true
   ·rw[Qo z] at h;exact .inl ⟨z,h⟩
   ·rw[Qj z] at h;simp at h;exact .inr ⟨by simpa using z,h.symm⟩
def di (ts:List Tok) (R:nY):Nat×Nat:=
 if R.ok=false then(3,(cq ts R.i).pl)
 else match fz R.L R.xs 0 0 with
  |some p=>(4,p)
  |none=>match dt R.xs R.L R.xs 0 0 with
   |some p=>(5,p)
   |none=>match dP R.xs R.L R.xs [] with
    |some p=>(6,p)
    |none=>(0,0)
def ya (t:Tok) (n:Nat):Prop:=(t.k≠110->t.k≠111->t.text=[61]->2<=n)/\(t.k≠110->t.k≠111->t.text=[105,102]->3<=n)
def Inv (b:Nat) (L:List Pt):Prop:= ∀k,b<=k->k<L.length->(L.getD k cz).subs.length<=3/\(∀j∈(L.getD k cz).subs,b<=j/\j<k)/\ya (L.getD k cz).tok (L.getD k cz).subs.length
theorem gF {L M:List Pt} {k:Nat} (h:k<L.length):(L++M).getD k cz=L.getD k cz:=by
 simp[Qi,QT h]
theorem jO (L:List Pt) (p:Pt):(L++[p]).getD L.length cz=p:=by simp[Qi]
theorem Inv.snoc (h:Inv b L) (p) (h3:p.subs.length<=3) (z:∀j∈p.subs,b<=j/\j<L.length) (D:ya p.tok p.subs.length):Inv b (L++[p]):=by
 intro k E G;by_cases e:k<L.length
 ·rw[gF e];exact h k E e
 have:k=L.length:=by simp at G;omega
 subst this;rw[jO];exact⟨h3,z,D⟩
theorem Inv.mono (h:Inv b L) (D:b<=z) (E:L.length<=z):Inv z L:=by
 intro k G I;omega
theorem EV {x:LB} (h:eJ t x=true) (n:Nat) (z:x=[61]->2<=n) (h3:x=[105,102]->3<=n):ya t n:=by
 unfold eJ at h;simp at h;exact⟨λ_ _ e=>z (by rw[<-h.2];exact e),λ_ _ e=>h3 (by rw[<-h.2];exact e)⟩
theorem CL {n:Nat} {t:Tok} (h:iB n t=true):ya t 2:=by
 refine⟨λ_ _ _=>Qn _,λ_ _ e=>?_⟩
 unfold iB at h;rw[e] at h;unfold iO at h;exfalso;revert h;by_cases z:n=0
 ·rw[Qo z];simp[dx]
 rw[Qj z];by_cases D:n=1
 ·rw[Qo D];simp[dx]
 rw[Qj D];by_cases h3:n=3
 ·rw[Qo h3];simp[dx]
 rw[Qj h3];simp[dx]
theorem Az {t:Tok} (h:eH t=true):ya t 0:=by
 unfold eH at h;refine⟨λz D e=>?_,λz D e=>?_⟩
 ·rw[e] at h;have E:dx dy [61]= -1:=by decide
  have G:dx dC [61]= -1:=by decide
  rw[E,G] at h;simp[z,D,mG,mS] at h
 rw[e] at h;have E:dx dy [105,102]= -1:=by decide
 have G:dx dC [105,102]= -1:=by decide
 rw[E,G] at h;simp[z,D,mG,mS] at h
structure PO (b) (tag i) (L) (r:Rd):Prop where
 fwd:i<=r.i
 fwd1:tag<10->i<r.i
 more:∃new,r.L=L++new
 inv:Inv b r.L
 top:b<=r.top/\r.top<r.L.length
theorem yZ (f):∀z ts i L x b r,P f z ts i L x=some r->r.ok=true->b<=L.length->Inv b L->(10<=z->b<=x/\x<L.length)->(z<=6\/z=10\/z=11\/z=13\/z=14)->PO b z i L r:=by
 induction f with
 |zero=>intro z ts i L x b r h;rw[P] at h;simp at h
 |succ f ih=>
  intro z ts i L x b r h E hb O hx ht;by_cases h6:z=6
  ·subst h6;by_cases J:eJ (cq ts i) oI=true
   ·obtain⟨I,rb,rc,U,V,Y,ah,ai,Z⟩:=nr h J;rw[ah] at E;obtain⟨G,aa,rfl⟩:=Z E;have D:=ih 6 ts (i+1) L 0 b I U G hb O (by omega) (by omega)
    unfold Nx at V Y;have aj:eJ (cq ts I.i) lC=true:=by
     cases e:eJ (cq ts I.i) lC with
     |true=>rfl
     |false=>rw[Qj (by simp[e])] at V;rw[V.1] at aa;simp at aa
    have ak:eJ (cq ts rb.i) lD=true:=by
     cases e:eJ (cq ts rb.i) lD with
     |true=>rfl
     |false=>rw[Qj (by simp[e])] at Y;rw[Y.1] at E;simp at E
    rw[Qo ⟨G,aj⟩] at V;rw[Qo ⟨aa,ak⟩] at Y;obtain⟨na,ea⟩:=D.more;have kb:=ih 6 ts (I.i+1) I.L 0 b rb V aa (by rw[ea];simp;omega) D.inv (by omega) (by omega)
    obtain⟨nb,eb⟩:=kb.more;have R:=ih 6 ts (rb.i+1) rb.L 0 b rc Y E (by rw[eb,ea];simp;omega) kb.inv (by omega) (by omega)
    obtain⟨nc,ec⟩:=R.more;have la:I.L.length<=rb.L.length:=by rw[eb];simp
    have lb:rb.L.length<=rc.L.length:=by rw[ec];simp
    have t1:=D.top;have t2:=kb.top;have t3:=R.top;have f1:=D.fwd;have f2:=kb.fwd;have f3:=R.fwd;refine⟨by simp[mT];omega,λ_=>by simp[mT];omega,⟨na++(nb++(nc++[⟨cq ts i,[I.top,rb.top,rc.top]⟩])),by simp[mT,ec,eb,ea]⟩,?_,by simp[mT];omega⟩
    exact R.inv.snoc _ (by simp) (by intro j hj;simp at hj;rcases hj with rfl|rfl|rfl<;>omega) (EV J 3 (by simp[oI]) (by simp))
   have k:=ih 0 ts i L 0 b r (qW h J) E hb O (by omega) (by omega)
   exact⟨k.fwd,λ_=>k.fwd1 (by omega),k.more,k.inv,k.top⟩
  by_cases h5:z=5
  ·subst h5;by_cases J:eJ (cq ts i) [40]=true
   ·obtain⟨I,U,hr⟩:=ns h J;rcases hr with⟨G,ao,rfl⟩|⟨_,hr,_⟩
    ·have D:=ih 6 ts (i+1) L 0 b I U G hb O (by omega) (by omega)
     have f1:=D.fwd;exact⟨by simp;omega,λ_=>by simp;omega,D.more,D.inv,D.top⟩
    rw[hr] at E;simp at E
   rcases lQ h J with⟨ha,rfl⟩|⟨_,rfl⟩
   ·exact⟨by simp,λ_=>by simp,⟨_,rfl⟩,O.snoc _ (by simp) (by simp) (by simpa using Az ha),by simp;omega⟩
   simp at E
  by_cases h2:z=2
  ·subst h2;by_cases J:eJ (cq ts i) km=true
   ·obtain⟨I,U,am,ai,Z⟩:=pN h J;rw[am] at E;have Z:=Z E;subst Z;have D:=ih 2 ts (i+1) L 0 b I U E hb O (by omega) (by omega)
    obtain⟨na,ea⟩:=D.more;have t1:=D.top;have f1:=D.fwd;refine⟨by simp[mT];omega,λ_=>by simp[mT];omega,⟨na++[⟨cq ts i,[I.top]⟩],by simp[mT,ea]⟩,?_,by simp[mT];omega⟩
    exact D.inv.snoc _ (by simp) (by intro j hj;simp at hj;omega) (EV J 1 (by simp[km]) (by simp[km]))
   have k:=ih 3 ts i L 0 b r (qV h J) E hb O (by omega) (by omega)
   exact⟨k.fwd,λ_=>k.fwd1 (by omega),k.more,k.inv,k.top⟩
  by_cases ad:z<10
  ·rw[P,Qj h6,Qj h5,Qj h2,Qo ad] at h;cases ha:P f (z+1) ts i L 0 with
   |none=>rw[ha] at h;simp[dZ] at h
   |some a=>
    rw[ha] at h;simp only[dZ] at h;by_cases G:a.ok=true
    ·rw[Qo G] at h
     ·have D:=ih (z+1) ts i L 0 b a ha G hb O (by omega) (by omega)
      obtain⟨na,ea⟩:=D.more;have kb:=ih (10+z) ts a.i a.L a.top b r h E (by rw[ea];simp;omega) D.inv (λ_=>D.top) (by omega)
      obtain⟨nb,eb⟩:=kb.more;have f1:=D.fwd1 (by omega);have f2:=kb.fwd
      exact⟨by omega,λ_=>by omega,⟨na++nb,by rw[eb,ea,QW]⟩,kb.inv,kb.top⟩
    rw[Qj G] at h;simp at h;subst h;exact absurd E G
  rw[P,Qj h6,Qj h5,Qj h2,Qj ad] at h;have an:=hx (by omega)
  by_cases hj:iB (z - 10) (cq ts i)=true
  ·rw[Qo hj] at h;cases ac:P f (z - 9) ts (i+1) L 0 with
   |none=>rw[ac] at h;simp[dZ] at h
   |some c=>
    rw[ac] at h;simp only[dZ] at h;by_cases ab:c.ok=true
    ·rw[Qo ab] at h;have R:=ih (z - 9) ts (i+1) L 0 b c ac ab hb O (by omega) (by omega)
     obtain⟨nc,ec⟩:=R.more;have lc:L.length<=c.L.length:=by rw[ec];simp
     have t1:=R.top;have f1:=R.fwd;have ae:Inv b (c.L++[⟨cq ts i,[x,c.top]⟩]):=R.inv.snoc _ (by simp) (by intro j af;simp at af;rcases af with rfl|rfl<;>omega) (by simpa using CL hj)
     by_cases ag:z=13
     ·rw[Qo ag] at h;simp at h;subst h;exact⟨by simp[mT];omega,λe=>by omega,⟨nc++[⟨cq ts i,[x,c.top]⟩],by simp[mT,ec]⟩,ae,by simp[mT];omega⟩
     rw[Qj ag] at h;have kd:=ih z ts c.i (c.L++[⟨cq ts i,[x,c.top]⟩]) c.L.length b r h E (by simp;omega) ae (λ_=>by simp;omega) ht
     obtain⟨nd,ed⟩:=kd.more;have f2:=kd.fwd;exact⟨by omega,λe=>by omega,⟨nc++(⟨cq ts i,[x,c.top]⟩::nd),by rw[ed,ec];simp⟩,kd.inv,kd.top⟩
    rw[Qj ab] at h;simp at h;subst h;exact absurd E ab
  rw[Qj hj] at h;simp at h;subst h;exact⟨Qn _,λe=>by omega,⟨[],by simp⟩,O,an⟩
theorem vb (f):∀z ts i L x r,P f z ts i L x=some r->r.ok=true->(z<=6\/z=10\/z=11\/z=13\/z=14)->i<=r.i/\(z<10->i<r.i):=by
 induction f with
 |zero=>intro z ts i L x r h;rw[P] at h;simp at h
 |succ f ih=>
  intro z ts i L x r h D ht;by_cases h6:z=6
  ·subst h6;by_cases I:eJ (cq ts i) oI=true
   ·obtain⟨G,rb,rc,J,O,R,ad,Y,aa⟩:=nr h I;rw[ad] at D;obtain⟨E,U,_⟩:=aa D;have ka:=ih 6 ts (i+1) L 0 G J E (by omega)
    unfold Nx at O R;have ae:eJ (cq ts G.i) lC=true:=by
     cases e:eJ (cq ts G.i) lC with
     |true=>rfl
     |false=>rw[Qj (by simp[e])] at O;rw[O.1] at U;simp at U
    have af:eJ (cq ts rb.i) lD=true:=by
     cases e:eJ (cq ts rb.i) lD with
     |true=>rfl
     |false=>rw[Qj (by simp[e])] at R;rw[R.1] at D;simp at D
    rw[Qo ⟨E,ae⟩] at O;rw[Qo ⟨U,af⟩] at R;have kb:=ih 6 ts (G.i+1) G.L 0 rb O U (by omega)
    have kc:=ih 6 ts (rb.i+1) rb.L 0 rc R D (by omega)
    rw[Y];omega
   have k:=ih 0 ts i L 0 r (qW h I) D (by omega)
   exact⟨k.1,λ_=>k.2 (by omega)⟩
  by_cases h5:z=5
  ·subst h5;by_cases I:eJ (cq ts i) [40]=true
   ·obtain⟨G,J,hr⟩:=ns h I;rcases hr with⟨E,ah,rfl⟩|⟨_,hr,_⟩
    ·have ka:=ih 6 ts (i+1) L 0 G J E (by omega)
     simp;omega
    rw[hr] at D;simp at D
   rcases lQ h I with⟨ha,rfl⟩|⟨_,rfl⟩
   ·simp
   simp at D
  by_cases h2:z=2
  ·subst h2;by_cases I:eJ (cq ts i) km=true
   ·obtain⟨G,J,ag,Y,aa⟩:=pN h I;rw[ag] at D;have ka:=ih 2 ts (i+1) L 0 G J D (by omega)
    rw[Y];omega
   have k:=ih 3 ts i L 0 r (qV h I) D (by omega)
   exact⟨k.1,λ_=>k.2 (by omega)⟩
  by_cases ab:z<10
  ·rw[P,Qj h6,Qj h5,Qj h2,Qo ab] at h;cases ha:P f (z+1) ts i L 0 with
   |none=>rw[ha] at h;simp[dZ] at h
   |some a=>
    rw[ha] at h;simp only[dZ] at h;by_cases E:a.ok=true
    ·rw[Qo E] at h;have ka:=ih (z+1) ts i L 0 a ha E (by omega)
     have kb:=ih (10+z) ts a.i a.L a.top r h D (by omega)
     have:=ka.2 (by omega)
     omega
    rw[Qj E] at h;simp at h;subst h;exact absurd D E
  rw[P,Qj h6,Qj h5,Qj h2,Qj ab] at h;by_cases hj:iB (z - 10) (cq ts i)=true
  ·rw[Qo hj] at h;cases Z:P f (z - 9) ts (i+1) L 0 with
   |none=>rw[Z] at h;simp[dZ] at h
   |some c=>
    rw[Z] at h;simp only[dZ] at h;by_cases V:c.ok=true
    ·rw[Qo V] at h;have kc:=ih (z - 9) ts (i+1) L 0 c Z V (by omega)
     by_cases ac:z=13
     ·rw[Qo ac] at h;simp at h;subst h;simp[mT];omega
     rw[Qj ac] at h;have kd:=ih z ts c.i (c.L++[⟨cq ts i,[x,c.top]⟩]) c.L.length r h D ht;omega
    rw[Qj V] at h;simp at h;subst h;exact absurd D V
  rw[Qj hj] at h;simp at h;subst h;simp;omega
theorem AA {ts:List Tok} {i:Nat} (h:(cq ts i).k≠0):i<ts.length:=by
 rcases Rq i ts.length with z|z
 ·exact z
 exact absurd (by unfold cq;rw[Qi,QC z];rfl) h
theorem nu {ts:List Tok} {x:LB} (h:eJ (cq ts i) x=true):i<ts.length:=AA (by unfold eJ at h;simp at h;omega)
theorem AB {ts:List Tok} {i n:Nat} (h:iB n (cq ts i)=true):i<ts.length:=AA (by unfold iB at h;simp at h;omega)
def wt (z:Nat):Nat:=if z=6 then 8 else if z<6 then 7 - z else 1
theorem LW (f):∀z ts i L x,16*(ts.length - i)+wt z<=f->(z<=6\/z=10\/z=11\/z=13\/z=14)-> ∃r,P f z ts i L x=some r:=by
 induction f with
 |zero=>intro z ts i L x h ht;exfalso;unfold wt at h;split at h;omega;split at h<;>omega
 |succ f ih=>
  intro z ts i L x h ht;by_cases O:z=6
  ·subst O;have ab:wt 6=8:=rfl;rw[P,Qo rfl];by_cases G:eJ (cq ts i) oI=true
   ·rw[Qo G];have hr:=nu G;obtain⟨a,E⟩:=ih 6 ts (i+1) L 0 (by omega) (by omega)
    rw[E];simp only[dZ];by_cases D:a.ok=true
    ·rw[Qo D];have fa:=(vb f 6 ts (i+1) L 0 a E D (by omega)).1
     by_cases R:eJ (cq ts a.i) lC=true
     ·rw[Qo R];have ac:=nu R;obtain⟨c,J⟩:=ih 6 ts (a.i+1) a.L 0 (by omega) (by omega)
      rw[J];simp only;by_cases I:c.ok=true
      ·rw[Qo I];have fc:=(vb f 6 ts (a.i+1) a.L 0 c J I (by omega)).1
       by_cases he:eJ (cq ts c.i) lD=true
       ·rw[Qo he];have ad:=nu he;obtain⟨d,hd⟩:=ih 6 ts (c.i+1) c.L 0 (by omega) (by omega)
        rw[hd];simp only;by_cases V:d.ok=true
        ·rw[Qo V];exact⟨_,rfl⟩
        rw[Qj V];exact⟨_,rfl⟩
       rw[Qj he];exact⟨_,rfl⟩
      rw[Qj I];exact⟨_,rfl⟩
     rw[Qj R];exact⟨_,rfl⟩
    rw[Qj D];exact⟨_,rfl⟩
   rw[Qj G];exact ih 0 ts i L 0 (by have:wt 0=7:=rfl;omega) (by omega)
  by_cases U:z=5
  ·subst U;have ae:wt 5=2:=rfl;rw[P,Qj O,Qo rfl];by_cases G:eJ (cq ts i) [40]=true
   ·rw[Qo G];have hr:=nu G;obtain⟨a,E⟩:=ih 6 ts (i+1) L 0 (by have:wt 6=8:=rfl;omega) (by omega)
    rw[E];simp only[dZ];by_cases D:a.ok=true
    ·rw[Qo D];by_cases J:eJ (cq ts a.i) [41]=true
     ·rw[Qo J];exact⟨_,rfl⟩
     rw[Qj J];exact⟨_,rfl⟩
    rw[Qj D];exact⟨_,rfl⟩
   rw[Qj G];by_cases E:eH (cq ts i)=true
   ·rw[Qo E];exact⟨_,rfl⟩
   rw[Qj E];exact⟨_,rfl⟩
  by_cases h2:z=2
  ·subst h2;have af:wt 2=5:=rfl;rw[P,Qj O,Qj U,Qo rfl];by_cases G:eJ (cq ts i) km=true
   ·rw[Qo G];have hr:=nu G;obtain⟨a,E⟩:=ih 2 ts (i+1) L 0 (by omega) (by omega)
    rw[E];simp only[dZ];by_cases D:a.ok=true
    ·rw[Qo D];exact⟨_,rfl⟩
    rw[Qj D];exact⟨_,rfl⟩
   rw[Qj G];exact ih 3 ts i L 0 (by have:wt 3=4:=rfl;omega) (by omega)
  by_cases Y:z<10
  ·rw[P,Qj O,Qj U,Qj h2,Qo Y];have ag:wt (z+1)+1<=wt z/\2<=wt z:=by
    have e:z=0\/z=1\/z=3\/z=4:=by omega
    rcases e with rfl|rfl|rfl|rfl<;>decide
   obtain⟨a,E⟩:=ih (z+1) ts i L 0 (by omega) (by omega)
   rw[E];simp only[dZ];by_cases D:a.ok=true
   ·rw[Qo D];have fa:=(vb f (z+1) ts i L 0 a E D (by omega)).2 (by omega)
    have Z:wt (10+z)=1:=by unfold wt;rw[Qj (by omega),Qj (by omega)]
    exact ih (10+z) ts a.i a.L a.top (by rw[Z];omega) (by omega)
   rw[Qj D];exact⟨_,rfl⟩
  rw[P,Qj O,Qj U,Qj h2,Qj Y];have Z:wt z=1:=by unfold wt;rw[Qj (by omega),Qj (by omega)]
  by_cases hj:iB (z - 10) (cq ts i)=true
  ·rw[Qo hj];have hr:=AB hj;have ah:wt (z - 9)<=7:=by unfold wt;split;omega;split<;>omega
   obtain⟨c,J⟩:=ih (z - 9) ts (i+1) L 0 (by omega) (by omega)
   rw[J];simp only[dZ];by_cases I:c.ok=true
   ·rw[Qo I];have fc:=(vb f (z - 9) ts (i+1) L 0 c J I (by omega)).1
    by_cases aa:z=13
    ·rw[Qo aa];exact⟨_,rfl⟩
    rw[Qj aa];exact ih z ts c.i _ _ (by omega) ht
   rw[Qj I];exact⟨_,rfl⟩
  rw[Qj hj];exact⟨_,rfl⟩
def rG (p:Pt):Prop:=(eH p.tok=true/\p.subs=[])\/(eJ p.tok km=true/\p.subs.length=1)\/(eJ p.tok oI=true/\p.subs.length=3)\/(∃n,dD n/\iB n p.tok=true/\p.subs.length=2)
def jF (T:Nat->Nat->Prop):Nat->List Nat->Nat->Prop
 |z,[],D=>z=D
 |z,j::js,D=>T z j/\jF T (j+1) js D
def dN:Nat->List Pt->Nat->Nat->Prop
 |0,_,_,_=>False
 |f+1,L,E,i=>i<L.length/\rG (L.getD i cz)/\jF (dN f L) E (L.getD i cz).subs i
theorem jF.mono {T E:Nat->Nat->Prop} {js:List Nat} (G:∀z j,T z j->E z j):∀{z D},jF T z js D->jF E z js D:=by
 induction js with
 |nil=>intro z D h;exact h
 |cons j js ih=>intro z D h;exact⟨G _ _ h.1,ih h.2⟩
theorem dN.up {f:Nat}:∀{L z i},dN f L z i->dN (f+1) L z i:=by
 induction f with
 |zero=>intro L z i h;exact h.elim
 |succ f ih=>intro L z i h;exact⟨h.1,h.2.1,h.2.2.mono λz j D=>ih D⟩
theorem dN.upto (D:f<=g) (h:dN f L z i):dN g L z i:=by
 induction D with
 |refl=>exact h
 |step _ ih=>exact ih.up
theorem dN.lt (h:dN f L z i):i<L.length:=by
 cases f with
 |zero=>exact h.elim
 |succ f=>exact h.1
theorem dN.more {f:Nat}:∀{L z i},dN f L z i-> ∀new,dN f (L++new) z i:=by
 induction f with
 |zero=>intro L z i h;exact h.elim
 |succ f ih=>
  intro L z i h new;have e:=gF (M:=new) h.1;refine⟨by have:=h.1;simp;omega,by rw[e];exact h.2.1,by rw[e];exact h.2.2.mono λz j D=>ih D new⟩
def iR (L:List Pt) (z i:Nat):Prop:= ∃f,dN f L z i
theorem iR.more {L z i} (h:iR L z i) {D} (E:∃new,D=L++new):iR D z i:=by
 obtain⟨f,h⟩:=h;obtain⟨new,rfl⟩:=E;exact⟨f,h.more new⟩
theorem iR.put (D:rG p) (E:jF (dN f L) z p.subs L.length):iR (L++[p]) z L.length:=
 ⟨f+1,by simp,by rw[jO];exact D,by rw[jO];exact E.mono λz j G=>G.more _⟩
theorem iR.put1 (E:rG p) (G:p.subs=[a]) (z:iR L D a) (e:a+1=L.length):iR (L++[p]) D L.length:=by
 obtain⟨f,z⟩:=z;exact iR.put E (by rw[G];exact⟨z,e⟩)
theorem iR.put2 (G:rG p) (I:p.subs=[a,b]) (z:iR L E a) (D:iR L (a+1) b) (e:b+1=L.length):iR (L++[p]) E L.length:=by
 obtain⟨f,z⟩:=z;obtain⟨g,D⟩:=D;exact iR.put (f:=max f g) G (by rw[I];exact⟨z.upto (by omega),D.upto (by omega),e⟩)
theorem iR.put3 (I:rG p) (J:p.subs=[a,b,c]) (z:iR L G a) (D:iR L (a+1) b) (E:iR L (b+1) c) (e:c+1=L.length):iR (L++[p]) G L.length:=by
 obtain⟨f,z⟩:=z;obtain⟨g,D⟩:=D;obtain⟨k,E⟩:=E;exact iR.put (f:=max f (max g k)) I (by rw[J];exact⟨z.upto (by omega),D.upto (by omega),E.upto (by omega),e⟩)
def ve (ts:List Tok):Prop:= ∀m n,m<n->n<ts.length->(cq ts m).pl<(cq ts n).pl
def kQ (ts:List Tok) (L:List Pt) (i:Nat):Prop:=
 (∀k,k<L.length->(L.getD k cz).tok.k=111-> ∃m,m<i/\m<ts.length/\(L.getD k cz).tok=cq ts m)/\
 (∀k q,k<q->q<L.length->(L.getD k cz).tok.k=111->(L.getD q cz).tok.k=111->(L.getD k cz).tok.pl<(L.getD q cz).tok.pl)/\
 (∀k,k<L.length->(L.getD k cz).tok∈ts)
theorem qX {ts:List Tok} {i:Nat} (h:cq ts i≠ik):i<ts.length/\cq ts i∈ts:=by
 have z:i<ts.length:=by
  rcases Rq i ts.length with D|D
  ·exact D
  exact absurd (by unfold cq;rw[Qi,QC (by omega)];rfl) h
 exact⟨z,by unfold cq;rw[Qi,Ql z];exact QD z⟩
theorem sO (x:LB):eJ ik x=false:=rfl
theorem AD (n:Nat):iB n ik=false:=by unfold iB ik;simp
theorem kQ.mono {ts:List Tok} (h:kQ ts L i) (G:i<=j):kQ ts L j:=
 ⟨λk z D=>by obtain⟨m,I,E⟩:=h.1 k z D;exact⟨m,by omega,E⟩,h.2⟩
theorem kQ.other {ts:List Tok} (h:kQ ts L i) (p) (U:p.tok.k≠111) (V:p.tok∈ts):kQ ts (L++[p]) i:=by
 have I:∀k,k<(L++[p]).length->((L++[p]).getD k cz).tok.k=111->k<L.length:=λk E D=>by
  rcases Rq k L.length with z|z
  ·exact z
  have:k=L.length:=by simp at E;omega
  subst this;rw[jO] at D;exact absurd D U
 refine⟨λk E D=>?_,λk q O Y J G=>?_,λk E=>?_⟩
 ·have z:=I k E D;rw[gF z] at D⊢;exact h.1 k z D
 ·have R:=I q Y G;have z:k<L.length:=by omega
  rw[gF z] at J⊢;rw[gF R] at G⊢;exact h.2.1 k q O R J G
 rcases Rq k L.length with z|z
 ·rw[gF z];exact h.2.2 k z
 have:k=L.length:=by simp at E;omega
 subst this;rw[jO];exact V
theorem kQ.next {ts:List Tok} (Z:ve ts) (h:kQ ts L i) (O:eH (cq ts i)=true):kQ ts (L++[⟨cq ts i,[]⟩]) (i+1):=by
 obtain⟨R,G⟩:=qX λe=>by rw[e] at O;exact absurd O (by decide)
 refine⟨λk I U=>?_,λk q V Y D E=>?_,λk I=>?_⟩
 ·rcases Rq k L.length with z|z
  ·rw[gF z] at U⊢;obtain⟨m,a,b,c⟩:=h.1 k z U;exact⟨m,by omega,b,c⟩
  have:k=L.length:=by simp at I;omega
  subst this;rw[jO];exact⟨i,by omega,R,rfl⟩
 ·have z:k<L.length:=by simp at Y;omega
  rw[gF z] at D⊢;rcases Rq q L.length with J|J
  ·rw[gF J] at E⊢;exact h.2.1 k q V J D E
  have:q=L.length:=by simp at Y;omega
  subst this;rw[jO] at E⊢;obtain⟨m,a,b,c⟩:=h.1 k z D;rw[c];exact Z m i a R
 rcases Rq k L.length with z|z
 ·rw[gF z];exact h.2.2 k z
 have:k=L.length:=by simp at I;omega
 subst this;rw[jO];exact G
theorem nZ {t:Tok} {x:LB} (h:eJ t x=true):t.k≠111:=by
 unfold eJ at h;simp at h;omega
theorem Ja {ts:List Tok} {x:LB} (h:eJ (cq ts i) x=true):cq ts i∈ts:=(qX λe=>by rw[e] at h;exact absurd h (by rw[sO];simp)).2
theorem Jb {ts:List Tok} {i n:Nat} (h:iB n (cq ts i)=true):cq ts i∈ts:=(qX λe=>by rw[e] at h;exact absurd h (by rw[AD];simp)).2
theorem rH {t:Tok} {n:Nat} (h:iB n t=true):t.k≠111:=by
 unfold iB at h;simp at h;omega
theorem AE (h:P g z ts i L x=some r) (D:r.ok=true) (E:z<=6):∃new,r.L=L++new:=
 (yZ g z ts i L x L.length r h D (Qn _) (λk G I=>by omega) (by omega) (.inl E)).more
theorem NH {ts:List Tok} (hS:ve ts) (f):∀z i L x I r,P f z ts i L x=some r->r.ok=true->(z<=6\/z=10\/z=11\/z=13\/z=14)->kQ ts L i->(z<10->I=L.length)->(10<=z->x+1=L.length/\iR L I x)->
 r.top+1=r.L.length/\iR r.L I r.top/\kQ ts r.L r.i:=by
 induction f with
 |zero=>intro z i L x I r h;rw[P] at h;simp at h
 |succ f ih=>
  intro z i L x I r h E ht hO D hx;by_cases h6:z=6
  ·subst h6;have D:=D (by omega)
   by_cases J:eJ (cq ts i) oI=true
   ·obtain⟨G,rb,rc,R,Y,Z,af,ag,aa⟩:=nr h J;rw[af] at E;obtain⟨V,U,rfl⟩:=aa E;have fa:=(vb f 6 ts (i+1) L 0 G R V (by omega)).1
    obtain⟨a1,a2,a3⟩:=ih 6 (i+1) L 0 I G R V (by omega) (hO.mono (by omega)) (λ_=>D) (by omega)
    unfold Nx at Y Z;have ah:eJ (cq ts G.i) lC=true:=by
     cases e:eJ (cq ts G.i) lC with
     |true=>rfl
     |false=>rw[Qj (by simp[e])] at Y;rw[Y.1] at U;simp at U
    have ai:eJ (cq ts rb.i) lD=true:=by
     cases e:eJ (cq ts rb.i) lD with
     |true=>rfl
     |false=>rw[Qj (by simp[e])] at Z;rw[Z.1] at E;simp at E
    rw[Qo ⟨V,ah⟩] at Y;rw[Qo ⟨U,ai⟩] at Z;have ab:=AE Y U (by omega)
    have ac:=AE Z E (by omega)
    obtain⟨b1,b2,b3⟩:=ih 6 (G.i+1) G.L 0 G.L.length rb Y U (by omega) (a3.mono (by omega)) (λ_=>rfl) (by omega)
    obtain⟨c1,c2,c3⟩:=ih 6 (rb.i+1) rb.L 0 rb.L.length rc Z E (by omega) (b3.mono (by omega)) (λ_=>rfl) (by omega)
    refine⟨by simp[mT],?_,?_⟩
    ·rw[<-a1] at b2;rw[<-b1] at c2;exact iR.put3 (.inr (.inr (.inl ⟨J,rfl⟩))) rfl ((a2.more ab).more ac) (b2.more ac) c2 c1
    exact c3.other _ (nZ J) (Ja J)
   exact ih 0 i L 0 I r (qW h J) E (by omega) hO (λ_=>D) (by omega)
  by_cases h5:z=5
  ·subst h5;have D:=D (by omega)
   by_cases J:eJ (cq ts i) [40]=true
   ·obtain⟨G,R,O⟩:=ns h J;rcases O with⟨V,an,rfl⟩|⟨_,O,_⟩
    ·obtain⟨a1,a2,a3⟩:=ih 6 (i+1) L 0 I G R V (by omega) (hO.mono (by omega)) (λ_=>D) (by omega)
     exact⟨a1,a2,a3.mono (by simp)⟩
    rw[O] at E;simp at E
   rcases lQ h J with⟨ha,rfl⟩|⟨_,rfl⟩
   ·exact⟨by simp,by rw[D];exact iR.put (f:=0) (.inl ⟨ha,rfl⟩) rfl,hO.next hS ha⟩
   simp at E
  by_cases h2:z=2
  ·subst h2;have D:=D (by omega)
   by_cases J:eJ (cq ts i) km=true
   ·obtain⟨G,R,aj,ag,aa⟩:=pN h J;rw[aj] at E;have aa:=aa E;subst aa;obtain⟨a1,a2,a3⟩:=ih 2 (i+1) L 0 I G R E (by omega) (hO.mono (by omega)) (λ_=>D) (by omega)
    exact⟨by simp[mT],iR.put1 (.inr (.inl ⟨J,rfl⟩)) rfl a2 a1,a3.other _ (nZ J) (Ja J)⟩
   exact ih 3 i L 0 I r (qV h J) E (by omega) hO (λ_=>D) (by omega)
  by_cases ak:z<10
  ·have hn:dD z:=by unfold dD;omega
   have D:=D ak;obtain⟨G,R,O⟩:=jN hn h;rcases O with⟨V,O⟩|⟨no,rfl⟩
   ·unfold dD at hn;obtain⟨a1,a2,a3⟩:=ih (z+1) i L 0 I G R V (by omega) hO (λ_=>D) (by omega)
    exact ih (10+z) G.i G.L G.top I r O E (by omega) a3 (by omega) (λ_=>⟨a1,a2⟩)
   rw[no] at E;simp at E
  obtain⟨n,rfl⟩:∃n,z=10+n:=⟨z - 10,by omega⟩
  have hn:dD n:=by unfold dD;omega
  have am:=hn;unfold dD at am;obtain⟨x1,x2⟩:=hx (by omega)
  cases hj:iB n (cq ts i) with
  |false=>
   have:=pO hn h hj;subst this;exact⟨x1,x2,hO⟩
  |true=>
   obtain⟨rb,ad,O⟩:=oM hn h hj;rcases O with⟨no,rfl⟩|⟨U,O⟩
   ·rw[no] at E;simp at E
   have ab:=AE ad U (by omega)
   obtain⟨b1,b2,b3⟩:=ih (n+1) (i+1) L 0 L.length rb ad U (by omega) (hO.mono (by omega)) (λ_=>rfl) (by omega)
   rw[<-x1] at b2;have hT:iR (rb.L++[⟨cq ts i,[x,rb.top]⟩]) I rb.L.length:=iR.put2 (.inr (.inr (.inr ⟨n,hn,hj,rfl⟩))) rfl (x2.more ab) b2 b1;have ae:kQ ts (rb.L++[⟨cq ts i,[x,rb.top]⟩]) rb.i:=b3.other _ (rH hj) (Jb hj);rcases O with⟨h3,rfl⟩|⟨h3,O⟩
   ·exact⟨by simp[mT],hT,ae⟩
   exact ih (10+n) rb.i _ _ I r O E (by omega) ae (by omega) (λ_=>⟨by simp,hT⟩)
def lF (F:Nat->Nat):List Nat->Nat
 |[]=>0
 |j::js=>F j+lF F js
def cnt:Nat->List Pt->Nat->Nat
 |0,_,_=>1
 |f+1,L,i=>1+lF (cnt f L) (L.getD i cz).subs
theorem lS {T:Nat->Nat->Prop} (E:∀z j,T z j->z<=j) (js:List Nat):∀{z D},jF T z js D->z<=D:=by
 induction js with
 |nil=>intro z D h;exact Se h
 |cons j js ih=>intro z D h;have:=E _ _ h.1;have:=ih h.2;omega
theorem dN.le {f:Nat}:∀{L z i},dN f L z i->z<=i:=by
 induction f with
 |zero=>intro L z i h;exact h.elim
 |succ f ih=>intro L z i h;exact lS (λz j D=>ih D) _ h.2.2
theorem CM (E:∀z j,T z j->z<=j/\F j=j+1 - z) (js:List Nat):∀{z D},jF T z js D->lF F js=D - z:=by
 induction js with
 |nil=>intro z D h;have:z=D:=h;subst this;simp[lF]
 |cons j js ih=>
  intro z D h;have G:=E _ _ h.1;have I:=ih h.2;have h3:=lS (λz j J=>(E z j J).1) js h.2
  rw[lF,I,G.2];omega
theorem dN.cnt {f:Nat}:∀{L z i},dN f L z i->cnt f L i=i+1 - z:=by
 induction f with
 |zero=>intro L z i h;exact h.elim
 |succ f ih=>
  intro L z i h;have E:=dN.le h;have:=CM (λz j D=>⟨D.le,ih D⟩) _ h.2.2
  rw[Go.Proofs.YtfkdailfcmnjlaaGreatDoor.cnt,this];omega
theorem xz {F G:Nat->Nat} {l:List Nat} (h:∀j∈l,F j=G j):gT F l=gT G l:=by
 have:∀(l:List Nat) (m:Nat),(∀j∈l,F j=G j)->l.foldl (λm j=>max m (F j)) m=l.foldl (λm j=>max m (G j)) m:=by
  intro l;induction l with
  |nil=>intro m _;rfl
  |cons x l ih=>intro m z;rw[R9,R9,z x (by simp)];exact ih _ λj D=>z j (by simp[D])
 exact this l 0 h
theorem ku {T:Nat->Nat->Prop} (js:List Nat):∀{D E},jF T D js E-> ∀j∈js,∃G,T G j:=by
 induction js with
 |nil=>intro D E _ j z;simp at z
 |cons x js ih=>
  intro D E h j z;simp at z;rcases z with rfl|z
  ·exact⟨D,h.1⟩
  exact ih h.2 j z
theorem dN.dep {f:Nat}:∀{g L E i},dN f L E i->f<=g->dep g L i=dep f L i:=by
 induction f with
 |zero=>intro g L E i h;exact h.elim
 |succ f ih=>
  intro g L E i h hg;obtain⟨g,rfl⟩:∃U,g=U+1:=⟨g - 1,by omega⟩
  rw[Go.Proofs.YtfkdailfcmnjlaaGreatDoor.dep,Go.Proofs.YtfkdailfcmnjlaaGreatDoor.dep];rw[xz λj V=>?_]
  obtain⟨aa,Y⟩:=ku _ h.2.2 j V;exact ih Y (by omega)
theorem AG {T G:Nat->Nat->Prop} (js:List Nat):∀{z D},(∀z j,T z j->z<=j)->(∀z j,j<D->T z j->G z j)->jF T z js D->jF G z js D:=by
 induction js with
 |nil=>intro z D _ _ h;exact h
 |cons j js ih=>
  intro z D I J h;have:=lS I js h.2;exact⟨J _ _ (by omega) h.1,ih I J h.2⟩
theorem dN.fit {f:Nat}:∀{L z i},dN f L z i->dN (i+1) L z i:=by
 induction f with
 |zero=>intro L z i h;exact h.elim
 |succ f ih=>
  intro L z i h;exact⟨h.1,h.2.1,AG _ (λz j D=>D.le) (λz j D E=>(ih E).upto (by omega)) h.2.2⟩
theorem iR.fit {L z i} (h:iR L z i):dN (i+1) L z i:=by
 obtain⟨f,h⟩:=h;exact h.fit
def fU (F:Nat->Option Nat):List Nat->Option Nat
 |[]=>none
 |j::js=>match F j with
  |some p=>some p
  |none=>fU F js
def kY (bad:Tok->Bool):Nat->List Pt->Nat->Option Nat
 |0,_,_=>none
 |f+1,L,i=>if(L.getD i cz).tok.k=111 then(if bad (L.getD i cz).tok then some (L.getD i cz).tok.pl else none) else fU (kY bad f L) (L.getD i cz).subs
theorem qB (xs:List dw) (L) (n a):∀b k o,dO xs L n (a+b) k o=dO xs L n b (k+a) (dO xs L n a k o):=by
 induction a with
 |zero=>intro b k o;simp[dO]
 |succ a ih=>
  intro b k o;rw[show a+1+b=(a+b)+1 from by omega,dO,dO,ih,show k+1+a=k+(a+1) from by omega]
theorem za (xs:List dw) (L) (n p c):∀k,(∀q,k<=q->q<k+c->(L.getD q cz).tok.k=111->p<=(L.getD q cz).tok.pl)->dO xs L n c k (some p)=some p:=by
 induction c with
 |zero=>intro k _;rfl
 |succ c ih=>
  intro k h;rw[dO];have e:fK xs n (L.getD k cz).tok (some p)=some p:=by
   unfold fK;split
   ·rename_i z;have:=h k (Qn _) (by omega) z.1
    simp only[mU];rw[Qj (by omega)]
   rfl
  rw[e];exact ih (k+1) λq D E=>h q (by omega) (by omega)
def oO (xs:List dw) (n:Nat) (t:Tok):Bool:=decide (cX xs t.text n<0)
theorem CN
 (G:∀k q,k<q->q<L.length->(L.getD k cz).tok.k=111->(L.getD q cz).tok.k=111->(L.getD k cz).tok.pl<(L.getD q cz).tok.pl)
 (I:∀z j,T z j->z<=j/\dO xs L n (j+1 - z) z none=F j/\ ∀p,F j=some p-> ∃q,z<=q/\q<=j/\(L.getD q cz).tok.k=111/\(L.getD q cz).tok.pl=p)
 (js:List Nat):∀{z D},D<=L.length->jF T z js D->dO xs L n (D - z) z none=fU F js/\ ∀p,fU F js=some p-> ∃q,z<=q/\q<D/\(L.getD q cz).tok.k=111/\(L.getD q cz).tok.pl=p:=by
 induction js with
 |nil=>intro z D _ h;have:z=D:=h;subst this;simp[fU,dO]
 |cons j js ih=>
  intro z D J h;obtain⟨h1,O,h3⟩:=I _ _ h.1;have h4:=lS (λz j R=>(I z j R).1) js h.2
  obtain⟨U,V⟩:=ih J h.2;rw[show D - z=(j+1 - z)+(D - (j+1)) from by omega,qB,O,show z+(j+1 - z)=j+1 from by omega,fU]
  cases Y:F j with
  |none=>
   refine⟨U,λp E=>?_⟩
   obtain⟨q,a,b,c⟩:=V p E;exact⟨q,by omega,b,c⟩
  |some p=>
   obtain⟨q,a,b,c,d⟩:=h3 p Y;refine⟨za xs L n p _ _ λr aa ab Z=>?_,λp' E=>?_⟩
   ·have:=G q r (by omega) (by omega) c Z
    omega
   simp at E;subst E;exact⟨q,a,by omega,c,d⟩
theorem qY {p:Pt} (h:rG p) (z:p.tok.k=111):p.subs=[]:=by
 rcases h with⟨_,h⟩|⟨h,_⟩|⟨h,_⟩|⟨n,_,h,_⟩
 ·exact h
 ·exact absurd z (nZ h)
 ·exact absurd z (nZ h)
 exact absurd z (rH h)
theorem dN.res {xs:List dw}:∀{L z i},(∀k q,k<q->q<L.length->(L.getD k cz).tok.k=111->(L.getD q cz).tok.k=111->(L.getD k cz).tok.pl<(L.getD q cz).tok.pl)->dN f L z i->
 dO xs L n (i+1 - z) z none=kY (oO xs n) f L i/\ ∀p,kY (oO xs n) f L i=some p-> ∃q,z<=q/\q<=i/\(L.getD q cz).tok.k=111/\(L.getD q cz).tok.pl=p:=by
 induction f with
 |zero=>intro L z i _ h;exact h.elim
 |succ f ih=>
  intro L z i I h;have J:=h.le;obtain⟨R,U⟩:=CN I (λz j O=>⟨O.le,ih I O⟩) _ (by have:=h.1;omega) h.2.2
  rw[show i+1 - z=(i - z)+1 from by omega,qB,R,show z+(i - z)=i from by omega,dO,dO,kY]
  by_cases D:(L.getD i cz).tok.k=111
  ·rw[Qo D,qY h.2.1 D,fU];unfold fK oO;by_cases G:cX xs (L.getD i cz).tok.text n<0
   ·rw[Qo ⟨D,G⟩,QZ G,Qo rfl];refine⟨rfl,λp E=>?_⟩
    simp at E;exact⟨i,J,Qn _,D,E⟩
   rw[Qj (λe=>G e.2),QM G]
   exact⟨rfl,λp E=>by simp at E⟩
  rw[Qj D];unfold fK;rw[Qj (λe=>D e.1)]
  refine⟨rfl,λp E=>?_⟩
  obtain⟨q,a,b,c⟩:=U p E;exact⟨q,a,by omega,c⟩
def fI:List dw->List (List UInt8)
 |[]=>[]
 |x::r=>if x.name=[] then fI r else x.name::fI r
theorem AH (xs:List dw) (x:dw):fI (xs++[x])=if x.name=[] then fI xs else fI xs++[x.name]:=by
 induction xs with
 |nil=>simp[fI]
 |cons y r ih=>
  simp only[SI,fI,ih]
  split<;>split<;>simp
theorem uM (xs:List dw):(fI xs).length<=xs.length:=by
 induction xs with
 |nil=>simp[fI]
 |cons y r ih=>rw[fI];split<;>simp<;>omega
theorem sP (s:List UInt8) (G:s≠[]) (xs:List dw):∀k,dx (fI (xs.take k)) s<0↔cX xs s k<0:=by
 induction xs with
 |nil=>intro k;simp[fI,dx,cX]
 |cons x r ih=>
  intro k
  cases k with
  |zero=>simp[fI,dx,cX]
  |succ k=>
   have:=ih k;rw[RA,fI,cX]
   by_cases E:x.name=[]
   ·rw[Qo E,E,Qj (by simpa using G)]
    by_cases z:cX r s k<0
    ·rw[Qo z];exact⟨λ_=>by decide,λ_=>this.2 z⟩
    ·rw[Qj z];constructor
     ·intro h;exact absurd (this.1 h) z
     ·intro h;omega
   ·rw[Qj E,dx]
    by_cases D:(x.name==s)=true
    ·rw[Qo D,Qo D]
    ·rw[Qj D,Qj D]
     by_cases z:cX r s k<0
     ·rw[Qo z,Qo (this.2 z)]
     ·rw[Qj z,Qj (λh=>z (this.1 h))]
      have I: ¬dx (fI (r.take k)) s<0:=λh=>z (this.1 h)
      omega
def eA (c:UInt8):Nat:=if c.toNat=110 then 1 else if c.toNat=116 then 2 else if c.toNat=109 then 3 else 0
def eG:List dw->List UInt8->List Nat
 |x::r,t::ts=>if x.name=[] then eG r ts else eA t::eG r ts
 |_,_=>[]
theorem oP (xs : List dw) (x : dw) (t : UInt8) :∀ (its : List UInt8), its.length = xs.length -> eG (xs ++ [x]) (its ++ [t]) = if x.name = [] then eG xs its else eG xs its ++ [eA t] := by
  induction xs with
  | nil => intro its h; obtain rfl : its = [] := by simpa using h
           simp [eG]
  | cons y r ih =>
    intro its h
    cases its with
    | nil => simp at h
    | cons u its =>
      have := ih its (by simpa using h)
      simp only [SI, eG, this]
      split <;> split <;> simp
theorem n9 (xs:List dw):∀(its:List UInt8),its.length=xs.length->(eG xs its).length=(fI xs).length:=by
 induction xs with
 |nil=>intro its h;simp[eG,fI]
 |cons y r ih=>
  intro its h
  cases its with
  |nil=>simp at h
  |cons u its=>
   have:=ih its (by simpa using h)
   rw[eG,fI];split<;>simp[this]
theorem yb (s:List UInt8) (I:s≠[]) (xs):∀its,its.length<=xs.length->0<=cX xs s its.length->(eG (xs.take its.length) its).getD (dx (fI (xs.take its.length)) s).toNat 0=eA (its.getD (cX xs s its.length).toNat 0):=by
 induction xs with
 |nil=>intro its h z;simp[cX] at z
 |cons x r ih=>
  intro its h z
  cases its with
  |nil=>simp[cX] at z
  |cons u its=>
   rw[QH] at*;rw[cX] at z⊢;rw[RA,eG,fI]
   by_cases G:x.name=[]
   ·have D: ¬(x.name==s)=true:=by rw[G];simpa using I
    rw[Qj D] at z⊢;rw[Qo G,Qo G]
    by_cases E:cX r s its.length<0
    ·rw[Qo E] at z;omega
    ·rw[Qj E]
     rw[ih its (by simpa using h) (by omega),show(cX r s its.length+1).toNat=(cX r s its.length).toNat+1 from by omega,QI]
   ·rw[Qj G,Qj G,dx]
    by_cases D:(x.name==s)=true
    ·rw[Qo D,Qo D];rfl
    ·rw[Qj D] at z⊢
     rw[Qj D]
     by_cases E:cX r s its.length<0
     ·rw[Qo E] at z;omega
     ·have J: ¬dx (fI (r.take its.length)) s<0:=λh=>E ((sP s I r _).1 h)
      rw[Qj E,Qj J,show(cX r s its.length+1).toNat=(cX r s its.length).toNat+1 from by omega,show(dx (fI (r.take its.length)) s+1).toNat=(dx (fI (r.take its.length)) s).toNat+1 from by omega,QI,QI]
      exact ih its (by simpa using h) (by omega)
theorem CO {l m:List (List UInt8)} {s:List UInt8} (h:0<=dx l s):dx (l++m) s=dx l s:=by
 induction l with
 |nil=>simp[dx] at h
 |cons x r ih=>
  rw[SI,dx,dx] at*
  by_cases z:(x==s)=true
  ·rw[Qo z,Qo z]
  ·rw[Qj z] at h⊢
   rw[Qj z]
   by_cases J:dx r s<0
   ·rw[Qo J] at h;omega
   ·rw[ih (by omega)]
theorem Jc (xs:List dw) (k:Nat):∃m,fI xs=fI (xs.take k)++m:=by
 induction xs generalizing k with
 |nil=>exact⟨[],by simp[fI]⟩
 |cons x r ih=>
  cases k with
  |zero=>exact⟨_,by simp[fI];rfl⟩
  |succ k=>
   obtain⟨m,z⟩:=ih k;refine⟨m,?_⟩;rw[RA,fI,fI,z]
   split<;>simp
theorem zc {xs:List dw} (c):∀k o,dO xs L i c k o=none->o=none/\ ∀q,k<=q->q<k+c->(L.getD q cz).tok.k=111->0<=cX xs (L.getD q cz).tok.text i:=by
 induction c with
 |zero=>intro k o h;exact⟨h,λq z G=>by omega⟩
 |succ c ih=>
  intro k o h;rw[dO] at h;obtain⟨z,G⟩:=ih _ _ h;unfold fK at z
  by_cases E:(L.getD k cz).tok.k=111/\cX xs (L.getD k cz).tok.text i<0
  ·rw[Qo E] at z
   exfalso
   cases o with
   |none=>simp[mU] at z
   |some p=>
    have I:∀m,mU m (some p)≠none:=λm=>by simp only[mU];split<;>simp
    exact I _ z
  ·rw[Qj E] at z
   refine⟨z,λq O R D=>?_⟩
   by_cases e:q=k
   ·subst e
    by_cases J:cX xs (L.getD q cz).tok.text i<0
    ·exact absurd ⟨D,J⟩ E
    ·omega
   ·exact G q (by omega) (by omega) D
theorem xA {F G:Nat->Option Nat} {js:List Nat} (h:∀j∈js,F j=G j):fU F js=fU G js:=by
 induction js with
 |nil=>rfl
 |cons x js ih=>rw[fU,fU,h x (by simp),ih λj z=>h j (by simp[z])]
theorem CP {bad} (E:∀k,k<L.length->(L.getD k cz).tok.k=111->bad (L.getD k cz).tok=bad' (L.getD k cz).tok) (f):∀{D i},dN f L D i->kY bad f L i=kY bad' f L i:=by
 induction f with
 |zero=>intro D i h;exact h.elim
 |succ f ih=>
  intro D i h;rw[kY,kY]
  by_cases z:(L.getD i cz).tok.k=111
  ·rw[Qo z,Qo z,E i h.1 z]
  ·rw[Qj z,Qj z]
   exact xA λj G=>by
    obtain⟨J,I⟩:=ku _ h.2.2 j G;exact ih I
def fs (L:List Pt):List dw->Nat->Prop
 |[],fr=>fr=L.length
 |x::r,fr=>iR L fr x.top/\x.top+1=x.parts/\fs L r x.parts
structure iu (L:List Pt):Prop where
 up:∀k q,k<q->q<L.length->(L.getD k cz).tok.k=111->(L.getD q cz).tok.k=111->(L.getD k cz).tok.pl<(L.getD q cz).tok.pl
 own:∀k,k<L.length->(L.getD k cz).tok.k=111->(L.getD k cz).tok.text≠[]
 few:L.length<=5000
theorem vg (I:iu L) (J:iR L fr x.top) (O:x.top+1=x.parts):
 dt xs L (x::r) fr i=if x.name≠[]/\0<=dx (fI (xs.take i)) x.name then some x.named else(kY (oO xs i) (x.top+1) L x.top).or (dt xs L r x.parts (i+1)):=by
 have R:=(dN.res (xs:=xs) (n:=i) I.up J.fit).1;rw[dt,<-O,R]
 by_cases z:x.name=[]
 ·rw[Qj (λe=>e.1 z),Qj (λe=>e.1 z)]
 ·have E:=sP x.name z xs i
  by_cases G:cX xs x.name i<0
  ·rw[Qj (λe=>by have:=e.2;omega),Qj (λe=>by have:=E.2 G;have:=e.2;omega)]
  ·rw[Qo ⟨z,by omega⟩,Qo ⟨z,by
    have: ¬dx (fI (xs.take i)) x.name<0:=λh=>G (E.1 h)
    omega⟩]
theorem vh (i:Nat) (h:0<=dx (fI (xs.take i)) s):dx (fI xs) s=dx (fI (xs.take i)) s:=by
 obtain⟨m,z⟩:=Jc xs i;rw[z];exact CO h
def ko:Nat->Nat->List UInt8
 |0,_=>[]
 |f+1,n=>if n<10 then[UInt8.ofNat (48+n)] else ko f (n / 10)++[UInt8.ofNat (48+n %10)]
def rI (n:Nat):List UInt8:=ko 20 n
theorem yc (f n:Nat):(ko f n).length<=f:=by
 induction f generalizing n with
 |zero=>simp[ko]
 |succ f ih=>
  rw[ko];split
  ·simp
  ·have:=ih (n / 10);simp;omega
def ud:List UInt8:=[40,110,111,116,32]
def qu:List UInt8:=[40,105,102,32]
def jX:List UInt8:=[32,116,104,101,110,32]
def mV:List UInt8:=[32,101,108,115,101,32]
def nw:List UInt8:=[108,101,116,32]
def xB:List UInt8:=[32,61,32]
def pP:List UInt8:=[97,108,108,111,119,32,105,102,32]
def sQ:List UInt8:=[100,101,110,121,32,105,102,32]
def kr (z:List UInt8):List (List UInt8)->List UInt8
 |[]=>z
 |[a]=>ud++a++[41]
 |[a,b]=>[40]++a++[32]++z++[32]++b++[41]
 |a::b::c::_=>qu++a++jX++b++mV++c++[41]
def gk:Nat->List Pt->Nat->List UInt8
 |0,_,_=>[]
 |f+1,L,i=>if(L.getD i cz).tok.k=110 then rI (dW (L.getD i cz).tok.text) else kr (L.getD i cz).tok.text ((L.getD i cz).subs.map (gk f L))
def lZ (x:dw):List UInt8:=if x.name=[] then(if x.allow then pP else sQ) else nw++x.name++xB
def AI (L:List Pt) (x:dw):List UInt8:=lZ x++gk (x.top+1) L x.top++[59,10]
def ky (L:List Pt) (xs:List dw):List UInt8:=xs.flatMap (AI L)
theorem CQ {F:Nat->List UInt8} (E:∀z j,T z j->z<=j/\(F j).length<=c*(j+1 - z)) (js:List Nat):∀{z D},jF T z js D->(js.map F).flatten.length<=c*(D - z):=by
 induction js with
 |nil=>intro z D _;simp
 |cons j js ih=>
  intro z D h;obtain⟨I,J⟩:=E _ _ h.1;have h3:=ih h.2;have O:=lS (λz j G=>(E z j G).1) js h.2
  have e:c*(D - z)=c*(j+1 - z)+c*(D - (j+1)):=by rw[<-Nat.mul_add];congr 1;omega
  simp only[QL,List.flatten_cons,Qt];rw[e];omega
theorem Jd (z:List UInt8) (D:List (List UInt8)):(kr z D).length<=z.length+D.flatten.length+17:=by
 match D with
 |[]=>simp[kr]
 |[a]=>simp[kr,ud];omega
 |[a,b]=>simp[kr];omega
 |a::b::c::r=>simp[kr,qu,jX,mV];omega
theorem dN.plain_len {f:Nat}:∀{L z i},(∀k,k<L.length->(L.getD k cz).tok.text.length<=1000)->dN f L z i->(gk f L i).length<=1100*(i+1 - z):=by
 induction f with
 |zero=>intro L z i _ h;exact h.elim
 |succ f ih=>
  intro L z i D h;have G:=h.le;have I:=CQ (T:=dN f L) (F:=gk f L) (c:=1100) (λz j E=>⟨E.le,ih D E⟩) _ h.2.2
  have J:=Jd (L.getD i cz).tok.text ((L.getD i cz).subs.map (gk f L));have h3:=D i h.1;have O:=yc 20 (dW (L.getD i cz).tok.text);have e:1100*(i+1 - z)=1100*(i - z)+1100:=by omega
  rw[gk,e]
  split
  ·unfold rI;omega
  ·omega
structure Sy where
 k:Nat
 text:List UInt8
 kids:List Sy
def PQ:Sy:=⟨0,[],[]⟩
def wd (t:Tok):Nat×List UInt8:=(t.k,t.text)
def Mt (ts:List Tok):Nat->List (Nat×List UInt8)->Prop
 |_,[]=>True
 |i,w::r=>wd (cq ts i)=w/\Mt ts (i+1) r
theorem Mt.left {ts} {a:List (Nat×LB)}:∀{i} {b:List (Nat×LB)},Mt ts i (a++b)->Mt ts i a:=by
 induction a with
 |nil=>intro i b _;trivial
 |cons w a ih=>intro i b h;exact⟨h.1,ih h.2⟩
def OT (t:Tok) (s:Sy):Prop:=t.k=s.k/\(if s.k=110 then dW t.text=dW s.text else t.text=s.text)
def zd:Nat->List Pt->Nat->Sy->Prop
 |0,_,_,_=>False
 |d+1,L,i,s=>i<L.length/\OT (L.getD i cz).tok s/\(L.getD i cz).subs.length=s.kids.length/\ ∀j,j<s.kids.length->zd d L ((L.getD i cz).subs.getD j 0) (s.kids.getD j PQ)
theorem zd.more {d:Nat}:∀{L i s},zd d L i s-> ∀new,zd d (L++new) i s:=by
 induction d with
 |zero=>intro L i s h;exact h.elim
 |succ d ih=>
  intro L i s h new;obtain⟨E,z,h3,D⟩:=h;rw[<-gF E] at z h3 D;exact⟨by simp;omega,z,h3,λj G=>ih (D j G) new⟩
theorem zd.up {d:Nat}:∀{L i s},zd d L i s->zd (d+1) L i s:=by
 induction d with
 |zero=>intro L i s h;exact h.elim
 |succ d ih=>intro L i s h;exact⟨h.1,h.2.1,h.2.2.1,λj z=>ih (h.2.2.2 j z)⟩
def cS:Nat->Sy->Nat
 |0,_=>0
 |d+1,s=>1+(s.kids.map (cS d)).sum
structure Qe (d i n) (L) (s) (r:Rd):Prop where
 ok:r.ok=true
 at_:r.i=i+n
 new:∃new,r.L=L++new
 len:r.L.length=L.length+cS d s
 top:r.top+1=r.L.length
 is:zd d r.L r.top s
def PE (n:Nat) (t:Tok):Prop:= ∀m,n<=m->dD m->iB m t=false
theorem PE.up (h:PE n t):PE (n+1) t:=λm D z=>h m (by omega) z
def sR (d n:Nat) (z:List (Nat×List UInt8)) (s:Sy):Prop:=
 ∀(ts:List Tok) (i:Nat) (L:List Pt) (x f:Nat) (r:Rd),Mt ts i z->PE (if n=6 then 0 else n) (cq ts (i+z.length))->P f n ts i L x=some r->Qe d i z.length L s r
def Je (w:Nat×List UInt8) (x:List UInt8):Bool:=(w.1==107||w.1==115)&&w.2==x
theorem Jf {w:Nat×LB} (h:wd t=w) (x:LB):eJ t x=Je w x:=by subst h;rfl
def Hd (E:List (Nat×List UInt8)):Prop:= ∃w r,E=w::r/\Je w km=false/\Je w oI=false
theorem Hd.more {z:List (Nat×LB)} (h:Hd z) (m:List (Nat×LB)):Hd (z++m):=by
 obtain⟨w,r,rfl,h⟩:=h;exact⟨w,r++m,rfl,h⟩
theorem ze (h:P 0 n ts i L x=some r):False:=by rw[P] at h;cases h
theorem sR.chain {G:List (Nat×LB)} (z:dD n) (h:sR d (n+1) G s):sR d n G s:=by
 intro ts i L x f r J E I;have O:n≠6:=by unfold dD at z;omega
 have R:n+1≠6:=by unfold dD at z;omega
 rw[Qj O] at E;cases f with
 |zero=>exact(ze I).elim
 |succ f=>
  obtain⟨a,U,D⟩:=jN z I;have g:=h ts i L 0 f a J (by rw[Qj R];exact E.up) U
  rcases D with⟨_,D⟩|⟨e,_⟩
  ·cases f with
   |zero=>exact(ze D).elim
   |succ f=>
    have:=pO z D (by rw[g.at_];exact E n (Qn _) z)
    subst this;exact⟨rfl,g.at_,g.new,g.len,g.top,g.is⟩
  rw[g.ok] at e;cases e
theorem sR.part {z:List (Nat×LB)} (G:Hd z) (h:sR d 3 z s):sR d 2 z s:=by
 intro ts i L x f r D I E;cases f with
 |zero=>exact(ze E).elim
 |succ f=>
  obtain⟨w,q,rfl,J,_⟩:=G;exact h ts i L 0 f r D I.up (qV E (by rw[Jf D.1,J];simp))
theorem sR.cond {z:List (Nat×LB)} (G:∃w r,z=w::r/\Je w oI=false) (h:sR d 0 z s):sR d 6 z s:=by
 intro ts i L x f r D I E;cases f with
 |zero=>exact(ze E).elim
 |succ f=>
  obtain⟨w,q,rfl,J⟩:=G;exact h ts i L 0 f r D I (qW E (by rw[Jf D.1,J];simp))
theorem Hd.if_ {z:List (Nat×LB)} (h:Hd z):∃w r,z=w::r/\Je w oI=false:=by
 obtain⟨w,r,e,_,h⟩:=h;exact⟨w,r,e,h⟩
theorem sR.to4 {z:List (Nat×LB)} (h:sR d 5 z s):sR d 4 z s:=h.chain (by simp[dD])
theorem sR.to3 {z:List (Nat×LB)} (h:sR d 4 z s):sR d 3 z s:=h.chain (by simp[dD])
theorem sR.to1 {z:List (Nat×LB)} (h:sR d 2 z s):sR d 1 z s:=h.chain (by simp[dD])
theorem sR.to0 {z:List (Nat×LB)} (h:sR d 1 z s):sR d 0 z s:=h.chain (by simp[dD])
theorem sR.out {D:List (Nat×LB)} (G:Hd D) (h:sR d 5 D s) (Y:n<=6):sR d n D s:=by
 have I:=h.to4;have h3:=I.to3;have J:=h3.part G;have O:=J.to1;have R:=O.to0;have Z:=R.cond G.if_;match n,Y with
 |0,_=>exact R
 |1,_=>exact O
 |2,_=>exact J
 |3,_=>exact h3
 |4,_=>exact I
 |5,_=>exact h
 |6,_=>exact Z
theorem sR.up {d n} {z:List (Nat×LB)} {s} (D:cS (d+1) s=cS d s) (h:sR d n z s):sR (d+1) n z s:=λts i L x f r E G I=>by
 have g:=h ts i L x f r E G I;exact⟨g.ok,g.at_,g.new,by rw[D];exact g.len,g.top,g.is.up⟩
def OU (s:List UInt8):Option (Nat×List UInt8):=
 if s.takeWhile jk≠[] then(if big (s.takeWhile jk) then none else some (110,s.takeWhile jk))
 else if s.takeWhile jn≠[] then
  (if qU (s.takeWhile jn) then some (107,s.takeWhile jn)
   else if(s.takeWhile jn).length<=8 then some (111,s.takeWhile jn) else none)
 else match s with
  |[]=>none
  |c::r=>
   if c.toNat=60 then(if(r.getD 0 0).toNat=61 then some (115,[60,61]) else some (115,[60]))
   else if c.toNat=40\/c.toNat=41\/c.toNat=59\/c.toNat=43\/c.toNat=45\/c.toNat=61 then some (115,[c])
   else none
def lx:Nat->List UInt8->Option (List (Nat×List UInt8))
 |0,_=>none
 |f+1,l=>
  if l.dropWhile kM=[] then some []
  else match OU (l.dropWhile kM) with
   |none=>none
   |some w=>(lx f ((l.dropWhile kM).drop w.2.length)).map λr=>w::r
def LX (l:List UInt8) (G:List (Nat×List UInt8)):Prop:= ∀f,l.length<f->lx f l=some G
theorem LX.nil:LX [] []:=λf h=>by
 obtain⟨f,rfl⟩:∃g,f=g+1:=⟨f - 1,by simp at h;omega⟩
 rfl
structure PG where
 name:List UInt8
 allow:Bool
 sy:Sy
def hW (s:PG):List (Nat×List UInt8):=if s.name=[] then[(107,if s.allow then ir else qA),(107,oI)] else[(107,CJ),(111,s.name),(115,[61])]
def Jg (d:Nat) (L:List Pt):List dw->List PG->Nat->Prop
 |[],[],fr=>L.length=fr
 |x::r,s::q,fr=>x.name=s.name/\x.allow=s.allow/\zd d L x.top s.sy/\x.top+1=x.parts/\x.parts=fr+cS d s.sy/\Jg d L r q x.parts
 |_,_,_=>False
def OV (s:PG):dw:=⟨s.name,s.allow,0,0,0,0⟩
theorem Jg.names:∀{pol fr},Jg d L xs pol fr->xs.map dw.name=(pol.map OV).map dw.name:=by
 induction xs with
 |nil=>intro pol fr h;cases pol with
  |nil=>rfl
  |cons=>exact h.elim
 |cons x xs ih=>intro pol fr h;cases pol with
  |nil=>exact h.elim
  |cons s pol=>simp only[QL,h.1,ih h.2.2.2.2.2];rfl
end Go.Proofs.YtfkdailfcmnjlaaGreatDoor
