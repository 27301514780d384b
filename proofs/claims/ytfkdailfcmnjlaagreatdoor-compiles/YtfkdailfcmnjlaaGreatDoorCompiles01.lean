/-
  A part.
-/
import Derived.Test.YtfkdailfcmnjlaaGreatDoorHp
set_option linter.all false
set_option maxHeartbeats 40000000
set_option maxRecDepth 1000000
namespace Go.Proofs.YtfkdailfcmnjlaaGreatDoor
variable {f ts i x L r n g F xs R b z t p D a E G c j T bad' fr s}
def de (p:UInt8->Bool) (l:List UInt8) (k:Nat):Nat:=k+((l.drop k).takeWhile p).length
theorem fX (p:UInt8->Bool) (l:List UInt8) (k) (h:k<l.length) (z:p l[k]=true):de p l k=de p l (k+1):=by
 unfold de;rw[R5 h,Tg z];simp;omega
theorem lR (p:UInt8->Bool) (l:List UInt8) (k) (h:k<l.length) (z:p l[k]=false):de p l k=k:=by
 unfold de;rw[R5 h,S0 (by simp[z])]
 simp
theorem mj (p:UInt8->Bool) (l:List UInt8) (k) (h:l.length<=k):de p l k=k:=by
 unfold de;rw[R8 h];simp
theorem qj (p:UInt8->Bool) (l:List UInt8) (k):k<=de p l k:=by unfold de;omega
theorem kj (p:UInt8->Bool) (l:List UInt8) (k) (h:k<=l.length):de p l k<=l.length:=by
 unfold de;have z:((l.drop k).takeWhile p).length<=(l.drop k).length:=(List.takeWhile_sublist p).length_le;rw[U8] at z;omega
def im (c:UInt8):Bool:=decide (48<=c.toNat)&&decide (c.toNat<=57)
def ig (c:UInt8):Bool:=decide (97<=c.toNat)&&decide (c.toNat<=122)
def jB (c:UInt8):Bool:=c.toNat==32||c.toNat==10
def yb (c:UInt8):Bool:=c.toNat==48
def cut (l:List UInt8) (a b:Nat):List UInt8:=(l.drop a).take (b - a)
def dG (l:List UInt8):Nat:=l.foldl (λn c=>n*10+(c.toNat - 48)) 0
def du (l:List (List UInt8)) (s:List UInt8):Int:=match l with
 |[]=> -1
 |x::r=>if x==s then 0 else(if du r s<0 then -1 else du r s+1)
theorem jC (l:List (List UInt8)) (s:List UInt8): -1<=du l s:=by
 induction l with
 |nil=>simp[du]
 |cons x r ih=>unfold du;split;omega;split<;>omega
theorem Bk (l:List (List UInt8)) (s) (k) (z:k<l.length):du (l.drop k) s=if l[k]==s then 0 else(if du (l.drop (k+1)) s<0 then -1 else du (l.drop (k+1)) s+1):=by
 rw[R5 z,du]
def dw:List (List UInt8):=[[110,111,110,101],[105,110,118,105,116,101],[106,111,105,110],[108,101,97,118,101],[98,97,110]]
def dz:List (List UInt8):=[[108,101,118,101,108],[114,97,110,107],[110,101,101,100],[119,104,101,110],[115,101,110,100,101,114],[116,97,114,103,101,116],[119,97,110,116,115],[115,101,108,102],[111,112,101,110]]
def lS:List (List UInt8):=[[108,101,116],[97,108,108,111,119],[100,101,110,121],[105,102],[116,104,101,110],[101,108,115,101],[111,114],[97,110,100],[110,111,116],[116,114,117,101],[102,97,108,115,101]]
def ml (s:List UInt8):Bool:=decide (0<=du dw s)||decide (0<=du dz s)||decide (0<=du lS s)
def big (s:List UInt8):Bool:=decide (9223372036854775807<dG s)
structure Tok where
 k:Nat
 text:List UInt8
 pl:Nat
def fv (l:List UInt8) (a:Nat):Option Tok:=
 if a<de im l a then(if big (cut l a (de im l a)) then none else some ⟨110,cut l a (de im l a),a⟩)
 else if a<de ig l a then
  (if ml (cut l a (de ig l a)) then some ⟨107,cut l a (de ig l a),a⟩
   else if de ig l a - a<=8 then some ⟨111,cut l a (de ig l a),a⟩ else none)
 else match l[a]? with
  |none=>none
  |some c=>
   if c.toNat=60 then(if(l.getD (a+1) 0).toNat=61 then some ⟨115,[60,61],a⟩ else some ⟨115,[60],a⟩)
   else if c.toNat=40\/c.toNat=41\/c.toNat=59\/c.toNat=43\/c.toNat=45\/c.toNat=61 then some ⟨115,[c],a⟩
   else none
def jQ:Nat->List UInt8->Nat->List Tok×Option Nat
 |0,_,_=>([],none)
 |f+1,l,a=>
  if l.length<=de jB l a then([⟨101,[],l.length⟩],none)
  else match fv l (de jB l a) with
   |none=>([],some (de jB l a))
   |some t=>(t::(jQ f l (de jB l a+t.text.length)).1,(jQ f l (de jB l a+t.text.length)).2)
structure Pt where
 tok:Tok
 subs:List Nat
structure Rd where
 ok:Bool
 i:Nat
 L:List Pt
 top:Nat
def iF:Tok:=⟨0,[],0⟩
def cr (ts:List Tok) (i:Nat):Tok:=ts.getD i iF
def eE (t:Tok) (x:List UInt8):Bool:=(t.k==107||t.k==115)&&t.text==x
def lT:List UInt8:=[105,102]
def iX:List UInt8:=[116,104,101,110]
def iY:List UInt8:=[101,108,115,101]
def iw:List UInt8:=[110,111,116]
def mn:List UInt8:=[116,114,117,101]
def mo:List UInt8:=[102,97,108,115,101]
def vO:List UInt8:=[108,101,116]
def gB:List UInt8:=[97,108,108,111,119]
def nF:List UInt8:=[100,101,110,121]
def fY (n:Nat):List (List UInt8):=if n=0 then[[111,114]] else if n=1 then[[97,110,100]] else if n=3 then[[61],[60],[60,61]] else[[43],[45]]
def eX (n:Nat) (t:Tok):Bool:=decide (0<=du (fY n) t.text)&&(t.k==107||t.k==115)
def dP (t:Tok):Bool:=t.k==110||t.k==111||(t.k==107&&(decide (0<=du dw t.text)||decide (0<=du dz t.text)||t.text==mn||t.text==mo))
def pq (i:Nat):Option Rd:=some ⟨false,i,[],0⟩
def lN (r:Rd) (t:Tok) (z:List Nat):Rd:=⟨true,r.i,r.L++[⟨t,z⟩],r.L.length⟩
def eh (o:Option Rd) (k:Rd->Option Rd):Option Rd:=match o with
 |none=>none
 |some r=>if r.ok then k r else some r
def P:Nat->Nat->List Tok->Nat->List Pt->Nat->Option Rd
 |0,_,_,_,_,_=>none
 |f+1,z,ts,i,L,x=>
  if z=6 then
   if eE (cr ts i) lT then
    eh (P f 6 ts (i+1) L 0) λa=>
    if eE (cr ts a.i) iX then
     eh (P f 6 ts (a.i+1) a.L 0) λb=>
     if eE (cr ts b.i) iY then
      eh (P f 6 ts (b.i+1) b.L 0) λc=>some (lN c (cr ts i) [a.top,b.top,c.top])
     else pq b.i
    else pq a.i
   else P f 0 ts i L 0
  else if z=5 then
   if eE (cr ts i) [40] then
    eh (P f 6 ts (i+1) L 0) λa=>if eE (cr ts a.i) [41] then some {a with i:=a.i+1} else pq a.i
   else if dP (cr ts i) then some ⟨true,i+1,L++[⟨cr ts i,[]⟩],L.length⟩
   else pq i
  else if z=2 then
   if eE (cr ts i) iw then eh (P f 2 ts (i+1) L 0) λa=>some (lN a (cr ts i) [a.top])
   else P f 3 ts i L 0
  else if z<10 then eh (P f (z+1) ts i L 0) λa=>P f (10+z) ts a.i a.L a.top
  else
   if eX (z - 10) (cr ts i) then
    eh (P f (z - 9) ts (i+1) L 0) λb=>
    if z=13 then some (lN b (cr ts i) [x,b.top]) else P f z ts b.i (b.L++[⟨cr ts i,[x,b.top]⟩]) b.L.length
   else some ⟨true,i,L,x⟩
def iM (t:Tok):Int:=if t.k=110 then dG t.text else 0
def lO (t:Tok):Prop:=t.text.length<=1000/\(t.k=110->(∀c∈t.text,im c=true)/\dG t.text<=9223372036854775807)
def Nx (f:Nat) (ts:List Tok) (a b:Rd) (x:List UInt8):Prop:=
 if a.ok=true/\eE (cr ts a.i) x=true then P f 6 ts (a.i+1) a.L 0=some b else b.ok=false/\b.i=a.i
theorem mq (h:P (f+1) 6 ts i L x=some r) (U:eE (cr ts i) lT=true):
 ∃a b c:Rd,P f 6 ts (i+1) L 0=some a/\Nx f ts a b iX/\Nx f ts b c iY/\r.ok=c.ok/\r.i=c.i/\(c.ok=true->a.ok=true/\b.ok=true/\r=lN c (cr ts i) [a.top,b.top,c.top]):=by
 rw[P,RK rfl,RK U] at h;cases R:P f 6 ts (i+1) L 0 with
 |none=>rw[R] at h;simp[eh] at h
 |some a=>
  rw[R] at h;simp only[eh] at h;by_cases z:a.ok=true
  ·rw[RK z] at h;by_cases G:eE (cr ts a.i) iX=true
   ·rw[RK G] at h;cases I:P f 6 ts (a.i+1) a.L 0 with
    |none=>rw[I] at h;simp at h
    |some b=>
     rw[I] at h;simp only at h;by_cases D:b.ok=true
     ·rw[RK D] at h;by_cases J:eE (cr ts b.i) iY=true
      ·rw[RK J] at h;cases O:P f 6 ts (b.i+1) b.L 0 with
       |none=>rw[O] at h;simp at h
       |some c=>
        rw[O] at h;simp only at h;refine⟨a,b,c,rfl,?_,?_,?_⟩
        ·unfold Nx;rw[RK ⟨z,G⟩];exact I
        ·unfold Nx;rw[RK ⟨D,J⟩];exact O
        by_cases E:c.ok=true
        ·rw[RK E] at h;simp at h;subst h;exact⟨by simp[lN,E],rfl,λ_=>⟨z,D,rfl⟩⟩
        rw[RH E] at h;simp at h;subst h;exact⟨rfl,rfl,λe=>absurd e E⟩
      rw[RH J] at h;simp[pq] at h;subst h;refine⟨a,b,⟨false,b.i,[],0⟩,rfl,?_,?_,rfl,rfl,λe=>by simp at e⟩
      ·unfold Nx;rw[RK ⟨z,G⟩];exact I
      unfold Nx;rw[RH (λe=>J e.2)];exact⟨rfl,rfl⟩
     rw[RH D] at h;simp at h;subst h;refine⟨a,b,⟨false,b.i,[],0⟩,rfl,?_,?_,by simpa using D,rfl,λe=>by simp at e⟩
     ·unfold Nx;rw[RK ⟨z,G⟩];exact I
     unfold Nx;rw[RH (λe=>D e.1)];exact⟨rfl,rfl⟩
   rw[RH G] at h;simp[pq] at h;subst h;refine⟨a,⟨false,a.i,[],0⟩,⟨false,a.i,[],0⟩,rfl,?_,?_,rfl,rfl,λe=>by simp at e⟩
   ·unfold Nx;rw[RH (λe=>G e.2)];exact⟨rfl,rfl⟩
   unfold Nx;rw[RH (λe=>by simp at e)];exact⟨rfl,rfl⟩
  rw[RH z] at h;simp at h;subst h;refine⟨a,⟨false,a.i,[],0⟩,⟨false,a.i,[],0⟩,rfl,?_,?_,by simpa using z,rfl,λe=>by simp at e⟩
  ·unfold Nx;rw[RH (λe=>z e.1)];exact⟨rfl,rfl⟩
  unfold Nx;rw[RH (λe=>by simp at e)];exact⟨rfl,rfl⟩
theorem mr (h:P (f+1) 5 ts i L x=some r) (G:eE (cr ts i) [40]=true):
 ∃a:Rd,P f 6 ts (i+1) L 0=some a/\((a.ok=true/\eE (cr ts a.i) [41]=true/\r={a with i:=a.i+1})\/(¬(a.ok=true/\eE (cr ts a.i) [41]=true)/\r.ok=false/\r.i=a.i)):=by
 rw[P,RH (by decide),RK rfl,RK G] at h
 cases E:P f 6 ts (i+1) L 0 with
 |none=>rw[E] at h;simp[eh] at h
 |some a=>
  rw[E] at h;simp only[eh] at h;refine⟨a,rfl,?_⟩;by_cases z:a.ok=true
  ·rw[RK z] at h;by_cases D:eE (cr ts a.i) [41]=true
   ·rw[RK D] at h;simp at h;exact .inl ⟨z,D,h.symm⟩
   rw[RH D] at h;simp[pq] at h;subst h;exact .inr ⟨λe=>D e.2,rfl,rfl⟩
  rw[RH z] at h;simp at h;subst h;exact .inr ⟨λe=>z e.1,by simpa using z,rfl⟩
theorem kQ (h:P (f+1) 5 ts i L x=some r) (D: ¬eE (cr ts i) [40]=true):
 (dP (cr ts i)=true/\r=⟨true,i+1,L++[⟨cr ts i,[]⟩],L.length⟩)\/(dP (cr ts i)=false/\r=⟨false,i,[],0⟩):=by
 rw[P,RH (by decide),RK rfl,RH D] at h
 by_cases z:dP (cr ts i)=true
 ·rw[RK z] at h;simp at h;exact .inl ⟨z,h.symm⟩
 rw[RH z] at h;simp[pq] at h;exact .inr ⟨by simpa using z,h.symm⟩
theorem oj (h:P (f+1) 2 ts i L x=some r) (E:eE (cr ts i) iw=true):
 ∃a:Rd,P f 2 ts (i+1) L 0=some a/\r.ok=a.ok/\r.i=a.i/\(a.ok=true->r=lN a (cr ts i) [a.top]):=by
 rw[P,RH (by decide),RH (by decide),RK rfl,RK E] at h
 cases D:P f 2 ts (i+1) L 0 with
 |none=>rw[D] at h;simp[eh] at h
 |some a=>
  rw[D] at h;simp only[eh] at h;refine⟨a,rfl,?_⟩;by_cases z:a.ok=true
  ·rw[RK z] at h;simp at h;subst h;exact⟨by simp[lN,z],rfl,λ_=>rfl⟩
  rw[RH z] at h;simp at h;subst h;exact⟨rfl,rfl,λe=>absurd e z⟩
theorem rE (h:P (f+1) 2 ts i L x=some r) (z: ¬eE (cr ts i) iw=true):P f 3 ts i L 0=some r:=by
 rw[P,RH (by decide),RH (by decide),RK rfl,RH z] at h;exact h
def di (n:Nat):Prop:=n=0\/n=1\/n=3\/n=4
theorem jd (E:di n) (h:P (f+1) n ts i L x=some r):
 ∃a,P f (n+1) ts i L 0=some a/\((a.ok=true/\P f (10+n) ts a.i a.L a.top=some r)\/(a.ok=false/\r=a)):=by
 unfold di at E;rw[P,RH (by omega),RH (by omega),RH (by omega),RK (by omega)] at h
 cases D:P f (n+1) ts i L 0 with
 |none=>rw[D] at h;simp[eh] at h
 |some a=>
  rw[D] at h;simp only[eh] at h;refine⟨a,rfl,?_⟩;by_cases z:a.ok=true
  ·rw[RK z] at h;exact .inl ⟨z,h⟩
  rw[RH z] at h;simp at h;exact .inr ⟨by simpa using z,h.symm⟩
theorem om (z:di n) (h:P (g+1) (10+n) ts i L x=some r) (D:eX n (cr ts i)=false):r=⟨true,i,L,x⟩:=by
 unfold di at z;rw[P,RH (by omega),RH (by omega),RH (by omega),RH (by omega),show 10+n - 10=n from by omega,RH (by simp[D])] at h
 simp at h;exact h.symm
theorem nG (E:di n) (h:P (g+1) (10+n) ts i L x=some r) (G:eX n (cr ts i)=true):
 ∃b,P g (n+1) ts (i+1) L 0=some b/\((b.ok=false/\r=b)\/(b.ok=true/\((n=3/\r=lN b (cr ts i) [x,b.top])\/(n≠3/\P g (10+n) ts b.i (b.L++[⟨cr ts i,[x,b.top]⟩]) b.L.length=some r)))):=by
 unfold di at E;rw[P,RH (by omega),RH (by omega),RH (by omega),RH (by omega),show 10+n - 10=n from by omega,show 10+n - 9=n+1 from by omega,RK G] at h
 cases D:P g (n+1) ts (i+1) L 0 with
 |none=>rw[D] at h;simp[eh] at h
 |some b=>
  rw[D] at h;simp only[eh] at h;refine⟨b,rfl,?_⟩;by_cases z:b.ok=true
  ·rw[RK z] at h;by_cases h3:n=3
   ·rw[RK (by omega)] at h;simp at h;exact .inr ⟨z,.inl ⟨h3,h.symm⟩⟩
   rw[RH (by omega)] at h;exact .inr ⟨z,.inr ⟨h3,h⟩⟩
  rw[RH z] at h;simp at h;exact .inl ⟨by simpa using z,h.symm⟩
theorem rF (h:P (f+1) 6 ts i L x=some r) (z: ¬eE (cr ts i) lT=true):P f 0 ts i L 0=some r:=by
 rw[P,RK rfl,RH z] at h;exact h
structure dk where
 name:List UInt8
 allow:Bool
 top:Nat
 pl:Nat
 named:Nat
 parts:Nat
structure vP where
 ok:Bool
 i:Nat
 L:List Pt
 it:dk
def dQ:dk:=⟨[],false,0,0,0,0⟩
def dJ (i:Nat):Option vP:=some ⟨false,i,[],dQ⟩
def fB (f:Nat) (ts:List Tok) (i:Nat) (L:List Pt) (x:dk):Option vP:=match P f 6 ts i L 0 with
 |none=>none
 |some a=>if a.ok then(if eE (cr ts a.i) [59] then some ⟨true,a.i+1,a.L,{x with top:=a.top,parts:=a.L.length}⟩ else dJ a.i) else dJ a.i
def gI (f:Nat) (ts:List Tok) (i:Nat) (L:List Pt):Option vP:=
 if eE (cr ts i) vO then
  if(cr ts (i+1)).k=111 then
   if eE (cr ts (i+2)) [61] then fB f ts (i+3) L ⟨(cr ts (i+1)).text,false,0,(cr ts i).pl,(cr ts (i+1)).pl,0⟩ else dJ (i+2)
  else dJ (i+1)
 else if eE (cr ts i) gB||eE (cr ts i) nF then
  if eE (cr ts (i+1)) lT then fB f ts (i+2) L ⟨[],(cr ts i).text==gB,0,(cr ts i).pl,0,0⟩ else dJ (i+1)
 else dJ i
def cD:Pt:=⟨iF,[]⟩
def gO (F:Nat->Nat) (l:List Nat):Nat:=l.foldl (λm j=>max m (F j)) 0
theorem si (F:Nat->Nat) (l:List Nat) (k) (z:k<l.length):gO F (l.take (k+1))=max (gO F (l.take k)) (F l[k]):=by
 unfold gO;rw[Ta z,Tl];rfl
theorem oq (F:Nat->Nat) (M) (h:∀j,F j<=M) (l):gO F l<=M:=by
 have:∀(l:List Nat) (m:Nat),m<=M->l.foldl (λm j=>max m (F j)) m<=M:=by
  intro l
  induction l with
  |nil=>intro m z;simpa using z
  |cons x l D=>intro m z;rw[To];exact D _ (by have:=h x;omega)
 exact this l 0 (R0 _)
def dep:Nat->List Pt->Nat->Nat
 |0,_,_=>1
 |f+1,L,i=>gO (dep f L) (L.getD i cD).subs+1
def yD (L:List Pt):Prop:= ∀i,i<L.length->(L.getD i cD).subs.length<=3/\ ∀j∈(L.getD i cD).subs,j<i
theorem lZ (f:Nat) (L) (i):dep f L i<=f+1:=by
 induction f generalizing i with
 |zero=>simp[dep]
 |succ f ih=>
  rw[dep];have:=oq (dep f L) (f+1) ih (L.getD i cD).subs;omega
def cW:List dk->List UInt8->Nat->Int
 |[],_,_=> -1
 |_::_,_,0=> -1
 |x::r,s,k+1=>if x.name==s then 0 else(if cW r s k<0 then -1 else cW r s k+1)
theorem sj (l:List dk) (s) (k): -1<=cW l s k:=by
 induction l generalizing k with
 |nil=>simp[cW]
 |cons x r ih=>
  cases k with
  |zero=>simp[cW]
  |succ k=>unfold cW;have:=ih k;split;omega;split<;>omega
theorem DP (l:List dk) (s) (k m) (z:k<l.length) (E:0<m):cW (l.drop k) s m=if l[k].name==s then 0 else(if cW (l.drop (k+1)) s (m - 1)<0 then -1 else cW (l.drop (k+1)) s (m - 1)+1):=by
 obtain⟨m,rfl⟩:∃D,m=D+1:=⟨m - 1,by omega⟩
 rw[R5 z,cW];rfl
theorem vQ (l:List dk) (s:List UInt8):cW l s 0= -1:=by cases l<;>rfl
theorem sk (l:List dk) (s) (k):cW l s k<k/\cW l s k<l.length:=by
 induction l generalizing k with
 |nil=>simp[cW];omega
 |cons x r ih=>
  cases k with
  |zero=>simp[cW];omega
  |succ k=>unfold cW;have:=ih k;simp only[R7];split;omega;split<;>omega
def eK (L:List Pt):List dk->Nat->Nat->Option Nat
 |[],_,_=>none
 |x::r,lets,i=>
  if 10<lets+(if x.name==[] then 0 else 1)\/20<i+1 - (lets+(if x.name==[] then 0 else 1))\/200<x.parts\/20<dep (x.top+1) L x.top then some x.pl
  else eK L r (lets+(if x.name==[] then 0 else 1)) (i+1)
def nz (pl:Nat):Option Nat->Option Nat
 |none=>some pl
 |some p=>if pl<p then some pl else some p
def fZ (xs:List dk) (i:Nat) (t:Tok) (o:Option Nat):Option Nat:=
 if t.k=111/\cW xs t.text i<0 then nz t.pl o else o
def dR (xs:List dk) (L:List Pt) (i:Nat):Nat->Nat->Option Nat->Option Nat
 |0,_,o=>o
 |c+1,k,o=>dR xs L i c (k+1) (fZ xs i (L.getD k cD).tok o)
def dq (xs:List dk) (L:List Pt):List dk->Nat->Nat->Option Nat
 |[],_,_=>none
 |x::r,fr,i=>if x.name≠[]/\0<=cW xs x.name i then some x.named
  else(dR xs L i (x.parts - fr) fr none).or (dq xs L r x.parts (i+1))
def pw (x s:List UInt8):Nat:=
 if x=[43]\/x=[45] then(if s=[110,110] then 110 else 0)
 else if x=[60]\/x=[60,61] then(if s=[110,110] then 116 else 0)
 else if x=[61] then(if(s.getD 0 0).toNat=(s.getD 1 0).toNat then 116 else 0)
 else if x=[111,114]\/x=[97,110,100] then(if s=[116,116] then 116 else 0)
 else if x=[110,111,116] then(if s=[116] then 116 else 0)
 else if x=[105,102] then(if(s.getD 0 0).toNat=116/\(s.getD 1 0).toNat=(s.getD 2 0).toNat then(s.getD 1 0).toNat else 0)
 else 0
def eT (xs:List dk) (its:List UInt8) (t:Tok) (s:List UInt8):Nat:=
 if t.k=110 then 110
 else if t.k=111 then(its.getD (cW xs t.text its.length).toNat 0).toNat
 else if 0<=du dz t.text then(([110,110,110,110,109,109,109,116,116]:List UInt8).getD (du dz t.text).toNat 0).toNat
 else if 0<=du dw t.text then 109
 else if t.text=mn\/t.text=mo then 116
 else pw t.text s
theorem G0 (x s:List UInt8):pw x s<256:=by
 have h:=(s.getD 1 0).toNat_lt;unfold pw
 repeat' split
 all_goals omega
theorem G1 (xs) (its:List UInt8) (t:Tok) (s):eT xs its t s<256:=by
 have h:=G0 t.text s;unfold eT
 repeat' split
 all_goals first
  |omega
  |exact UInt8.toNat_lt _
def dr (xs:List dk) (its:List UInt8) (L:List Pt):Nat->Nat->UInt8
 |0,_=>0
 |f+1,k=>if((L.getD k cD).subs.map (dr xs its L f)).contains 0 then 0 else UInt8.ofNat (eT xs its (L.getD k cD).tok ((L.getD k cD).subs.map (dr xs its L f)))
def dF (xs:List dk) (L:List Pt):List dk->List UInt8->Option Nat
 |[],_=>none
 |x::r,its=>
  if(dr xs its L (x.top+1) x.top).toNat=0\/(x.name=[]/\(dr xs its L (x.top+1) x.top).toNat≠116) then some x.pl
  else dF xs L r (its++[dr xs its L (x.top+1) x.top])
structure mW where
 ok:Bool
 i:Nat
 L:List Pt
 xs:List dk
def dx (F:Nat) (ts:List Tok):Nat->Nat->List Pt->List dk->Option mW
 |0,_,_,_=>none
 |g+1,i,L,xs=>
  if(cr ts i).k=101 then some ⟨true,i,L,xs⟩
  else match gI F ts i L with
   |none=>none
   |some r=>if r.ok then dx F ts g r.i r.L (xs++[r.it]) else some ⟨false,r.i,[],[]⟩
theorem kR (h:dx F ts g i L xs=some R) (z:(cr ts i).k=101):R=⟨true,i,L,xs⟩:=by
 cases g with
 |zero=>rw[dx] at h;simp at h
 |succ g=>rw[dx,RK z] at h;simp at h;exact h.symm
theorem rG (h:dx F ts g i L xs=some R) (E: ¬(cr ts i).k=101):
 ∃r G,gI F ts i L=some r/\((r.ok=true/\dx F ts G r.i r.L (xs++[r.it])=some R)\/(r.ok=false/\R=⟨false,r.i,[],[]⟩)):=by
 cases g with
 |zero=>rw[dx] at h;simp at h
 |succ g=>
  rw[dx,RH E] at h
  cases D:gI F ts i L with
  |none=>rw[D] at h;simp at h
  |some r=>
   rw[D] at h;simp only at h;refine⟨r,g,rfl,?_⟩
   by_cases z:r.ok=true
   ·rw[RK z] at h;exact .inl ⟨z,h⟩
   ·rw[RH z] at h;simp at h;exact .inr ⟨by simpa using z,h.symm⟩
def da (ts:List Tok) (R:mW):Nat×Nat:=
 if R.ok=false then(3,(cr ts R.i).pl)
 else match eK R.L R.xs 0 0 with
  |some p=>(4,p)
  |none=>match dq R.xs R.L R.xs 0 0 with
   |some p=>(5,p)
   |none=>match dF R.xs R.L R.xs [] with
    |some p=>(6,p)
    |none=>(0,0)
def yE (t:Tok) (n:Nat):Prop:=(t.k≠110->t.k≠111->t.text=[61]->2<=n)/\(t.k≠110->t.k≠111->t.text=[105,102]->3<=n)
def Inv (b:Nat) (L:List Pt):Prop:= ∀k,b<=k->k<L.length->(L.getD k cD).subs.length<=3/\(∀j∈(L.getD k cD).subs,b<=j/\j<k)/\yE (L.getD k cD).tok (L.getD k cD).subs.length
theorem gL {L M:List Pt} {k:Nat} (h:k<L.length):(L++M).getD k cD=L.getD k cD:=by
 simp[RG,Si h]
theorem eI (L:List Pt) (p:Pt):(L++[p]).getD L.length cD=p:=by simp[RG]
theorem Inv.snoc (h:Inv b L) (p) (h3:p.subs.length<=3) (z:∀j∈p.subs,b<=j/\j<L.length) (D:yE p.tok p.subs.length):Inv b (L++[p]):=by
 intro k E G;by_cases e:k<L.length
 ·rw[gL e];exact h k E e
 have:k=L.length:=by simp at G;omega
 subst this;rw[eI];exact⟨h3,z,D⟩
theorem Inv.mono (h:Inv b L) (D:b<=z) (E:L.length<=z):Inv z L:=by
 intro k G I;omega
theorem Gd {x:LB} (h:eE t x=true) (n:Nat) (z:x=[61]->2<=n) (h3:x=[105,102]->3<=n):yE t n:=by
 unfold eE at h;simp at h;exact⟨λ_ _ e=>z (by rw[<-h.2];exact e),λ_ _ e=>h3 (by rw[<-h.2];exact e)⟩
theorem DQ {n:Nat} {t:Tok} (h:eX n t=true):yE t 2:=by
 refine⟨λ_ _ _=>RL _,λ_ _ e=>?_⟩
 unfold eX at h;rw[e] at h;unfold fY at h;exfalso;revert h;by_cases z:n=0
 ·rw[RK z];simp[du]
 rw[RH z];by_cases D:n=1
 ·rw[RK D];simp[du]
 rw[RH D];by_cases h3:n=3
 ·rw[RK h3];simp[du]
 rw[RH h3];simp[du]
theorem Bm {t:Tok} (h:dP t=true):yE t 0:=by
 unfold dP at h;refine⟨λz D e=>?_,λz D e=>?_⟩
 ·rw[e] at h;have E:du dw [61]= -1:=by decide
  have G:du dz [61]= -1:=by decide
  rw[E,G] at h;simp[z,D,mn,mo] at h
 rw[e] at h;have E:du dw [105,102]= -1:=by decide
 have G:du dz [105,102]= -1:=by decide
 rw[E,G] at h;simp[z,D,mn,mo] at h
structure Rc (b) (tag i) (L) (r:Rd):Prop where
 fwd:i<=r.i
 fwd1:tag<10->i<r.i
 more:∃new,r.L=L++new
 inv:Inv b r.L
 top:b<=r.top/\r.top<r.L.length
theorem zR (f):∀z ts i L x b r,P f z ts i L x=some r->r.ok=true->b<=L.length->Inv b L->(10<=z->b<=x/\x<L.length)->(z<=6\/z=10\/z=11\/z=13\/z=14)->Rc b z i L r:=by
 induction f with
 |zero=>intro z ts i L x b r h;rw[P] at h;simp at h
 |succ f ih=>
  intro z ts i L x b r h E hb O hx ht;by_cases h6:z=6
  ·subst h6;by_cases J:eE (cr ts i) lT=true
   ·obtain⟨I,rb,rc,U,V,Y,ah,ai,Z⟩:=mq h J;rw[ah] at E;obtain⟨G,aa,rfl⟩:=Z E;have D:=ih 6 ts (i+1) L 0 b I U G hb O (by omega) (by omega)
    unfold Nx at V Y;have aj:eE (cr ts I.i) iX=true:=by
     cases e:eE (cr ts I.i) iX with
     |true=>rfl
     |false=>rw[RH (by simp[e])] at V;rw[V.1] at aa;simp at aa
    have ak:eE (cr ts rb.i) iY=true:=by
     cases e:eE (cr ts rb.i) iY with
     |true=>rfl
     |false=>rw[RH (by simp[e])] at Y;rw[Y.1] at E;simp at E
    rw[RK ⟨G,aj⟩] at V;rw[RK ⟨aa,ak⟩] at Y;obtain⟨na,ea⟩:=D.more;have kb:=ih 6 ts (I.i+1) I.L 0 b rb V aa (by rw[ea];simp;omega) D.inv (by omega) (by omega)
    obtain⟨nb,eb⟩:=kb.more;have R:=ih 6 ts (rb.i+1) rb.L 0 b rc Y E (by rw[eb,ea];simp;omega) kb.inv (by omega) (by omega)
    obtain⟨nc,ec⟩:=R.more;have la:I.L.length<=rb.L.length:=by rw[eb];simp
    have lb:rb.L.length<=rc.L.length:=by rw[ec];simp
    have t1:=D.top;have t2:=kb.top;have t3:=R.top;have f1:=D.fwd;have f2:=kb.fwd;have f3:=R.fwd;refine⟨by simp[lN];omega,λ_=>by simp[lN];omega,⟨na++(nb++(nc++[⟨cr ts i,[I.top,rb.top,rc.top]⟩])),by simp[lN,ec,eb,ea]⟩,?_,by simp[lN];omega⟩
    exact R.inv.snoc _ (by simp) (by intro j hj;simp at hj;rcases hj with rfl|rfl|rfl<;>omega) (Gd J 3 (by simp[lT]) (by simp))
   have k:=ih 0 ts i L 0 b r (rF h J) E hb O (by omega) (by omega)
   exact⟨k.fwd,λ_=>k.fwd1 (by omega),k.more,k.inv,k.top⟩
  by_cases h5:z=5
  ·subst h5;by_cases J:eE (cr ts i) [40]=true
   ·obtain⟨I,U,hr⟩:=mr h J;rcases hr with⟨G,ao,rfl⟩|⟨_,hr,_⟩
    ·have D:=ih 6 ts (i+1) L 0 b I U G hb O (by omega) (by omega)
     have f1:=D.fwd;exact⟨by simp;omega,λ_=>by simp;omega,D.more,D.inv,D.top⟩
    rw[hr] at E;simp at E
   rcases kQ h J with⟨ha,rfl⟩|⟨_,rfl⟩
   ·exact⟨by simp,λ_=>by simp,⟨_,rfl⟩,O.snoc _ (by simp) (by simp) (by simpa using Bm ha),by simp;omega⟩
   simp at E
  by_cases h2:z=2
  ·subst h2;by_cases J:eE (cr ts i) iw=true
   ·obtain⟨I,U,am,ai,Z⟩:=oj h J;rw[am] at E;have Z:=Z E;subst Z;have D:=ih 2 ts (i+1) L 0 b I U E hb O (by omega) (by omega)
    obtain⟨na,ea⟩:=D.more;have t1:=D.top;have f1:=D.fwd;refine⟨by simp[lN];omega,λ_=>by simp[lN];omega,⟨na++[⟨cr ts i,[I.top]⟩],by simp[lN,ea]⟩,?_,by simp[lN];omega⟩
    exact D.inv.snoc _ (by simp) (by intro j hj;simp at hj;omega) (Gd J 1 (by simp[iw]) (by simp[iw]))
   have k:=ih 3 ts i L 0 b r (rE h J) E hb O (by omega) (by omega)
   exact⟨k.fwd,λ_=>k.fwd1 (by omega),k.more,k.inv,k.top⟩
  by_cases ad:z<10
  ·rw[P,RH h6,RH h5,RH h2,RK ad] at h;cases ha:P f (z+1) ts i L 0 with
   |none=>rw[ha] at h;simp[eh] at h
   |some a=>
    rw[ha] at h;simp only[eh] at h;by_cases G:a.ok=true
    ·rw[RK G] at h
     ·have D:=ih (z+1) ts i L 0 b a ha G hb O (by omega) (by omega)
      obtain⟨na,ea⟩:=D.more;have kb:=ih (10+z) ts a.i a.L a.top b r h E (by rw[ea];simp;omega) D.inv (λ_=>D.top) (by omega)
      obtain⟨nb,eb⟩:=kb.more;have f1:=D.fwd1 (by omega);have f2:=kb.fwd
      exact⟨by omega,λ_=>by omega,⟨na++nb,by rw[eb,ea,Sk]⟩,kb.inv,kb.top⟩
    rw[RH G] at h;simp at h;subst h;exact absurd E G
  rw[P,RH h6,RH h5,RH h2,RH ad] at h;have an:=hx (by omega)
  by_cases hj:eX (z - 10) (cr ts i)=true
  ·rw[RK hj] at h;cases ac:P f (z - 9) ts (i+1) L 0 with
   |none=>rw[ac] at h;simp[eh] at h
   |some c=>
    rw[ac] at h;simp only[eh] at h;by_cases ab:c.ok=true
    ·rw[RK ab] at h;have R:=ih (z - 9) ts (i+1) L 0 b c ac ab hb O (by omega) (by omega)
     obtain⟨nc,ec⟩:=R.more;have lc:L.length<=c.L.length:=by rw[ec];simp
     have t1:=R.top;have f1:=R.fwd;have ae:Inv b (c.L++[⟨cr ts i,[x,c.top]⟩]):=R.inv.snoc _ (by simp) (by intro j af;simp at af;rcases af with rfl|rfl<;>omega) (by simpa using DQ hj)
     by_cases ag:z=13
     ·rw[RK ag] at h;simp at h;subst h;exact⟨by simp[lN];omega,λe=>by omega,⟨nc++[⟨cr ts i,[x,c.top]⟩],by simp[lN,ec]⟩,ae,by simp[lN];omega⟩
     rw[RH ag] at h;have kd:=ih z ts c.i (c.L++[⟨cr ts i,[x,c.top]⟩]) c.L.length b r h E (by simp;omega) ae (λ_=>by simp;omega) ht
     obtain⟨nd,ed⟩:=kd.more;have f2:=kd.fwd;exact⟨by omega,λe=>by omega,⟨nc++(⟨cr ts i,[x,c.top]⟩::nd),by rw[ed,ec];simp⟩,kd.inv,kd.top⟩
    rw[RH ab] at h;simp at h;subst h;exact absurd E ab
  rw[RH hj] at h;simp at h;subst h;exact⟨RL _,λe=>by omega,⟨[],by simp⟩,O,an⟩
theorem vR (f):∀z ts i L x r,P f z ts i L x=some r->r.ok=true->(z<=6\/z=10\/z=11\/z=13\/z=14)->i<=r.i/\(z<10->i<r.i):=by
 induction f with
 |zero=>intro z ts i L x r h;rw[P] at h;simp at h
 |succ f ih=>
  intro z ts i L x r h D ht;by_cases h6:z=6
  ·subst h6;by_cases I:eE (cr ts i) lT=true
   ·obtain⟨G,rb,rc,J,O,R,ad,Y,aa⟩:=mq h I;rw[ad] at D;obtain⟨E,U,_⟩:=aa D;have ka:=ih 6 ts (i+1) L 0 G J E (by omega)
    unfold Nx at O R;have ae:eE (cr ts G.i) iX=true:=by
     cases e:eE (cr ts G.i) iX with
     |true=>rfl
     |false=>rw[RH (by simp[e])] at O;rw[O.1] at U;simp at U
    have af:eE (cr ts rb.i) iY=true:=by
     cases e:eE (cr ts rb.i) iY with
     |true=>rfl
     |false=>rw[RH (by simp[e])] at R;rw[R.1] at D;simp at D
    rw[RK ⟨E,ae⟩] at O;rw[RK ⟨U,af⟩] at R;have kb:=ih 6 ts (G.i+1) G.L 0 rb O U (by omega)
    have kc:=ih 6 ts (rb.i+1) rb.L 0 rc R D (by omega)
    rw[Y];omega
   have k:=ih 0 ts i L 0 r (rF h I) D (by omega)
   exact⟨k.1,λ_=>k.2 (by omega)⟩
  by_cases h5:z=5
  ·subst h5;by_cases I:eE (cr ts i) [40]=true
   ·obtain⟨G,J,hr⟩:=mr h I;rcases hr with⟨E,ah,rfl⟩|⟨_,hr,_⟩
    ·have ka:=ih 6 ts (i+1) L 0 G J E (by omega)
     simp;omega
    rw[hr] at D;simp at D
   rcases kQ h I with⟨ha,rfl⟩|⟨_,rfl⟩
   ·simp
   simp at D
  by_cases h2:z=2
  ·subst h2;by_cases I:eE (cr ts i) iw=true
   ·obtain⟨G,J,ag,Y,aa⟩:=oj h I;rw[ag] at D;have ka:=ih 2 ts (i+1) L 0 G J D (by omega)
    rw[Y];omega
   have k:=ih 3 ts i L 0 r (rE h I) D (by omega)
   exact⟨k.1,λ_=>k.2 (by omega)⟩
  by_cases ab:z<10
  ·rw[P,RH h6,RH h5,RH h2,RK ab] at h;cases ha:P f (z+1) ts i L 0 with
   |none=>rw[ha] at h;simp[eh] at h
   |some a=>
    rw[ha] at h;simp only[eh] at h;by_cases E:a.ok=true
    ·rw[RK E] at h;have ka:=ih (z+1) ts i L 0 a ha E (by omega)
     have kb:=ih (10+z) ts a.i a.L a.top r h D (by omega)
     have:=ka.2 (by omega)
     omega
    rw[RH E] at h;simp at h;subst h;exact absurd D E
  rw[P,RH h6,RH h5,RH h2,RH ab] at h;by_cases hj:eX (z - 10) (cr ts i)=true
  ·rw[RK hj] at h;cases Z:P f (z - 9) ts (i+1) L 0 with
   |none=>rw[Z] at h;simp[eh] at h
   |some c=>
    rw[Z] at h;simp only[eh] at h;by_cases V:c.ok=true
    ·rw[RK V] at h;have kc:=ih (z - 9) ts (i+1) L 0 c Z V (by omega)
     by_cases ac:z=13
     ·rw[RK ac] at h;simp at h;subst h;simp[lN];omega
     rw[RH ac] at h;have kd:=ih z ts c.i (c.L++[⟨cr ts i,[x,c.top]⟩]) c.L.length r h D ht;omega
    rw[RH V] at h;simp at h;subst h;exact absurd D V
  rw[RH hj] at h;simp at h;subst h;simp;omega
theorem Bn {ts:List Tok} {i:Nat} (h:(cr ts i).k≠0):i<ts.length:=by
 rcases SZ i ts.length with z|z
 ·exact z
 exact absurd (by unfold cr;rw[RG,R2 z];rfl) h
theorem nH {ts:List Tok} {x:LB} (h:eE (cr ts i) x=true):i<ts.length:=Bn (by unfold eE at h;simp at h;omega)
theorem Bo {ts:List Tok} {i n:Nat} (h:eX n (cr ts i)=true):i<ts.length:=Bn (by unfold eX at h;simp at h;omega)
def wt (z:Nat):Nat:=if z=6 then 8 else if z<6 then 7 - z else 1
theorem Nk (f):∀z ts i L x,16*(ts.length - i)+wt z<=f->(z<=6\/z=10\/z=11\/z=13\/z=14)-> ∃r,P f z ts i L x=some r:=by
 induction f with
 |zero=>intro z ts i L x h ht;exfalso;unfold wt at h;split at h;omega;split at h<;>omega
 |succ f ih=>
  intro z ts i L x h ht;by_cases O:z=6
  ·subst O;have ab:wt 6=8:=rfl;rw[P,RK rfl];by_cases G:eE (cr ts i) lT=true
   ·rw[RK G];have hr:=nH G;obtain⟨a,E⟩:=ih 6 ts (i+1) L 0 (by omega) (by omega)
    rw[E];simp only[eh];by_cases D:a.ok=true
    ·rw[RK D];have fa:=(vR f 6 ts (i+1) L 0 a E D (by omega)).1
     by_cases R:eE (cr ts a.i) iX=true
     ·rw[RK R];have ac:=nH R;obtain⟨c,J⟩:=ih 6 ts (a.i+1) a.L 0 (by omega) (by omega)
      rw[J];simp only;by_cases I:c.ok=true
      ·rw[RK I];have fc:=(vR f 6 ts (a.i+1) a.L 0 c J I (by omega)).1
       by_cases he:eE (cr ts c.i) iY=true
       ·rw[RK he];have ad:=nH he;obtain⟨d,hd⟩:=ih 6 ts (c.i+1) c.L 0 (by omega) (by omega)
        rw[hd];simp only;by_cases V:d.ok=true
        ·rw[RK V];exact⟨_,rfl⟩
        rw[RH V];exact⟨_,rfl⟩
       rw[RH he];exact⟨_,rfl⟩
      rw[RH I];exact⟨_,rfl⟩
     rw[RH R];exact⟨_,rfl⟩
    rw[RH D];exact⟨_,rfl⟩
   rw[RH G];exact ih 0 ts i L 0 (by have:wt 0=7:=rfl;omega) (by omega)
  by_cases U:z=5
  ·subst U;have ae:wt 5=2:=rfl;rw[P,RH O,RK rfl];by_cases G:eE (cr ts i) [40]=true
   ·rw[RK G];have hr:=nH G;obtain⟨a,E⟩:=ih 6 ts (i+1) L 0 (by have:wt 6=8:=rfl;omega) (by omega)
    rw[E];simp only[eh];by_cases D:a.ok=true
    ·rw[RK D];by_cases J:eE (cr ts a.i) [41]=true
     ·rw[RK J];exact⟨_,rfl⟩
     rw[RH J];exact⟨_,rfl⟩
    rw[RH D];exact⟨_,rfl⟩
   rw[RH G];by_cases E:dP (cr ts i)=true
   ·rw[RK E];exact⟨_,rfl⟩
   rw[RH E];exact⟨_,rfl⟩
  by_cases h2:z=2
  ·subst h2;have af:wt 2=5:=rfl;rw[P,RH O,RH U,RK rfl];by_cases G:eE (cr ts i) iw=true
   ·rw[RK G];have hr:=nH G;obtain⟨a,E⟩:=ih 2 ts (i+1) L 0 (by omega) (by omega)
    rw[E];simp only[eh];by_cases D:a.ok=true
    ·rw[RK D];exact⟨_,rfl⟩
    rw[RH D];exact⟨_,rfl⟩
   rw[RH G];exact ih 3 ts i L 0 (by have:wt 3=4:=rfl;omega) (by omega)
  by_cases Y:z<10
  ·rw[P,RH O,RH U,RH h2,RK Y];have ag:wt (z+1)+1<=wt z/\2<=wt z:=by
    have e:z=0\/z=1\/z=3\/z=4:=by omega
    rcases e with rfl|rfl|rfl|rfl<;>decide
   obtain⟨a,E⟩:=ih (z+1) ts i L 0 (by omega) (by omega)
   rw[E];simp only[eh];by_cases D:a.ok=true
   ·rw[RK D];have fa:=(vR f (z+1) ts i L 0 a E D (by omega)).2 (by omega)
    have Z:wt (10+z)=1:=by unfold wt;rw[RH (by omega),RH (by omega)]
    exact ih (10+z) ts a.i a.L a.top (by rw[Z];omega) (by omega)
   rw[RH D];exact⟨_,rfl⟩
  rw[P,RH O,RH U,RH h2,RH Y];have Z:wt z=1:=by unfold wt;rw[RH (by omega),RH (by omega)]
  by_cases hj:eX (z - 10) (cr ts i)=true
  ·rw[RK hj];have hr:=Bo hj;have ah:wt (z - 9)<=7:=by unfold wt;split;omega;split<;>omega
   obtain⟨c,J⟩:=ih (z - 9) ts (i+1) L 0 (by omega) (by omega)
   rw[J];simp only[eh];by_cases I:c.ok=true
   ·rw[RK I];have fc:=(vR f (z - 9) ts (i+1) L 0 c J I (by omega)).1
    by_cases aa:z=13
    ·rw[RK aa];exact⟨_,rfl⟩
    rw[RH aa];exact ih z ts c.i _ _ (by omega) ht
   rw[RH I];exact⟨_,rfl⟩
  rw[RH hj];exact⟨_,rfl⟩
def qV (p:Pt):Prop:=(dP p.tok=true/\p.subs=[])\/(eE p.tok iw=true/\p.subs.length=1)\/(eE p.tok lT=true/\p.subs.length=3)\/(∃n,di n/\eX n p.tok=true/\p.subs.length=2)
def jS (T:Nat->Nat->Prop):Nat->List Nat->Nat->Prop
 |z,[],D=>z=D
 |z,j::js,D=>T z j/\jS T (j+1) js D
def dN:Nat->List Pt->Nat->Nat->Prop
 |0,_,_,_=>False
 |f+1,L,E,i=>i<L.length/\qV (L.getD i cD)/\jS (dN f L) E (L.getD i cD).subs i
theorem jS.mono {T E:Nat->Nat->Prop} {js:List Nat} (G:∀z j,T z j->E z j):∀{z D},jS T z js D->jS E z js D:=by
 induction js with
 |nil=>intro z D h;exact h
 |cons j js ih=>intro z D h;exact⟨G _ _ h.1,ih h.2⟩
theorem dN.up {f:Nat}:∀{L z i},dN f L z i->dN (f+1) L z i:=by
 induction f with
 |zero=>intro L z i h;exact h.elim
 |succ f ih=>intro L z i h;exact⟨h.1,h.2.1,h.2.2.mono λz j D=>ih D⟩
theorem dN.upto (D:f<=g) (h:dN f L z i):dN g L z i:=by
 induction D with
 |refl=>exact h
 |step _ ih=>exact ih.up
theorem dN.lt (h:dN f L z i):i<L.length:=by
 cases f with
 |zero=>exact h.elim
 |succ f=>exact h.1
theorem dN.more {f:Nat}:∀{L z i},dN f L z i-> ∀new,dN f (L++new) z i:=by
 induction f with
 |zero=>intro L z i h;exact h.elim
 |succ f ih=>
  intro L z i h new;have e:=gL (M:=new) h.1;refine⟨by have:=h.1;simp;omega,by rw[e];exact h.2.1,by rw[e];exact h.2.2.mono λz j D=>ih D new⟩
def jc (L:List Pt) (z i:Nat):Prop:= ∃f,dN f L z i
theorem jc.more {L z i} (h:jc L z i) {D} (E:∃new,D=L++new):jc D z i:=by
 obtain⟨f,h⟩:=h;obtain⟨new,rfl⟩:=E;exact⟨f,h.more new⟩
theorem jc.put (D:qV p) (E:jS (dN f L) z p.subs L.length):jc (L++[p]) z L.length:=
 ⟨f+1,by simp,by rw[eI];exact D,by rw[eI];exact E.mono λz j G=>G.more _⟩
theorem jc.put1 (E:qV p) (G:p.subs=[a]) (z:jc L D a) (e:a+1=L.length):jc (L++[p]) D L.length:=by
 obtain⟨f,z⟩:=z;exact jc.put E (by rw[G];exact⟨z,e⟩)
theorem jc.put2 (G:qV p) (I:p.subs=[a,b]) (z:jc L E a) (D:jc L (a+1) b) (e:b+1=L.length):jc (L++[p]) E L.length:=by
 obtain⟨f,z⟩:=z;obtain⟨g,D⟩:=D;exact jc.put (f:=max f g) G (by rw[I];exact⟨z.upto (by omega),D.upto (by omega),e⟩)
theorem jc.put3 (I:qV p) (J:p.subs=[a,b,c]) (z:jc L G a) (D:jc L (a+1) b) (E:jc L (b+1) c) (e:c+1=L.length):jc (L++[p]) G L.length:=by
 obtain⟨f,z⟩:=z;obtain⟨g,D⟩:=D;obtain⟨k,E⟩:=E;exact jc.put (f:=max f (max g k)) I (by rw[J];exact⟨z.upto (by omega),D.upto (by omega),E.upto (by omega),e⟩)
def vS (ts:List Tok):Prop:= ∀m n,m<n->n<ts.length->(cr ts m).pl<(cr ts n).pl
def lr (ts:List Tok) (L:List Pt) (i:Nat):Prop:=
 (∀k,k<L.length->(L.getD k cD).tok.k=111-> ∃m,m<i/\m<ts.length/\(L.getD k cD).tok=cr ts m)/\
 (∀k q,k<q->q<L.length->(L.getD k cD).tok.k=111->(L.getD q cD).tok.k=111->(L.getD k cD).tok.pl<(L.getD q cD).tok.pl)/\
 (∀k,k<L.length->(L.getD k cD).tok∈ts)
theorem px {ts:List Tok} {i:Nat} (h:cr ts i≠iF):i<ts.length/\cr ts i∈ts:=by
 have z:i<ts.length:=by
  rcases SZ i ts.length with D|D
  ·exact D
  exact absurd (by unfold cr;rw[RG,R2 (by omega)];rfl) h
 exact⟨z,by unfold cr;rw[RG,RI z];exact R4 z⟩
theorem tL (x:LB):eE iF x=false:=rfl
theorem Bp (n:Nat):eX n iF=false:=by unfold eX iF;simp
theorem lr.mono {ts:List Tok} (h:lr ts L i) (G:i<=j):lr ts L j:=
 ⟨λk z D=>by obtain⟨m,I,E⟩:=h.1 k z D;exact⟨m,by omega,E⟩,h.2⟩
theorem lr.other {ts:List Tok} (h:lr ts L i) (p) (U:p.tok.k≠111) (V:p.tok∈ts):lr ts (L++[p]) i:=by
 have I:∀k,k<(L++[p]).length->((L++[p]).getD k cD).tok.k=111->k<L.length:=λk E D=>by
  rcases SZ k L.length with z|z
  ·exact z
  have:k=L.length:=by simp at E;omega
  subst this;rw[eI] at D;exact absurd D U
 refine⟨λk E D=>?_,λk q O Y J G=>?_,λk E=>?_⟩
 ·have z:=I k E D;rw[gL z] at D⊢;exact h.1 k z D
 ·have R:=I q Y G;have z:k<L.length:=by omega
  rw[gL z] at J⊢;rw[gL R] at G⊢;exact h.2.1 k q O R J G
 rcases SZ k L.length with z|z
 ·rw[gL z];exact h.2.2 k z
 have:k=L.length:=by simp at E;omega
 subst this;rw[eI];exact V
theorem lr.next {ts:List Tok} (Z:vS ts) (h:lr ts L i) (O:dP (cr ts i)=true):lr ts (L++[⟨cr ts i,[]⟩]) (i+1):=by
 obtain⟨R,G⟩:=px λe=>by rw[e] at O;exact absurd O (by decide)
 refine⟨λk I U=>?_,λk q V Y D E=>?_,λk I=>?_⟩
 ·rcases SZ k L.length with z|z
  ·rw[gL z] at U⊢;obtain⟨m,a,b,c⟩:=h.1 k z U;exact⟨m,by omega,b,c⟩
  have:k=L.length:=by simp at I;omega
  subst this;rw[eI];exact⟨i,by omega,R,rfl⟩
 ·have z:k<L.length:=by simp at Y;omega
  rw[gL z] at D⊢;rcases SZ q L.length with J|J
  ·rw[gL J] at E⊢;exact h.2.1 k q V J D E
  have:q=L.length:=by simp at Y;omega
  subst this;rw[eI] at E⊢;obtain⟨m,a,b,c⟩:=h.1 k z D;rw[c];exact Z m i a R
 rcases SZ k L.length with z|z
 ·rw[gL z];exact h.2.2 k z
 have:k=L.length:=by simp at I;omega
 subst this;rw[eI];exact G
theorem ot {t:Tok} {x:LB} (h:eE t x=true):t.k≠111:=by
 unfold eE at h;simp at h;omega
theorem Ku {ts:List Tok} {x:LB} (h:eE (cr ts i) x=true):cr ts i∈ts:=(px λe=>by rw[e] at h;exact absurd h (by rw[tL];simp)).2
theorem Kv {ts:List Tok} {i n:Nat} (h:eX n (cr ts i)=true):cr ts i∈ts:=(px λe=>by rw[e] at h;exact absurd h (by rw[Bp];simp)).2
theorem sq {t:Tok} {n:Nat} (h:eX n t=true):t.k≠111:=by
 unfold eX at h;simp at h;omega
theorem Bq (h:P g z ts i L x=some r) (D:r.ok=true) (E:z<=6):∃new,r.L=L++new:=
 (zR g z ts i L x L.length r h D (RL _) (λk G I=>by omega) (by omega) (.inl E)).more
theorem O9 {ts:List Tok} (hS:vS ts) (f):∀z i L x I r,P f z ts i L x=some r->r.ok=true->(z<=6\/z=10\/z=11\/z=13\/z=14)->lr ts L i->(z<10->I=L.length)->(10<=z->x+1=L.length/\jc L I x)->
 r.top+1=r.L.length/\jc r.L I r.top/\lr ts r.L r.i:=by
 induction f with
 |zero=>intro z i L x I r h;rw[P] at h;simp at h
 |succ f ih=>
  intro z i L x I r h E ht hO D hx;by_cases h6:z=6
  ·subst h6;have D:=D (by omega)
   by_cases J:eE (cr ts i) lT=true
   ·obtain⟨G,rb,rc,R,Y,Z,af,ag,aa⟩:=mq h J;rw[af] at E;obtain⟨V,U,rfl⟩:=aa E;have fa:=(vR f 6 ts (i+1) L 0 G R V (by omega)).1
    obtain⟨a1,a2,a3⟩:=ih 6 (i+1) L 0 I G R V (by omega) (hO.mono (by omega)) (λ_=>D) (by omega)
    unfold Nx at Y Z;have ah:eE (cr ts G.i) iX=true:=by
     cases e:eE (cr ts G.i) iX with
     |true=>rfl
     |false=>rw[RH (by simp[e])] at Y;rw[Y.1] at U;simp at U
    have ai:eE (cr ts rb.i) iY=true:=by
     cases e:eE (cr ts rb.i) iY with
     |true=>rfl
     |false=>rw[RH (by simp[e])] at Z;rw[Z.1] at E;simp at E
    rw[RK ⟨V,ah⟩] at Y;rw[RK ⟨U,ai⟩] at Z;have ab:=Bq Y U (by omega)
    have ac:=Bq Z E (by omega)
    obtain⟨b1,b2,b3⟩:=ih 6 (G.i+1) G.L 0 G.L.length rb Y U (by omega) (a3.mono (by omega)) (λ_=>rfl) (by omega)
    obtain⟨c1,c2,c3⟩:=ih 6 (rb.i+1) rb.L 0 rb.L.length rc Z E (by omega) (b3.mono (by omega)) (λ_=>rfl) (by omega)
    refine⟨by simp[lN],?_,?_⟩
    ·rw[<-a1] at b2;rw[<-b1] at c2;exact jc.put3 (.inr (.inr (.inl ⟨J,rfl⟩))) rfl ((a2.more ab).more ac) (b2.more ac) c2 c1
    exact c3.other _ (ot J) (Ku J)
   exact ih 0 i L 0 I r (rF h J) E (by omega) hO (λ_=>D) (by omega)
  by_cases h5:z=5
  ·subst h5;have D:=D (by omega)
   by_cases J:eE (cr ts i) [40]=true
   ·obtain⟨G,R,O⟩:=mr h J;rcases O with⟨V,an,rfl⟩|⟨_,O,_⟩
    ·obtain⟨a1,a2,a3⟩:=ih 6 (i+1) L 0 I G R V (by omega) (hO.mono (by omega)) (λ_=>D) (by omega)
     exact⟨a1,a2,a3.mono (by simp)⟩
    rw[O] at E;simp at E
   rcases kQ h J with⟨ha,rfl⟩|⟨_,rfl⟩
   ·exact⟨by simp,by rw[D];exact jc.put (f:=0) (.inl ⟨ha,rfl⟩) rfl,hO.next hS ha⟩
   simp at E
  by_cases h2:z=2
  ·subst h2;have D:=D (by omega)
   by_cases J:eE (cr ts i) iw=true
   ·obtain⟨G,R,aj,ag,aa⟩:=oj h J;rw[aj] at E;have aa:=aa E;subst aa;obtain⟨a1,a2,a3⟩:=ih 2 (i+1) L 0 I G R E (by omega) (hO.mono (by omega)) (λ_=>D) (by omega)
    exact⟨by simp[lN],jc.put1 (.inr (.inl ⟨J,rfl⟩)) rfl a2 a1,a3.other _ (ot J) (Ku J)⟩
   exact ih 3 i L 0 I r (rE h J) E (by omega) hO (λ_=>D) (by omega)
  by_cases ak:z<10
  ·have hn:di z:=by unfold di;omega
   have D:=D ak;obtain⟨G,R,O⟩:=jd hn h;rcases O with⟨V,O⟩|⟨no,rfl⟩
   ·unfold di at hn;obtain⟨a1,a2,a3⟩:=ih (z+1) i L 0 I G R V (by omega) hO (λ_=>D) (by omega)
    exact ih (10+z) G.i G.L G.top I r O E (by omega) a3 (by omega) (λ_=>⟨a1,a2⟩)
   rw[no] at E;simp at E
  obtain⟨n,rfl⟩:∃n,z=10+n:=⟨z - 10,by omega⟩
  have hn:di n:=by unfold di;omega
  have am:=hn;unfold di at am;obtain⟨x1,x2⟩:=hx (by omega)
  cases hj:eX n (cr ts i) with
  |false=>
   have:=om hn h hj;subst this;exact⟨x1,x2,hO⟩
  |true=>
   obtain⟨rb,ad,O⟩:=nG hn h hj;rcases O with⟨no,rfl⟩|⟨U,O⟩
   ·rw[no] at E;simp at E
   have ab:=Bq ad U (by omega)
   obtain⟨b1,b2,b3⟩:=ih (n+1) (i+1) L 0 L.length rb ad U (by omega) (hO.mono (by omega)) (λ_=>rfl) (by omega)
   rw[<-x1] at b2;have hT:jc (rb.L++[⟨cr ts i,[x,rb.top]⟩]) I rb.L.length:=jc.put2 (.inr (.inr (.inr ⟨n,hn,hj,rfl⟩))) rfl (x2.more ab) b2 b1;have ae:lr ts (rb.L++[⟨cr ts i,[x,rb.top]⟩]) rb.i:=b3.other _ (sq hj) (Kv hj);rcases O with⟨h3,rfl⟩|⟨h3,O⟩
   ·exact⟨by simp[lN],hT,ae⟩
   exact ih (10+n) rb.i _ _ I r O E (by omega) ae (by omega) (λ_=>⟨by simp,hT⟩)
def kN (F:Nat->Nat):List Nat->Nat
 |[]=>0
 |j::js=>F j+kN F js
def cnt:Nat->List Pt->Nat->Nat
 |0,_,_=>1
 |f+1,L,i=>1+kN (cnt f L) (L.getD i cD).subs
theorem l9 {T:Nat->Nat->Prop} (E:∀z j,T z j->z<=j) (js:List Nat):∀{z D},jS T z js D->z<=D:=by
 induction js with
 |nil=>intro z D h;exact T1 h
 |cons j js ih=>intro z D h;have:=E _ _ h.1;have:=ih h.2;omega
theorem dN.le {f:Nat}:∀{L z i},dN f L z i->z<=i:=by
 induction f with
 |zero=>intro L z i h;exact h.elim
 |succ f ih=>intro L z i h;exact l9 (λz j D=>ih D) _ h.2.2
theorem DR (E:∀z j,T z j->z<=j/\F j=j+1 - z) (js:List Nat):∀{z D},jS T z js D->kN F js=D - z:=by
 induction js with
 |nil=>intro z D h;have:z=D:=h;subst this;simp[kN]
 |cons j js ih=>
  intro z D h;have G:=E _ _ h.1;have I:=ih h.2;have h3:=l9 (λz j J=>(E z j J).1) js h.2
  rw[kN,I,G.2];omega
theorem dN.cnt {f:Nat}:∀{L z i},dN f L z i->cnt f L i=i+1 - z:=by
 induction f with
 |zero=>intro L z i h;exact h.elim
 |succ f ih=>
  intro L z i h;have E:=dN.le h;have:=DR (λz j D=>⟨D.le,ih D⟩) _ h.2.2
  rw[Go.Proofs.YtfkdailfcmnjlaaGreatDoor.cnt,this];omega
theorem yc {F G:Nat->Nat} {l:List Nat} (h:∀j∈l,F j=G j):gO F l=gO G l:=by
 have:∀(l:List Nat) (m:Nat),(∀j∈l,F j=G j)->l.foldl (λm j=>max m (F j)) m=l.foldl (λm j=>max m (G j)) m:=by
  intro l;induction l with
  |nil=>intro m _;rfl
  |cons x l ih=>intro m z;rw[To,To,z x (by simp)];exact ih _ λj D=>z j (by simp[D])
 exact this l 0 h
theorem iH {T:Nat->Nat->Prop} (js:List Nat):∀{D E},jS T D js E-> ∀j∈js,∃G,T G j:=by
 induction js with
 |nil=>intro D E _ j z;simp at z
 |cons x js ih=>
  intro D E h j z;simp at z;rcases z with rfl|z
  ·exact⟨D,h.1⟩
  exact ih h.2 j z
theorem dN.dep {f:Nat}:∀{g L E i},dN f L E i->f<=g->dep g L i=dep f L i:=by
 induction f with
 |zero=>intro g L E i h;exact h.elim
 |succ f ih=>
  intro g L E i h hg;obtain⟨g,rfl⟩:∃U,g=U+1:=⟨g - 1,by omega⟩
  rw[Go.Proofs.YtfkdailfcmnjlaaGreatDoor.dep,Go.Proofs.YtfkdailfcmnjlaaGreatDoor.dep];rw[yc λj V=>?_]
  obtain⟨aa,Y⟩:=iH _ h.2.2 j V;exact ih Y (by omega)
theorem Br {T G:Nat->Nat->Prop} (js:List Nat):∀{z D},(∀z j,T z j->z<=j)->(∀z j,j<D->T z j->G z j)->jS T z js D->jS G z js D:=by
 induction js with
 |nil=>intro z D _ _ h;exact h
 |cons j js ih=>
  intro z D I J h;have:=l9 I js h.2;exact⟨J _ _ (by omega) h.1,ih I J h.2⟩
theorem dN.fit {f:Nat}:∀{L z i},dN f L z i->dN (i+1) L z i:=by
 induction f with
 |zero=>intro L z i h;exact h.elim
 |succ f ih=>
  intro L z i h;exact⟨h.1,h.2.1,Br _ (λz j D=>D.le) (λz j D E=>(ih E).upto (by omega)) h.2.2⟩
theorem jc.fit {L z i} (h:jc L z i):dN (i+1) L z i:=by
 obtain⟨f,h⟩:=h;exact h.fit
def fH (F:Nat->Option Nat):List Nat->Option Nat
 |[]=>none
 |j::js=>match F j with
  |some p=>some p
  |none=>fH F js
def km (bad:Tok->Bool):Nat->List Pt->Nat->Option Nat
 |0,_,_=>none
 |f+1,L,i=>if(L.getD i cD).tok.k=111 then(if bad (L.getD i cD).tok then some (L.getD i cD).tok.pl else none) else fH (km bad f L) (L.getD i cD).subs
theorem qW (xs:List dk) (L) (n a):∀b k o,dR xs L n (a+b) k o=dR xs L n b (k+a) (dR xs L n a k o):=by
 induction a with
 |zero=>intro b k o;simp[dR]
 |succ a ih=>
  intro b k o;rw[show a+1+b=(a+b)+1 from by omega,dR,dR,ih,show k+1+a=k+(a+1) from by omega]
theorem zS (xs:List dk) (L) (n p c):∀k,(∀q,k<=q->q<k+c->(L.getD q cD).tok.k=111->p<=(L.getD q cD).tok.pl)->dR xs L n c k (some p)=some p:=by
 induction c with
 |zero=>intro k _;rfl
 |succ c ih=>
  intro k h;rw[dR];have e:fZ xs n (L.getD k cD).tok (some p)=some p:=by
   unfold fZ;split
   ·rename_i z;have:=h k (RL _) (by omega) z.1
    simp only[nz];rw[RH (by omega)]
   rfl
  rw[e];exact ih (k+1) λq D E=>h q (by omega) (by omega)
def nI (xs:List dk) (n:Nat) (t:Tok):Bool:=decide (cW xs t.text n<0)
theorem DS
 (G:∀k q,k<q->q<L.length->(L.getD k cD).tok.k=111->(L.getD q cD).tok.k=111->(L.getD k cD).tok.pl<(L.getD q cD).tok.pl)
 (I:∀z j,T z j->z<=j/\dR xs L n (j+1 - z) z none=F j/\ ∀p,F j=some p-> ∃q,z<=q/\q<=j/\(L.getD q cD).tok.k=111/\(L.getD q cD).tok.pl=p)
 (js:List Nat):∀{z D},D<=L.length->jS T z js D->dR xs L n (D - z) z none=fH F js/\ ∀p,fH F js=some p-> ∃q,z<=q/\q<D/\(L.getD q cD).tok.k=111/\(L.getD q cD).tok.pl=p:=by
 induction js with
 |nil=>intro z D _ h;have:z=D:=h;subst this;simp[fH,dR]
 |cons j js ih=>
  intro z D J h;obtain⟨h1,O,h3⟩:=I _ _ h.1;have h4:=l9 (λz j R=>(I z j R).1) js h.2
  obtain⟨U,V⟩:=ih J h.2;rw[show D - z=(j+1 - z)+(D - (j+1)) from by omega,qW,O,show z+(j+1 - z)=j+1 from by omega,fH]
  cases Y:F j with
  |none=>
   refine⟨U,λp E=>?_⟩
   obtain⟨q,a,b,c⟩:=V p E;exact⟨q,by omega,b,c⟩
  |some p=>
   obtain⟨q,a,b,c,d⟩:=h3 p Y;refine⟨zS xs L n p _ _ λr aa ab Z=>?_,λp' E=>?_⟩
   ·have:=G q r (by omega) (by omega) c Z
    omega
   simp at E;subst E;exact⟨q,a,by omega,c,d⟩
theorem rH {p:Pt} (h:qV p) (z:p.tok.k=111):p.subs=[]:=by
 rcases h with⟨_,h⟩|⟨h,_⟩|⟨h,_⟩|⟨n,_,h,_⟩
 ·exact h
 ·exact absurd z (ot h)
 ·exact absurd z (ot h)
 exact absurd z (sq h)
theorem dN.res {xs:List dk}:∀{L z i},(∀k q,k<q->q<L.length->(L.getD k cD).tok.k=111->(L.getD q cD).tok.k=111->(L.getD k cD).tok.pl<(L.getD q cD).tok.pl)->dN f L z i->
 dR xs L n (i+1 - z) z none=km (nI xs n) f L i/\ ∀p,km (nI xs n) f L i=some p-> ∃q,z<=q/\q<=i/\(L.getD q cD).tok.k=111/\(L.getD q cD).tok.pl=p:=by
 induction f with
 |zero=>intro L z i _ h;exact h.elim
 |succ f ih=>
  intro L z i I h;have J:=h.le;obtain⟨R,U⟩:=DS I (λz j O=>⟨O.le,ih I O⟩) _ (by have:=h.1;omega) h.2.2
  rw[show i+1 - z=(i - z)+1 from by omega,qW,R,show z+(i - z)=i from by omega,dR,dR,km]
  by_cases D:(L.getD i cD).tok.k=111
  ·rw[RK D,rH h.2.1 D,fH];unfold fZ nI;by_cases G:cW xs (L.getD i cD).tok.text n<0
   ·rw[RK ⟨D,G⟩,Sr G,RK rfl];refine⟨rfl,λp E=>?_⟩
    simp at E;exact⟨i,J,RL _,D,E⟩
   rw[RH (λe=>G e.2),Sc G]
   exact⟨rfl,λp E=>by simp at E⟩
  rw[RH D];unfold fZ;rw[RH (λe=>D e.1)]
  refine⟨rfl,λp E=>?_⟩
  obtain⟨q,a,b,c⟩:=U p E;exact⟨q,a,by omega,c⟩
def fN:List dk->List (List UInt8)
 |[]=>[]
 |x::r=>if x.name=[] then fN r else x.name::fN r
theorem Bs (xs:List dk) (x:dk):fN (xs++[x])=if x.name=[] then fN xs else fN xs++[x.name]:=by
 induction xs with
 |nil=>simp[fN]
 |cons y r ih=>
  simp only[T7,fN,ih]
  split<;>split<;>simp
theorem zT (xs:List dk):(fN xs).length<=xs.length:=by
 induction xs with
 |nil=>simp[fN]
 |cons y r ih=>rw[fN];split<;>simp<;>omega
theorem tM (s:List UInt8) (G:s≠[]) (xs:List dk):∀k,du (fN (xs.take k)) s<0↔cW xs s k<0:=by
 induction xs with
 |nil=>intro k;simp[fN,du,cW]
 |cons x r ih=>
  intro k
  cases k with
  |zero=>simp[fN,du,cW]
  |succ k=>
   have:=ih k;rw[Tj,fN,cW]
   by_cases E:x.name=[]
   ·rw[RK E,E,RH (by simpa using G)]
    by_cases z:cW r s k<0
    ·rw[RK z];exact⟨λ_=>by decide,λ_=>this.2 z⟩
    ·rw[RH z];constructor
     ·intro h;exact absurd (this.1 h) z
     ·intro h;omega
   ·rw[RH E,du]
    by_cases D:(x.name==s)=true
    ·rw[RK D,RK D]
    ·rw[RH D,RH D]
     by_cases z:cW r s k<0
     ·rw[RK z,RK (this.2 z)]
     ·rw[RH z,RH (λh=>z (this.1 h))]
      have I: ¬du (fN (r.take k)) s<0:=λh=>z (this.1 h)
      omega
def eF (c:UInt8):Nat:=if c.toNat=110 then 1 else if c.toNat=116 then 2 else if c.toNat=109 then 3 else 0
def eM:List dk->List UInt8->List Nat
 |x::r,t::ts=>if x.name=[] then eM r ts else eF t::eM r ts
 |_,_=>[]
theorem py (xs : List dk) (x : dk) (t : UInt8) :∀ (its : List UInt8), its.length = xs.length -> eM (xs ++ [x]) (its ++ [t]) = if x.name = [] then eM xs its else eM xs its ++ [eF t] := by
  induction xs with
  | nil => intro its h; obtain rfl : its = [] := by simpa using h
           simp [eM]
  | cons y r ih =>
    intro its h
    cases its with
    | nil => simp at h
    | cons u its =>
      have := ih its (by simpa using h)
      simp only [T7, eM, this]
      split <;> split <;> simp
theorem ou (xs:List dk):∀(its:List UInt8),its.length=xs.length->(eM xs its).length=(fN xs).length:=by
 induction xs with
 |nil=>intro its h;simp[eM,fN]
 |cons y r ih=>
  intro its h
  cases its with
  |nil=>simp at h
  |cons u its=>
   have:=ih its (by simpa using h)
   rw[eM,fN];split<;>simp[this]
theorem yF (s:List UInt8) (I:s≠[]) (xs):∀its,its.length<=xs.length->0<=cW xs s its.length->(eM (xs.take its.length) its).getD (du (fN (xs.take its.length)) s).toNat 0=eF (its.getD (cW xs s its.length).toNat 0):=by
 induction xs with
 |nil=>intro its h z;simp[cW] at z
 |cons x r ih=>
  intro its h z
  cases its with
  |nil=>simp[cW] at z
  |cons u its=>
   rw[R7] at*;rw[cW] at z⊢;rw[Tj,eM,fN]
   by_cases G:x.name=[]
   ·have D: ¬(x.name==s)=true:=by rw[G];simpa using I
    rw[RH D] at z⊢;rw[RK G,RK G]
    by_cases E:cW r s its.length<0
    ·rw[RK E] at z;omega
    ·rw[RH E]
     rw[ih its (by simpa using h) (by omega),show(cW r s its.length+1).toNat=(cW r s its.length).toNat+1 from by omega,R9]
   ·rw[RH G,RH G,du]
    by_cases D:(x.name==s)=true
    ·rw[RK D,RK D];rfl
    ·rw[RH D] at z⊢
     rw[RH D]
     by_cases E:cW r s its.length<0
     ·rw[RK E] at z;omega
     ·have J: ¬du (fN (r.take its.length)) s<0:=λh=>E ((tM s I r _).1 h)
      rw[RH E,RH J,show(cW r s its.length+1).toNat=(cW r s its.length).toNat+1 from by omega,show(du (fN (r.take its.length)) s+1).toNat=(du (fN (r.take its.length)) s).toNat+1 from by omega,R9,R9]
      exact ih its (by simpa using h) (by omega)
theorem DT {l m:List (List UInt8)} {s:List UInt8} (h:0<=du l s):du (l++m) s=du l s:=by
 induction l with
 |nil=>simp[du] at h
 |cons x r ih=>
  rw[T7,du,du] at*
  by_cases z:(x==s)=true
  ·rw[RK z,RK z]
  ·rw[RH z] at h⊢
   rw[RH z]
   by_cases J:du r s<0
   ·rw[RK J] at h;omega
   ·rw[ih (by omega)]
theorem Kw (xs:List dk) (k:Nat):∃m,fN xs=fN (xs.take k)++m:=by
 induction xs generalizing k with
 |nil=>exact⟨[],by simp[fN]⟩
 |cons x r ih=>
  cases k with
  |zero=>exact⟨_,by simp[fN];rfl⟩
  |succ k=>
   obtain⟨m,z⟩:=ih k;refine⟨m,?_⟩;rw[Tj,fN,fN,z]
   split<;>simp
theorem zU {xs:List dk} (c):∀k o,dR xs L i c k o=none->o=none/\ ∀q,k<=q->q<k+c->(L.getD q cD).tok.k=111->0<=cW xs (L.getD q cD).tok.text i:=by
 induction c with
 |zero=>intro k o h;exact⟨h,λq z G=>by omega⟩
 |succ c ih=>
  intro k o h;rw[dR] at h;obtain⟨z,G⟩:=ih _ _ h;unfold fZ at z
  by_cases E:(L.getD k cD).tok.k=111/\cW xs (L.getD k cD).tok.text i<0
  ·rw[RK E] at z
   exfalso
   cases o with
   |none=>simp[nz] at z
   |some p=>
    have I:∀m,nz m (some p)≠none:=λm=>by simp only[nz];split<;>simp
    exact I _ z
  ·rw[RH E] at z
   refine⟨z,λq O R D=>?_⟩
   by_cases e:q=k
   ·subst e
    by_cases J:cW xs (L.getD q cD).tok.text i<0
    ·exact absurd ⟨D,J⟩ E
    ·omega
   ·exact G q (by omega) (by omega) D
theorem yd {F G:Nat->Option Nat} {js:List Nat} (h:∀j∈js,F j=G j):fH F js=fH G js:=by
 induction js with
 |nil=>rfl
 |cons x js ih=>rw[fH,fH,h x (by simp),ih λj z=>h j (by simp[z])]
theorem DU {bad} (E:∀k,k<L.length->(L.getD k cD).tok.k=111->bad (L.getD k cD).tok=bad' (L.getD k cD).tok) (f):∀{D i},dN f L D i->km bad f L i=km bad' f L i:=by
 induction f with
 |zero=>intro D i h;exact h.elim
 |succ f ih=>
  intro D i h;rw[km,km]
  by_cases z:(L.getD i cD).tok.k=111
  ·rw[RK z,RK z,E i h.1 z]
  ·rw[RH z,RH z]
   exact yd λj G=>by
    obtain⟨J,I⟩:=iH _ h.2.2 j G;exact ih I
def ek (L:List Pt):List dk->Nat->Prop
 |[],fr=>fr=L.length
 |x::r,fr=>jc L fr x.top/\x.top+1=x.parts/\ek L r x.parts
structure iq (L:List Pt):Prop where
 up:∀k q,k<q->q<L.length->(L.getD k cD).tok.k=111->(L.getD q cD).tok.k=111->(L.getD k cD).tok.pl<(L.getD q cD).tok.pl
 own:∀k,k<L.length->(L.getD k cD).tok.k=111->(L.getD k cD).tok.text≠[]
 few:L.length<=5000
theorem vT (I:iq L) (J:jc L fr x.top) (O:x.top+1=x.parts):
 dq xs L (x::r) fr i=if x.name≠[]/\0<=du (fN (xs.take i)) x.name then some x.named else(km (nI xs i) (x.top+1) L x.top).or (dq xs L r x.parts (i+1)):=by
 have R:=(dN.res (xs:=xs) (n:=i) I.up J.fit).1;rw[dq,<-O,R]
 by_cases z:x.name=[]
 ·rw[RH (λe=>e.1 z),RH (λe=>e.1 z)]
 ·have E:=tM x.name z xs i
  by_cases G:cW xs x.name i<0
  ·rw[RH (λe=>by have:=e.2;omega),RH (λe=>by have:=E.2 G;have:=e.2;omega)]
  ·rw[RK ⟨z,by omega⟩,RK ⟨z,by
    have: ¬du (fN (xs.take i)) x.name<0:=λh=>G (E.1 h)
    omega⟩]
theorem vU (i:Nat) (h:0<=du (fN (xs.take i)) s):du (fN xs) s=du (fN (xs.take i)) s:=by
 obtain⟨m,z⟩:=Kw xs i;rw[z];exact DT h
def jZ:Nat->Nat->List UInt8
 |0,_=>[]
 |f+1,n=>if n<10 then[UInt8.ofNat (48+n)] else jZ f (n / 10)++[UInt8.ofNat (48+n %10)]
def pz (n:Nat):List UInt8:=jZ 20 n
theorem yG (f n:Nat):(jZ f n).length<=f:=by
 induction f generalizing n with
 |zero=>simp[jZ]
 |succ f ih=>
  rw[jZ];split
  ·simp
  ·have:=ih (n / 10);simp;omega
def uF:List UInt8:=[40,110,111,116,32]
def ve:List UInt8:=[40,105,102,32]
def mu:List UInt8:=[32,116,104,101,110,32]
def ow:List UInt8:=[32,101,108,115,101,32]
def oZ:List UInt8:=[108,101,116,32]
def ye:List UInt8:=[32,61,32]
def qk:List UInt8:=[97,108,108,111,119,32,105,102,32]
def tN:List UInt8:=[100,101,110,121,32,105,102,32]
def pA (z:List UInt8):List (List UInt8)->List UInt8
 |[]=>z
 |[a]=>uF++a++[41]
 |[a,b]=>[40]++a++[32]++z++[32]++b++[41]
 |a::b::c::_=>ve++a++mu++b++ow++c++[41]
def je:Nat->List Pt->Nat->List UInt8
 |0,_,_=>[]
 |f+1,L,i=>if(L.getD i cD).tok.k=110 then pz (dG (L.getD i cD).tok.text) else pA (L.getD i cD).tok.text ((L.getD i cD).subs.map (je f L))
def Bt (x:dk):List UInt8:=if x.name=[] then(if x.allow then qk else tN) else oZ++x.name++ye
def yH (L:List Pt) (x:dk):List UInt8:=Bt x++je (x.top+1) L x.top++[59,10]
def ox (L:List Pt) (xs:List dk):List UInt8:=xs.flatMap (yH L)
theorem DV {F:Nat->List UInt8} (E:∀z j,T z j->z<=j/\(F j).length<=c*(j+1 - z)) (js:List Nat):∀{z D},jS T z js D->(js.map F).flatten.length<=c*(D - z):=by
 induction js with
 |nil=>intro z D _;simp
 |cons j js ih=>
  intro z D h;obtain⟨I,J⟩:=E _ _ h.1;have h3:=ih h.2;have O:=l9 (λz j G=>(E z j G).1) js h.2
  have e:c*(D - z)=c*(j+1 - z)+c*(D - (j+1)):=by rw[<-Nat.mul_add];congr 1;omega
  simp only[Sa,List.flatten_cons,RT];rw[e];omega
theorem Kx (z:List UInt8) (D:List (List UInt8)):(pA z D).length<=z.length+D.flatten.length+17:=by
 match D with
 |[]=>simp[pA]
 |[a]=>simp[pA,uF];omega
 |[a,b]=>simp[pA];omega
 |a::b::c::r=>simp[pA,ve,mu,ow];omega
theorem dN.plain_len {f:Nat}:∀{L z i},(∀k,k<L.length->(L.getD k cD).tok.text.length<=1000)->dN f L z i->(je f L i).length<=1100*(i+1 - z):=by
 induction f with
 |zero=>intro L z i _ h;exact h.elim
 |succ f ih=>
  intro L z i D h;have G:=h.le;have I:=DV (T:=dN f L) (F:=je f L) (c:=1100) (λz j E=>⟨E.le,ih D E⟩) _ h.2.2
  have J:=Kx (L.getD i cD).tok.text ((L.getD i cD).subs.map (je f L));have h3:=D i h.1;have O:=yG 20 (dG (L.getD i cD).tok.text);have e:1100*(i+1 - z)=1100*(i - z)+1100:=by omega
  rw[je,e]
  split
  ·unfold pz;omega
  ·omega
end Go.Proofs.YtfkdailfcmnjlaaGreatDoor
