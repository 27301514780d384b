/-
  A part.
-/
import Derived.Test.YtfkdailfcmnjlaaGreatDoorHp
set_option linter.unusedVariables false
set_option linter.unusedSimpArgs false
set_option maxHeartbeats 40000000
set_option maxRecDepth 1000000
namespace Go.Proofs.YtfkdailfcmnjlaaGreatDoor
def eA (p:UInt8→Bool) (l:List UInt8) (k:Nat):Nat:=k+((l.drop k).takeWhile p).length
variable {f i n g k b fr d:Nat} {x s:List UInt8} {F:Nat→Option Nat} {z D a E G:List (Nat×List UInt8)} {c:UInt8} {T:Nat→Nat→Prop} {l js:List Nat} {w:Nat×List UInt8}
theorem mC (p:UInt8→Bool) (l:List UInt8) (k:Nat) (h:k<l.length) (z:p l[k]=true):eA p l k=eA p l (k+1):=by
 unfold eA;rw[ZW h,aba z];simp;omega
theorem zu (p:UInt8→Bool) (l:List UInt8) (k:Nat) (h:k<l.length) (z:p l[k]=false):eA p l k=k:=by
 unfold eA;rw[ZW h,aaN (by simp[z])]
 simp
theorem vU (p:UInt8→Bool) (l:List UInt8) (k:Nat) (h:l.length≤k):eA p l k=k:=by
 unfold eA;rw[aab h];simp
theorem sF (p:UInt8→Bool) (l:List UInt8) (k:Nat):k≤eA p l k:=by unfold eA;omega
theorem mu (p:UInt8→Bool) (l:List UInt8) (k:Nat) (h:k≤l.length):eA p l k≤l.length:=by
 unfold eA;have z:((l.drop k).takeWhile p).length≤(l.drop k).length:=(List.takeWhile_sublist p).length_le;rw[List.length_drop] at z;omega
def ld (c:UInt8):Bool:=decide (48≤c.toNat)&&decide (c.toNat≤57)
def lf (c:UInt8):Bool:=decide (97≤c.toNat)&&decide (c.toNat≤122)
def lL (c:UInt8):Bool:=c.toNat==32||c.toNat==10
def cut (l:List UInt8) (a b:Nat):List UInt8:=(l.drop a).take (b - a)
def eP (l:List UInt8):Nat:=l.foldl (fun n c=>n*10+(c.toNat - 48)) 0
def dP (l:List (List UInt8)) (s:List UInt8):Int:=match l with
 |[]=> -1
 |x::r=>if x==s then 0 else(if dP r s<0 then -1 else dP r s+1)
theorem zv (l:List (List UInt8)) (s:List UInt8): -1≤dP l s:=by
 induction l with
 |nil=>simp[dP]
 |cons x r ih=>unfold dP;split;omega;split<;>omega
theorem IP (l:List (List UInt8)) (s:List UInt8) (k:Nat) (z:k<l.length):dP (l.drop k) s=if l[k]==s then 0 else(if dP (l.drop (k+1)) s<0 then -1 else dP (l.drop (k+1)) s+1):=by
 rw[ZW z,dP]
def dX:List (List UInt8):=[[110,111,110,101],[105,110,118,105,116,101],[106,111,105,110],[108,101,97,118,101],[98,97,110]]
def dL:List (List UInt8):=[[108,101,118,101,108],[114,97,110,107],[110,101,101,100],[119,104,101,110],[115,101,110,100,101,114],[116,97,114,103,101,116],[119,97,110,116,115],[115,101,108,102],[111,112,101,110]]
def vD:List (List UInt8):=[[108,101,116],[97,108,108,111,119],[100,101,110,121],[105,102],[116,104,101,110],[101,108,115,101],[111,114],[97,110,100],[110,111,116],[116,114,117,101],[102,97,108,115,101]]
def pL (s:List UInt8):Bool:=decide (0≤dP dX s)||decide (0≤dP dL s)||decide (0≤dP vD s)
def big (s:List UInt8):Bool:=decide (9223372036854775807<eP s)
structure Tok where
 k:Nat
 text:List UInt8
 pl:Nat
def ji (l:List UInt8) (a:Nat):Option Tok:=
 if a<eA ld l a then(if big (cut l a (eA ld l a)) then none else some ⟨110,cut l a (eA ld l a),a⟩)
 else if a<eA lf l a then
  (if pL (cut l a (eA lf l a)) then some ⟨107,cut l a (eA lf l a),a⟩
   else if eA lf l a - a≤8 then some ⟨111,cut l a (eA lf l a),a⟩ else none)
 else match l[a]? with
  |none=>none
  |some c=>
   if c.toNat=60 then(if(l.getD (a+1) 0).toNat=61 then some ⟨115,[60,61],a⟩ else some ⟨115,[60],a⟩)
   else if c.toNat=40∨c.toNat=41∨c.toNat=59∨c.toNat=43∨c.toNat=45∨c.toNat=61 then some ⟨115,[c],a⟩
   else none
def nx:Nat→List UInt8→Nat→List Tok×Option Nat
 |0,_,_=>([],none)
 |f+1,l,a=>
  if l.length≤eA lL l a then([⟨101,[],l.length⟩],none)
  else match ji l (eA lL l a) with
   |none=>([],some (eA lL l a))
   |some t=>(t::(nx f l (eA lL l a+t.text.length)).1,(nx f l (eA lL l a+t.text.length)).2)
structure Pt where
 tok:Tok
 subs:List Nat
structure Rd where
 ok:Bool
 i:Nat
 L:List Pt
 top:Nat
def ku:Tok:=⟨0,[],0⟩
def dc (ts:List Tok) (i:Nat):Tok:=ts.getD i ku
def fX (t:Tok) (x:List UInt8):Bool:=(t.k==107||t.k==115)&&t.text==x
def l9:List UInt8:=[105,102]
def iQ:List UInt8:=[116,104,101,110]
def iR:List UInt8:=[101,108,115,101]
def iq:List UInt8:=[110,111,116]
def jL:List UInt8:=[116,114,117,101]
def ky:List UInt8:=[102,97,108,115,101]
def tW:List UInt8:=[108,101,116]
def jD:List UInt8:=[97,108,108,111,119]
def nE:List UInt8:=[100,101,110,121]
def kz (n:Nat):List (List UInt8):=if n=0 then[[111,114]] else if n=1 then[[97,110,100]] else if n=3 then[[61],[60],[60,61]] else[[43],[45]]
def gD (n:Nat) (t:Tok):Bool:=decide (0≤dP (kz n) t.text)&&(t.k==107||t.k==115)
def gR (t:Tok):Bool:=t.k==110||t.k==111||(t.k==107&&(decide (0≤dP dX t.text)||decide (0≤dP dL t.text)||t.text==jL||t.text==ky))
def pM (i:Nat):Option Rd:=some ⟨false,i,[],0⟩
def put (r:Rd) (t:Tok) (z:List Nat):Rd:=⟨true,r.i,r.L++[⟨t,z⟩],r.L.length⟩
def eH (o:Option Rd) (k:Rd→Option Rd):Option Rd:=match o with
 |none=>none
 |some r=>if r.ok then k r else some r
def P:Nat→Nat→List Tok→Nat→List Pt→Nat→Option Rd
 |0,_,_,_,_,_=>none
 |f+1,z,ts,i,L,x=>
  if z=6 then
   if fX (dc ts i) l9 then
    eH (P f 6 ts (i+1) L 0) fun a=>
    if fX (dc ts a.i) iQ then
     eH (P f 6 ts (a.i+1) a.L 0) fun b=>
     if fX (dc ts b.i) iR then
      eH (P f 6 ts (b.i+1) b.L 0) fun c=>some (put c (dc ts i) [a.top,b.top,c.top])
     else pM b.i
    else pM a.i
   else P f 0 ts i L 0
  else if z=5 then
   if fX (dc ts i) [40] then
    eH (P f 6 ts (i+1) L 0) fun a=>if fX (dc ts a.i) [41] then some {a with i:=a.i+1} else pM a.i
   else if gR (dc ts i) then some ⟨true,i+1,L++[⟨dc ts i,[]⟩],L.length⟩
   else pM i
  else if z=2 then
   if fX (dc ts i) iq then eH (P f 2 ts (i+1) L 0) fun a=>some (put a (dc ts i) [a.top])
   else P f 3 ts i L 0
  else if z<10 then eH (P f (z+1) ts i L 0) fun a=>P f (10+z) ts a.i a.L a.top
  else
   if gD (z - 10) (dc ts i) then
    eH (P f (z - 9) ts (i+1) L 0) fun b=>
    if z=13 then some (put b (dc ts i) [x,b.top]) else P f z ts b.i (b.L++[⟨dc ts i,[x,b.top]⟩]) b.L.length
   else some ⟨true,i,L,x⟩
def My (t:Tok):Int:=if t.k=110 then eP t.text else 0
def Mz (t:Tok):Prop:=t.text.length≤1000∧(t.k=110→(∀c∈t.text,ld c=true)∧eP t.text≤9223372036854775807)
def Nx (f:Nat) (ts:List Tok) (a b:Rd) (x:List UInt8):Prop:=
 if a.ok=true∧fX (dc ts a.i) x=true then P f 6 ts (a.i+1) a.L 0=some b else b.ok=false∧b.i=a.i
variable {ts:List Tok} {L M:List Pt} {r:Rd}
theorem nV {x:Nat} (h:P (f+1) 6 ts i L x=some r) (U:fX (dc ts i) l9=true):
 ∃a b c:Rd,P f 6 ts (i+1) L 0=some a∧Nx f ts a b iQ∧Nx f ts b c iR∧r.ok=c.ok∧r.i=c.i∧(c.ok=true→a.ok=true∧b.ok=true∧r=put c (dc ts i) [a.top,b.top,c.top]):=by
 rw[P,Zu rfl,Zu U] at h
 cases R:P f 6 ts (i+1) L 0 with
 |none=>rw[R] at h;simp[eH] at h
 |some a=>
  rw[R] at h;simp only[eH] at h
  by_cases z:a.ok=true
  ·rw[Zu z] at h
   by_cases G:fX (dc ts a.i) iQ=true
   ·rw[Zu G] at h
    cases I:P f 6 ts (a.i+1) a.L 0 with
    |none=>rw[I] at h;simp at h
    |some b=>
     rw[I] at h;simp only at h
     by_cases D:b.ok=true
     ·rw[Zu D] at h
      by_cases J:fX (dc ts b.i) iR=true
      ·rw[Zu J] at h
       cases O:P f 6 ts (b.i+1) b.L 0 with
       |none=>rw[O] at h;simp at h
       |some c=>
        rw[O] at h;simp only at h;refine⟨a,b,c,rfl,?_,?_,?_⟩
        ·unfold Nx;rw[Zu ⟨z,G⟩];exact I
        ·unfold Nx;rw[Zu ⟨D,J⟩];exact O
        ·by_cases E:c.ok=true
         ·rw[Zu E] at h;simp at h;subst h
          exact⟨by simp[put,E],rfl,fun _=>⟨z,D,rfl⟩⟩
         ·rw[Zt E] at h;simp at h;subst h
          exact⟨rfl,rfl,fun e=>absurd e E⟩
      ·rw[Zt J] at h
       simp[pM] at h;subst h
       refine⟨a,b,⟨false,b.i,[],0⟩,rfl,?_,?_,rfl,rfl,fun e=>by simp at e⟩
       ·unfold Nx;rw[Zu ⟨z,G⟩];exact I
       ·unfold Nx;rw[Zt (fun e=>J e.2)];exact⟨rfl,rfl⟩
     ·rw[Zt D] at h;simp at h;subst h
      refine⟨a,b,⟨false,b.i,[],0⟩,rfl,?_,?_,by simpa using D,rfl,fun e=>by simp at e⟩
      ·unfold Nx;rw[Zu ⟨z,G⟩];exact I
      ·unfold Nx;rw[Zt (fun e=>D e.1)];exact⟨rfl,rfl⟩
   ·rw[Zt G] at h
    simp[pM] at h;subst h
    refine⟨a,⟨false,a.i,[],0⟩,⟨false,a.i,[],0⟩,rfl,?_,?_,rfl,rfl,fun e=>by simp at e⟩
    ·unfold Nx;rw[Zt (fun e=>G e.2)];exact⟨rfl,rfl⟩
    ·unfold Nx;rw[Zt (fun e=>by simp at e)];exact⟨rfl,rfl⟩
  ·rw[Zt z] at h;simp at h;subst h
   refine⟨a,⟨false,a.i,[],0⟩,⟨false,a.i,[],0⟩,rfl,?_,?_,by simpa using z,rfl,fun e=>by simp at e⟩
   ·unfold Nx;rw[Zt (fun e=>z e.1)];exact⟨rfl,rfl⟩
   ·unfold Nx;rw[Zt (fun e=>by simp at e)];exact⟨rfl,rfl⟩
theorem nW {x:Nat} (h:P (f+1) 5 ts i L x=some r) (G:fX (dc ts i) [40]=true):
 ∃a:Rd,P f 6 ts (i+1) L 0=some a∧((a.ok=true∧fX (dc ts a.i) [41]=true∧r={a with i:=a.i+1})∨(¬(a.ok=true∧fX (dc ts a.i) [41]=true)∧r.ok=false∧r.i=a.i)):=by
 rw[P,Zt (by decide),Zu rfl,Zu G] at h
 cases E:P f 6 ts (i+1) L 0 with
 |none=>rw[E] at h;simp[eH] at h
 |some a=>
  rw[E] at h;simp only[eH] at h;refine⟨a,rfl,?_⟩
  by_cases z:a.ok=true
  ·rw[Zu z] at h
   by_cases D:fX (dc ts a.i) [41]=true
   ·rw[Zu D] at h;simp at h;exact .inl ⟨z,D,h.symm⟩
   ·rw[Zt D] at h;simp[pM] at h;subst h;exact .inr ⟨fun e=>D e.2,rfl,rfl⟩
  ·rw[Zt z] at h;simp at h;subst h;exact .inr ⟨fun e=>z e.1,by simpa using z,rfl⟩
theorem mD {x:Nat} (h:P (f+1) 5 ts i L x=some r) (D: ¬fX (dc ts i) [40]=true):
 (gR (dc ts i)=true∧r=⟨true,i+1,L++[⟨dc ts i,[]⟩],L.length⟩)∨(gR (dc ts i)=false∧r=⟨false,i,[],0⟩):=by
 rw[P,Zt (by decide),Zu rfl,Zt D] at h
 by_cases z:gR (dc ts i)=true
 ·rw[Zu z] at h;simp at h;exact .inl ⟨z,h.symm⟩
 ·rw[Zt z] at h;simp[pM] at h;exact .inr ⟨by simpa using z,h.symm⟩
theorem qt {x:Nat} (h:P (f+1) 2 ts i L x=some r) (E:fX (dc ts i) iq=true):
 ∃a:Rd,P f 2 ts (i+1) L 0=some a∧r.ok=a.ok∧r.i=a.i∧(a.ok=true→r=put a (dc ts i) [a.top]):=by
 rw[P,Zt (by decide),Zt (by decide),Zu rfl,Zu E] at h
 cases D:P f 2 ts (i+1) L 0 with
 |none=>rw[D] at h;simp[eH] at h
 |some a=>
  rw[D] at h;simp only[eH] at h;refine⟨a,rfl,?_⟩
  by_cases z:a.ok=true
  ·rw[Zu z] at h;simp at h;subst h;exact⟨by simp[put,z],rfl,fun _=>rfl⟩
  ·rw[Zt z] at h;simp at h;subst h;exact⟨rfl,rfl,fun e=>absurd e z⟩
theorem tX {x:Nat} (h:P (f+1) 2 ts i L x=some r) (z: ¬fX (dc ts i) iq=true):P f 3 ts i L 0=some r:=by
 rw[P,Zt (by decide),Zt (by decide),Zu rfl,Zt z] at h;exact h
def dO (n:Nat):Prop:=n=0∨n=1∨n=3∨n=4
theorem ke {x:Nat} (E:dO n) (h:P (f+1) n ts i L x=some r):
 ∃a:Rd,P f (n+1) ts i L 0=some a∧((a.ok=true∧P f (10+n) ts a.i a.L a.top=some r)∨(a.ok=false∧r=a)):=by
 unfold dO at E;rw[P,Zt (by omega),Zt (by omega),Zt (by omega),Zu (by omega)] at h
 cases D:P f (n+1) ts i L 0 with
 |none=>rw[D] at h;simp[eH] at h
 |some a=>
  rw[D] at h;simp only[eH] at h;refine⟨a,rfl,?_⟩
  by_cases z:a.ok=true
  ·rw[Zu z] at h;exact .inl ⟨z,h⟩
  ·rw[Zt z] at h;simp at h;exact .inr ⟨by simpa using z,h.symm⟩
theorem qu {x:Nat} (z:dO n) (h:P (g+1) (10+n) ts i L x=some r) (D:gD n (dc ts i)=false):r=⟨true,i,L,x⟩:=by
 unfold dO at z;rw[P,Zt (by omega),Zt (by omega),Zt (by omega),Zt (by omega),show 10+n - 10=n from by omega,Zt (by simp[D])] at h
 simp at h;exact h.symm
theorem pN {x:Nat} (E:dO n) (h:P (g+1) (10+n) ts i L x=some r) (G:gD n (dc ts i)=true):
 ∃b:Rd,P g (n+1) ts (i+1) L 0=some b∧((b.ok=false∧r=b)∨(b.ok=true∧((n=3∧r=put b (dc ts i) [x,b.top])∨(n≠3∧P g (10+n) ts b.i (b.L++[⟨dc ts i,[x,b.top]⟩]) b.L.length=some r)))):=by
 unfold dO at E;rw[P,Zt (by omega),Zt (by omega),Zt (by omega),Zt (by omega),show 10+n - 10=n from by omega,show 10+n - 9=n+1 from by omega,Zu G] at h
 cases D:P g (n+1) ts (i+1) L 0 with
 |none=>rw[D] at h;simp[eH] at h
 |some b=>
  rw[D] at h;simp only[eH] at h;refine⟨b,rfl,?_⟩
  by_cases z:b.ok=true
  ·rw[Zu z] at h
   by_cases h3:n=3
   ·rw[Zu (by omega)] at h;simp at h;exact .inr ⟨z,.inl ⟨h3,h.symm⟩⟩
   ·rw[Zt (by omega)] at h;exact .inr ⟨z,.inr ⟨h3,h⟩⟩
  ·rw[Zt z] at h;simp at h;exact .inl ⟨by simpa using z,h.symm⟩
theorem tY {x:Nat} (h:P (f+1) 6 ts i L x=some r) (z: ¬fX (dc ts i) l9=true):P f 0 ts i L 0=some r:=by
 rw[P,Zu rfl,Zt z] at h;exact h
structure dY where
 name:List UInt8
 allow:Bool
 top:Nat
 pl:Nat
 named:Nat
 parts:Nat
structure Da where
 ok:Bool
 i:Nat
 L:List Pt
 it:dY
def eh:dY:=⟨[],false,0,0,0,0⟩
def fb (i:Nat):Option Da:=some ⟨false,i,[],eh⟩
def gS (f:Nat) (ts:List Tok) (i:Nat) (L:List Pt) (x:dY):Option Da:=match P f 6 ts i L 0 with
 |none=>none
 |some a=>if a.ok then(if fX (dc ts a.i) [59] then some ⟨true,a.i+1,a.L,{x with top:=a.top,parts:=a.L.length}⟩ else fb a.i) else fb a.i
def jB (f:Nat) (ts:List Tok) (i:Nat) (L:List Pt):Option Da:=
 if fX (dc ts i) tW then
  if(dc ts (i+1)).k=111 then
   if fX (dc ts (i+2)) [61] then gS f ts (i+3) L ⟨(dc ts (i+1)).text,false,0,(dc ts i).pl,(dc ts (i+1)).pl,0⟩ else fb (i+2)
  else fb (i+1)
 else if fX (dc ts i) jD||fX (dc ts i) nE then
  if fX (dc ts (i+1)) l9 then gS f ts (i+2) L ⟨[],(dc ts i).text==jD,0,(dc ts i).pl,0,0⟩ else fb (i+1)
 else fb i
def dh:Pt:=⟨ku,[]⟩
def jc (F:Nat→Nat) (l:List Nat):Nat:=l.foldl (fun m j=>max m (F j)) 0
theorem zw (F:Nat→Nat) (l:List Nat) (k:Nat) (z:k<l.length):jc F (l.take (k+1))=max (jc F (l.take k)) (F l[k]):=by
 unfold jc;rw[abN z,aaQ];rfl
theorem vV (F:Nat→Nat) (M:Nat) (h:∀j,F j≤M) (l:List Nat):jc F l≤M:=by
 have:∀(l:List Nat) (m:Nat),m≤M→l.foldl (fun m j=>max m (F j)) m≤M:=by
  intro l
  induction l with
  |nil=>intro m z;simpa using z
  |cons x l D=>intro m z;rw[aaz];exact D _ (by have:=h x;omega)
 exact this l 0 (ZL _)
def dep:Nat→List Pt→Nat→Nat
 |0,_,_=>1
 |f+1,L,i=>jc (dep f L) (L.getD i dh).subs+1
theorem yt (f:Nat) (L:List Pt) (i:Nat):dep f L i≤f+1:=by
 induction f generalizing i with
 |zero=>simp[dep]
 |succ f ih=>
  rw[dep];have:=vV (dep f L) (f+1) ih (L.getD i dh).subs;omega
def dN:List dY→List UInt8→Nat→Int
 |[],_,_=> -1
 |_::_,_,0=> -1
 |x::r,s,k+1=>if x.name==s then 0 else(if dN r s k<0 then -1 else dN r s k+1)
theorem AN (l:List dY) (s:List UInt8) (k:Nat):dN l s k<k∧dN l s k<l.length:=by
 induction l generalizing k with
 |nil=>simp[dN];omega
 |cons x r ih=>
  cases k with
  |zero=>simp[dN];omega
  |succ k=>unfold dN;have:=ih k;simp only[Z7];split;omega;split<;>omega
def ir (L:List Pt):List dY→Nat→Nat→Option Nat
 |[],_,_=>none
 |x::r,lets,i=>
  if 10<lets+(if x.name==[] then 0 else 1)∨20<i+1 - (lets+(if x.name==[] then 0 else 1))∨200<x.parts∨20<dep (x.top+1) L x.top then some x.pl
  else ir L r (lets+(if x.name==[] then 0 else 1)) (i+1)
def vW (pl:Nat):Option Nat→Option Nat
 |none=>some pl
 |some p=>if pl<p then some pl else some p
def mE (xs:List dY) (i:Nat) (t:Tok) (o:Option Nat):Option Nat:=
 if t.k=111∧dN xs t.text i<0 then vW t.pl o else o
def gX (xs:List dY) (L:List Pt) (i:Nat):Nat→Nat→Option Nat→Option Nat
 |0,_,o=>o
 |c+1,k,o=>gX xs L i c (k+1) (mE xs i (L.getD k dh).tok o)
def eM (xs:List dY) (L:List Pt):List dY→Nat→Nat→Option Nat
 |[],_,_=>none
 |x::r,fr,i=>if x.name≠[]∧0≤dN xs x.name i then some x.named
  else(gX xs L i (x.parts - fr) fr none).or (eM xs L r x.parts (i+1))
def IQ (x s:List UInt8):Nat:=
 if x=[43]∨x=[45] then(if s=[110,110] then 110 else 0)
 else if x=[60]∨x=[60,61] then(if s=[110,110] then 116 else 0)
 else if x=[61] then(if(s.getD 0 0).toNat=(s.getD 1 0).toNat then 116 else 0)
 else if x=[111,114]∨x=[97,110,100] then(if s=[116,116] then 116 else 0)
 else if x=[110,111,116] then(if s=[116] then 116 else 0)
 else if x=[105,102] then(if(s.getD 0 0).toNat=116∧(s.getD 1 0).toNat=(s.getD 2 0).toNat then(s.getD 1 0).toNat else 0)
 else 0
def fY (xs:List dY) (its:List UInt8) (t:Tok) (s:List UInt8):Nat:=
 if t.k=110 then 110
 else if t.k=111 then(its.getD (dN xs t.text its.length).toNat 0).toNat
 else if 0≤dP dL t.text then(([110,110,110,110,109,109,109,116,116]:List UInt8).getD (dP dL t.text).toNat 0).toNat
 else if 0≤dP dX t.text then 109
 else if t.text=jL∨t.text=ky then 116
 else IQ t.text s
def eU (xs:List dY) (its:List UInt8) (L:List Pt):Nat→Nat→UInt8
 |0,_=>0
 |f+1,k=>if((L.getD k dh).subs.map (eU xs its L f)).contains 0 then 0 else UInt8.ofNat (fY xs its (L.getD k dh).tok ((L.getD k dh).subs.map (eU xs its L f)))
def fA (xs:List dY) (L:List Pt):List dY→List UInt8→Option Nat
 |[],_=>none
 |x::r,its=>
  if(eU xs its L (x.top+1) x.top).toNat=0∨(x.name=[]∧(eU xs its L (x.top+1) x.top).toNat≠116) then some x.pl
  else fA xs L r (its++[eU xs its L (x.top+1) x.top])
structure rP where
 ok:Bool
 i:Nat
 L:List Pt
 xs:List dY
def fs (F:Nat) (ts:List Tok):Nat→Nat→List Pt→List dY→Option rP
 |0,_,_,_=>none
 |g+1,i,L,xs=>
  if(dc ts i).k=101 then some ⟨true,i,L,xs⟩
  else match jB F ts i L with
   |none=>none
   |some r=>if r.ok then fs F ts g r.i r.L (xs++[r.it]) else some ⟨false,r.i,[],[]⟩
variable {xs ys zs:List dY} {R:rP}
theorem qv {F:Nat} (h:fs F ts g i L xs=some R) (z:(dc ts i).k=101):R=⟨true,i,L,xs⟩:=by
 cases g with
 |zero=>rw[fs] at h;simp at h
 |succ g=>rw[fs,Zu z] at h;simp at h;exact h.symm
theorem vX {F:Nat} (h:fs F ts g i L xs=some R) (E: ¬(dc ts i).k=101):
 ∃r G,jB F ts i L=some r∧((r.ok=true∧fs F ts G r.i r.L (xs++[r.it])=some R)∨(r.ok=false∧R=⟨false,r.i,[],[]⟩)):=by
 cases g with
 |zero=>rw[fs] at h;simp at h
 |succ g=>
  rw[fs,Zt E] at h
  cases D:jB F ts i L with
  |none=>rw[D] at h;simp at h
  |some r=>
   rw[D] at h;simp only at h;refine⟨r,g,rfl,?_⟩
   by_cases z:r.ok=true
   ·rw[Zu z] at h;exact .inl ⟨z,h⟩
   ·rw[Zt z] at h;simp at h;exact .inr ⟨by simpa using z,h.symm⟩
def eC (ts:List Tok) (R:rP):Nat×Nat:=
 if R.ok=false then(3,(dc ts R.i).pl)
 else match ir R.L R.xs 0 0 with
  |some p=>(4,p)
  |none=>match eM R.xs R.L R.xs 0 0 with
   |some p=>(5,p)
   |none=>match fA R.xs R.L R.xs [] with
    |some p=>(6,p)
    |none=>(0,0)
def yu (t:Tok) (n:Nat):Prop:=(t.k≠110→t.k≠111→t.text=[61]→2≤n)∧(t.k≠110→t.k≠111→t.text=[105,102]→3≤n)
def Inv (b:Nat) (L:List Pt):Prop:= ∀k,b≤k→k<L.length→(L.getD k dh).subs.length≤3∧(∀j∈(L.getD k dh).subs,b≤j∧j<k)∧yu (L.getD k dh).tok (L.getD k dh).subs.length
theorem hY (h:k<L.length):(L++M).getD k dh=L.getD k dh:=by
 simp[Zs,aah h]
theorem fk (L:List Pt) (p:Pt):(L++[p]).getD L.length dh=p:=by simp[Zs]
theorem Inv.snoc (h:Inv b L) (p:Pt) (h3:p.subs.length≤3) (z:∀j∈p.subs,b≤j∧j<L.length) (D:yu p.tok p.subs.length):Inv b (L++[p]):=by
 intro k E G
 by_cases e:k<L.length
 ·rw[hY e];exact h k E e
 ·have:k=L.length:=by simp at G;omega
  subst this;rw[fk];exact⟨h3,z,D⟩
theorem Inv.mono {b z:Nat} {L:List Pt} (h:Inv b L) (D:b≤z) (E:L.length≤z):Inv z L:=by
 intro k G I;omega
variable {t:Tok}
theorem Fa (h:fX t x=true) (n:Nat) (z:x=[61]→2≤n) (h3:x=[105,102]→3≤n):yu t n:=by
 unfold fX at h;simp at h
 exact⟨fun _ _ e=>z (by rw[←h.2];exact e),fun _ _ e=>h3 (by rw[←h.2];exact e)⟩
theorem Db (h:gD n t=true):yu t 2:=by
 refine⟨fun _ _ _=>Zw _,fun _ _ e=>?_⟩
 unfold gD at h;rw[e] at h
 unfold kz at h;exfalso
 revert h
 by_cases z:n=0
 ·rw[Zu z];simp[dP]
 ·rw[Zt z]
  by_cases D:n=1
  ·rw[Zu D];simp[dP]
  ·rw[Zt D]
   by_cases h3:n=3
   ·rw[Zu h3];simp[dP]
   ·rw[Zt h3];simp[dP]
theorem AO (h:gR t=true):yu t 0:=by
 unfold gR at h;refine⟨fun z D e=>?_,fun z D e=>?_⟩
 ·rw[e] at h
  have E:dP dX [61]= -1:=by decide
  have G:dP dL [61]= -1:=by decide
  rw[E,G] at h;simp[z,D,jL,ky] at h
 ·rw[e] at h
  have E:dP dX [105,102]= -1:=by decide
  have G:dP dL [105,102]= -1:=by decide
  rw[E,G] at h;simp[z,D,jL,ky] at h
structure ON (b:Nat) (tag i:Nat) (L:List Pt) (r:Rd):Prop where
 fwd:i≤r.i
 fwd1:tag<10→i<r.i
 more:∃new,r.L=L++new
 inv:Inv b r.L
 top:b≤r.top∧r.top<r.L.length
theorem zx (f:Nat):∀(z:Nat) (ts:List Tok) (i:Nat) (L:List Pt) (x b:Nat) (r:Rd),P f z ts i L x=some r→r.ok=true→b≤L.length→Inv b L→(10≤z→b≤x∧x<L.length)→(z≤6∨z=10∨z=11∨z=13∨z=14)→ON b z i L r:=by
 induction f with
 |zero=>intro z ts i L x b r h;rw[P] at h;simp at h
 |succ f ih=>
  intro z ts i L x b r h E hb O hx ht
  by_cases h6:z=6
  ·subst h6
   by_cases J:fX (dc ts i) l9=true
   ·obtain⟨I,rb,rc,U,V,Y,ah,ai,Z⟩:=nV h J
    rw[ah] at E;obtain⟨G,aa,rfl⟩:=Z E;have D:=ih 6 ts (i+1) L 0 b I U G hb O (by omega) (by omega)
    unfold Nx at V Y;have aj:fX (dc ts I.i) iQ=true:=by
     cases e:fX (dc ts I.i) iQ with
     |true=>rfl
     |false=>rw[Zt (by simp[e])] at V;rw[V.1] at aa;simp at aa
    have ak:fX (dc ts rb.i) iR=true:=by
     cases e:fX (dc ts rb.i) iR with
     |true=>rfl
     |false=>rw[Zt (by simp[e])] at Y;rw[Y.1] at E;simp at E
    rw[Zu ⟨G,aj⟩] at V;rw[Zu ⟨aa,ak⟩] at Y;obtain⟨na,ea⟩:=D.more;have kb:=ih 6 ts (I.i+1) I.L 0 b rb V aa (by rw[ea];simp;omega) D.inv (by omega) (by omega)
    obtain⟨nb,eb⟩:=kb.more;have R:=ih 6 ts (rb.i+1) rb.L 0 b rc Y E (by rw[eb,ea];simp;omega) kb.inv (by omega) (by omega)
    obtain⟨nc,ec⟩:=R.more;have la:I.L.length≤rb.L.length:=by rw[eb];simp
    have lb:rb.L.length≤rc.L.length:=by rw[ec];simp
    have t1:=D.top;have t2:=kb.top;have t3:=R.top
    have f1:=D.fwd;have f2:=kb.fwd;have f3:=R.fwd
    refine⟨by simp[put];omega,fun _=>by simp[put];omega,⟨na++(nb++(nc++[⟨dc ts i,[I.top,rb.top,rc.top]⟩])),by simp[put,ec,eb,ea]⟩,?_,by simp[put];omega⟩
    exact R.inv.snoc _ (by simp) (by intro j hj;simp at hj;rcases hj with rfl|rfl|rfl<;>omega) (Fa J 3 (by simp[l9]) (by simp))
   ·have k:=ih 0 ts i L 0 b r (tY h J) E hb O (by omega) (by omega)
    exact⟨k.fwd,fun _=>k.fwd1 (by omega),k.more,k.inv,k.top⟩
  ·by_cases h5:z=5
   ·subst h5
    by_cases J:fX (dc ts i) [40]=true
    ·obtain⟨I,U,hr⟩:=nW h J
     rcases hr with⟨G,ao,rfl⟩|⟨_,hr,_⟩
     ·have D:=ih 6 ts (i+1) L 0 b I U G hb O (by omega) (by omega)
      have f1:=D.fwd;exact⟨by simp;omega,fun _=>by simp;omega,D.more,D.inv,D.top⟩
     ·rw[hr] at E;simp at E
    ·rcases mD h J with⟨ha,rfl⟩|⟨_,rfl⟩
     ·exact⟨by simp,fun _=>by simp,⟨_,rfl⟩,O.snoc _ (by simp) (by simp) (by simpa using AO ha),by simp;omega⟩
     ·simp at E
   ·by_cases h2:z=2
    ·subst h2
     by_cases J:fX (dc ts i) iq=true
     ·obtain⟨I,U,am,ai,Z⟩:=qt h J
      rw[am] at E;have Z:=Z E;subst Z;have D:=ih 2 ts (i+1) L 0 b I U E hb O (by omega) (by omega)
      obtain⟨na,ea⟩:=D.more;have t1:=D.top;have f1:=D.fwd
      refine⟨by simp[put];omega,fun _=>by simp[put];omega,⟨na++[⟨dc ts i,[I.top]⟩],by simp[put,ea]⟩,?_,by simp[put];omega⟩
      exact D.inv.snoc _ (by simp) (by intro j hj;simp at hj;omega) (Fa J 1 (by simp[iq]) (by simp[iq]))
     ·have k:=ih 3 ts i L 0 b r (tX h J) E hb O (by omega) (by omega)
      exact⟨k.fwd,fun _=>k.fwd1 (by omega),k.more,k.inv,k.top⟩
    ·by_cases ad:z<10
     ·rw[P,Zt h6,Zt h5,Zt h2,Zu ad] at h
      cases ha:P f (z+1) ts i L 0 with
      |none=>rw[ha] at h;simp[eH] at h
      |some a=>
       rw[ha] at h;simp only[eH] at h
       by_cases G:a.ok=true
       ·rw[Zu G] at h
        ·have D:=ih (z+1) ts i L 0 b a ha G hb O (by omega) (by omega)
         obtain⟨na,ea⟩:=D.more;have kb:=ih (10+z) ts a.i a.L a.top b r h E (by rw[ea];simp;omega) D.inv (fun _=>D.top) (by omega)
         obtain⟨nb,eb⟩:=kb.more;have f1:=D.fwd1 (by omega);have f2:=kb.fwd
         exact⟨by omega,fun _=>by omega,⟨na++nb,by rw[eb,ea,ZZ]⟩,kb.inv,kb.top⟩
       ·rw[Zt G] at h;simp at h;subst h;exact absurd E G
     ·rw[P,Zt h6,Zt h5,Zt h2,Zt ad] at h
      have an:=hx (by omega)
      by_cases hj:gD (z - 10) (dc ts i)=true
      ·rw[Zu hj] at h
       cases ac:P f (z - 9) ts (i+1) L 0 with
       |none=>rw[ac] at h;simp[eH] at h
       |some c=>
        rw[ac] at h;simp only[eH] at h
        by_cases ab:c.ok=true
        ·rw[Zu ab] at h
         have R:=ih (z - 9) ts (i+1) L 0 b c ac ab hb O (by omega) (by omega)
         obtain⟨nc,ec⟩:=R.more;have lc:L.length≤c.L.length:=by rw[ec];simp
         have t1:=R.top;have f1:=R.fwd
         have ae:Inv b (c.L++[⟨dc ts i,[x,c.top]⟩]):=R.inv.snoc _ (by simp) (by intro j af;simp at af;rcases af with rfl|rfl<;>omega) (by simpa using Db hj)
         by_cases ag:z=13
         ·rw[Zu ag] at h;simp at h;subst h
          exact⟨by simp[put];omega,fun e=>by omega,⟨nc++[⟨dc ts i,[x,c.top]⟩],by simp[put,ec]⟩,ae,by simp[put];omega⟩
         ·rw[Zt ag] at h
          have kd:=ih z ts c.i (c.L++[⟨dc ts i,[x,c.top]⟩]) c.L.length b r h E (by simp;omega) ae (fun _=>by simp;omega) ht
          obtain⟨nd,ed⟩:=kd.more;have f2:=kd.fwd;exact⟨by omega,fun e=>by omega,⟨nc++(⟨dc ts i,[x,c.top]⟩::nd),by rw[ed,ec];simp⟩,kd.inv,kd.top⟩
        ·rw[Zt ab] at h;simp at h;subst h;exact absurd E ab
      ·rw[Zt hj] at h
       simp at h;subst h
       exact⟨Zw _,fun e=>by omega,⟨[],by simp⟩,O,an⟩
theorem vY (f:Nat):∀(z:Nat) (ts:List Tok) (i:Nat) (L:List Pt) (x:Nat) (r:Rd),P f z ts i L x=some r→r.ok=true→(z≤6∨z=10∨z=11∨z=13∨z=14)→i≤r.i∧(z<10→i<r.i):=by
 induction f with
 |zero=>intro z ts i L x r h;rw[P] at h;simp at h
 |succ f ih=>
  intro z ts i L x r h D ht
  by_cases h6:z=6
  ·subst h6
   by_cases I:fX (dc ts i) l9=true
   ·obtain⟨G,rb,rc,J,O,R,ad,Y,aa⟩:=nV h I
    rw[ad] at D;obtain⟨E,U,_⟩:=aa D;have ka:=ih 6 ts (i+1) L 0 G J E (by omega)
    unfold Nx at O R;have ae:fX (dc ts G.i) iQ=true:=by
     cases e:fX (dc ts G.i) iQ with
     |true=>rfl
     |false=>rw[Zt (by simp[e])] at O;rw[O.1] at U;simp at U
    have af:fX (dc ts rb.i) iR=true:=by
     cases e:fX (dc ts rb.i) iR with
     |true=>rfl
     |false=>rw[Zt (by simp[e])] at R;rw[R.1] at D;simp at D
    rw[Zu ⟨E,ae⟩] at O;rw[Zu ⟨U,af⟩] at R;have kb:=ih 6 ts (G.i+1) G.L 0 rb O U (by omega)
    have kc:=ih 6 ts (rb.i+1) rb.L 0 rc R D (by omega)
    rw[Y];omega
   ·have k:=ih 0 ts i L 0 r (tY h I) D (by omega)
    exact⟨k.1,fun _=>k.2 (by omega)⟩
  ·by_cases h5:z=5
   ·subst h5
    by_cases I:fX (dc ts i) [40]=true
    ·obtain⟨G,J,hr⟩:=nW h I
     rcases hr with⟨E,ah,rfl⟩|⟨_,hr,_⟩
     ·have ka:=ih 6 ts (i+1) L 0 G J E (by omega)
      simp;omega
     ·rw[hr] at D;simp at D
    ·rcases mD h I with⟨ha,rfl⟩|⟨_,rfl⟩
     ·simp
     ·simp at D
   ·by_cases h2:z=2
    ·subst h2
     by_cases I:fX (dc ts i) iq=true
     ·obtain⟨G,J,ag,Y,aa⟩:=qt h I
      rw[ag] at D;have ka:=ih 2 ts (i+1) L 0 G J D (by omega)
      rw[Y];omega
     ·have k:=ih 3 ts i L 0 r (tX h I) D (by omega)
      exact⟨k.1,fun _=>k.2 (by omega)⟩
    ·by_cases ab:z<10
     ·rw[P,Zt h6,Zt h5,Zt h2,Zu ab] at h
      cases ha:P f (z+1) ts i L 0 with
      |none=>rw[ha] at h;simp[eH] at h
      |some a=>
       rw[ha] at h;simp only[eH] at h
       by_cases E:a.ok=true
       ·rw[Zu E] at h
        have ka:=ih (z+1) ts i L 0 a ha E (by omega)
        have kb:=ih (10+z) ts a.i a.L a.top r h D (by omega)
        have:=ka.2 (by omega)
        omega
       ·rw[Zt E] at h;simp at h;subst h;exact absurd D E
     ·rw[P,Zt h6,Zt h5,Zt h2,Zt ab] at h
      by_cases hj:gD (z - 10) (dc ts i)=true
      ·rw[Zu hj] at h
       cases Z:P f (z - 9) ts (i+1) L 0 with
       |none=>rw[Z] at h;simp[eH] at h
       |some c=>
        rw[Z] at h;simp only[eH] at h
        by_cases V:c.ok=true
        ·rw[Zu V] at h
         have kc:=ih (z - 9) ts (i+1) L 0 c Z V (by omega)
         by_cases ac:z=13
         ·rw[Zu ac] at h;simp at h;subst h
          simp[put];omega
         ·rw[Zt ac] at h
          have kd:=ih z ts c.i (c.L++[⟨dc ts i,[x,c.top]⟩]) c.L.length r h D ht;omega
        ·rw[Zt V] at h;simp at h;subst h;exact absurd D V
      ·rw[Zt hj] at h
       simp at h;subst h
       simp;omega
theorem AQ (h:(dc ts i).k≠0):i<ts.length:=by
 rcases aaL i ts.length with z|z
 ·exact z
 ·exact absurd (by unfold dc;rw[Zs,ZQ z];rfl) h
theorem nX (h:fX (dc ts i) x=true):i<ts.length:=AQ (by unfold fX at h;simp at h;omega)
theorem AR (h:gD n (dc ts i)=true):i<ts.length:=AQ (by unfold gD at h;simp at h;omega)
def wt (z:Nat):Nat:=if z=6 then 8 else if z<6 then 7 - z else 1
theorem Lf (f:Nat):∀(z:Nat) (ts:List Tok) (i:Nat) (L:List Pt) (x:Nat),16*(ts.length - i)+wt z≤f→(z≤6∨z=10∨z=11∨z=13∨z=14)→ ∃r,P f z ts i L x=some r:=by
 induction f with
 |zero=>intro z ts i L x h ht;exfalso;unfold wt at h;split at h;omega;split at h<;>omega
 |succ f ih=>
  intro z ts i L x h ht
  by_cases O:z=6
  ·subst O
   have ab:wt 6=8:=rfl;rw[P,Zu rfl]
   by_cases G:fX (dc ts i) l9=true
   ·rw[Zu G]
    have hr:=nX G;obtain⟨a,E⟩:=ih 6 ts (i+1) L 0 (by omega) (by omega)
    rw[E];simp only[eH]
    by_cases D:a.ok=true
    ·rw[Zu D]
     have fa:=(vY f 6 ts (i+1) L 0 a E D (by omega)).1
     by_cases R:fX (dc ts a.i) iQ=true
     ·rw[Zu R]
      have ac:=nX R;obtain⟨c,J⟩:=ih 6 ts (a.i+1) a.L 0 (by omega) (by omega)
      rw[J];simp only
      by_cases I:c.ok=true
      ·rw[Zu I]
       have fc:=(vY f 6 ts (a.i+1) a.L 0 c J I (by omega)).1
       by_cases he:fX (dc ts c.i) iR=true
       ·rw[Zu he]
        have ad:=nX he;obtain⟨d,hd⟩:=ih 6 ts (c.i+1) c.L 0 (by omega) (by omega)
        rw[hd];simp only
        by_cases V:d.ok=true
        ·rw[Zu V];exact⟨_,rfl⟩
        ·rw[Zt V];exact⟨_,rfl⟩
       ·rw[Zt he];exact⟨_,rfl⟩
      ·rw[Zt I];exact⟨_,rfl⟩
     ·rw[Zt R];exact⟨_,rfl⟩
    ·rw[Zt D];exact⟨_,rfl⟩
   ·rw[Zt G]
    exact ih 0 ts i L 0 (by have:wt 0=7:=rfl;omega) (by omega)
  ·by_cases U:z=5
   ·subst U
    have ae:wt 5=2:=rfl;rw[P,Zt O,Zu rfl]
    by_cases G:fX (dc ts i) [40]=true
    ·rw[Zu G]
     have hr:=nX G;obtain⟨a,E⟩:=ih 6 ts (i+1) L 0 (by have:wt 6=8:=rfl;omega) (by omega)
     rw[E];simp only[eH]
     by_cases D:a.ok=true
     ·rw[Zu D]
      by_cases J:fX (dc ts a.i) [41]=true
      ·rw[Zu J];exact⟨_,rfl⟩
      ·rw[Zt J];exact⟨_,rfl⟩
     ·rw[Zt D];exact⟨_,rfl⟩
    ·rw[Zt G]
     by_cases E:gR (dc ts i)=true
     ·rw[Zu E];exact⟨_,rfl⟩
     ·rw[Zt E];exact⟨_,rfl⟩
   ·by_cases h2:z=2
    ·subst h2
     have af:wt 2=5:=rfl;rw[P,Zt O,Zt U,Zu rfl]
     by_cases G:fX (dc ts i) iq=true
     ·rw[Zu G]
      have hr:=nX G;obtain⟨a,E⟩:=ih 2 ts (i+1) L 0 (by omega) (by omega)
      rw[E];simp only[eH]
      by_cases D:a.ok=true
      ·rw[Zu D];exact⟨_,rfl⟩
      ·rw[Zt D];exact⟨_,rfl⟩
     ·rw[Zt G]
      exact ih 3 ts i L 0 (by have:wt 3=4:=rfl;omega) (by omega)
    ·by_cases Y:z<10
     ·rw[P,Zt O,Zt U,Zt h2,Zu Y]
      have ag:wt (z+1)+1≤wt z∧2≤wt z:=by
       have e:z=0∨z=1∨z=3∨z=4:=by omega
       rcases e with rfl|rfl|rfl|rfl<;>decide
      obtain⟨a,E⟩:=ih (z+1) ts i L 0 (by omega) (by omega)
      rw[E];simp only[eH]
      by_cases D:a.ok=true
      ·rw[Zu D]
       have fa:=(vY f (z+1) ts i L 0 a E D (by omega)).2 (by omega)
       have Z:wt (10+z)=1:=by unfold wt;rw[Zt (by omega),Zt (by omega)]
       exact ih (10+z) ts a.i a.L a.top (by rw[Z];omega) (by omega)
      ·rw[Zt D];exact⟨_,rfl⟩
     ·rw[P,Zt O,Zt U,Zt h2,Zt Y]
      have Z:wt z=1:=by unfold wt;rw[Zt (by omega),Zt (by omega)]
      by_cases hj:gD (z - 10) (dc ts i)=true
      ·rw[Zu hj]
       have hr:=AR hj;have ah:wt (z - 9)≤7:=by unfold wt;split;omega;split<;>omega
       obtain⟨c,J⟩:=ih (z - 9) ts (i+1) L 0 (by omega) (by omega)
       rw[J];simp only[eH]
       by_cases I:c.ok=true
       ·rw[Zu I]
        have fc:=(vY f (z - 9) ts (i+1) L 0 c J I (by omega)).1
        by_cases aa:z=13
        ·rw[Zu aa];exact⟨_,rfl⟩
        ·rw[Zt aa]
         exact ih z ts c.i _ _ (by omega) ht
       ·rw[Zt I];exact⟨_,rfl⟩
      ·rw[Zt hj];exact⟨_,rfl⟩
def rq (p:Pt):Prop:=(gR p.tok=true∧p.subs=[])∨(fX p.tok iq=true∧p.subs.length=1)∨(fX p.tok l9=true∧p.subs.length=3)∨(∃n,dO n∧gD n p.tok=true∧p.subs.length=2)
def kA (T:Nat→Nat→Prop):Nat→List Nat→Nat→Prop
 |z,[],D=>z=D
 |z,j::js,D=>T z j∧kA T (j+1) js D
def eK:Nat→List Pt→Nat→Nat→Prop
 |0,_,_,_=>False
 |f+1,L,E,i=>i<L.length∧rq (L.getD i dh)∧kA (eK f L) E (L.getD i dh).subs i
theorem kA.mono {T E:Nat→Nat→Prop} {js:List Nat} (G:∀z j,T z j→E z j):∀{z D},kA T z js D→kA E z js D:=by
 induction js with
 |nil=>intro z D h;exact h
 |cons j js ih=>intro z D h;exact⟨G _ _ h.1,ih h.2⟩
theorem eK.up:∀{L:List Pt} {z i:Nat},eK f L z i→eK (f+1) L z i:=by
 induction f with
 |zero=>intro L z i h;exact h.elim
 |succ f ih=>intro L z i h;exact⟨h.1,h.2.1,h.2.2.mono fun z j D=>ih D⟩
theorem eK.upto (D:f≤g) {z:Nat} (h:eK f L z i):eK g L z i:=by
 induction D with
 |refl=>exact h
 |step _ ih=>exact ih.up
theorem eK.lt {z:Nat} (h:eK f L z i):i<L.length:=by
 cases f with
 |zero=>exact h.elim
 |succ f=>exact h.1
theorem eK.more:∀{L:List Pt} {z i:Nat},eK f L z i→ ∀new,eK f (L++new) z i:=by
 induction f with
 |zero=>intro L z i h;exact h.elim
 |succ f ih=>
  intro L z i h new;have e:=hY (M:=new) h.1;refine⟨by have:=h.1;simp;omega,by rw[e];exact h.2.1,by rw[e];exact h.2.2.mono fun z j D=>ih D new⟩
def jk (L:List Pt) (z i:Nat):Prop:= ∃f,eK f L z i
theorem jk.more {L:List Pt} {z i:Nat} (h:jk L z i) {D:List Pt} (E:∃new,D=L++new):jk D z i:=by
 obtain⟨f,h⟩:=h;obtain⟨new,rfl⟩:=E;exact⟨f,h.more new⟩
variable {p:Pt}
theorem jk.put {z:Nat} (D:rq p) (E:kA (eK f L) z p.subs L.length):jk (L++[p]) z L.length:=
 ⟨f+1,by simp,by rw[fk];exact D,by rw[fk];exact E.mono fun z j G=>G.more _⟩
theorem jk.put1 {D a:Nat} (E:rq p) (G:p.subs=[a]) (z:jk L D a) (e:a+1=L.length):jk (L++[p]) D L.length:=by
 obtain⟨f,z⟩:=z;exact jk.put (f:=f) E (by rw[G];exact⟨z,e⟩)
theorem jk.put2 {E a:Nat} (G:rq p) (I:p.subs=[a,b]) (z:jk L E a) (D:jk L (a+1) b) (e:b+1=L.length):jk (L++[p]) E L.length:=by
 obtain⟨f,z⟩:=z;obtain⟨g,D⟩:=D;exact jk.put (f:=max f g) G (by rw[I];exact⟨z.upto (by omega),D.upto (by omega),e⟩)
theorem jk.put3 {G a c:Nat} (I:rq p) (J:p.subs=[a,b,c]) (z:jk L G a) (D:jk L (a+1) b) (E:jk L (b+1) c) (e:c+1=L.length):jk (L++[p]) G L.length:=by
 obtain⟨f,z⟩:=z;obtain⟨g,D⟩:=D;obtain⟨k,E⟩:=E;exact jk.put (f:=max f (max g k)) I (by rw[J];exact⟨z.upto (by omega),D.upto (by omega),E.upto (by omega),e⟩)
def vZ (ts:List Tok):Prop:= ∀m n,m<n→n<ts.length→(dc ts m).pl<(dc ts n).pl
def lP (ts:List Tok) (L:List Pt) (i:Nat):Prop:=
 (∀k,k<L.length→(L.getD k dh).tok.k=111→ ∃m,m<i∧m<ts.length∧(L.getD k dh).tok=dc ts m)∧
 (∀k q,k<q→q<L.length→(L.getD k dh).tok.k=111→(L.getD q dh).tok.k=111→(L.getD k dh).tok.pl<(L.getD q dh).tok.pl)∧
 (∀k,k<L.length→(L.getD k dh).tok∈ts)
theorem rQ (h:dc ts i≠ku):i<ts.length∧dc ts i∈ts:=by
 have z:i<ts.length:=by
  rcases aaL i ts.length with D|D
  ·exact D
  ·exact absurd (by unfold dc;rw[Zs,ZQ (by omega)];rfl) h
 exact⟨z,by unfold dc;rw[Zs,Zv z];exact ZV z⟩
theorem tZ (x:List UInt8):fX ku x=false:=rfl
theorem AS (n:Nat):gD n ku=false:=by unfold gD ku;simp
theorem lP.mono {ts:List Tok} {L:List Pt} {i j:Nat} (h:lP ts L i) (G:i≤j):lP ts L j:=
 ⟨fun k z D=>by obtain⟨m,I,E⟩:=h.1 k z D;exact⟨m,by omega,E⟩,h.2⟩
theorem lP.other (h:lP ts L i) (p:Pt) (U:p.tok.k≠111) (V:p.tok∈ts):lP ts (L++[p]) i:=by
 have I:∀k,k<(L++[p]).length→((L++[p]).getD k dh).tok.k=111→k<L.length:=fun k E D=>by
  rcases aaL k L.length with z|z
  ·exact z
  ·have:k=L.length:=by simp at E;omega
   subst this;rw[fk] at D;exact absurd D U
 refine⟨fun k E D=>?_,fun k q O Y J G=>?_,fun k E=>?_⟩
 ·have z:=I k E D
  rw[hY z] at D⊢;exact h.1 k z D
 ·have R:=I q Y G
  have z:k<L.length:=by omega
  rw[hY z] at J⊢;rw[hY R] at G⊢
  exact h.2.1 k q O R J G
 ·rcases aaL k L.length with z|z
  ·rw[hY z];exact h.2.2 k z
  ·have:k=L.length:=by simp at E;omega
   subst this;rw[fk];exact V
theorem lP.next (Z:vZ ts) (h:lP ts L i) (O:gR (dc ts i)=true):lP ts (L++[⟨dc ts i,[]⟩]) (i+1):=by
 obtain⟨R,G⟩:=rQ (ts:=ts) (i:=i) fun e=>by rw[e] at O;exact absurd O (by decide)
 refine⟨fun k I U=>?_,fun k q V Y D E=>?_,fun k I=>?_⟩
 ·rcases aaL k L.length with z|z
  ·rw[hY z] at U⊢
   obtain⟨m,a,b,c⟩:=h.1 k z U;exact⟨m,by omega,b,c⟩
  ·have:k=L.length:=by simp at I;omega
   subst this;rw[fk];exact⟨i,by omega,R,rfl⟩
 ·have z:k<L.length:=by simp at Y;omega
  rw[hY z] at D⊢;rcases aaL q L.length with J|J
  ·rw[hY J] at E⊢;exact h.2.1 k q V J D E
  ·have:q=L.length:=by simp at Y;omega
   subst this;rw[fk] at E⊢
   obtain⟨m,a,b,c⟩:=h.1 k z D;rw[c];exact Z m i a R
 ·rcases aaL k L.length with z|z
  ·rw[hY z];exact h.2.2 k z
  ·have:k=L.length:=by simp at I;omega
   subst this;rw[fk];exact G
theorem oF (h:fX t x=true):t.k≠111:=by
 unfold fX at h;simp at h;omega
theorem IS (h:fX (dc ts i) x=true):dc ts i∈ts:=(rQ fun e=>by rw[e] at h;exact absurd h (by rw[tZ];simp)).2
theorem IT (h:gD n (dc ts i)=true):dc ts i∈ts:=(rQ fun e=>by rw[e] at h;exact absurd h (by rw[AS];simp)).2
theorem sG (h:gD n t=true):t.k≠111:=by
 unfold gD at h;simp at h;omega
theorem AT {z:Nat} {x:Nat} (h:P g z ts i L x=some r) (D:r.ok=true) (E:z≤6):∃new,r.L=L++new:=
 (zx g z ts i L x L.length r h D (Zw _) (fun k G I=>by omega) (by omega) (.inl E)).more
theorem MT (hS:vZ ts) (f:Nat):∀(z i:Nat) (L:List Pt) (x I:Nat) (r:Rd),P f z ts i L x=some r→r.ok=true→(z≤6∨z=10∨z=11∨z=13∨z=14)→lP ts L i→(z<10→I=L.length)→(10≤z→x+1=L.length∧jk L I x)→
 r.top+1=r.L.length∧jk r.L I r.top∧lP ts r.L r.i:=by
 induction f with
 |zero=>intro z i L x I r h;rw[P] at h;simp at h
 |succ f ih=>
  intro z i L x I r h E ht hO D hx
  by_cases h6:z=6
  ·subst h6
   have D:=D (by omega)
   by_cases J:fX (dc ts i) l9=true
   ·obtain⟨G,rb,rc,R,Y,Z,af,ag,aa⟩:=nV h J
    rw[af] at E;obtain⟨V,U,rfl⟩:=aa E;have fa:=(vY f 6 ts (i+1) L 0 G R V (by omega)).1
    obtain⟨a1,a2,a3⟩:=ih 6 (i+1) L 0 I G R V (by omega) (hO.mono (by omega)) (fun _=>D) (by omega)
    unfold Nx at Y Z;have ah:fX (dc ts G.i) iQ=true:=by
     cases e:fX (dc ts G.i) iQ with
     |true=>rfl
     |false=>rw[Zt (by simp[e])] at Y;rw[Y.1] at U;simp at U
    have ai:fX (dc ts rb.i) iR=true:=by
     cases e:fX (dc ts rb.i) iR with
     |true=>rfl
     |false=>rw[Zt (by simp[e])] at Z;rw[Z.1] at E;simp at E
    rw[Zu ⟨V,ah⟩] at Y;rw[Zu ⟨U,ai⟩] at Z;have ab:=AT Y U (by omega)
    have ac:=AT Z E (by omega)
    obtain⟨b1,b2,b3⟩:=ih 6 (G.i+1) G.L 0 G.L.length rb Y U (by omega) (a3.mono (by omega)) (fun _=>rfl) (by omega)
    obtain⟨c1,c2,c3⟩:=ih 6 (rb.i+1) rb.L 0 rb.L.length rc Z E (by omega) (b3.mono (by omega)) (fun _=>rfl) (by omega)
    refine⟨by simp[put],?_,?_⟩
    ·rw[←a1] at b2;rw[←b1] at c2
     exact jk.put3 (.inr (.inr (.inl ⟨J,rfl⟩))) rfl ((a2.more ab).more ac) (b2.more ac) c2 c1
    ·exact c3.other _ (oF J) (IS J)
   ·exact ih 0 i L 0 I r (tY h J) E (by omega) hO (fun _=>D) (by omega)
  ·by_cases h5:z=5
   ·subst h5
    have D:=D (by omega)
    by_cases J:fX (dc ts i) [40]=true
    ·obtain⟨G,R,O⟩:=nW h J
     rcases O with⟨V,an,rfl⟩|⟨_,O,_⟩
     ·obtain⟨a1,a2,a3⟩:=ih 6 (i+1) L 0 I G R V (by omega) (hO.mono (by omega)) (fun _=>D) (by omega)
      exact⟨a1,a2,a3.mono (by simp)⟩
     ·rw[O] at E;simp at E
    ·rcases mD h J with⟨ha,rfl⟩|⟨_,rfl⟩
     ·exact⟨by simp,by rw[D];exact jk.put (f:=0) (.inl ⟨ha,rfl⟩) rfl,hO.next hS ha⟩
     ·simp at E
   ·by_cases h2:z=2
    ·subst h2
     have D:=D (by omega)
     by_cases J:fX (dc ts i) iq=true
     ·obtain⟨G,R,aj,ag,aa⟩:=qt h J
      rw[aj] at E;have aa:=aa E;subst aa;obtain⟨a1,a2,a3⟩:=ih 2 (i+1) L 0 I G R E (by omega) (hO.mono (by omega)) (fun _=>D) (by omega)
      exact⟨by simp[put],jk.put1 (.inr (.inl ⟨J,rfl⟩)) rfl a2 a1,a3.other _ (oF J) (IS J)⟩
     ·exact ih 3 i L 0 I r (tX h J) E (by omega) hO (fun _=>D) (by omega)
    ·by_cases ak:z<10
     ·have hn:dO z:=by unfold dO;omega
      have D:=D ak;obtain⟨G,R,O⟩:=ke hn h;rcases O with⟨V,O⟩|⟨no,rfl⟩
      ·unfold dO at hn
       obtain⟨a1,a2,a3⟩:=ih (z+1) i L 0 I G R V (by omega) hO (fun _=>D) (by omega)
       exact ih (10+z) G.i G.L G.top I r O E (by omega) a3 (by omega) (fun _=>⟨a1,a2⟩)
      ·rw[no] at E;simp at E
     ·obtain⟨n,rfl⟩:∃n,z=10+n:=⟨z - 10,by omega⟩
      have hn:dO n:=by unfold dO;omega
      have am:=hn;unfold dO at am;obtain⟨x1,x2⟩:=hx (by omega)
      cases hj:gD n (dc ts i) with
      |false=>
       have:=qu hn h hj;subst this;exact⟨x1,x2,hO⟩
      |true=>
       obtain⟨rb,ad,O⟩:=pN hn h hj;rcases O with⟨no,rfl⟩|⟨U,O⟩
       ·rw[no] at E;simp at E
       ·have ab:=AT ad U (by omega)
        obtain⟨b1,b2,b3⟩:=ih (n+1) (i+1) L 0 L.length rb ad U (by omega) (hO.mono (by omega)) (fun _=>rfl) (by omega)
        rw[←x1] at b2;have hT:jk (rb.L++[⟨dc ts i,[x,rb.top]⟩]) I rb.L.length:=jk.put2 (.inr (.inr (.inr ⟨n,hn,hj,rfl⟩))) rfl (x2.more ab) b2 b1;have ae:lP ts (rb.L++[⟨dc ts i,[x,rb.top]⟩]) rb.i:=b3.other _ (sG hj) (IT hj);rcases O with⟨h3,rfl⟩|⟨h3,O⟩
        ·exact⟨by simp[put],hT,ae⟩
        ·exact ih (10+n) rb.i _ _ I r O E (by omega) ae (by omega) (fun _=>⟨by simp,hT⟩)
def mn (F:Nat→Nat):List Nat→Nat
 |[]=>0
 |j::js=>F j+mn F js
def cnt:Nat→List Pt→Nat→Nat
 |0,_,_=>1
 |f+1,L,i=>1+mn (cnt f L) (L.getD i dh).subs
theorem nY (E:∀z j,T z j→z≤j) (js:List Nat):∀{z D},kA T z js D→z≤D:=by
 induction js with
 |nil=>intro z D h;exact aa3 h
 |cons j js ih=>intro z D h;have:=E _ _ h.1;have:=ih h.2;omega
theorem eK.le:∀{L:List Pt} {z i:Nat},eK f L z i→z≤i:=by
 induction f with
 |zero=>intro L z i h;exact h.elim
 |succ f ih=>intro L z i h;exact nY (fun z j D=>ih D) _ h.2.2
theorem Dc {F:Nat→Nat} (E:∀z j,T z j→z≤j∧F j=j+1 - z) (js:List Nat):∀{z D},kA T z js D→mn F js=D - z:=by
 induction js with
 |nil=>intro z D h;have:z=D:=h;subst this;simp[mn]
 |cons j js ih=>
  intro z D h;have G:=E _ _ h.1;have I:=ih h.2;have h3:=nY (fun z j J=>(E z j J).1) js h.2
  rw[mn,I,G.2];omega
theorem eK.cnt {f:Nat}:∀{L:List Pt} {z i:Nat},eK f L z i→cnt f L i=i+1 - z:=by
 induction f with
 |zero=>intro L z i h;exact h.elim
 |succ f ih=>
  intro L z i h;have E:=eK.le h;have:=Dc (T:=eK f L) (F:=Go.Proofs.YtfkdailfcmnjlaaGreatDoor.cnt f L) (fun z j D=>⟨D.le,ih D⟩) _ h.2.2
  rw[Go.Proofs.YtfkdailfcmnjlaaGreatDoor.cnt,this];omega
theorem xW {F G:Nat→Nat} (h:∀j∈l,F j=G j):jc F l=jc G l:=by
 have:∀(l:List Nat) (m:Nat),(∀j∈l,F j=G j)→l.foldl (fun m j=>max m (F j)) m=l.foldl (fun m j=>max m (G j)) m:=by
  intro l
  induction l with
  |nil=>intro m _;rfl
  |cons x l ih=>intro m z;rw[aaz,aaz,z x (by simp)];exact ih _ fun j D=>z j (by simp[D])
 exact this l 0 h
theorem jX (js:List Nat):∀{D E},kA T D js E→ ∀j∈js,∃G,T G j:=by
 induction js with
 |nil=>intro D E _ j z;simp at z
 |cons x js ih=>
  intro D E h j z;simp at z;rcases z with rfl|z
  ·exact⟨D,h.1⟩
  ·exact ih h.2 j z
theorem eK.dep {f:Nat}:∀{g:Nat} {L:List Pt} {E i:Nat},eK f L E i→f≤g→dep g L i=dep f L i:=by
 induction f with
 |zero=>intro g L E i h;exact h.elim
 |succ f ih=>
  intro g L E i h hg;obtain⟨g,rfl⟩:∃U,g=U+1:=⟨g - 1,by omega⟩
  rw[Go.Proofs.YtfkdailfcmnjlaaGreatDoor.dep,Go.Proofs.YtfkdailfcmnjlaaGreatDoor.dep];rw[xW fun j V=>?_]
  obtain⟨aa,Y⟩:=jX _ h.2.2 j V;exact ih Y (by omega)
theorem AU {G:Nat→Nat→Prop} (js:List Nat):∀{z D},(∀z j,T z j→z≤j)→(∀z j,j<D→T z j→G z j)→kA T z js D→kA G z js D:=by
 induction js with
 |nil=>intro z D _ _ h;exact h
 |cons j js ih=>
  intro z D I J h;have:=nY I js h.2;exact⟨J _ _ (by omega) h.1,ih I J h.2⟩
theorem eK.fit:∀{L:List Pt} {z i:Nat},eK f L z i→eK (i+1) L z i:=by
 induction f with
 |zero=>intro L z i h;exact h.elim
 |succ f ih=>
  intro L z i h;exact⟨h.1,h.2.1,AU _ (fun z j D=>D.le) (fun z j D E=>(ih E).upto (by omega)) h.2.2⟩
theorem jk.fit {L:List Pt} {z i:Nat} (h:jk L z i):eK (i+1) L z i:=by
 obtain⟨f,h⟩:=h;exact h.fit
def fS (F:Nat→Option Nat):List Nat→Option Nat
 |[]=>none
 |j::js=>match F j with
  |some p=>some p
  |none=>fS F js
def kr (bad:Tok→Bool):Nat→List Pt→Nat→Option Nat
 |0,_,_=>none
 |f+1,L,i=>if(L.getD i dh).tok.k=111 then(if bad (L.getD i dh).tok then some (L.getD i dh).tok.pl else none) else fS (kr bad f L) (L.getD i dh).subs
theorem rr (xs:List dY) (L:List Pt) (n a:Nat):∀(b k:Nat) (o:Option Nat),gX xs L n (a+b) k o=gX xs L n b (k+a) (gX xs L n a k o):=by
 induction a with
 |zero=>intro b k o;simp[gX]
 |succ a ih=>
  intro b k o;rw[show a+1+b=(a+b)+1 from by omega,gX,gX,ih,show k+1+a=k+(a+1) from by omega]
theorem zy (xs:List dY) (L:List Pt) (n p c:Nat):∀(k:Nat),(∀q,k≤q→q<k+c→(L.getD q dh).tok.k=111→p≤(L.getD q dh).tok.pl)→gX xs L n c k (some p)=some p:=by
 induction c with
 |zero=>intro k _;rfl
 |succ c ih=>
  intro k h;rw[gX];have e:mE xs n (L.getD k dh).tok (some p)=some p:=by
   unfold mE
   split
   ·rename_i z
    have:=h k (Zw _) (by omega) z.1
    simp only[vW];rw[Zt (by omega)]
   ·rfl
  rw[e];exact ih (k+1) fun q D E=>h q (by omega) (by omega)
def nF (xs:List dY) (n:Nat) (t:Tok):Bool:=decide (dN xs t.text n<0)
theorem Dd
 (G:∀k q,k<q→q<L.length→(L.getD k dh).tok.k=111→(L.getD q dh).tok.k=111→(L.getD k dh).tok.pl<(L.getD q dh).tok.pl)
 (I:∀z j,T z j→z≤j∧gX xs L n (j+1 - z) z none=F j∧ ∀p,F j=some p→ ∃q,z≤q∧q≤j∧(L.getD q dh).tok.k=111∧(L.getD q dh).tok.pl=p)
 (js:List Nat):∀{z D},D≤L.length→kA T z js D→gX xs L n (D - z) z none=fS F js∧ ∀p,fS F js=some p→ ∃q,z≤q∧q<D∧(L.getD q dh).tok.k=111∧(L.getD q dh).tok.pl=p:=by
 induction js with
 |nil=>intro z D _ h;have:z=D:=h;subst this;simp[fS,gX]
 |cons j js ih=>
  intro z D J h;obtain⟨h1,O,h3⟩:=I _ _ h.1;have h4:=nY (fun z j R=>(I z j R).1) js h.2
  obtain⟨U,V⟩:=ih J h.2;rw[show D - z=(j+1 - z)+(D - (j+1)) from by omega,rr,O,show z+(j+1 - z)=j+1 from by omega,fS]
  cases Y:F j with
  |none=>
   refine⟨U,fun p E=>?_⟩
   obtain⟨q,a,b,c⟩:=V p E;exact⟨q,by omega,b,c⟩
  |some p=>
   obtain⟨q,a,b,c,d⟩:=h3 p Y;refine⟨zy xs L n p _ _ fun r aa ab Z=>?_,fun p' E=>?_⟩
   ·have:=G q r (by omega) (by omega) c Z
    omega
   ·simp at E;subst E;exact⟨q,a,by omega,c,d⟩
theorem rR (h:rq p) (z:p.tok.k=111):p.subs=[]:=by
 rcases h with⟨_,h⟩|⟨h,_⟩|⟨h,_⟩|⟨n,_,h,_⟩
 ·exact h
 ·exact absurd z (oF h)
 ·exact absurd z (oF h)
 ·exact absurd z (sG h)
theorem eK.res:∀{L:List Pt} {z i:Nat},(∀k q,k<q→q<L.length→(L.getD k dh).tok.k=111→(L.getD q dh).tok.k=111→(L.getD k dh).tok.pl<(L.getD q dh).tok.pl)→eK f L z i→
 gX xs L n (i+1 - z) z none=kr (nF xs n) f L i∧ ∀p,kr (nF xs n) f L i=some p→ ∃q,z≤q∧q≤i∧(L.getD q dh).tok.k=111∧(L.getD q dh).tok.pl=p:=by
 induction f with
 |zero=>intro L z i _ h;exact h.elim
 |succ f ih=>
  intro L z i I h;have J:=h.le;obtain⟨R,U⟩:=Dd (xs:=xs) (n:=n) I (T:=eK f L) (F:=kr (nF xs n) f L) (fun z j O=>⟨O.le,ih I O⟩) _ (by have:=h.1;omega) h.2.2
  rw[show i+1 - z=(i - z)+1 from by omega,rr,R,show z+(i - z)=i from by omega,gX,gX,kr]
  by_cases D:(L.getD i dh).tok.k=111
  ·rw[Zu D,rR h.2.1 D,fS]
   unfold mE nF
   by_cases G:dN xs (L.getD i dh).tok.text n<0
   ·rw[Zu ⟨D,G⟩,aad G,Zu rfl]
    refine⟨rfl,fun p E=>?_⟩
    simp at E;exact⟨i,J,Zw _,D,E⟩
   ·rw[Zt (fun e=>G e.2),Z4 G]
    exact⟨rfl,fun p E=>by simp at E⟩
  ·rw[Zt D]
   unfold mE;rw[Zt (fun e=>D e.1)]
   refine⟨rfl,fun p E=>?_⟩
   obtain⟨q,a,b,c⟩:=U p E;exact⟨q,a,by omega,c⟩
def gA:List dY→List (List UInt8)
 |[]=>[]
 |x::r=>if x.name=[] then gA r else x.name::gA r
theorem AV (xs:List dY) (x:dY):gA (xs++[x])=if x.name=[] then gA xs else gA xs++[x.name]:=by
 induction xs with
 |nil=>simp[gA]
 |cons y r ih=>
  simp only[aaZ,gA,ih]
  split<;>split<;>simp
theorem vE (xs:List dY):(gA xs).length≤xs.length:=by
 induction xs with
 |nil=>simp[gA]
 |cons y r ih=>rw[gA];split<;>simp<;>omega
theorem ub (s:List UInt8) (G:s≠[]) (xs:List dY):∀k,dP (gA (xs.take k)) s<0↔dN xs s k<0:=by
 induction xs with
 |nil=>intro k;simp[gA,dP,dN]
 |cons x r ih=>
  intro k
  cases k with
  |zero=>simp[gA,dP,dN]
  |succ k=>
   have:=ih k;rw[aaR,gA,dN]
   by_cases E:x.name=[]
   ·rw[Zu E,E,Zt (by simpa using G)]
    by_cases z:dN r s k<0
    ·rw[Zu z];exact⟨fun _=>by decide,fun _=>this.2 z⟩
    ·rw[Zt z];constructor
     ·intro h;exact absurd (this.1 h) z
     ·intro h;omega
   ·rw[Zt E,dP]
    by_cases D:(x.name==s)=true
    ·rw[Zu D,Zu D]
    ·rw[Zt D,Zt D]
     by_cases z:dN r s k<0
     ·rw[Zu z,Zu (this.2 z)]
     ·rw[Zt z,Zt (fun h=>z (this.1 h))]
      have I: ¬dP (gA (r.take k)) s<0:=fun h=>z (this.1 h)
      omega
def fh (c:UInt8):Nat:=if c.toNat=110 then 1 else if c.toNat=116 then 2 else if c.toNat=109 then 3 else 0
def fw:List dY→List UInt8→List Nat
 |x::r,t::ts=>if x.name=[] then fw r ts else fh t::fw r ts
 |_,_=>[]
theorem pO (xs : List dY) (x : dY) (t : UInt8) :∀ (its : List UInt8), its.length = xs.length → fw (xs ++ [x]) (its ++ [t]) = if x.name = [] then fw xs its else fw xs its ++ [fh t] := by
  induction xs with
  | nil => intro its h; obtain rfl : its = [] := by simpa using h
           simp [fw]
  | cons y r ih =>
    intro its h
    cases its with
    | nil => simp at h
    | cons u its =>
      have := ih its (by simpa using h)
      simp only [aaZ, fw, this]
      split <;> split <;> simp
theorem oG (xs:List dY):∀(its:List UInt8),its.length=xs.length→(fw xs its).length=(gA xs).length:=by
 induction xs with
 |nil=>intro its h;simp[fw,gA]
 |cons y r ih=>
  intro its h
  cases its with
  |nil=>simp at h
  |cons u its=>
   have:=ih its (by simpa using h)
   rw[fw,gA];split<;>simp[this]
theorem yv (s:List UInt8) (I:s≠[]) (xs:List dY):∀(its:List UInt8),its.length≤xs.length→0≤dN xs s its.length→(fw (xs.take its.length) its).getD (dP (gA (xs.take its.length)) s).toNat 0=fh (its.getD (dN xs s its.length).toNat 0):=by
 induction xs with
 |nil=>intro its h z;simp[dN] at z
 |cons x r ih=>
  intro its h z
  cases its with
  |nil=>simp[dN] at z
  |cons u its=>
   rw[Z7] at*;rw[dN] at z⊢;rw[aaR,fw,gA]
   by_cases G:x.name=[]
   ·have D: ¬(x.name==s)=true:=by rw[G];simpa using I
    rw[Zt D] at z⊢;rw[Zu G,Zu G]
    by_cases E:dN r s its.length<0
    ·rw[Zu E] at z;omega
    ·rw[Zt E]
     rw[ih its (by simpa using h) (by omega),show(dN r s its.length+1).toNat=(dN r s its.length).toNat+1 from by omega,ZX]
   ·rw[Zt G,Zt G,dP]
    by_cases D:(x.name==s)=true
    ·rw[Zu D,Zu D];rfl
    ·rw[Zt D] at z⊢
     rw[Zt D]
     by_cases E:dN r s its.length<0
     ·rw[Zu E] at z;omega
     ·have J: ¬dP (gA (r.take its.length)) s<0:=fun h=>E ((ub s I r _).1 h)
      rw[Zt E,Zt J,show(dN r s its.length+1).toNat=(dN r s its.length).toNat+1 from by omega,show(dP (gA (r.take its.length)) s+1).toNat=(dP (gA (r.take its.length)) s).toNat+1 from by omega,ZX,ZX]
      exact ih its (by simpa using h) (by omega)
theorem De {l m:List (List UInt8)} (h:0≤dP l s):dP (l++m) s=dP l s:=by
 induction l with
 |nil=>simp[dP] at h
 |cons x r ih=>
  rw[aaZ,dP,dP] at*
  by_cases z:(x==s)=true
  ·rw[Zu z,Zu z]
  ·rw[Zt z] at h⊢
   rw[Zt z]
   by_cases J:dP r s<0
   ·rw[Zu J] at h;omega
   ·rw[ih (by omega)]
theorem IU (xs:List dY) (k:Nat):∃m,gA xs=gA (xs.take k)++m:=by
 induction xs generalizing k with
 |nil=>exact⟨[],by simp[gA]⟩
 |cons x r ih=>
  cases k with
  |zero=>exact⟨_,by simp[gA];rfl⟩
  |succ k=>
   obtain⟨m,z⟩:=ih k;refine⟨m,?_⟩;rw[aaR,gA,gA,z]
   split<;>simp
theorem zz (c:Nat):∀(k:Nat) (o:Option Nat),gX xs L i c k o=none→o=none∧ ∀q,k≤q→q<k+c→(L.getD q dh).tok.k=111→0≤dN xs (L.getD q dh).tok.text i:=by
 induction c with
 |zero=>intro k o h;exact⟨h,fun q z G=>by omega⟩
 |succ c ih=>
  intro k o h;rw[gX] at h;obtain⟨z,G⟩:=ih _ _ h;unfold mE at z
  by_cases E:(L.getD k dh).tok.k=111∧dN xs (L.getD k dh).tok.text i<0
  ·rw[Zu E] at z
   exfalso
   cases o with
   |none=>simp[vW] at z
   |some p=>
    have I:∀m,vW m (some p)≠none:=fun m=>by simp only[vW];split<;>simp
    exact I _ z
  ·rw[Zt E] at z
   refine⟨z,fun q O R D=>?_⟩
   by_cases e:q=k
   ·subst e
    by_cases J:dN xs (L.getD q dh).tok.text i<0
    ·exact absurd ⟨D,J⟩ E
    ·omega
   ·exact G q (by omega) (by omega) D
theorem xX {G:Nat→Option Nat} (h:∀j∈js,F j=G j):fS F js=fS G js:=by
 induction js with
 |nil=>rfl
 |cons x js ih=>rw[fS,fS,h x (by simp),ih fun j z=>h j (by simp[z])]
variable {bad bad':Tok→Bool}
theorem Df (E:∀k,k<L.length→(L.getD k dh).tok.k=111→bad (L.getD k dh).tok=bad' (L.getD k dh).tok) (f:Nat):∀{D i:Nat},eK f L D i→kr bad f L i=kr bad' f L i:=by
 induction f with
 |zero=>intro D i h;exact h.elim
 |succ f ih=>
  intro D i h;rw[kr,kr]
  by_cases z:(L.getD i dh).tok.k=111
  ·rw[Zu z,Zu z,E i h.1 z]
  ·rw[Zt z,Zt z]
   exact xX fun j G=>by
    obtain⟨J,I⟩:=jX _ h.2.2 j G;exact ih I
def fB (L:List Pt):List dY→Nat→Prop
 |[],fr=>fr=L.length
 |x::r,fr=>jk L fr x.top∧x.top+1=x.parts∧fB L r x.parts
structure ic (L:List Pt):Prop where
 up:∀k q,k<q→q<L.length→(L.getD k dh).tok.k=111→(L.getD q dh).tok.k=111→(L.getD k dh).tok.pl<(L.getD q dh).tok.pl
 own:∀k,k<L.length→(L.getD k dh).tok.k=111→(L.getD k dh).tok.text≠[]
 few:L.length≤5000
theorem we (I:ic L) {x:dY} {r:List dY} (J:jk L fr x.top) (O:x.top+1=x.parts):
 eM xs L (x::r) fr i=if x.name≠[]∧0≤dP (gA (xs.take i)) x.name then some x.named else(kr (nF xs i) (x.top+1) L x.top).or (eM xs L r x.parts (i+1)):=by
 have R:=(eK.res (xs:=xs) (n:=i) I.up J.fit).1;rw[eM,←O,R]
 by_cases z:x.name=[]
 ·rw[Zt (fun e=>e.1 z),Zt (fun e=>e.1 z)]
 ·have E:=ub x.name z xs i
  by_cases G:dN xs x.name i<0
  ·rw[Zt (fun e=>by have:=e.2;omega),Zt (fun e=>by have:=E.2 G;have:=e.2;omega)]
  ·rw[Zu ⟨z,by omega⟩,Zu ⟨z,by
    have: ¬dP (gA (xs.take i)) x.name<0:=fun h=>G (E.1 h)
    omega⟩]
theorem wg (i:Nat) (h:0≤dP (gA (xs.take i)) s):dP (gA xs) s=dP (gA (xs.take i)) s:=by
 obtain⟨m,z⟩:=IU xs i;rw[z];exact De h
def lh:Nat→Nat→List UInt8
 |0,_=>[]
 |f+1,n=>if n<10 then[UInt8.ofNat (48+n)] else lh f (n / 10)++[UInt8.ofNat (48+n %10)]
def fT (n:Nat):List UInt8:=lh 20 n
theorem qw (f n:Nat):(lh f n).length≤f:=by
 induction f generalizing n with
 |zero=>simp[lh]
 |succ f ih=>
  rw[lh];split
  ·simp
  ·have:=ih (n / 10);simp;omega
def nZ:List UInt8:=[40,110,111,116,32]
def sH:List UInt8:=[40,105,102,32]
def kD:List UInt8:=[32,116,104,101,110,32]
def kF:List UInt8:=[32,101,108,115,101,32]
def mK:List UInt8:=[108,101,116,32]
def xY:List UInt8:=[32,61,32]
def qx:List UInt8:=[97,108,108,111,119,32,105,102,32]
def pP:List UInt8:=[100,101,110,121,32,105,102,32]
def yw (z:List UInt8):List (List UInt8)→List UInt8
 |[]=>z
 |[a]=>nZ++a++[41]
 |[a,b]=>[40]++a++[32]++z++[32]++b++[41]
 |a::b::c::_=>sH++a++kD++b++kF++c++[41]
def zA:Nat→List Pt→Nat→List UInt8
 |0,_,_=>[]
 |f+1,L,i=>if(L.getD i dh).tok.k=110 then fT (eP (L.getD i dh).tok.text) else yw (L.getD i dh).tok.text ((L.getD i dh).subs.map (zA f L))
def MA (x:dY):List UInt8:=if x.name=[] then(if x.allow then qx else pP) else mK++x.name++xY
def IV (L:List Pt) (x:dY):List UInt8:=MA x++zA (x.top+1) L x.top++[59,10]
def Dg (L:List Pt) (xs:List dY):List UInt8:=xs.flatMap (IV L)
structure Sy where
 k:Nat
 text:List UInt8
 kids:List Sy
def Oi:Sy:=⟨0,[],[]⟩
def wd (t:Tok):Nat×List UInt8:=(t.k,t.text)
def Mt (ts:List Tok):Nat→List (Nat×List UInt8)→Prop
 |_,[]=>True
 |i,w::r=>wd (dc ts i)=w∧Mt ts (i+1) r
theorem Mt.left {ts:List Tok} {a:List (Nat×List UInt8)}:∀{i:Nat} {b:List (Nat×List UInt8)},Mt ts i (a++b)→Mt ts i a:=by
 induction a with
 |nil=>intro i b _;trivial
 |cons w a ih=>intro i b h;exact⟨h.1,ih h.2⟩
theorem Mt.right:∀{i:Nat} {b:List (Nat×List UInt8)},Mt ts i (a++b)→Mt ts (i+a.length) b:=by
 induction a with
 |nil=>intro i b h;exact h
 |cons w a ih=>
  intro i b h;have:=ih h.2;rw[show i+(w::a).length=i+1+a.length from by simp;omega]
  exact this
def uS (t:Tok) (s:Sy):Prop:=t.k=s.k∧(if s.k=110 then eP t.text=eP s.text else t.text=s.text)
def oH:Nat→List Pt→Nat→Sy→Prop
 |0,_,_,_=>False
 |d+1,L,i,s=>i<L.length∧uS (L.getD i dh).tok s∧(L.getD i dh).subs.length=s.kids.length∧ ∀j,j<s.kids.length→oH d L ((L.getD i dh).subs.getD j 0) (s.kids.getD j Oi)
theorem oH.more:∀{L:List Pt} {i:Nat} {s:Sy},oH d L i s→ ∀new,oH d (L++new) i s:=by
 induction d with
 |zero=>intro L i s h;exact h.elim
 |succ d ih=>
  intro L i s h new;obtain⟨E,z,h3,D⟩:=h;rw[←hY (M:=new) E] at z h3 D;exact⟨by simp;omega,z,h3,fun j G=>ih (D j G) new⟩
theorem oH.up:∀{L:List Pt} {i:Nat} {s:Sy},oH d L i s→oH (d+1) L i s:=by
 induction d with
 |zero=>intro L i s h;exact h.elim
 |succ d ih=>intro L i s h;exact⟨h.1,h.2.1,h.2.2.1,fun j z=>ih (h.2.2.2 j z)⟩
def cS:Nat→Sy→Nat
 |0,_=>0
 |d+1,s=>1+(s.kids.map (cS d)).sum
structure Pu (d i n:Nat) (L:List Pt) (s:Sy) (r:Rd):Prop where
 ok:r.ok=true
 at_:r.i=i+n
 new:∃new,r.L=L++new
 len:r.L.length=L.length+cS d s
 top:r.top+1=r.L.length
 is:oH d r.L r.top s
def MU (n:Nat) (t:Tok):Prop:= ∀m,n≤m→dO m→gD m t=false
theorem MU.up (h:MU n t):MU (n+1) t:=fun m D z=>h m (by omega) z
def iV (d n:Nat) (z:List (Nat×List UInt8)) (s:Sy):Prop:=
 ∀(ts:List Tok) (i:Nat) (L:List Pt) (x f:Nat) (r:Rd),Mt ts i z→MU (if n=6 then 0 else n) (dc ts (i+z.length))→P f n ts i L x=some r→Pu d i z.length L s r
def Dh (w:Nat×List UInt8) (x:List UInt8):Bool:=(w.1==107||w.1==115)&&w.2==x
theorem jE (h:wd t=w) (x:List UInt8):fX t x=Dh w x:=by subst h;rfl
def Hd (E:List (Nat×List UInt8)):Prop:= ∃w r,E=w::r∧Dh w iq=false∧Dh w l9=false
theorem Hd.more (h:Hd z) (m:List (Nat×List UInt8)):Hd (z++m):=by
 obtain⟨w,r,rfl,h⟩:=h;exact⟨w,r++m,rfl,h⟩
theorem mL {x:Nat} (h:P 0 n ts i L x=some r):False:=by rw[P] at h;cases h
theorem iV.chain {s:Sy} (z:dO n) (h:iV d (n+1) G s):iV d n G s:=by
 intro ts i L x f r J E I;have O:n≠6:=by unfold dO at z;omega
 have R:n+1≠6:=by unfold dO at z;omega
 rw[Zt O] at E
 cases f with
 |zero=>exact(mL I).elim
 |succ f=>
  obtain⟨a,U,D⟩:=ke z I;have g:=h ts i L 0 f a J (by rw[Zt R];exact E.up) U
  rcases D with⟨_,D⟩|⟨e,_⟩
  ·cases f with
   |zero=>exact(mL D).elim
   |succ f=>
    have:=qu z D (by rw[g.at_];exact E n (Zw _) z)
    subst this;exact⟨rfl,g.at_,g.new,g.len,g.top,g.is⟩
  ·rw[g.ok] at e;cases e
theorem iV.part {s:Sy} (G:Hd z) (h:iV d 3 z s):iV d 2 z s:=by
 intro ts i L x f r D I E
 cases f with
 |zero=>exact(mL E).elim
 |succ f=>
  obtain⟨w,q,rfl,J,_⟩:=G;exact h ts i L 0 f r D I.up (tX E (by rw[jE D.1,J];simp))
theorem iV.cond {s:Sy} (G:∃w r,z=w::r∧Dh w l9=false) (h:iV d 0 z s):iV d 6 z s:=by
 intro ts i L x f r D I E
 cases f with
 |zero=>exact(mL E).elim
 |succ f=>
  obtain⟨w,q,rfl,J⟩:=G;exact h ts i L 0 f r D I (tY E (by rw[jE D.1,J];simp))
theorem Hd.if_ (h:Hd z):∃w r,z=w::r∧Dh w l9=false:=by
 obtain⟨w,r,e,_,h⟩:=h;exact⟨w,r,e,h⟩
theorem iV.to4 {s:Sy} (h:iV d 5 z s):iV d 4 z s:=h.chain (by simp[dO])
theorem iV.to3 {s:Sy} (h:iV d 4 z s):iV d 3 z s:=h.chain (by simp[dO])
theorem iV.to1 {s:Sy} (h:iV d 2 z s):iV d 1 z s:=h.chain (by simp[dO])
theorem iV.to0 {s:Sy} (h:iV d 1 z s):iV d 0 z s:=h.chain (by simp[dO])
theorem iV.out {s:Sy} (G:Hd D) (h:iV d 5 D s) (Y:n≤6):iV d n D s:=by
 have I:=h.to4;have h3:=I.to3;have J:=h3.part G;have O:=J.to1;have R:=O.to0;have Z:=R.cond G.if_
 match n,Y with
 |0,_=>exact R
 |1,_=>exact O
 |2,_=>exact J
 |3,_=>exact h3
 |4,_=>exact I
 |5,_=>exact h
 |6,_=>exact Z
theorem iV.from_ {s:Sy} (z:Hd D) (E:dO n) (h:iV d n D s):iV d 6 D s:=by
 rcases E with rfl|rfl|rfl|rfl
 ·exact h.cond z.if_
 ·exact h.to0.cond z.if_
 ·exact(h.part z).to1.to0.cond z.if_
 ·exact(h.to3.part z).to1.to0.cond z.if_
theorem iV.up {d n:Nat} {z:List (Nat×List UInt8)} {s:Sy} (D:cS (d+1) s=cS d s) (h:iV d n z s):iV (d+1) n z s:=fun ts i L x f r E G I=>by
 have g:=h ts i L x f r E G I;exact⟨g.ok,g.at_,g.new,by rw[D];exact g.len,g.top,g.is.up⟩
theorem AW (h:wd t=w) (n:Nat):gD n t=gD n ⟨w.1,w.2,0⟩:=by subst h;rfl
theorem AX (E:dO n) (h:gD n t=true):MU (n+1) t:=by
 unfold gD at h;have z:0≤dP (kz n) t.text:=by simp at h;exact h.1
 intro m O D;unfold dO at E D;unfold gD;have J:dP (kz m) t.text<0:=by
  rcases E with rfl|rfl|rfl|rfl
  ·have:t.text=[111,114]:=by
    unfold kz at z;simp only[aax] at z;unfold dP at z;split at z
    ·rename_i e;simp at e;exact e.symm
    ·unfold dP at z;simp at z
   rcases D with rfl|rfl|rfl|rfl<;>first|omega|(rw[this];decide)
  ·have:t.text=[97,110,100]:=by
    unfold kz at z;simp at z;unfold dP at z;split at z
    ·rename_i e;simp at e;exact e.symm
    ·unfold dP at z;simp at z
   rcases D with rfl|rfl|rfl|rfl<;>first|omega|(rw[this];decide)
  ·have:t.text=[61]∨t.text=[60]∨t.text=[60,61]:=by
    by_cases G:t.text=[61]
    ·exact .inl G
    by_cases I:t.text=[60]
    ·exact .inr (.inl I)
    by_cases h3:t.text=[60,61]
    ·exact .inr (.inr h3)
    exfalso;simp[kz,dP,aa7 G,aa7 I,aa7 h3] at z
   rcases D with rfl|rfl|rfl|rfl<;>first|omega|(rcases this with e|e|e<;>(rw[e];decide))
  ·rcases D with rfl|rfl|rfl|rfl<;>omega
 have:decide (0≤dP (kz m) t.text)=false:=by simp;omega
 rw[this];rfl
theorem MV {a:Nat} {D E:Sy} {s:Sy} (I:uS t s) (z:s.kids=[D,E]) (J:oH d L a D) (O:oH d L b E):oH (d+1) (L++[⟨t,[a,b]⟩]) L.length s:=by
 refine⟨by simp,by rw[fk];exact I,by rw[fk,z];rfl,fun j G=>?_⟩
 rw[fk,z];rw[z] at G
 match j,G with
 |0,_=>exact J.more _
 |1,_=>exact O.more _
variable {I J O Z:Sy}
theorem iV.two (G:dO n) (hw:gD n ⟨w.1,w.2,0⟩=true) (ha:iV d (n+1) z I) (hb:iV d (n+1) E J):iV (d+1) n (z++w::E) ⟨w.1,w.2,[I,J]⟩:=by
 intro ts i L x f r hm hj hP;have h6:n≠6:=by unfold dO at G;omega
 have h5:n+1≠6:=by unfold dO at G;omega
 have R:w.1≠110:=by unfold gD at hw;simp at hw;omega
 rw[Zt h6] at hj;have aa:(z++w::E).length=z.length+1+E.length:=by simp;omega
 rw[aa] at hj⊢;have ac:=hm.left;obtain⟨U,ad⟩:=hm.right;have V:gD n (dc ts (i+z.length))=true:=by rw[AW U];exact hw
 cases f with
 |zero=>exact(mL hP).elim
 |succ f=>
  obtain⟨a,ae,D⟩:=ke G hP;have g:=ha ts i L 0 f a ac (by rw[Zt h5];exact AX G V) ae
  rcases D with⟨_,D⟩|⟨e,_⟩
  ·cases f with
   |zero=>exact(mL D).elim
   |succ f=>
    rw[g.at_] at D;obtain⟨b,af,ag⟩:=pN G D V;have Y:MU n (dc ts (i+z.length+1+E.length)):=by rw[show i+z.length+1+E.length=i+(z.length+1+E.length) from by omega];exact hj
    have q:=hb ts (i+z.length+1) a.L 0 f b ad (by rw[Zt h5];exact Y.up) af
    have ah:uS (dc ts (i+z.length)) ⟨w.1,w.2,[I,J]⟩:=by
     have e:=U;unfold wd at e;refine⟨by rw[←e],?_⟩
     show(if w.1=110 then _ else _)
     rw[Zt R,←e]
    obtain⟨na,ai⟩:=g.new;obtain⟨nb,Z⟩:=q.new;have ia:oH d b.L a.top I:=by rw[Z];exact g.is.more _
    have hI:=MV ah rfl ia q.is;have hL:∃new,b.L++[⟨dc ts (i+z.length),[a.top,b.top]⟩]=L++new:=⟨na++nb++[⟨dc ts (i+z.length),[a.top,b.top]⟩],by rw[Z,ai];simp⟩
    have hc:(b.L++[(⟨dc ts (i+z.length),[a.top,b.top]⟩:Pt)]).length=L.length+cS (d+1) ⟨w.1,w.2,[I,J]⟩:=by
     simp[cS];rw[q.len,g.len];omega
    rcases ag with⟨e,_⟩|⟨_,⟨_,D⟩|⟨_,D⟩⟩
    ·rw[q.ok] at e;cases e
    ·subst D
     exact⟨rfl,by show b.i=_;rw[q.at_];omega,hL,hc,by simp[put],hI⟩
    ·cases f with
     |zero=>exact(mL D).elim
     |succ f=>
      have:=qu G D (by rw[q.at_];exact Y n (Zw _) G)
      subst this;exact⟨rfl,by show b.i=_;rw[q.at_];omega,hL,hc,by simp,hI⟩
  ·rw[g.ok] at e;cases e
theorem sI (h:wd t=(115,[41])∨wd t=(115,[59])∨wd t=(107,iQ)∨wd t=(107,iR)):MU n t:=by
 intro m _ D;unfold dO at D;rcases h with h|h|h|h<;>(rw[AW h];rcases D with rfl|rfl|rfl|rfl<;>decide)
theorem iV.brackets {s:Sy} (h:iV d 6 z s):iV d 5 ((115,[40])::(z++[(115,[41])])) s:=by
 intro ts i L x f r I _ D
 cases f with
 |zero=>exact(mL D).elim
 |succ f=>
  obtain⟨J,E⟩:=I;obtain⟨h3,_⟩:=E.right;obtain⟨a,O,R⟩:=nW D (by rw[jE J];rfl)
  have g:=h ts (i+1) L 0 f a E.left (sI (.inl h3)) O;have G:fX (dc ts a.i) [41]=true:=by rw[g.at_,jE h3];rfl
  rcases R with⟨_,_,rfl⟩|⟨U,_⟩
  ·exact⟨g.ok,by show a.i+1=_;rw[g.at_];simp;omega,g.new,g.len,g.top,g.is⟩
  ·exact absurd ⟨g.ok,G⟩ U
theorem gP (z:List (Nat×List UInt8)):Hd ((115,[40])::z):=⟨_,_,rfl,by decide,by decide⟩
theorem iV.not_ {s:Sy} (h:iV d 2 z s):iV (d+1) 2 ((107,iq)::z) ⟨107,iq,[s]⟩:=by
 intro ts i L x f r R U E
 cases f with
 |zero=>exact(mL E).elim
 |succ f=>
  obtain⟨G,V⟩:=R;obtain⟨a,Y,ok,hi,Z⟩:=qt E (by rw[jE G];rfl)
  have g:=h ts (i+1) L 0 f a V (by rw[show i+1+z.length=i+((107,iq)::z).length from by simp;omega];exact U) Y
  have:=Z g.ok;subst this;obtain⟨na,I⟩:=g.new;refine⟨rfl,by show a.i=_;rw[g.at_];simp;omega,⟨na++[Pt.mk (dc ts i) [a.top]],by show a.L++_=_;rw[I];simp⟩,by simp[put,cS];rw[g.len];omega,by simp[put],?_⟩
  refine⟨by simp[put],?_,?_,fun j J=>?_⟩
  ·show uS ((a.L++[Pt.mk (dc ts i) [a.top]]).getD a.L.length dh).tok _
   rw[fk];have e:=G;unfold wd at e;exact⟨by have:=aaY Prod.fst e;exact this,by rw[Zt (by show ¬107=110;decide)];have:=aaY Prod.snd e;exact this⟩
  ·show((a.L++[Pt.mk (dc ts i) [a.top]]).getD a.L.length dh).subs.length=_
   rw[fk];rfl
  ·show oH d (a.L++[Pt.mk (dc ts i) [a.top]]) (((a.L++[Pt.mk (dc ts i) [a.top]]).getD a.L.length dh).subs.getD j 0) _
   rw[fk]
   match j,J with
   |0,_=>exact g.is.more _
theorem iV.if_ (ha:iV d 6 z J) (hb:iV d 6 D O) (hc:iV d 6 E Z):iV (d+1) 6 ((107,l9)::(z++(107,iQ)::(D++(107,iR)::E))) ⟨107,l9,[J,O,Z]⟩:=by
 intro ts i L x f r hm hj hP;have R:((107,l9)::(z++(107,iQ)::(D++(107,iR)::E))).length=1+z.length+1+D.length+1+E.length:=by simp;omega
 rw[R] at hj⊢
 cases f with
 |zero=>exact(mL hP).elim
 |succ f=>
  obtain⟨h1,h2⟩:=hm;have ma:=h2.left;obtain⟨h3,h4⟩:=h2.right;have mb:=h4.left;obtain⟨h5,mc⟩:=h4.right;obtain⟨a,b,c,pa,U,V,ok,hi,hr⟩:=nV hP (by rw[jE h1];rfl)
  have g:=ha ts (i+1) L 0 f a ma (sI (.inr (.inr (.inl h3)))) pa;unfold Nx at U V;rw[Zu ⟨g.ok,by rw[g.at_,jE h3];rfl⟩,g.at_] at U
  have q:=hb ts _ a.L 0 f b mb (sI (.inr (.inr (.inr h5)))) U;rw[Zu ⟨q.ok,by rw[q.at_,jE h5];rfl⟩,q.at_] at V
  have u:=hc ts _ b.L 0 f c mc (by rw[show i+1+z.length+1+D.length+1+E.length=i+(1+z.length+1+D.length+1+E.length) from by omega];exact hj) V
  obtain⟨_,_,rfl⟩:=hr u.ok;obtain⟨na,aa⟩:=g.new;obtain⟨ab,I⟩:=q.new;obtain⟨ac,G⟩:=u.new;have ia:oH d c.L a.top J:=by rw[G,I];exact(g.is.more _).more _
  have ib:oH d c.L b.top O:=by rw[G];exact q.is.more _
  refine⟨rfl,by show c.i=_;rw[u.at_];omega,⟨na++ab++ac++[Pt.mk (dc ts i) [a.top,b.top,c.top]],by show c.L++_=_;rw[G,I,aa];simp⟩,by simp[put,cS];rw[u.len,q.len,g.len];omega,by simp[put],?_⟩
  refine⟨by simp[put],?_,?_,fun j ad=>?_⟩
  ·show uS ((c.L++[Pt.mk (dc ts i) [a.top,b.top,c.top]]).getD c.L.length dh).tok _
   rw[fk];have e:=h1;unfold wd at e;exact⟨by have:=aaY Prod.fst e;exact this,by rw[Zt (by show ¬107=110;decide)];have:=aaY Prod.snd e;exact this⟩
  ·show((c.L++[Pt.mk (dc ts i) [a.top,b.top,c.top]]).getD c.L.length dh).subs.length=_
   rw[fk];rfl
  ·show oH d (c.L++[Pt.mk (dc ts i) [a.top,b.top,c.top]]) (((c.L++[Pt.mk (dc ts i) [a.top,b.top,c.top]]).getD c.L.length dh).subs.getD j 0) _
   rw[fk]
   match j,ad with
   |0,_=>exact ia.more _
   |1,_=>exact ib.more _
   |2,_=>exact u.is.more _
theorem iV.one {s:Sy} (D:gR ⟨w.1,w.2,0⟩=true) (E:s.kids=[]) (V:uS ⟨w.1,w.2,0⟩ s):iV (d+1) 5 [w] s:=by
 intro ts i L x f r Y _ I
 cases f with
 |zero=>exact(mL I).elim
 |succ f=>
  obtain⟨z,_⟩:=Y;have e:gR (dc ts i)=true:=by subst z;exact D
  have J: ¬fX (dc ts i) [40]=true:=by
   rw[jE z];intro h;unfold Dh at h;unfold gR at D;simp only[abb,abX] at h;rw[h.2] at D
   revert D
   have z:=h.1;simp at z;rcases z with z|z<;>rw[z]<;>decide
  rcases mD I J with⟨_,rfl⟩|⟨O,_⟩
  ·refine⟨rfl,rfl,⟨_,rfl⟩,by simp[cS,E],by simp,by simp,?_,?_,fun j R=>?_⟩
   ·show uS ((L++[Pt.mk (dc ts i) []]).getD L.length dh).tok _
    rw[fk];subst z;exact V
   ·show((L++[Pt.mk (dc ts i) []]).getD L.length dh).subs.length=_
    rw[fk,E];rfl
   ·rw[E] at R;exact absurd R (by simp)
  ·rw[e] at O;cases O
theorem ud (D:gR ⟨w.1,w.2,0⟩=true):Hd [w]:=by
 refine⟨w,[],rfl,?_,?_⟩<;>
 ·rw[aa5]
  intro h;unfold Dh at h;unfold gR at D;simp only[abb,abX] at h;rw[h.2] at D
  revert D
  have z:=h.1;simp at z;rcases z with z|z<;>rw[z]<;>decide
def n5 (s:List UInt8):Option (Nat×List UInt8):=
 if s.takeWhile ld≠[] then(if big (s.takeWhile ld) then none else some (110,s.takeWhile ld))
 else if s.takeWhile lf≠[] then
  (if pL (s.takeWhile lf) then some (107,s.takeWhile lf)
   else if(s.takeWhile lf).length≤8 then some (111,s.takeWhile lf) else none)
 else match s with
  |[]=>none
  |c::r=>
   if c.toNat=60 then(if(r.getD 0 0).toNat=61 then some (115,[60,61]) else some (115,[60]))
   else if c.toNat=40∨c.toNat=41∨c.toNat=59∨c.toNat=43∨c.toNat=45∨c.toNat=61 then some (115,[c])
   else none
theorem yx (p:UInt8→Bool) (l:List UInt8) (a:Nat):cut l a (eA p l a)=(l.drop a).takeWhile p:=by
 unfold cut eA;rw[Nat.add_sub_cancel_left];generalize l.drop a=s
 induction s with
 |nil=>rfl
 |cons c s ih=>
  by_cases h:p c=true
  ·rw[aba h];simp[ih]
  ·rw[aaN h];rfl
theorem AY (l:List UInt8) (a:Nat):ji l a=(n5 (l.drop a)).map fun w=>⟨w.1,w.2,a⟩:=by
 unfold ji n5;rw[yx,yx];have z:∀p:UInt8→Bool,(a<eA p l a)↔(l.drop a).takeWhile p≠[]:=fun p=>by
  unfold eA;rw[←abj];omega
 have G:∀p:UInt8→Bool,eA p l a - a=((l.drop a).takeWhile p).length:=fun p=>by unfold eA;omega
 rw[G]
 by_cases D:a<eA ld l a
 ·rw[Zu D,Zu ((z _).1 D)];split<;>rfl
 rw[Zt D,Zt (fun h=>D ((z _).2 h))]
 by_cases E:a<eA lf l a
 ·rw[Zu E,Zu ((z _).1 E)];split
  ·rfl
  ·split<;>rfl
 rw[Zt E,Zt (fun h=>E ((z _).2 h))]
 have I:l[a]?=(l.drop a)[0]?:=by rw[abH];rfl
 have J:l.getD (a+1) 0=(l.drop a).getD 1 0:=by rw[Zs,Zs,abH]
 rw[I,J]
 cases l.drop a with
 |nil=>rfl
 |cons c r=>
  simp only[aa2,ZX]
  repeat' split
  all_goals rfl
def lx:Nat→List UInt8→Option (List (Nat×List UInt8))
 |0,_=>none
 |f+1,l=>
  if l.dropWhile lL=[] then some []
  else match n5 (l.dropWhile lL) with
   |none=>none
   |some w=>(lx f ((l.dropWhile lL).drop w.2.length)).map fun r=>w::r
theorem FT (p:UInt8→Bool) (l:List UInt8) (a:Nat):l.drop (eA p l a)=(l.drop a).dropWhile p:=by
 unfold eA;rw[←List.drop_drop];generalize l.drop a=s
 induction s with
 |nil=>rfl
 |cons c s ih=>
  by_cases h:p c=true
  ·rw[aba h,ab8 h];simpa using ih
  ·rw[aaN h,ab9 h];rfl
theorem MW (l:List UInt8) (f:Nat):∀(a:Nat) (z:List (Nat×List UInt8)),lx f (l.drop a)=some z→ ∃ts,nx f l a=(ts,none)∧ts.map wd=z++[(101,[])]:=by
 induction f with
 |zero=>intro a z h;cases h
 |succ f ih=>
  intro a z h;rw[lx,←FT] at h;rw[nx]
  by_cases D:l.drop (eA lL l a)=[]
  ·rw[Zu D] at h
   rw[Zu (List.drop_eq_nil_iff.1 D)];simp at h;subst h
   exact⟨_,rfl,rfl⟩
  ·rw[Zt D] at h
   rw[Zt (fun e=>D (List.drop_eq_nil_iff.2 e)),AY]
   cases G:n5 (l.drop (eA lL l a)) with
   |none=>rw[G] at h;cases h
   |some w=>
    rw[G] at h;simp only[ZP] at h;obtain⟨r,I,rfl⟩:=h;rw[List.drop_drop] at I;obtain⟨ts,V,Y⟩:=ih _ _ I;simp only[abI];rw[V];exact⟨_,rfl,by rw[ZS,Y];rfl⟩
def LX (l:List UInt8) (G:List (Nat×List UInt8)):Prop:= ∀f,l.length<f→lx f l=some G
def K6 (s:List UInt8):Prop:= ∀c r,s=c::r→ld c=false∧lf c=false
theorem LX.nil:LX [] []:=fun f h=>by
 obtain⟨f,rfl⟩:∃g,f=g+1:=⟨f - 1,by simp at h;omega⟩
 rfl
theorem IW (z:lL c=true) (f:Nat) (s:List UInt8):lx (f+1) (c::s)=lx (f+1) s:=by
 rw[lx,lx,ab8 z]
theorem LX.blank (D:lL c=true) (h:LX s z):LX (c::s) z:=fun f E=>by
 obtain⟨f,rfl⟩:∃g,f=g+1:=⟨f - 1,by omega⟩
 rw[IW D];exact h _ (by simp at E;omega)
theorem LX.word {w:List UInt8} (h:LX s z) (I:∀c r,w++s=c::r→lL c=false) (J:n5 (w++s)=some (k,w)) (D:w≠[]):LX (w++s) ((k,w)::z):=fun f O=>by
 obtain⟨f,rfl⟩:∃g,f=g+1:=⟨f - 1,by omega⟩
 have R:(w++s).dropWhile lL=w++s:=by
  cases e:w++s with
  |nil=>rfl
  |cons c r=>rw[ab9];rw[I c r e];simp
 have V:=abj.2 D;rw[lx,R,Zt (by simp[D]),J]
 simp only[];rw[List.drop_left,h f (by simp at O;omega)]
 rfl
theorem IX {p:UInt8→Bool} {w:List UInt8} (z:∀c∈w,p c=true) (D:∀c r,s=c::r→p c=false):(w++s).takeWhile p=w:=by
 induction w with
 |nil=>
  cases s with
  |nil=>rfl
  |cons c r=>rw[aaF,aaN];rw[D c r rfl];simp
 |cons c w ih=>
  rw[aaZ,aba (z c (by simp)),ih (fun d E=>z d (by simp[E]))]
theorem wk {p:UInt8→Bool} (h:p c=false):(c::s).takeWhile p=[]:=by
 rw[aaN];rw[h];simp
theorem wm (h:lf c=true):ld c=false∧lL c=false:=by
 simp[lf] at h;constructor
 ·simp[ld];omega
 ·simp[lL];omega
theorem FU (h:ld c=true):lf c=false∧lL c=false:=by
 simp[ld] at h;constructor
 ·simp[lf];omega
 ·simp[lL];omega
theorem LX.letters {w:List UInt8} (h:LX s E) (J:K6 s) (O:w≠[]) (G:∀c∈w,lf c=true) (R:(pL w=true∧k=107)∨(pL w=false∧w.length≤8∧k=111)):LX (w++s) ((k,w)::E):=by
 obtain⟨c,r,rfl⟩:∃c r,w=c::r:=by cases w with
  |nil=>exact absurd rfl O
  |cons c r=>exact⟨c,r,rfl⟩
 have I:=G c (by simp)
 refine h.word (fun d q e=>?_) ?_ (by simp)
 ·simp at e;rw[←e.1];exact(wm I).2
 ·unfold n5
  rw[IX G (fun d q e=>(J d q e).2)]
  rw[show(c::r++s).takeWhile ld=[] from wk (wm I).1]
  rw[Zt (by simp),Zu (by simp)]
  rcases R with⟨z,rfl⟩|⟨z,U,rfl⟩
  ·rw[Zu z]
  ·rw[Zt (by rw[z];simp),Zu U]
theorem LX.digits {w:List UInt8} (h:LX s D) (G:K6 s) (I:w≠[]) (E:∀c∈w,ld c=true) (O:eP w≤9223372036854775807):LX (w++s) ((110,w)::D):=by
 obtain⟨c,r,rfl⟩:∃c r,w=c::r:=by cases w with
  |nil=>exact absurd rfl I
  |cons c r=>exact⟨c,r,rfl⟩
 have J:=E c (by simp)
 refine h.word (fun d q e=>?_) ?_ (by simp)
 ·simp at e;rw[←e.1];exact(FU J).2
 ·unfold n5
  rw[IX E (fun d q e=>(G d q e).1),Zu (by simp),Zt]
  unfold big;simp;omega
theorem LX.sign (h:LX s z) (E:c.toNat=40∨c.toNat=41∨c.toNat=59∨c.toNat=43∨c.toNat=45∨c.toNat=61):LX (c::s) ((115,[c])::z):=by
 refine h.word (w:=[c]) (fun d q e=>?_) ?_ (by simp)
 ·simp at e;rw[←e.1];simp[lL];omega
 ·show n5 (c::s)=_
  unfold n5;rw[wk (by simp[ld];omega),wk (by simp[lf];omega),Zt (by simp),Zt (by simp)]
  show(if c.toNat=60 then _ else _)=_
  rw[Zt (by omega),Zu E]
theorem LX.less (h:LX s z) (D:∀c r,s=c::r→c.toNat≠61):LX (60::s) ((115,[60])::z):=by
 refine h.word (w:=[60]) (fun d q e=>?_) ?_ (by simp)
 ·simp at e;rw[←e.1];decide
 ·show n5 (60::s)=_
  unfold n5;rw[wk (by decide),wk (by decide),Zt (by simp),Zt (by simp)]
  show(if(60:UInt8).toNat=60 then(if(s.getD 0 0).toNat=61 then _ else _) else _)=_
  rw[Zu (by decide),Zt]
  cases s with
  |nil=>decide
  |cons c r=>exact D c r rfl
theorem LX.atMost (h:LX s z):LX (60::61::s) ((115,[60,61])::z):=by
 refine h.word (w:=[60,61]) (fun d q e=>?_) ?_ (by simp)
 ·simp at e;rw[←e.1];decide
 ·show n5 (60::61::s)=_
  unfold n5;rw[wk (by decide),wk (by decide),Zt (by simp),Zt (by simp)]
  rfl
theorem jM (h:ld c=false∧lf c=false) (s:List UInt8):K6 (c::s):=fun d r e=>by
 simp at e;rw[←e.1];exact h
def nO:List (List UInt8):=dX++dL++[jL,ky]
def pQ:List (Nat×List UInt8):=[(107,[111,114]),(107,[97,110,100]),(115,[61]),(115,[60]),(115,[60,61]),(115,[43]),(115,[45])]
def Pv (s:Sy):Prop:=(s.k=110∧eP s.text≤9223372036854775807)∨(s.k=111∧s.text≠[]∧(∀c∈s.text,lf c=true)∧pL s.text=false∧s.text.length≤8)∨(s.k=107∧s.text∈nO)
def MB:Nat→Sy→Prop
 |0,_=>False
 |d+1,s=>((s.kids=[]∧Pv s)∨(s.k=107∧s.text=iq∧s.kids.length=1)∨(s.k=107∧s.text=l9∧s.kids.length=3)∨((s.k,s.text)∈pQ∧s.kids.length=2))∧ ∀c∈s.kids,MB d c
def eB:Nat→Sy→List UInt8
 |0,_=>[]
 |d+1,s=>if s.k=110 then fT (eP s.text) else yw s.text (s.kids.map (eB d))
def rS (w:Nat×List UInt8):List (List (Nat×List UInt8))→List (Nat×List UInt8)
 |[]=>[w]
 |[a]=>(115,[40])::(((107,iq)::a)++[(115,[41])])
 |[a,b]=>(115,[40])::((a++w::b)++[(115,[41])])
 |a::b::c::_=>(115,[40])::(((107,l9)::(a++(107,iQ)::(b++(107,iR)::c)))++[(115,[41])])
def iu:Nat→Sy→List (Nat×List UInt8)
 |0,_=>[]
 |d+1,s=>if s.k=110 then[(110,fT (eP s.text))] else rS (s.k,s.text) (s.kids.map (iu d))
theorem AZ (h:n<256):(UInt8.ofNat n).toNat=n:=by simp;omega
theorem IY (l:List UInt8) (c:UInt8):eP (l++[c])=eP l*10+(c.toNat - 48):=by unfold eP;rw[aaQ];rfl
theorem Lg (f:Nat):∀n,n<10^f→0<f→(∀c∈lh f n,ld c=true)∧eP (lh f n)=n∧lh f n≠[]:=by
 induction f with
 |zero=>intro n _ h;omega
 |succ f ih=>
  intro n D _;rw[lh]
  by_cases h:n<10
  ·rw[Zu h]
   have e:(UInt8.ofNat (48+n)).toNat=48+n:=AZ (by omega)
   refine⟨fun c z=>?_,?_,by simp⟩
   ·simp only[ZU,aal,abk] at z;subst z;unfold ld;rw[e];simp;omega
   ·unfold eP;simp only[aaz,List.foldl_nil];rw[e];omega
  ·rw[Zt h]
   rw[acs] at D;have E:0<f:=by
    rcases acb f with rfl|G
    ·simp at D;omega
    ·exact G
   obtain⟨I,J,h3⟩:=ih (n / 10) (by omega) E
   have e:(UInt8.ofNat (48+n %10)).toNat=48+n %10:=AZ (by omega)
   refine⟨fun c z=>?_,?_,by simp⟩
   ·rw[aar] at z
    rcases z with z|z
    ·exact I c z
    ·simp only[ZU,aal,abk] at z;subst z;unfold ld;rw[e];simp;omega
   ·rw[IY,J,e];omega
theorem wo (h:n≤9223372036854775807):(∀c∈fT n,ld c=true)∧eP (fT n)=n∧fT n≠[]:=by
 have:(10:Nat)^20=100000000000000000000:=by decide
 exact Lg 20 n (by omega) (by decide)
theorem ue:∀x∈nO,x≠[]∧(∀c∈x,lf c=true)∧pL x=true∧gR ⟨107,x,0⟩=true:=by decide
theorem Fb {α:Type} {l:List α} (h:l.length=1):∃a,l=[a]:=aaP.1 h
theorem Fc {α:Type} {l:List α} (h:l.length=2):∃a b,l=[a,b]:=by
 match l,h with
 |[a,b],_=>exact⟨a,b,rfl⟩
theorem yy {α:Type} {l:List α} (h:l.length=3):∃a b c,l=[a,b,c]:=by
 match l,h with
 |[a,b,c],_=>exact⟨a,b,c,rfl⟩
theorem A5 (z:w∈pQ) (h:LX s D) (E:K6 s) (G:∀c r,s=c::r→c.toNat≠61):LX (w.2++s) (w::D):=by
 simp only[pQ,ZU,aal,abk] at z;rcases z with rfl|rfl|rfl|rfl|rfl|rfl|rfl
 ·exact h.letters E (by decide) (by decide) (.inl ⟨by decide,rfl⟩)
 ·exact h.letters E (by decide) (by decide) (.inl ⟨by decide,rfl⟩)
 ·exact h.sign (by decide)
 ·exact h.less G
 ·exact h.atMost
 ·exact h.sign (by decide)
 ·exact h.sign (by decide)
theorem fE (s:List UInt8):K6 (32::s):=jM (by decide) s
theorem jN (s:List UInt8):K6 (41::s):=jM (by decide) s
theorem LX.sp (h:LX s z):LX (32::s) z:=h.blank (by decide)
theorem LX.opn (h:LX s z):LX (40::s) ((115,[40])::z):=h.sign (by decide)
theorem LX.shut (h:LX s z):LX (41::s) ((115,[41])::z):=h.sign (by decide)
theorem LX.kw (h:LX s z) (D:K6 s) (w:List UInt8) (E:w∈nO++vD):LX (w++s) ((107,w)::z):=by
 have:∀w∈nO++vD,w≠[]∧(∀c∈w,lf c=true)∧pL w=true:=by decide
 obtain⟨G,I,h3⟩:=this w E;exact h.letters D G I (.inl ⟨h3,rfl⟩)
theorem FV (d:Nat):∀{s:Sy},MB d s→ ∀{rest:List UInt8} {D:List (Nat×List UInt8)},LX rest D→K6 rest→LX (eB d s++rest) (iu d s++D):=by
 induction d with
 |zero=>intro s h;exact h.elim
 |succ d ih=>
  intro s h rest D I R;obtain⟨Y,E⟩:=h;rw[eB,iu]
  by_cases z:s.k=110
  ·rw[Zu z,Zu z]
   have Z:eP s.text≤9223372036854775807:=by
    rcases Y with⟨_,⟨_,h⟩|⟨e,_⟩|⟨e,_⟩⟩|⟨e,_⟩|⟨e,_⟩|⟨e,_⟩
    ·exact h
    ·omega
    ·omega
    ·omega
    ·omega
    ·rw[z] at e;simp[pQ] at e
   obtain⟨t1,t2,t3⟩:=wo Z;exact I.digits R t3 t1 (by rw[t2];exact Z)
  ·rw[Zt z,Zt z]
   rcases Y with⟨hn,G⟩|⟨e1,e2,G⟩|⟨e1,e2,G⟩|⟨hw,G⟩
   ·rw[hn]
    show LX (s.text++rest) ((s.k,s.text)::D)
    rcases G with⟨e,_⟩|⟨e,U,h2,h3,h4⟩|⟨e,U⟩
    ·exact absurd e z
    ·rw[e];exact I.letters R U h2 (.inr ⟨h3,h4,rfl⟩)
    ·rw[e]
     obtain⟨g1,g2,g3,_⟩:=ue _ U;exact I.letters R g1 g2 (.inl ⟨g3,rfl⟩)
   ·obtain⟨a,J⟩:=Fb G
    rw[J] at E⊢;have O:=E a (by simp)
    show LX (nZ++eB d a++[41]++rest) _
    rw[show nZ++eB d a++[41]++rest=40::(iq++(32::(eB d a++(41::rest)))) from by simp[nZ,iq]]
    rw[show rS (s.k,s.text) (List.map (iu d) [a])++D=(115,[40])::((107,iq)::(iu d a++((115,[41])::D))) from by simp[rS]]
    exact(((ih O I.shut (jN _)).sp).kw (fE _) iq (by decide)).opn
   ·obtain⟨a,b,c,J⟩:=yy G
    rw[J] at E⊢;have O:=E a (by simp)
    have kb:=E b (by simp)
    have kc:=E c (by simp)
    show LX (sH++eB d a++kD++eB d b++kF++eB d c++[41]++rest) _
    rw[show sH++eB d a++kD++eB d b++kF++eB d c++[41]++rest=40::(l9++(32::(eB d a++(32::(iQ++(32::(eB d b++(32::(iR++(32::(eB d c++(41::rest)))))))))))) from by simp[sH,kD,kF,l9,iQ,iR]]
    rw[show rS (s.k,s.text) (List.map (iu d) [a,b,c])++D=(115,[40])::((107,l9)::(iu d a++((107,iQ)::(iu d b++((107,iR)::(iu d c++((115,[41])::D))))))) from by simp[rS]]
    exact((ih O ((ih kb ((ih kc I.shut (jN _)).sp.kw (fE _) iR (by decide)).sp (fE _)).sp.kw (fE _) iQ (by decide)).sp (fE _)).sp.kw (fE _) l9 (by decide)).opn
   ·obtain⟨a,b,J⟩:=Fc G
    rw[J] at E⊢;have O:=E a (by simp)
    have kb:=E b (by simp)
    show LX ([40]++eB d a++[32]++s.text++[32]++eB d b++[41]++rest) _
    rw[show[40]++eB d a++[32]++s.text++[32]++eB d b++[41]++rest=40::(eB d a++(32::(s.text++(32::(eB d b++(41::rest)))))) from by simp]
    rw[show rS (s.k,s.text) (List.map (iu d) [a,b])++D=(115,[40])::(iu d a++((s.k,s.text)::(iu d b++((115,[41])::D)))) from by simp[rS]]
    refine(ih O (LX.sp ?_) (fE _)).opn;exact A5 hw (ih kb I.shut (jN _)).sp (fE _) (fun c r e=>by simp at e;rw[←e.1];decide)
theorem FW (D:w∈pQ):∃n,dO n∧gD n ⟨w.1,w.2,0⟩=true:=by
 simp only[pQ,ZU,aal,abk] at D;rcases D with rfl|rfl|rfl|rfl|rfl|rfl|rfl
 ·exact⟨0,.inl rfl,by decide⟩
 ·exact⟨1,.inr (.inl rfl),by decide⟩
 ·exact⟨3,.inr (.inr (.inl rfl)),by decide⟩
 ·exact⟨3,.inr (.inr (.inl rfl)),by decide⟩
 ·exact⟨3,.inr (.inr (.inl rfl)),by decide⟩
 ·exact⟨4,.inr (.inr (.inr rfl)),by decide⟩
 ·exact⟨4,.inr (.inr (.inr rfl)),by decide⟩
theorem iV.both {R:Sy} (hw:w∈pQ) (ha:iV d 5 E O) (D:Hd E) (hb:iV d 5 G R) (U:Hd G):iV (d+1) 6 (E++w::G) ⟨w.1,w.2,[O,R]⟩:=by
 obtain⟨n,I,hj⟩:=FW hw;have V:n+1≤6:=by unfold dO at I;omega
 exact(iV.two I hj (ha.out D V) (hb.out U V)).from_ (D.more _) I
theorem iV.nots {s:Sy} (h:iV d 5 z s) (D:Hd z):iV (d+1) 6 ((107,iq)::z) ⟨107,iq,[s]⟩:=
 (h.out D (n:=2) (by omega)).not_.to1.to0.cond ⟨_,_,rfl,by decide⟩
theorem IZ (d:Nat):∀{s:Sy},MB d s→iV d 5 (iu d s) s∧Hd (iu d s):=by
 induction d with
 |zero=>intro s h;exact h.elim
 |succ d ih=>
  intro s h;obtain⟨V,E⟩:=h;obtain⟨k,D,ad⟩:=s;simp only[] at V E;rw[iu];simp only[];rcases V with⟨hn,G⟩|⟨J,O,G⟩|⟨J,O,G⟩|⟨Y,G⟩
  ·subst hn
   rcases G with⟨e,hv⟩|⟨e,Z,h2,h3,h4⟩|⟨e,Z⟩
   ·simp only[] at e;subst e
    rw[Zu rfl];have z:gR ⟨110,fT (eP D),0⟩=true:=rfl;exact⟨iV.one z rfl ⟨rfl,by rw[Zu rfl];exact(wo hv).2.1⟩,ud z⟩
   ·simp only[] at e;subst e
    rw[Zt (by decide)]
    have z:gR ⟨111,D,0⟩=true:=rfl;exact⟨iV.one z rfl ⟨rfl,by rw[Zt (by show ¬111=110;decide)]⟩,ud z⟩
   ·simp only[] at e;subst e
    rw[Zt (by decide)]
    have z:=(ue _ Z).2.2.2;exact⟨iV.one (w:=(107,D)) z rfl ⟨rfl,by rw[Zt (by show ¬107=110;decide)]⟩,ud (w:=(107,D)) z⟩
  ·subst J O
   obtain⟨a,rfl⟩:=Fb G;obtain⟨I,z⟩:=ih (E a (by simp))
   rw[Zt (by decide)]
   exact⟨(I.nots z).brackets,gP _⟩
  ·subst J O
   obtain⟨a,b,c,rfl⟩:=yy G;obtain⟨I,z⟩:=ih (E a (by simp))
   obtain⟨rb,R⟩:=ih (E b (by simp))
   obtain⟨rc,hc⟩:=ih (E c (by simp))
   rw[Zt (by decide)]
   exact⟨(iV.if_ (I.out z (Zw 6)) (rb.out R (Zw 6)) (rc.out hc (Zw 6))).brackets,gP _⟩
  ·obtain⟨a,b,rfl⟩:=Fc G
   obtain⟨I,z⟩:=ih (E a (by simp))
   obtain⟨rb,R⟩:=ih (E b (by simp))
   rw[Zt (by rintro rfl;simp[pQ] at Y)]
   exact⟨(iV.both Y I z rb R).brackets,gP _⟩
structure qZ where
 name:List UInt8
 allow:Bool
 sy:Sy
def hW (s:qZ):List (Nat×List UInt8):=if s.name=[] then[(107,if s.allow then jD else nE),(107,l9)] else[(107,tW),(111,s.name),(115,[61])]
def ry (p:qZ×List (Nat×List UInt8)):List (Nat×List UInt8):=hW p.1++(p.2++[(115,[59])])
structure Oj (d i n:Nat) (L:List Pt) (s:qZ) (r:Da):Prop where
 ok:r.ok=true
 at_:r.i=i+n
 new:∃new,r.L=L++new
 len:r.L.length=L.length+cS d s.sy
 name:r.it.name=s.name
 allow:r.it.allow=s.allow
 top:r.it.top+1=r.it.parts
 parts:r.it.parts=r.L.length
 is:oH d r.L r.it.top s.sy
theorem A6 {F:Nat} {s:qZ} {c:List (Nat×List UInt8)} {x:dY} {r:Da} (G:iV d 6 c s.sy) (D:Mt ts i (c++[(115,[59])])) (I:x.name=s.name) (J:x.allow=s.allow) (h:gS F ts i L x=some r):Oj d i (c.length+1) L s r:=by
 unfold gS at h
 cases z:P F 6 ts i L 0 with
 |none=>rw[z] at h;cases h
 |some a=>
  rw[z] at h;simp only[] at h;obtain⟨E,_⟩:=D.right;have g:=G ts i L 0 F a D.left (sI (.inr (.inl E))) z;rw[Zu g.ok,Zu (by rw[g.at_,jE E];rfl)] at h
  simp at h;subst h;exact⟨rfl,by show a.i+1=_;rw[g.at_];omega,g.new,g.len,I,J,g.top,rfl,g.is⟩
theorem I0 {F:Nat} {s:qZ} {c:List (Nat×List UInt8)} {r:Da} (I:iV d 6 c s.sy) (O:s.name≠[]→s.allow=false) (D:Mt ts i (ry (s,c))) (h:jB F ts i L=some r):Oj d i (ry (s,c)).length L s r:=by
 unfold ry hW at*;simp only[] at*;unfold jB at h
 by_cases E:s.name=[]
 ·rw[Zu E] at D⊢
  obtain⟨z,G,h3⟩:=D;have R:fX (dc ts i) tW=false:=by rw[jE z];cases s.allow<;>rfl
  have J:(fX (dc ts i) jD||fX (dc ts i) nE)=true:=by rw[jE z,jE z];cases s.allow<;>rfl
  rw[R,Zt (by simp),Zu J,Zu (by rw[jE G];rfl)] at h
  have g:=A6 (s:=s) I h3 (by exact E.symm) (by
   show((dc ts i).text==jD)=s.allow
   have:(dc ts i).text=(if s.allow=true then jD else nE):=aaY Prod.snd z
   rw[this];cases s.allow<;>rfl) h
  refine⟨g.ok,?_,g.new,g.len,g.name,g.allow,g.top,g.parts,g.is⟩;rw[g.at_];simp;omega
 ·rw[Zt E] at D⊢
  obtain⟨z,G,h3,U⟩:=D;rw[Zu (by rw[jE z];rfl)] at h
  have V:(dc ts (i+1)).k=111:=aaY Prod.fst G;have Y:=aaY Prod.snd G;rw[Zu V,Zu (by rw[jE h3];rfl)] at h
  have g:=A6 (s:=s) I U (by exact Y) (O E).symm h
  refine⟨g.ok,?_,g.new,g.len,g.name,g.allow,g.top,g.parts,g.is⟩;rw[g.at_];simp;omega
def pR (d:Nat) (L:List Pt):List dY→List qZ→Nat→Prop
 |[],[],fr=>L.length=fr
 |x::r,s::q,fr=>x.name=s.name∧x.allow=s.allow∧oH d L x.top s.sy∧x.top+1=x.parts∧x.parts=fr+cS d s.sy∧pR d L r q x.parts
 |_,_,_=>False
def nP (pol:List (qZ×List (Nat×List UInt8))):List (Nat×List UInt8):=pol.flatMap ry
theorem FX {F:Nat} (pol:List (qZ×List (Nat×List UInt8))):∀(g i:Nat) (L:List Pt) (xs:List dY) (R:rP),(∀p∈pol,iV d 6 p.2 p.1.sy∧(p.1.name≠[]→p.1.allow=false))→Mt ts i (nP pol)→(dc ts (i+(nP pol).length)).k=101→fs F ts g i L xs=some R→
 R.ok=true∧ ∃new D,R.L=L++new∧R.xs=xs++D∧pR d R.L D (pol.map Prod.fst) L.length:=by
 induction pol with
 |nil=>
  intro g i L xs R _ _ E h;have:=qv h E;subst this;exact⟨rfl,[],[],by simp,by simp,rfl⟩
 |cons p pol ih=>
  intro g i L xs R O G E h;obtain⟨s,c⟩:=p;have e:nP ((s,c)::pol)=ry (s,c)++nP pol:=by simp[nP]
  rw[e] at G E;have J: ¬(dc ts i).k=101:=by
   have z:=G.left;unfold ry hW at z
   by_cases U:s.name=[]
   ·simp only[Zu U] at z
    have:(dc ts i).k=107:=aaY Prod.fst z.1;omega
   ·simp only[Zt U] at z
    have:(dc ts i).k=107:=aaY Prod.fst z.1;omega
  obtain⟨r,g',hr,I⟩:=vX h J;obtain⟨V,Y⟩:=O (s,c) (by simp)
  have q:=I0 V Y G.left hr;rcases I with⟨_,I⟩|⟨Z,_⟩
  ·rw[q.at_] at I
   have aa:(dc ts (i+(ry (s,c)).length+(nP pol).length)).k=101:=by
    rw[ZC] at E;rw[aaV];exact E
   obtain⟨ok,new,D,h1,h2,h3⟩:=ih g' _ r.L (xs++[r.it]) R (fun p ab=>O p (by simp[ab])) G.right aa I
   obtain⟨n1,ac⟩:=q.new;refine⟨ok,n1++new,r.it::D,by rw[h1,ac];simp,by rw[h2];simp,?_⟩
   refine⟨q.name,q.allow,by rw[h1];exact q.is.more _,q.top,by rw[q.parts,q.len],?_⟩
   rw[q.parts];exact h3
  ·rw[q.ok] at Z;cases Z
theorem MX (h:ts.map wd=z++[(101,[])]):Mt ts 0 z∧(dc ts (0+z.length)).k=101:=by
 have D:∀(z:List (Nat×List UInt8)) (pre ts:List Tok),ts.map wd=z++[(101,[])]→Mt (pre++ts) pre.length z∧(dc (pre++ts) (pre.length+z.length)).k=101:=by
  intro z
  induction z with
  |nil=>
   intro pre ts h;obtain⟨t,rfl⟩:∃t,ts=[t]:=by
    have:ts.length=1:=by have:=aaY List.length h;simpa using this
    exact aaP.1 this
   simp at h;refine⟨trivial,?_⟩;unfold dc;simp[Zs];exact aaY Prod.fst h
  |cons w z ih=>
   intro pre ts h
   cases ts with
   |nil=>simp at h
   |cons t ts=>
    simp at h;have:=ih (pre++[t]) ts h.2;simp at this;refine⟨⟨?_,this.1⟩,?_⟩
    ·unfold dc;simp[Zs];exact h.1
    ·rw[show pre.length+(w::z).length=pre.length+1+z.length from by simp;omega];exact this.2
 exact D z [] ts h
def C8 {β:Type} (N:Tok→List β→β) (z:β):Nat→List Pt→Nat→β
 |0,_,_=>z
 |f+1,L,i=>N (L.getD i dh).tok ((L.getD i dh).subs.map (C8 N z f L))
def wq (s:Sy):Tok:=⟨s.k,s.text,0⟩
def jY {β:Type} (N:Tok→List β→β) (z:β):Nat→Sy→β
 |0,_=>z
 |d+1,s=>N (wq s) (s.kids.map (jY N z d))
def Fair {β:Type} (N:Tok→List β→β):Prop:= ∀(t:Tok) (s:Sy) (l:List β),uS t s→(t.k=110→l=[])→N t l=N (wq s) l
theorem MY {β:Type} (F:Nat→β) (G:Sy→β) {ks:List Sy} (D:js.length=ks.length) (h:∀j,j<ks.length→F (js.getD j 0)=G (ks.getD j Oi)):js.map F=ks.map G:=by
 apply abD
 ·simp[D]
 ·intro j I E
  have z:j<ks.length:=by simpa using E
  have:=h j z;simp only[List.getElem_map];rw[Zs,Zs,Zv (by omega),Zv z] at this
  exact this
theorem zB (h:rq p) (z:p.tok.k=110):p.subs=[]:=by
 rcases h with⟨_,h⟩|⟨h,_⟩|⟨h,_⟩|⟨n,_,h,_⟩
 ·exact h
 ·unfold fX at h;rw[z] at h;simp at h
 ·unfold fX at h;rw[z] at h;simp at h
 ·unfold gD at h;rw[z] at h;simp at h
theorem sJ {β:Type} {N:Tok→List β→β} {z:β} (J:Fair N) (f:Nat):∀{d:Nat} {L:List Pt} {D i:Nat} {s:Sy},eK f L D i→oH d L i s→C8 N z f L i=jY N z d s:=by
 induction f with
 |zero=>intro d L D i s h;exact h.elim
 |succ f ih=>
  intro d L D i s E G
  cases d with
  |zero=>exact G.elim
  |succ d=>
   obtain⟨Y,O,h3,R⟩:=G;rw[C8,jY,J _ s _ O (fun e=>by rw[zB E.2.1 e];rfl)]
   rw[MY (C8 N z f L) (jY N z d) h3 fun j U=>?_]
   obtain⟨V,I⟩:=jX _ E.2.2 ((L.getD i dh).subs.getD j 0) (by
    generalize (L.getD i dh).subs=q at*;rw[Zs,Zv (by omega)]
    exact ZV _)
   exact ih I (R j U)
def uf (t:Tok) (l:List (List UInt8)):List UInt8:=if t.k=110 then fT (eP t.text) else yw t.text l
theorem Di:Fair uf:=fun t s l h _=>by
 obtain⟨D,z⟩:=h;unfold uf wq;rw[D]
 by_cases h:s.k=110
 ·rw[Zu h] at z⊢;rw[Zu h,z]
 ·rw[Zt h] at z⊢;rw[Zt h,z]
theorem I1 (f:Nat) (L:List Pt):∀i,zA f L i=C8 uf [] f L i:=by
 induction f with
 |zero=>intro i;rfl
 |succ f ih=>intro i;rw[zA,C8,uf,Z5 fun j _=>ih j]
theorem FY (d:Nat):∀s,eB d s=jY uf [] d s:=by
 induction d with
 |zero=>intro s;rfl
 |succ d ih=>intro s;rw[eB,jY,uf,Z5 fun j _=>ih j];rfl
def sK (_:Tok) (l:List Nat):Nat:=l.foldl max 0+1
theorem MZ (f:Nat) (L:List Pt):∀i,dep f L i=C8 sK 1 f L i:=by
 induction f with
 |zero=>intro i;rfl
 |succ f ih=>
  intro i;rw[dep,C8,sK,jc,List.foldl_map];have:∀(js:List Nat) (m:Nat),List.foldl (fun m j=>max m (dep f L j)) m js=List.foldl (fun x y=>max x (C8 sK 1 f L y)) m js:=by
   intro js
   induction js with
   |nil=>intro m;rfl
   |cons j js z=>intro m;rw[aaz,aaz,ih j];exact z _
  rw[this]
def dS (d:Nat) (s:Sy):Nat:=jY sK 1 d s
def re (good:List UInt8→Bool) (t:Tok) (l:List Bool):Bool:=if t.k=111 then good t.text else l.all id
theorem I2 (good:List UInt8→Bool):Fair (re good):=fun t s l h _=>by
 obtain⟨D,z⟩:=h;unfold re wq;rw[D]
 by_cases h:s.k=111
 ·rw[Zt (by omega)] at z;rw[Zu h,Zu h,z]
 ·rw[Zt h,Zt h]
theorem zC {G:Nat→Bool} (h:∀j,F j=none↔G j=true) (js:List Nat):fS F js=none↔(js.map G).all id=true:=by
 induction js with
 |nil=>simp[fS]
 |cons j js ih=>
  rw[fS]
  cases z:F j with
  |some p=>
   have: ¬G j=true:=fun e=>by rw[(h j).2 e] at z;cases z
   simp[this]
  |none=>
   have:=(h j).1 z;simp only[ZS,List.all_cons,this,id,aaG];exact ih
theorem M0 {good:List UInt8→Bool} (z:∀t,t.k=111→bad t=!good t.text) (f:Nat) (L:List Pt):∀i,kr bad f L i=none↔C8 (re good) true f L i=true:=by
 induction f with
 |zero=>intro i;simp[kr,C8]
 |succ f ih=>
  intro i;rw[kr,C8,re]
  by_cases h:(L.getD i dh).tok.k=111
  ·rw[Zu h,Zu h,z _ h]
   cases good (L.getD i dh).tok.text<;>simp
  ·rw[Zt h,Zt h]
   exact zC (fun j=>ih j) _
def wu (good:List UInt8→Bool) (d:Nat) (s:Sy):Bool:=jY (re good) true d s
def uT (xs:List dY) (its:List UInt8) (t:Tok) (l:List UInt8):UInt8:=if l.contains 0 then 0 else UInt8.ofNat (fY xs its t l)
theorem Lh (xs:List dY) (its:List UInt8):Fair (uT xs its):=fun t s l h _=>by
 obtain⟨D,z⟩:=h;unfold uT wq fY;rw[D]
 by_cases h:s.k=110
 ·simp only[Zu h]
 ·rw[Zt h] at z;rw[z]
theorem Ok (xs:List dY) (its:List UInt8) (f:Nat) (L:List Pt):∀i,eU xs its L f i=C8 (uT xs its) 0 f L i:=by
 induction f with
 |zero=>intro i;rfl
 |succ f ih=>intro i;rw[eU,C8,uT,Z5 fun j _=>ih j]
def IK (xs:List dY) (its:List UInt8) (d:Nat) (s:Sy):UInt8:=jY (uT xs its) 0 d s
theorem nG (h:xs.map dY.name=ys.map dY.name) (s:List UInt8):∀k,dN xs s k=dN ys s k:=by
 induction xs generalizing ys with
 |nil=>
  intro k
  cases ys with
  |nil=>rfl
  |cons=>simp at h
 |cons x xs ih=>
  intro k
  cases ys with
  |nil=>simp at h
  |cons y ys=>
   simp at h
   cases k with
   |zero=>rfl
   |succ k=>rw[dN,dN,h.1,ih h.2 k]
theorem FZ (h:xs.map dY.name=ys.map dY.name) (its:List UInt8):uT xs its=uT ys its:=by
 funext t l
 unfold uT fY;rw[nG h]
def mo (s:qZ):dY:=⟨s.name,s.allow,0,0,0,0⟩
theorem pR.names:∀{pol:List qZ} {fr:Nat},pR d L xs pol fr→xs.map dY.name=(pol.map mo).map dY.name:=by
 induction xs with
 |nil=>intro pol fr h;cases pol with
  |nil=>rfl
  |cons=>exact h.elim
 |cons x xs ih=>intro pol fr h;cases pol with
  |nil=>exact h.elim
  |cons s pol=>simp only[ZS,h.1,ih h.2.2.2.2.2];rfl
def sL (d:Nat):List qZ→Nat→Nat→Nat→Bool
 |[],_,_,_=>true
 |s::r,lets,i,fr=>
  !decide (10<lets+(if s.name==[] then 0 else 1)∨20<i+1 - (lets+(if s.name==[] then 0 else 1))∨200<fr+cS d s.sy∨20<dS d s.sy)&&sL d r (lets+(if s.name==[] then 0 else 1)) (i+1) (fr+cS d s.sy)
def nQ (xs:List dY) (i:Nat) (s:List UInt8):Bool:=decide (0≤dN xs s i)
def lu (xs:List dY) (d:Nat):List qZ→Nat→Bool
 |[],_=>true
 |s::r,i=>!decide (s.name≠[]∧0≤dN xs s.name i)&&(wu (nQ xs i) d s.sy&&lu xs d r (i+1))
def oI (xs:List dY) (d:Nat):List qZ→List UInt8→Bool
 |[],_=>true
 |s::r,its=>!decide ((IK xs its d s.sy).toNat=0∨(s.name=[]∧(IK xs its d s.sy).toNat≠116))&&oI xs d r (its++[IK xs its d s.sy])
theorem F9:∀{pol:List qZ} {fr z:Nat} (lets i:Nat),fB L xs z→pR d L xs pol fr→(ir L xs lets i=none↔sL d pol lets i fr=true):=by
 induction xs with
 |nil=>intro pol fr z lets i _ h;cases pol with
  |nil=>simp[ir,sL]
  |cons=>exact h.elim
 |cons x xs ih=>intro pol fr z lets i G h;cases pol with
  |nil=>exact h.elim
  |cons s pol=>
   obtain⟨J,U,h3,V,I,O⟩:=h;have R:dep (x.top+1) L x.top=dS d s.sy:=by rw[MZ];exact sJ (fun _ _ _ _ _=>rfl) _ G.1.fit h3
   have E:=ih (pol:=pol) (fr:=x.parts) (lets+(if s.name==[] then 0 else 1)) (i+1) G.2.2 O
   rw[ir,sL,R,J,I];rw[I] at E
   by_cases D:10<lets+(if s.name==[] then 0 else 1)∨20<i+1 - (lets+(if s.name==[] then 0 else 1))∨200<fr+cS d s.sy∨20<dS d s.sy
   ·rw[Zu D,aad D];simp
   ·rw[Zt D,Z4 D];simpa using E
theorem Dj (J:ic L):∀{pol:List qZ} {fr z:Nat} (i:Nat),fB L xs z→pR d L xs pol fr→(eM ys L xs z i=none↔lu ys d pol i=true):=by
 induction xs with
 |nil=>intro pol fr z i _ h;cases pol with
  |nil=>simp[eM,lu]
  |cons=>exact h.elim
 |cons x xs ih=>intro pol fr z i G h;cases pol with
  |nil=>exact h.elim
  |cons s pol=>
   obtain⟨O,V,h3,I,Y,R⟩:=h;have U:kr (nF ys i) (x.top+1) L x.top=none↔wu (nQ ys i) d s.sy=true:=by
    rw[M0 (good:=nQ ys i) (fun t _=>by unfold nF nQ;by_cases h:0≤dN ys t.text i<;>simp[h]<;>omega),sJ (I2 _) _ G.1.fit h3];rfl
   have E:=ih (pol:=pol) (fr:=x.parts) (i+1) G.2.2 R;have e:=(eK.res (xs:=ys) (n:=i) J.up G.1.fit).1;rw[←I] at E;rw[eM,←I,e,lu,O]
   by_cases D:s.name≠[]∧0≤dN ys s.name i
   ·rw[Zu D,aad D];simp
   ·rw[Zt D,Z4 D]
    simp only[Bool.not_false,aaG,abb,Option.or_eq_none_iff];rw[U,E]
theorem Dk (G:ys.map dY.name=zs.map dY.name):∀{pol:List qZ} {fr z:Nat} (its:List UInt8),fB L xs z→pR d L xs pol fr→(fA ys L xs its=none↔oI zs d pol its=true):=by
 induction xs with
 |nil=>intro pol fr z its _ h;cases pol with
  |nil=>simp[fA,oI]
  |cons=>exact h.elim
 |cons x xs ih=>intro pol fr z its E h;cases pol with
  |nil=>exact h.elim
  |cons s pol=>
   obtain⟨I,R,h3,U,V,J⟩:=h;have O:eU ys its L (x.top+1) x.top=IK zs its d s.sy:=by
    rw[Ok,sJ (Lh _ _) _ E.1.fit h3,FZ G];rfl
   rw[fA,oI,O,I]
   by_cases D:(IK zs its d s.sy).toNat=0∨(s.name=[]∧(IK zs its d s.sy).toNat≠116)
   ·rw[Zu D,aad D];simp
   ·rw[Zt D,Z4 D]
    simp only[Bool.not_false,aaG];exact ih _ E.2.2 J
theorem zD (h:xs.map dY.name=ys.map dY.name) (d:Nat) (pol:List qZ):∀i,lu xs d pol i=lu ys d pol i:=by
 induction pol with
 |nil=>intro i;rfl
 |cons s pol ih=>
  intro i;have e:nQ xs i=nQ ys i:=by funext t;unfold nQ;rw[nG h]
  rw[lu,lu,nG h,e,ih]
def MC (d:Nat) (pol:List qZ):Prop:=sL d pol 0 0 0=true∧lu (pol.map mo) d pol 0=true∧oI (pol.map mo) d pol []=true
theorem zE (U:R.ok=true) {pol:List qZ} (V:ic R.L) (D:fB R.L R.xs 0) (z:pR d R.L R.xs pol 0):(eC ts R=(0,0)↔MC d pol)∧((eC ts R).1=0→MC d pol):=by
 have O:=F9 0 0 D z;have E:=Dj (ys:=R.xs) V 0 D z;rw[zD z.names] at E;have h3:=Dk z.names [] D z;unfold eC MC;rw[Zt (by rw[U];simp)]
 cases G:ir R.L R.xs 0 0 with
 |some p=>
  have: ¬sL d pol 0 0 0=true:=fun h=>by rw[O.2 h] at G;cases G
  simp[this]
 |none=>
  have Y:=O.1 G;simp only[]
  cases I:eM R.xs R.L R.xs 0 0 with
  |some p=>
   have: ¬lu (pol.map mo) d pol 0=true:=fun h=>by rw[E.2 h] at I;cases I
   simp[this]
  |none=>
   have Z:=E.1 I;simp only[]
   cases J:fA R.xs R.L R.xs [] with
   |some p=>
    have: ¬oI (pol.map mo) d pol []=true:=fun h=>by rw[h3.2 h] at J;cases J
    simp[this]
   |none=>
    have k3:=h3.1 J;simp[Y,Z,k3]
def wB (s:qZ):List UInt8:=if s.name=[] then(if s.allow then qx else pP) else mK++s.name++xY
def kG (d:Nat) (pol:List qZ):List UInt8:=pol.flatMap fun s=>wB s++eB d s.sy++[59,10]
theorem Dl:∀{pol:List qZ} {fr z:Nat},fB L xs z→pR d L xs pol fr→Dg L xs=kG d pol:=by
 induction xs with
 |nil=>intro pol fr z _ h;cases pol with
  |nil=>rfl
  |cons=>exact h.elim
 |cons x xs ih=>intro pol fr z D h;cases pol with
  |nil=>exact h.elim
  |cons s pol=>
   obtain⟨E,G,h3,J,O,I⟩:=h;have e:IV L x=wB s++eB d s.sy++[59,10]:=by
    unfold IV MA wB;rw[E,G,I1,FY,sJ Di _ D.1.fit h3]
   have:=ih D.2.2 I;unfold Dg kG at*;rw[abh,abh,e,this]
theorem LX.nl (h:LX s D):LX (10::s) D:=h.blank (by decide)
theorem LX.semi (h:LX s z):LX (59::s) ((115,[59])::z):=h.sign (by decide)
def Dm (s:qZ):Prop:=s.name=[]∨((∀c∈s.name,lf c=true)∧pL s.name=false∧s.name.length≤8∧s.allow=false)
theorem Ga (pol:List qZ):(∀s∈pol,MB d s.sy∧Dm s)→LX (kG d pol) (nP (pol.map fun s=>(s,iu d s.sy))):=by
 induction pol with
 |nil=>intro _;exact LX.nil
 |cons s pol ih=>
  intro h;obtain⟨E,G⟩:=h s (by simp)
  have J:=ih fun s E=>h s (by simp[E])
  have e:kG d (s::pol)=wB s++(eB d s.sy++(59::10::kG d pol)):=by unfold kG;simp
  have O:nP ((s::pol).map fun s=>(s,iu d s.sy))=hW s++(iu d s.sy++((115,[59])::nP (pol.map fun s=>(s,iu d s.sy)))):=by simp[nP,ry]
  rw[e,O];have I:=FV d E J.nl.semi (jM (by decide) _)
  unfold wB hW
  by_cases z:s.name=[]
  ·rw[Zu z,Zu z]
   have D:=(I.sp.kw (fE _) l9 (by decide)).sp
   cases s.allow with
   |true=>exact D.kw (fE _) jD (by decide)
   |false=>exact D.kw (fE _) nE (by decide)
  ·rw[Zt z,Zt z]
   rcases G with G|⟨R,U,V,_⟩
   ·exact absurd G z
   have D:LX (61::32::(eB d s.sy++(59::10::kG d pol))) _:=I.sp.sign (by decide)
   have h3:=(D.sp.letters (fE _) z R (.inr ⟨U,V,rfl⟩)).sp.kw (fE _) tW (by decide)
   rw[show mK++s.name++xY++(eB d s.sy++(59::10::kG d pol))=tW++(32::(s.name++(32::61::32::(eB d s.sy++(59::10::kG d pol))))) from by simp[mK,xY,tW]]
   exact h3
end Go.Proofs.YtfkdailfcmnjlaaGreatDoor
