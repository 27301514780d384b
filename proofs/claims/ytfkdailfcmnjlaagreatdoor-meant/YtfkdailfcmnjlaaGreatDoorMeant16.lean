/-
  A part.
-/
import Derived.Test.YtfkdailfcmnjlaaGreatDoorMeant15
import Derived.Laws.CopyOwn
set_option linter.unusedVariables false
set_option linter.unusedSimpArgs false
set_option maxHeartbeats 40000000
set_option maxRecDepth 1000000
namespace Go.Proofs.YtfkdailfcmnjlaaGreatDoor
open Go Go.RowKit Tryz
attribute [local go_sem ↓] Go.wp_at_zero Go.wp_at_succ
variable {w w':World} {g k j n d:Nat} {ty:TypeId} {f f':Nat→List UInt8×Int} {x l s:List UInt8} {y c b v:Int} {xs ys zs:List dY} {fl:List Int} {z D:List (Nat×List UInt8)}
theorem xu:(prog.info? 108).map (fun i=>(i.zero,i.size,i.bytes))=some (some (.agg #[.string ⟨#[]⟩,Iq 0]),2,24):=by kernel_rfl
theorem vh:(prog.info? 110).map (fun i=>(i.zero,i.size,i.bytes))=some (some (.agg #[.string ⟨#[]⟩,Iq 0]),2,24):=by kernel_rfl
structure jT (w:World) (g:Nat) (ty:TypeId) (k:Nat) (f:Nat→List UInt8×Int):Prop where
 blk:∃cs,w.heap[g]?=some (.cells cs ty (0,0))∧cs.size=k*2
 fst:∀j,j<k→w.cell? ⟨g,j*2,none⟩=some (S (f j).1)
 snd:∀j,j<k→w.cell? ⟨g,j*2+1,none⟩=some (Iq (f j).2)
theorem jT.frz (h:jT w g ty k f) (j:Nat):w.frozen? ⟨g,j,none⟩=false:=by
 obtain⟨cs,z,_⟩:=h.blk;simp[World.frozen?,z]
theorem jT.of_block (h:jT w g ty k f) (z:w'.heap[g]?=w.heap[g]?):jT w' g ty k f:=
 ⟨by rw[z];exact h.blk,fun j D=>by rw[ZI (w:=w) (a:=⟨g,j*2,none⟩) z];exact h.fst j D,fun j D=>by rw[ZI (w:=w) (a:=⟨g,j*2+1,none⟩) z];exact h.snd j D⟩
theorem jT.put (h:jT w g ty k f) (U:j<k) (E:f' j=(x,y)) (G:∀i,i<k→i≠j→f' i=f i):jT ((w.setCell ⟨g,j*2,none⟩ (S x)).setCell ⟨g,j*2+1,none⟩ (Iq y)) g ty k f':=by
 obtain⟨cs,I,O⟩:=h.blk;have R:=ZK w g (j*2) cs ty (S x) I;have J:=ZK _ g (j*2+1) _ ty (Iq y) R;have z:∀q,((w.setCell ⟨g,j*2,none⟩ (S x)).setCell ⟨g,j*2+1,none⟩ (Iq y)).cell? ⟨g,q,none⟩=if q=j*2+1 then some (Iq y) else if q=j*2 then some (S x) else w.cell? ⟨g,q,none⟩:=fun q=>by
  rw[Zz _ g q _ _ _ J,Zz w g q _ _ _ I]
  by_cases a:q=j*2+1
  ·subst a;rw[Zu rfl,aaE,Zu rfl,Zu (by simp;omega)]
  ·rw[Zt a]
   by_cases b:q=j*2
   ·subst b;rw[Zu rfl,aaT (by omega),aaE,Zu rfl,Zu (by omega)]
   ·rw[Zt b,aaT (by omega),aaT (by omega)]
 refine⟨⟨_,J,by simpa using O⟩,fun i D=>?_,fun i D=>?_⟩
 ·rw[z]
  by_cases e:i=j
  ·subst e;rw[Zt (by omega),Zu rfl,E]
  ·rw[Zt (by omega),Zt (by omega),G i D e];exact h.fst i D
 ·rw[z]
  by_cases e:i=j
  ·subst e;rw[Zu rfl,E]
  ·rw[Zt (by omega),Zt (by omega),G i D e];exact h.snd i D
def iO (D:List (List UInt8×Int)):List Value:=D.flatMap fun x=>[S x.1,Iq x.2]
theorem za (z:List (List UInt8×Int)):∀j,j<z.length→(iO z)[j*2]?=some (S (z.getD j ([],0)).1)∧(iO z)[j*2+1]?=some (Iq (z.getD j ([],0)).2):=by
 induction z with
 |nil=>intro j D;simp at D
 |cons x r ih=>
  intro j D;have e:iO (x::r)=S x.1:: Iq x.2::iO r:=rfl
  cases j with
  |zero=>rw[e];exact⟨rfl,rfl⟩
  |succ j=>
   obtain⟨a,b⟩:=ih j (by simpa using D)
   rw[e,show(j+1)*2=j*2+1+1 by omega,show j*2+1+1+1=(j*2+1)+1+1 by omega]
   simp only[aaI,ZX];exact⟨a,b⟩
theorem jT.there (h:jT w g ty k f) (D:n≤k*2):(∀j,j<n→(w.cell? ⟨g,0+j,none⟩).isSome=true)∧ ∀j,j<n→w.frozen? ⟨g,0+j,none⟩=false:=by
 obtain⟨cs,z,E⟩:=h.blk;exact⟨fun j G=>by rw[aaq,Zz w g j _ _ _ z];simp;omega,fun j _=>h.frz _⟩
def kW (c:Int) (n:Nat):Nat:=((if c<0 then -(c+1) else c) %(n:Int)).toNat
theorem kX (c:Int) (h:0<n):kW c n<n:=by
 unfold kW;have z:=abr (if c<0 then -(c+1) else c) (b:=(n:Int)) (by omega)
 have D:=ace (if c<0 then -(c+1) else c) (b:=(n:Int)) (by omega)
 omega
theorem lH (J:dG c) (U:0<n) (Y:n≤9223372036854775807) (w:World):Calls prog 36 #[Iq c,Iq n] w fun e w'=>e= .returned (Iq (kW c n:Nat))∧w'=w:=by
 have E:Hid (((kW c n:Nat):Int)=(if c<0 then -(c+1) else c) %(n:Int)):=by
  show _=_
  unfold kW;have V:=abr (if c<0 then -(c+1) else c) (b:=(n:Int)) (by omega)
  omega
 have Z:=kX c U;generalize kW c n=R at*;unfold dG at J;obtain⟨V,h2⟩:=J
 by_cases O:c<0
 ·have z:Hid ((R:Int)=(-(c+1)) %(n:Int)):=by have:=E.out;rw[Zu O] at this;exact this
  have G:(0:Int)≤ -(c+1):=by omega
  have ac:IntKind.i64.wrap (c+1)=c+1:=by rw[ZY];omega
  have ad:IntKind.i64.wrap (-(c+1))= -(c+1):=by rw[ZY];omega
  have I:(-(c+1)).tmod (n:Int)=(R:Int):=by rw[z.out];exact aaO G
  go_enter func36,ntmps36
  go_wp2
  go_ret;exact⟨by first|rfl|simp[I,D],rfl⟩
 ·have z:Hid ((R:Int)=c %(n:Int)):=by have:=E.out;rw[Zt O] at this;exact this
  have G:(0:Int)≤c:=by omega
  have I:c.tmod (n:Int)=(R:Int):=by rw[z.out];exact aaO G
  go_enter func36,ntmps36
  go_wp2
  go_ret;exact⟨by first|rfl|simp[I,D],rfl⟩
theorem xw (n:Int) (w:World):Calls prog 123 #[Iq n] w fun e w'=>e= .returned (Iq (fe n))∧w'=w:=by
 by_cases D:n<0
 ·have z:Hid (fe n=0):=by show _=_;unfold fe;rw[Zu (.inl D)]
  have E: ¬0≤n:=by omega
  go_enter func123,ntmps123
  go_wp2
  go_ret;exact⟨by rw[z.out];rfl,rfl⟩
 ·have E:0≤n:=by omega
  by_cases I:n≤4
  ·have z:Hid (fe n=n):=by show _=_;unfold fe;rw[Zt (by omega)]
   go_enter func123,ntmps123
   go_wp2
   go_ret;exact⟨by rw[z.out];first|rfl|simp[G],rfl⟩
  ·have z:Hid (fe n=0):=by show _=_;unfold fe;rw[Zu (.inr (by omega))]
   go_enter func123,ntmps123
   go_wp2
   go_ret;exact⟨by rw[z.out];rfl,rfl⟩
theorem jr (b:Bool) (w:World):Calls prog 76 #[.bool b] w fun e w'=>e= .returned (Iq (dq b))∧w'=w:=by
 cases b
 all_goals
  go_enter func76,ntmps76
  go_wp2
  go_ret;exact⟨rfl,rfl⟩
theorem xx (a b c:Nat) (J:a≤1000) (O:b≤1000) (R:c≤1000) (w:World):Calls prog 124 #[Iq a,Iq b,Iq c] w fun e w'=>e= .returned (Iq ((max (max a b) c+1:Nat):Int))∧w'=w:=by
 by_cases U:a<b
 ·have G:max a b=b:=by omega
  rw[G]
  by_cases I:b<c
  ·have z:max b c=c:=by omega
   rw[z];have D:(a:Int)<b:=by omega
   have E:(b:Int)<c:=by omega
   go_enter func124,ntmps124
   go_wp2
   go_ret;exact⟨by go_num,rfl⟩
  ·have z:max b c=b:=by omega
   rw[z];have D:(a:Int)<b:=by omega
   have E: ¬(b:Int)<c:=by omega
   go_enter func124,ntmps124
   go_wp2
   go_ret;exact⟨by go_num,rfl⟩
 ·have G:max a b=a:=by omega
  rw[G]
  by_cases I:a<c
  ·have z:max a c=c:=by omega
   rw[z];have D: ¬(a:Int)<b:=by omega
   have E:(a:Int)<c:=by omega
   go_enter func124,ntmps124
   go_wp2
   go_ret;exact⟨by go_num,rfl⟩
  ·have z:max a c=a:=by omega
   rw[z];have D: ¬(a:Int)<b:=by omega
   have E: ¬(a:Int)<c:=by omega
   go_enter func124,ntmps124
   go_wp2
   go_ret;exact⟨by go_num,rfl⟩
theorem zb {x:Int} (G: -9223372036854775808≤x) (I:x≤9223372036854775807):dM x=x:=by unfold dM;rw[Zt (by omega),Zt (by omega)]
theorem G6 {a:Int} (O:dG a) (R:dG b) (w:World):Calls prog 74 #[Iq a,Iq b] w fun e w'=>e= .returned (Iq (dM (a+b)))∧w'=w:=by
 unfold dG at O R
 by_cases D: -9223372036854775808≤a+b∧a+b≤9223372036854775807
 ·have J:IntKind.i64.wrap (a+b)=a+b:=wrap64 D
  have z:Hid (dM (a+b)=a+b):=zb D.1 D.2;have E: ¬(0<a∧0<b∧a+b<0):=by omega
  have G: ¬(a<0∧b<0∧0≤a+b):=by omega
  by_cases U:0<a
  ·have a1: ¬a<0:=by omega
   by_cases I:0<b
   ·have c0: ¬a+b<0:=by omega
    go_enter func74,ntmps74;go_wp2;go_ret;exact⟨by rw[z.out];rfl,rfl⟩
   ·clear E G
    go_enter func74,ntmps74;go_wp2;go_ret;exact⟨by rw[z.out];rfl,rfl⟩
  ·by_cases a1:a<0
   ·by_cases I:b<0
    ·have c0: ¬0≤a+b:=by omega
     go_enter func74,ntmps74;go_wp2;go_ret;exact⟨by rw[z.out];rfl,rfl⟩
    ·clear E G
     go_enter func74,ntmps74;go_wp2;go_ret;exact⟨by rw[z.out];rfl,rfl⟩
   ·clear E G
    go_enter func74,ntmps74;go_wp2;go_ret;exact⟨by rw[z.out];rfl,rfl⟩
 ·by_cases V:0<a
  ·have I:0<b:=by omega
   have J:IntKind.i64.wrap (a+b)=a+b - 18446744073709551616:=by rw[ZY];omega
   have z:Hid (dM (a+b)=9223372036854775807):=by show _=_;unfold dM;rw[Zu (by omega)]
   have c0:a+b - 18446744073709551616<0:=by omega
   go_enter func74,ntmps74;go_wp2;go_ret;exact⟨by rw[z.out];rfl,rfl⟩
  ·have U:a<0:=by omega
   have I:b<0:=by omega
   have J:IntKind.i64.wrap (a+b)=a+b+18446744073709551616:=by rw[ZY];omega
   have z:Hid (dM (a+b)= -9223372036854775808):=by show _=_;unfold dM;rw[Zt (by omega),Zu (by omega)]
   have c0:0≤a+b+18446744073709551616:=by omega
   go_enter func74,ntmps74;go_wp2;go_ret;exact⟨by rw[z.out];rfl,rfl⟩
theorem D9 {a:Int} (I:dG a) (J:dG b) (w:World):Calls prog 75 #[Iq a,Iq b] w fun e w'=>e= .returned (Iq (dM (a - b)))∧w'=w:=by
 unfold dG at I J
 by_cases D: -9223372036854775808≤a - b∧a - b≤9223372036854775807
 ·have G:IntKind.i64.wrap (a - b)=a - b:=wrap64 D
  have z:Hid (dM (a - b)=a - b):=zb D.1 D.2
  by_cases O:0≤a
  ·have a1: ¬a<0:=by omega
   by_cases E:b<0
   ·have c0: ¬a - b<0:=by omega
    go_enter func75,ntmps75;go_wp2;go_ret;exact⟨by rw[z.out];rfl,rfl⟩
   ·go_enter func75,ntmps75
    go_wp2;go_ret;exact⟨by rw[z.out];rfl,rfl⟩
  ·have a1:a<0:=by omega
   by_cases E:0<b
   ·have c0: ¬0≤a - b:=by omega
    go_enter func75,ntmps75;go_wp2;go_ret;exact⟨by rw[z.out];rfl,rfl⟩
   ·go_enter func75,ntmps75
    go_wp2;go_ret;exact⟨by rw[z.out];rfl,rfl⟩
 ·by_cases R:0≤a
  ·have E:b<0:=by omega
   have G:IntKind.i64.wrap (a - b)=a - b - 18446744073709551616:=by rw[ZY];omega
   have z:Hid (dM (a - b)=9223372036854775807):=by show _=_;unfold dM;rw[Zu (by omega)]
   have c0:a - b - 18446744073709551616<0:=by omega
   go_enter func75,ntmps75;go_wp2;go_ret;exact⟨by rw[z.out];rfl,rfl⟩
  ·have O:a<0:=by omega
   have E:0<b:=by omega
   have G:IntKind.i64.wrap (a - b)=a - b+18446744073709551616:=by rw[ZY];omega
   have z:Hid (dM (a - b)= -9223372036854775808):=by show _=_;unfold dM;rw[Zt (by omega),Zu (by omega)]
   have c0:0≤a - b+18446744073709551616:=by omega
   go_enter func75,ntmps75;go_wp2;go_ret;exact⟨by rw[z.out];rfl,rfl⟩
def kY (xs:List dY) (vals fl:List Int) (t:Tok) (l:List Int):Int:=rD t.text (mr xs vals fl t) l
theorem G7 (xs:List dY) (vals fl:List Int):Fair (kY xs vals fl):=fun t s l h D=>by
 obtain⟨E,z⟩:=h;unfold kY wq mr
 by_cases h:s.k=110
 ·rw[Zu h] at z
  rw[D (by omega)]
  simp only[rD];rw[Zu (by omega),Zu h,z]
 ·rw[Zt h] at z;rw[E,z]
theorem LM (xs:List dY) (vals fl:List Int) (f:Nat) (L:List Pt):∀i,iH xs vals fl L f i=C8 (kY xs vals fl) 0 f L i:=by
 induction f with
 |zero=>intro i;rfl
 |succ f ih=>intro i;rw[iH,C8,kY,Z5 fun j _=>ih j]
def rL (xs:List dY) (vals fl:List Int) (d:Nat) (s:Sy):Int:=jY (kY xs vals fl) 0 d s
theorem Ch (h:xs.map dY.name=ys.map dY.name) (vals fl:List Int):kY xs vals fl=kY ys vals fl:=by
 funext t l
 unfold kY mr;rw[nG h]
def tD (xs:List dY) (fl:List Int) (d:Nat):List qZ→List Int→Nat→Option (Bool×Nat)
 |[],_,_=>none
 |s::r,vals,n=>
  if s.name=[] then(if rL xs vals fl d s.sy=1 then some (s.allow,n+1) else tD xs fl d r (vals++[rL xs vals fl d s.sy]) (n+1))
  else tD xs fl d r (vals++[rL xs vals fl d s.sy]) n
theorem G8 {L:List Pt} (G:ys.map dY.name=zs.map dY.name):∀{pol:List qZ} {fr z:Nat} (vals:List Int) (n:Nat),fB L xs z→pR d L xs pol fr→jq ys fl L xs vals n=tD zs fl d pol vals n:=by
 induction xs with
 |nil=>intro pol fr z vals n _ h;cases pol with
  |nil=>rfl
  |cons=>exact h.elim
 |cons x xs ih=>intro pol fr z vals n D h;cases pol with
  |nil=>exact h.elim
  |cons s pol=>
   obtain⟨I,J,h3,R,U,E⟩:=h;have O:iH ys vals fl L (x.top+1) x.top=rL zs vals fl d s.sy:=by
    rw[LM,sJ (G7 _ _ _) _ D.1.fit h3,Ch G];rfl
   rw[jq,tD,O,I,J,ih _ _ D.2.2 E,ih _ _ D.2.2 E]
theorem xy {pol:List (qZ×List (Nat×List UInt8))} (fl:List Int) (R:l.length≤1000) (U:LX l (nP pol)) (V:∀p∈pol,iV d 6 p.2 p.1.sy∧(p.1.name≠[]→p.1.allow=false)) (Y:MC d (pol.map Prod.fst)):
 jH l fl=(tD ((pol.map Prod.fst).map mo) fl d (pol.map Prod.fst) [] 0).getD (false,0):=by
 obtain⟨Z,D,h3⟩:=Cf R U V;have h4:=h3 Y;unfold jH;rw[Zu (by rw[h4]),G8 D.names [] 0 Z D]
structure Mk where
 text:List UInt8
 bare:List UInt8
 told:Int
 deep:Nat
structure Pp (fl:List Int) (ty:UInt8) (m:Mk) (s:Sy) (wb:List (Nat×List UInt8)) (d:Nat):Prop where
 sh:MB d s
 plain:eB d s=m.text
 few:3*cS d s≤m.text.length+2
 dep:dS d s≤m.deep
 own:wu (fun _=>false) d s=true
 ty:∀xs its,IK xs its d s=ty
 tell:∀xs vals,rL xs vals fl d s=m.told
 rd:iV d 6 wb s
structure gW (fl:List Int) (ty:UInt8) (m:Mk):Prop where
 is:∃s wb,(∀d,m.deep≤d→Pp fl ty m s wb d)∧ ∀rest ws,LX rest ws→K6 rest→LX (m.bare++rest) (wb++ws)
 one:1≤m.deep
 deep:m.deep≤12
 text:m.text.length≤140
 bare:m.bare.length≤140
 told:ya ty m.told
def MK (x:List UInt8):UInt8:=if 0≤dP dL x then([110,110,110,110,109,109,109,116,116]:List UInt8).getD (dP dL x).toNat 0 else if 0≤dP dX x then 109 else 116
theorem JV:∀x∈nO,∀(xs:List dY) (its:List UInt8),uT xs its ⟨107,x,0⟩ []=MK x:=by
 intro x z xs its;unfold uT fY;rw[Zt (by simp),Zt (by simp),Zt (by simp)]
 have:∀x∈nO,UInt8.ofNat (if 0≤dP dL x then(([110,110,110,110,109,109,109,116,116]:List UInt8).getD (dP dL x).toNat 0).toNat else if 0≤dP dX x then 109 else if x=jL∨x=ky then 116 else IQ x [])=MK x:=by decide
 exact this x z
theorem vP (z:x∈nO) (O:(if 0≤dP dL x then fl.getD (dP dL x).toNat 0 else if 0≤dP dX x then dP dX x else dq (x==jL))=v) (R:ya (MK x) v):gW fl (MK x) ⟨x,x,v,1⟩:=by
 obtain⟨G,U,V,I⟩:=ue x z;have Y:=(by decide:∀y∈nO,y.length≤10) x z
 refine⟨⟨⟨107,x,[]⟩,[(107,x)],fun d Z=>?_,fun rest ws h ho=>h.letters ho G U (.inl ⟨V,rfl⟩)⟩,Zw _,by show 1≤12;omega,by show x.length≤140;omega,by show x.length≤140;omega,R⟩
 obtain⟨d,rfl⟩:∃e,d=e+1:=⟨d - 1,by simp at Z;omega⟩
 have hl:=abj.2 G;refine⟨⟨.inl ⟨rfl,.inr (.inr ⟨rfl,z⟩)⟩,by simp⟩,?_,?_,?_,?_,?_,?_,?_⟩
 ·rw[eB];simp only[];rw[Zt (by decide)];rfl
 ·simp[cS];omega
 ·show jY sK 1 (d+1) ⟨107,x,[]⟩≤1
  rw[jY];simp[sK]
 ·show jY (re _) true (d+1) ⟨107,x,[]⟩=true
  rw[jY];simp[re,wq]
 ·intro xs its
  show jY (uT xs its) 0 (d+1) ⟨107,x,[]⟩=MK x
  rw[jY];exact JV x z xs its
 ·intro xs vals
  show jY (kY xs vals fl) 0 (d+1) ⟨107,x,[]⟩=v
  rw[jY]
  show mr xs vals fl ⟨107,x,0⟩=v
  unfold mr;rw[Zt (by simp),Zt (by simp)];exact O
 ·exact(iV.one (w:=(107,x)) I rfl ⟨rfl,by rw[Zt (by show ¬107=110;decide)]⟩).out (ud (w:=(107,x)) I) (Zw 6)
theorem JW (l:List UInt8):eP (48::l)=eP l:=by unfold eP;rw[aaz];rfl
theorem JX (G:k≤9223372036854775807):gW fl 110 ⟨fT k,48::fT k,k,1⟩:=by
 obtain⟨O,z,R⟩:=wo G;have U:(fT k).length≤20:=qw 20 k;have Z:0<(fT k).length:=abj.2 R;have I:eP (48::fT k)=k:=by rw[JW,z]
 refine⟨⟨⟨110,fT k,[]⟩,[(110,48::fT k)],fun d V=>?_,fun rest ws h Y=>?_⟩,Zw _,by show 1≤12;omega,by show(fT k).length≤140;omega,by show(48::fT k).length≤140;simp;omega,⟨by show dG (k:Int);unfold dG;omega,fun e=>by cases e⟩⟩
 ·obtain⟨d,rfl⟩:∃e,d=e+1:=⟨d - 1,by simp at V;omega⟩
  refine⟨⟨.inl ⟨rfl,.inl ⟨rfl,by show eP (fT k)≤_;omega⟩⟩,by simp⟩,?_,?_,?_,?_,?_,?_,?_⟩
  ·rw[eB];show(if 110=110 then fT (eP (fT k)) else _)=_;rw[Zu rfl,z]
  ·simp[cS];omega
  ·show jY sK 1 (d+1) ⟨110,fT k,[]⟩≤1
   rw[jY];simp[sK]
  ·show jY (re _) true (d+1) ⟨110,fT k,[]⟩=true
   rw[jY];simp[re,wq]
  ·intro xs its
   show jY (uT xs its) 0 (d+1) ⟨110,fT k,[]⟩=110
   rw[jY];rfl
  ·intro xs vals
   show jY (kY xs vals fl) 0 (d+1) ⟨110,fT k,[]⟩=(k:Int)
   rw[jY]
   show mr xs vals fl ⟨110,fT k,0⟩=(k:Int)
   unfold mr;rw[Zu rfl,z]
  ·have J:gR ⟨110,48::fT k,0⟩=true:=rfl
   exact(iV.one (w:=(110,48::fT k)) J rfl ⟨rfl,by rw[Zu rfl];rw[I];exact z.symm⟩).out (ud (w:=(110,48::fT k)) J) (Zw 6)
 ·exact h.digits Y (by simp) (fun c D=>by
   rcases ZU.1 D with rfl|D
   ·decide
   ·exact O c D) (by rw[I];exact G)
def Oe (x:List UInt8):UInt8:=if x=[43]∨x=[45] then 110 else 116
variable {a m:Mk}
theorem LN {R U:UInt8} {b:Mk} {w:Nat×List UInt8} (Z:gW fl R a) (hb:gW fl U b) (I:w∈pQ) (V:∀xs its,uT xs its ⟨w.1,w.2,0⟩ [R,U]=Oe w.2)
 (hd:max a.deep b.deep+1≤12) (ht:a.text.length+w.2.length+b.text.length+4≤140) (ab:a.bare.length+w.2.length+b.bare.length+4≤140) (hh:ya (Oe w.2) (n9 w.2 a.told b.told)):
 gW fl (Oe w.2) ⟨[40]++a.text++[32]++w.2++[32]++b.text++[41],[40]++a.bare++[41]++w.2++[40]++b.bare++[41],n9 w.2 a.told b.told,max a.deep b.deep+1⟩:=by
 obtain⟨z,wa,ea,la⟩:=Z.is;obtain⟨D,wb,eb,lb⟩:=hb.is;have O:1≤w.2.length∧w.1≠110∧w.1≠111:=by
  simp only[pQ,ZU,aal,abk] at I;rcases I with rfl|rfl|rfl|rfl|rfl|rfl|rfl<;>decide
 refine⟨⟨⟨w.1,w.2,[z,D]⟩,((115,[40])::(wa++[(115,[41])]))++w::((115,[40])::(wb++[(115,[41])])),fun d Y=>?_,fun rest ws h ho=>?_⟩,by show 1≤_+1;omega,hd,by simp;omega,by simp;omega,hh⟩
 ·simp only[] at Y
  obtain⟨d,rfl⟩:∃e,d=e+1:=⟨d - 1,by omega⟩
  have A:=ea d (by omega)
  have B:=eb d (by omega)
  refine⟨⟨.inr (.inr (.inr ⟨I,rfl⟩)),by simp;exact⟨A.sh,B.sh⟩⟩,?_,?_,?_,?_,?_,?_,?_⟩
  ·rw[eB];simp only[];rw[Zt O.2.1];show yw w.2 [eB d z,eB d D]=_;rw[A.plain,B.plain];rfl
  ·have:=A.few;have:=B.few
   simp[cS];omega
  ·show jY sK 1 (d+1) ⟨w.1,w.2,[z,D]⟩≤_
   have:=A.dep;have:=B.dep
   unfold dS at*;rw[jY];simp[sK];omega
  ·show jY (re _) true (d+1) ⟨w.1,w.2,[z,D]⟩=true
   have E:=A.own;have G:=B.own
   unfold wu at*;rw[jY];simp[re,wq,O.2.2,E,G]
  ·intro xs its
   show jY (uT xs its) 0 (d+1) ⟨w.1,w.2,[z,D]⟩=_
   have E:=A.ty xs its;have G:=B.ty xs its
   unfold IK at*;rw[jY];show uT xs its ⟨w.1,w.2,0⟩ [jY (uT xs its) 0 d z,jY (uT xs its) 0 d D]=_
   rw[E,G];exact V xs its
  ·intro xs vals
   show jY (kY xs vals fl) 0 (d+1) ⟨w.1,w.2,[z,D]⟩=_
   have E:=A.tell xs vals;have G:=B.tell xs vals
   unfold rL at*;rw[jY];show rD w.2 _ [jY (kY xs vals fl) 0 d z,jY (kY xs vals fl) 0 d D]=_
   rw[E,G];rfl
  ·exact iV.both I A.rd.brackets (gP _) B.rd.brackets (gP _)
 ·have E:=(lb _ _ h.shut (jN _)).opn
  have G:=A5 I E (jM (by decide) _) (fun c r e=>by simp at e;rw[←e.1];decide)
  have h3:=(la _ _ G.shut (jN _)).opn
  simpa using h3
theorem Np (E:gW fl 116 a) (I:a.deep+1≤12) (Z:a.text.length+6≤140) (Y:a.bare.length+5≤140):
 gW fl 116 ⟨nZ++a.text++[41],[110,111,116,40]++a.bare++[41],1 - a.told,a.deep+1⟩:=by
 obtain⟨z,J,O,R⟩:=E.is;have U:ya 116 (1 - a.told):=by
  obtain⟨D,V⟩:=E.told;have:=V rfl;unfold ya dG;omega
 refine⟨⟨⟨107,iq,[z]⟩,(107,iq)::((115,[40])::(J++[(115,[41])])),fun d G=>?_,fun rest ws h ho=>?_⟩,by show 1≤_+1;omega,I,by simp[nZ];omega,by simp;omega,U⟩
 ·simp only[] at G
  obtain⟨d,rfl⟩:∃e,d=e+1:=⟨d - 1,by omega⟩
  have A:=O d (by omega)
  refine⟨⟨.inr (.inl ⟨rfl,rfl,rfl⟩),by simp;exact A.sh⟩,?_,?_,?_,?_,?_,?_,?_⟩
  ·rw[eB];simp only[];rw[Zt (by decide)];show yw iq [eB d z]=_;rw[A.plain];rfl
  ·have:=A.few
   simp[cS,nZ];omega
  ·show jY sK 1 (d+1) ⟨107,iq,[z]⟩≤_
   have:=A.dep;unfold dS at*;rw[jY];simp[sK];omega
  ·show jY (re _) true (d+1) ⟨107,iq,[z]⟩=true
   have D:=A.own;unfold wu at*;rw[jY];simp[re,wq,D]
  ·intro xs its
   show jY (uT xs its) 0 (d+1) ⟨107,iq,[z]⟩=_
   have D:=A.ty xs its;unfold IK at*;rw[jY];show uT xs its ⟨107,iq,0⟩ [jY (uT xs its) 0 d z]=_
   rw[D];rfl
  ·intro xs vals
   show jY (kY xs vals fl) 0 (d+1) ⟨107,iq,[z]⟩=_
   have D:=A.tell xs vals;unfold rL at*;rw[jY];show rD iq _ [jY (kY xs vals fl) 0 d z]=_
   rw[D];rfl
  ·exact A.rd.brackets.nots (gP _)
 ·have D:=((R _ _ h.shut (jN _)).opn).kw (jM (by decide) _) iq (by decide)
  simpa [iq] using D
theorem Oz {x b:Mk} (Y:gW fl 116 x) (O:gW fl 110 a) (R:gW fl 110 b) (Z:max (max x.deep a.deep) b.deep+1≤12) (ht:x.text.length+a.text.length+b.text.length+17≤140) (aa:x.bare.length+a.bare.length+b.bare.length+16≤140):
 gW fl 110 ⟨sH++x.text++kD++a.text++kF++b.text++[41],[105,102,40]++x.bare++[41,116,104,101,110,40]++a.bare++[41,101,108,115,101,40]++b.bare++[41],if x.told=1 then a.told else b.told,max (max x.deep a.deep) b.deep+1⟩:=by
 obtain⟨z,wx,ex,U⟩:=Y.is;obtain⟨D,wa,ea,la⟩:=O.is;obtain⟨E,wb,eb,lb⟩:=R.is;have hv:ya 110 (if x.told=1 then a.told else b.told):=by split;exact O.told;exact R.told
 refine⟨⟨⟨107,l9,[z,D,E]⟩,(107,l9)::(((115,[40])::(wx++[(115,[41])]))++(107,iQ)::(((115,[40])::(wa++[(115,[41])]))++(107,iR)::((115,[40])::(wb++[(115,[41])])))),fun d V=>?_,fun rest ws h ho=>?_⟩,by show 1≤_+1;omega,Z,by simp[sH,kD,kF];omega,by simp;omega,hv⟩
 ·simp only[] at V
  obtain⟨d,rfl⟩:∃e,d=e+1:=⟨d - 1,by omega⟩
  have X:=ex d (by omega)
  have A:=ea d (by omega)
  have B:=eb d (by omega)
  refine⟨⟨.inr (.inr (.inl ⟨rfl,rfl,rfl⟩)),by simp;exact⟨X.sh,A.sh,B.sh⟩⟩,?_,?_,?_,?_,?_,?_,?_⟩
  ·rw[eB];simp only[];rw[Zt (by decide)];show yw l9 [eB d z,eB d D,eB d E]=_;rw[X.plain,A.plain,B.plain];rfl
  ·have:=X.few;have:=A.few;have:=B.few
   simp[cS,sH,kD,kF];omega
  ·show jY sK 1 (d+1) ⟨107,l9,[z,D,E]⟩≤_
   have:=X.dep;have:=A.dep;have:=B.dep
   unfold dS at*;rw[jY];simp[sK];omega
  ·show jY (re _) true (d+1) ⟨107,l9,[z,D,E]⟩=true
   have J:=X.own;have G:=A.own;have I:=B.own
   unfold wu at*;rw[jY];simp[re,wq,J,G,I]
  ·intro xs its
   show jY (uT xs its) 0 (d+1) ⟨107,l9,[z,D,E]⟩=_
   have J:=X.ty xs its;have G:=A.ty xs its;have I:=B.ty xs its
   unfold IK at*;rw[jY];show uT xs its ⟨107,l9,0⟩ [jY (uT xs its) 0 d z,jY (uT xs its) 0 d D,jY (uT xs its) 0 d E]=_
   rw[J,G,I];rfl
  ·intro xs vals
   show jY (kY xs vals fl) 0 (d+1) ⟨107,l9,[z,D,E]⟩=_
   have J:=X.tell xs vals;have G:=A.tell xs vals;have I:=B.tell xs vals
   unfold rL at*;rw[jY];show rD l9 _ [jY (kY xs vals fl) 0 d z,jY (kY xs vals fl) 0 d D,jY (kY xs vals fl) 0 d E]=_
   rw[J,G,I];rfl
  ·exact iV.if_ (X.rd.brackets.out (gP _) (Zw 6)) (A.rd.brackets.out (gP _) (Zw 6)) (B.rd.brackets.out (gP _) (Zw 6))
 ·have G:=((lb _ _ h.shut (jN _)).opn).kw (jM (by decide) _) iR (by decide)
  have I:=((la _ _ G.shut (jN _)).opn).kw (jM (by decide) _) iQ (by decide)
  have h3:=((U _ _ I.shut (jN _)).opn).kw (jM (by decide) _) l9 (by decide)
  simpa [l9,iQ,iR] using h3
def ek:List UInt8:=[102,105,114,115,116]
def ik (al:Bool):List UInt8:=if al then qx else pP
def vk (q:List (Mk×Bool)):List UInt8:=q.flatMap fun r=>ik r.2++r.1.text++[59,10]
def qi (q:List (Mk×Bool)):List UInt8:=q.flatMap fun r=>ik r.2++[10]++r.1.bare++[32,59]
def gh:List (Mk×Bool)→List UInt8
 |[]=>[]
 |r::q=>mK++ek++xY++r.1.text++[59,10]++(ik r.2++ek++[59,10])++vk q
def gK:List (Mk×Bool)→List UInt8
 |[]=>[]
 |r::q=>mK++ek++[61]++r.1.bare++[59]++(ik r.2++[40]++ek++[41,59])++qi q
def eT:List (Mk×Bool)→Nat→Bool×Nat
 |[],_=>(false,0)
 |r::q,n=>if r.1.told=1 then(r.2,n+1) else eT q (n+1)
structure Ea (fl:List Int) (m:Mk) (s:Sy) (wb:List (Nat×List UInt8)):Prop where
 ms:Pp fl 116 m s wb 12
 lx:∀rest ws,LX rest ws→K6 rest→LX (m.bare++rest) (wb++ws)
theorem gW.rl (h:gW fl 116 m):∃s z,Ea fl m s z:=by
 obtain⟨s,z,D,E⟩:=h.is;exact⟨s,z,D 12 h.deep,E⟩
def lO:Sy:=⟨111,ek,[]⟩
def qj (fl:List Int) (q:List (Mk×Bool)):Prop:= ∀r∈q,gW fl 116 r.1
theorem LO:∀{s:Sy} (g:List UInt8→Bool),wu (fun _=>false) d s=true→wu g d s=true:=by
 induction d with
 |zero=>intro s g _;rfl
 |succ d ih=>
  intro s g h;unfold wu at*;rw[jY,re] at*
  split at h
  ·cases h
  ·rename_i z
   rw[Zt z];rw[abn] at h⊢;intro b D;obtain⟨c,E,rfl⟩:=aav.1 D;exact ih g (h _ (aaS E))
theorem Ci:iV 12 5 [(111,ek)] lO∧Hd [(111,ek)]:=
 ⟨iV.one (d:=11) (w:=(111,ek)) rfl rfl ⟨rfl,by rw[Zt (by show ¬111=110;decide)];rfl⟩,ud (w:=(111,ek)) rfl⟩
def oq (q:List ((Mk×Bool)×Sy×List (Nat×List UInt8))):List (qZ×List (Nat×List UInt8)):=q.map fun r=>(⟨[],r.1.2,r.2.1⟩,r.2.2)
theorem Cj {al:Bool} (h:LX s z) (E:ld (s.getD 0 32)=false∧lf (s.getD 0 32)=false):LX (ik al++s) ((107,if al then jD else nE)::(107,l9)::z):=by
 have D:=(h.sp.kw (fE _) l9 (by decide)).sp
 unfold ik
 cases al with
 |true=>exact D.kw (fE _) jD (by decide)
 |false=>exact D.kw (fE _) nE (by decide)
theorem G9 (fl:List Int) (q:List ((Mk×Bool)×Sy×List (Nat×List UInt8))):(∀r∈q,Ea fl r.1.1 r.2.1 r.2.2)→LX (qi (q.map Prod.fst)) (nP (oq q)):=by
 induction q with
 |nil=>intro _;exact LX.nil
 |cons r q ih=>
  intro h;have z:=ih fun r z=>h r (by simp[z])
  have D:=(h r (by simp)).lx _ _ (LX.sp (LX.semi z)) (fE _)
  have E:=Cj (al:=r.1.2) D.nl ⟨rfl,rfl⟩;have e:qi ((r::q).map Prod.fst)=ik r.1.2++(10::(r.1.1.bare++(32::59::qi (q.map Prod.fst)))):=by simp[qi]
  have G:nP (oq (r::q))=(107,if r.1.2 then jD else nE)::(107,l9)::(r.2.2++((115,[59])::nP (oq q))):=by simp[nP,oq,ry,hW]
  rw[e,G];exact E
theorem Ck (fl:List Int) (q:List ((Mk×Bool)×Sy×List (Nat×List UInt8))):(∀r∈q,Ea fl r.1.1 r.2.1 r.2.2)→kG 12 ((oq q).map Prod.fst)=vk (q.map Prod.fst):=by
 induction q with
 |nil=>intro _;rfl
 |cons r q ih=>
  intro h;have z:=ih fun r z=>h r (by simp[z])
  have D:=(h r (by simp)).ms.plain
  unfold kG vk oq at*;simp only[ZS,abh];rw[z,D];rfl
def mz (r:(Mk×Bool)×Sy×List (Nat×List UInt8)) (q:List ((Mk×Bool)×Sy×List (Nat×List UInt8))):List (qZ×List (Nat×List UInt8)):=
 (⟨ek,false,r.2.1⟩,r.2.2)::(⟨[],r.1.2,lO⟩,(115,[40])::([(111,ek)]++[(115,[41])]))::oq q
variable {r:(Mk×Bool)×Sy×List (Nat×List UInt8)} {q:List ((Mk×Bool)×Sy×List (Nat×List UInt8))}
theorem Ha (fl:List Int) (D:Ea fl r.1.1 r.2.1 r.2.2) (E:∀r∈q,Ea fl r.1.1 r.2.1 r.2.2):LX (gK ((r::q).map Prod.fst)) (nP (mz r q)):=by
 have G:=G9 fl q E;have z:pL ek=false:=by decide
 have I:=(LX.semi G).shut.letters (w:=ek) (jN _) (by decide) (by decide) (k:=111) (.inr ⟨z,by decide,rfl⟩)
 have J:=Cj (al:=r.1.2) I.opn ⟨rfl,rfl⟩;have h3:=D.lx _ _ (LX.semi J) (jM (by decide) _)
 have O:LX (61::_) _:=h3.sign (by decide)
 have R:=(O.letters (w:=ek) (jM (by decide) _) (by decide) (by decide) (k:=111) (.inr ⟨z,by decide,rfl⟩)).sp.kw (fE _) tW (by decide)
 have e:gK ((r::q).map Prod.fst)=tW++(32::(ek++(61::(r.1.1.bare++(59::(ik r.1.2++(40::(ek++(41::59::qi (q.map Prod.fst)))))))))):=by simp[gK,mK,tW]
 have U:nP (mz r q)=(107,tW)::(111,ek)::(115,[61])::(r.2.2++((115,[59])::(107,if r.1.2 then jD else nE)::(107,l9)::(115,[40])::(111,ek)::(115,[41])::(115,[59])::nP (oq q))):=by simp[nP,mz,ry,hW,ek]
 rw[e,U];exact R
theorem Cl (fl:List Int) (z:Ea fl r.1.1 r.2.1 r.2.2) (D:∀r∈q,Ea fl r.1.1 r.2.1 r.2.2):kG 12 ((mz r q).map Prod.fst)=gh ((r::q).map Prod.fst):=by
 have h:=Ck fl q D;have E:=z.ms.plain;unfold kG mz at*;simp only[ZS,abh];rw[h,E];have G:wB ⟨ek,false,r.2.1⟩=mK++ek++xY:=rfl;have I:wB ⟨[],r.1.2,lO⟩=ik r.1.2:=rfl;have J:eB 12 lO=ek:=rfl;rw[G,I,J];simp[gh]
theorem LP (fl:List Int) (D:Ea fl r.1.1 r.2.1 r.2.2) (E:∀r∈q,Ea fl r.1.1 r.2.1 r.2.2):∀p∈mz r q,iV 12 6 p.2 p.1.sy∧(p.1.name≠[]→p.1.allow=false):=by
 intro p z;rcases ZU.1 z with rfl|z
 ·exact⟨D.ms.rd,fun _=>rfl⟩
 rcases ZU.1 z with rfl|z
 ·exact⟨((Ci.1.out Ci.2 (Zw 6)).brackets).out (gP _) (Zw 6),fun h=>absurd rfl h⟩
 ·obtain⟨x,G,rfl⟩:=aav.1 z
  exact⟨(E x G).ms.rd,fun h=>absurd rfl h⟩
theorem LQ (fl:List Int) (E:Ea fl r.1.1 r.2.1 r.2.2) (G:∀r∈q,Ea fl r.1.1 r.2.1 r.2.2):∀s∈(mz r q).map Prod.fst,MB 12 s.sy∧Dm s:=by
 have D:MB 12 lO:=⟨.inl ⟨rfl,.inr (.inl ⟨rfl,by decide,by decide,by decide,by decide⟩)⟩,by intro c I;cases I⟩
 intro s J;obtain⟨p,z,rfl⟩:=aav.1 J;rcases ZU.1 z with rfl|z
 ·exact⟨E.ms.sh,.inr ⟨(by decide:∀c∈ek,lf c=true),(by decide:pL ek=false),(by decide:ek.length≤8),rfl⟩⟩
 rcases ZU.1 z with rfl|z
 ·exact⟨D,.inl rfl⟩
 ·obtain⟨x,O,rfl⟩:=aav.1 z
  exact⟨(G x O).ms.sh,.inl rfl⟩
structure OA (fl:List Int) (m:Mk) (s:Sy):Prop where
 cnt:cS 12 s≤47
 dep:dS 12 s≤12
 own:∀g,wu g 12 s=true
 ty:∀xs its,IK xs its 12 s=116
 tell:∀xs vals,rL xs vals fl 12 s=m.told
theorem Ea.one {s:Sy} (h:Ea fl m s D) (z:gW fl 116 m):OA fl m s:=
 ⟨by have:=h.ms.few;have:=z.text;omega,Z8 h.ms.dep z.deep,fun g=>LO g h.ms.own,h.ms.ty,h.ms.tell⟩
theorem Hb:cS 12 lO=1∧dS 12 lO=1:=⟨rfl,rfl⟩
theorem LR (fl:List Int) (D:OA fl r.1.1 r.2.1) (E:∀r∈q,OA fl r.1.1 r.2.1) (hl:q.length≤2):
 MC 12 ((mz r q).map Prod.fst)∧(tD (((mz r q).map Prod.fst).map mo) fl 12 ((mz r q).map Prod.fst) [] 0).getD (false,0)=eT ((r::q).map Prod.fst) 0:=by
 obtain⟨⟨m,al⟩,s,wb⟩:=r;simp only[] at D;have c1:=D.cnt;have d1:=D.dep;have J:=D.ty;have O:=D.own;have R:=D.tell;have U:∀(xs:List dY) (its:List UInt8),IK xs its 12 lO=UInt8.ofNat ((its.getD (dN xs ek its.length).toNat 0).toNat):=fun xs its=>rfl
 have of:∀g,wu g 12 lO=g ek:=fun g=>rfl
 have V:∀(xs:List dY) (vals:List Int),rL xs vals fl 12 lO=vals.getD (dN xs ek vals.length).toNat 0:=fun xs vals=>rfl
 obtain⟨Y,Z⟩:=Hb
 match q,E,hl with
 |[],_,_=>
  refine⟨⟨?_,?_,?_⟩,?_⟩
  ·simp[mz,oq,sL,Y,Z,ek];omega
  ·simp[mz,oq,lu,O,of,nQ,mo,dN,ek]
  ·simp[mz,oq,oI,J,U,mo,dN,ek]
  ·simp[mz,oq,tD,R,V,mo,dN,ek,eT]
   split<;>simp
 |[⟨⟨m2,G⟩,s2,I⟩],E,_=>
  have z:=E ⟨⟨m2,G⟩,s2,I⟩ (by simp)
  simp only[] at z;have c2:=z.cnt;have d2:=z.dep;have t2:=z.ty;have o2:=z.own;have v2:=z.tell;refine⟨⟨?_,?_,?_⟩,?_⟩
  ·simp[mz,oq,sL,Y,Z,ek];omega
  ·simp[mz,oq,lu,O,o2,of,nQ,mo,dN,ek]
  ·simp[mz,oq,oI,J,t2,U,mo,dN,ek]
  ·simp[mz,oq,tD,R,v2,V,mo,dN,ek,eT]
   (repeat' split)<;>simp_all
 |[⟨⟨m2,G⟩,s2,I⟩,⟨⟨m3,aa⟩,s3,ab⟩],E,_=>
  have z:=E ⟨⟨m2,G⟩,s2,I⟩ (by simp)
  have h3:=E ⟨⟨m3,aa⟩,s3,ab⟩ (by simp)
  simp only[] at z h3;have c2:=z.cnt;have d2:=z.dep;have t2:=z.ty;have o2:=z.own;have v2:=z.tell;have c3:=h3.cnt;have d3:=h3.dep;have t3:=h3.ty;have o3:=h3.own;have v3:=h3.tell;refine⟨⟨?_,?_,?_⟩,?_⟩
  ·simp[mz,oq,sL,Y,Z,ek];omega
  ·simp[mz,oq,lu,O,o2,o3,of,nQ,mo,dN,ek]
  ·simp[mz,oq,oI,J,t2,t3,U,mo,dN,ek]
  ·simp[mz,oq,tD,R,v2,v3,V,mo,dN,ek,eT]
   (repeat' split)<;>simp_all
theorem OU (q:List (Mk×Bool)):qj fl q→ ∃Q:List ((Mk×Bool)×Sy×List (Nat×List UInt8)),Q.map Prod.fst=q∧ ∀r∈Q,Ea fl r.1.1 r.2.1 r.2.2∧OA fl r.1.1 r.2.1:=by
 induction q with
 |nil=>intro _;exact⟨[],rfl,by simp⟩
 |cons r q ih=>
  intro h;obtain⟨Q,G,I⟩:=ih fun r J=>h r (by simp[J])
  have D:=h r (by simp)
  obtain⟨s,O,E⟩:=D.rl;refine⟨(r,s,O)::Q,by simp[G],fun x z=>?_⟩
  rcases ZU.1 z with rfl|z
  ·exact⟨E,E.one D⟩
  ·exact I x z
theorem uE (q:List (Mk×Bool)):qj fl q→(vk q).length≤q.length*151∧(qi q).length≤q.length*152:=by
 induction q with
 |nil=>intro _;simp[vk,qi]
 |cons r q ih=>
  intro h;obtain⟨E,G⟩:=ih fun r D=>h r (by simp[D])
  have z:=h r (by simp)
  have I:=z.text;have J:=z.bare;have O:(ik r.2).length≤9:=by cases r.2<;>decide
  unfold vk qi at*;simp only[abh,ZC,Z7,aas];omega
theorem Eb {q:List (Mk×Bool)} (V:qj fl q) (hl:q.length≤3):
 (du (gh q)).1=(0,0)∧Al (gh q)=gh q∧jH (gh q) fl=eT q 0∧(du (gK q)).1=(0,0)∧Al (gK q)=gh q∧jH (gK q) fl=eT q 0:=by
 cases q with
 |nil=>
  have h:MC 12 []:=⟨rfl,rfl,rfl⟩;have e:gh []=[]:=rfl;have e2:gK []=[]:=rfl;have:=xo (d:=12) (l:=[]) (pol:=[]) (by simp) LX.nil (by simp) h
  have m:=xy (d:=12) (l:=[]) (pol:=[]) fl (by simp) LX.nil (by simp) h
  rw[e,e2];exact⟨this.1,this.2,m,this.1,this.2,m⟩
 |cons r q=>
  obtain⟨Q,e,Y⟩:=OU _ V
  cases Q with
  |nil=>simp at e
  |cons R Q=>
   simp at e;obtain⟨rfl,rfl⟩:=e;have D:=Y R (by simp)
   have z:∀r∈Q,Ea fl r.1.1 r.2.1 r.2.2:=fun r E=>(Y r (by simp[E])).1
   have ac:∀r∈Q,OA fl r.1.1 r.2.1:=fun r E=>(Y r (by simp[E])).2
   have ad:Q.length≤2:=by simp at hl;omega
   obtain⟨G,ms⟩:=LR fl D.2 ac ad;have Z:=Cl fl D.1 z;have hx:=Ha fl D.1 z;have J:=LP fl D.1 z;have O:=LQ fl D.1 z;obtain⟨k1,k2⟩:=uE (fl:=fl) (Q.map Prod.fst) (fun r E=>V r (by simp only[ZU];exact .inr E))
   have hm:=V R.1 (by simp)
   have ht:=hm.text;have hb:=hm.bare;have ha:(ik R.1.2).length≤9:=by cases R.1.2<;>decide
   simp only[ZS] at Z hx ms;simp only[aaA] at k1 k2;have lt:(gh (R.1::Q.map Prod.fst)).length≤1000:=by
    simp[gh,mK,ek,xY];omega
   have lb:(gK (R.1::Q.map Prod.fst)).length≤1000:=by
    simp[gK,mK,ek];omega
   have b1:=xo lb hx J G;have b2:=xy fl lb hx J G;have t0:=Ga ((mz R Q).map Prod.fst) O;rw[Z] at t0;have U:=D7 O;have ef:=LK (pol:=(mz R Q).map Prod.fst) (fun s=>iu 12 s)
   have I:=xo lt t0 U (by rw[ef];exact G)
   have t2:=xy fl lt t0 U (by rw[ef];exact G)
   rw[ef] at I t2;rw[Z] at I b1;rw[ms] at t2 b2;exact⟨I.1,I.2,t2,b1.1,b1.2,b2⟩
theorem JY (h:n<10):(ByteArray.mk #[48,49,50,51,52,53,54,55,56,57]).extract n (n+1)=ByteArray.mk #[UInt8.ofNat (48+n)]:=by
 have:n=0∨n=1∨n=2∨n=3∨n=4∨n=5∨n=6∨n=7∨n=8∨n=9:=by omega
 rcases this with rfl|rfl|rfl|rfl|rfl|rfl|rfl|rfl|rfl|rfl<;>decide
theorem Ec (f:Nat):∀(n:Nat) (w:World),n<10^f→n≤9223372036854775807→0<f→f≤30→Calls prog 70 #[Iq n] w fun e w'=>e= .returned (S (lh f n))∧Below w.heap.size w w':=by
 induction f with
 |zero=>intro n w _ _ h;omega
 |succ f ih=>
  intro n w z hm _ hf
  by_cases h:n<10
  ·have E:Hid (lh (f+1) n=[UInt8.ofNat (48+n)]):=by show _=_;rw[lh,Zu h]
   generalize lh (f+1) n=r at*;have I:=JY h;have D:(0:Int)≤(n:Int)∧(n:Int)≤(n:Int)+1∧(n:Int)+1≤10:=by omega
   have J:(n:Int)<10:=by omega
   generalize UInt8.ofNat (48+n)=d at*;go_enter func70,ntmps70;go_wp2_with fail;go_ret;exact⟨by rw[E.out];rfl,by first|exact ZA _ _|exact(ZA _ _).drew⟩
  ·have E:Hid (lh (f+1) n=lh f (n / 10)++[UInt8.ofNat (48+n %10)]):=by show _=_;rw[lh,Zt h]
   generalize lh (f+1) n=r at*;have G:0<f:=by
    rcases acb f with rfl|O
    ·simp at z;omega
    ·exact O
   rw[acs] at z;have R:=fun w=>ih (n / 10) w (by omega) (by omega) G (by omega)
   have hl:=qw f (n / 10);have I:=JY (n:=n %10) (by omega)
   have J: ¬(n:Int)<10:=by omega
   have hq:IntKind.i64.wrap ((n / 10:Nat):Int)=((n / 10:Nat):Int):=wrap_small (by omega) (by omega)
   have V:(n:Int).tdiv 10=((n / 10:Nat):Int):=by
    rw[abz (by omega)];omega
   have ht:(n:Int).tmod 10=((n %10:Nat):Int):=by
    rw[aaO (by omega)];omega
   have Y:n %10<10:=by omega
   generalize UInt8.ofNat (48+n %10)=d at*;generalize n %10=m at*;generalize lh f (n / 10)=t at*;generalize n / 10=q at*;have Z:(0:Int)≤(m:Int)∧(m:Int)≤(m:Int)+1∧(m:Int)+1≤10:=by omega
   have aa: ¬9223372036854775807<t.length+1:=by omega
   have ab:IntKind.i64.wrap (m:Int)=(m:Int):=wrap_small (by omega) (by omega)
   have U:IntKind.i64.wrap ((m:Int)+1)=(m:Int)+1:=wrap_small (by omega) (by omega)
   go_enter func70,ntmps70;go_wp2_with fail
   go_region_with ((go_at_call 70;refine(R _).mono ?_;rintro e w1 ⟨rfl,D⟩))
   all_goals go_wp2_with fail
   all_goals go_ret
   all_goals refine⟨by rw[E.out];exact aaY (fun s=>Ending.returned (Value.string s)) (Lm t [d]),?_⟩
   all_goals first
    |exact D
    |exact D.drew
    |exact(ZA _ _).drew.trans D
theorem Ed {q:List (Mk×Bool)} (h:q≠[]) (r:Mk×Bool):gh (q++[r])=gh q++(ik r.2++r.1.text++[59,10]):=by
 cases q with
 |nil=>exact absurd rfl h
 |cons x q=>simp[gh,vk]
theorem Ee {q:List (Mk×Bool)} (h:q≠[]) (r:Mk×Bool):gK (q++[r])=gK q++(ik r.2++[10]++r.1.bare++[32,59]):=by
 cases q with
 |nil=>exact absurd rfl h
 |cons x q=>simp[gK,qi]
theorem Eg (q:List (Mk×Bool)) (r:Mk×Bool):∀n,eT (q++[r]) n=if(eT q n).2=0 then(if r.1.told=1 then(r.2,n+q.length+1) else(false,0)) else eT q n:=by
 induction q with
 |nil=>intro n;simp[eT]
 |cons x q ih=>
  intro n;rw[aaZ,eT,eT]
  by_cases h:x.1.told=1
  ·rw[Zu h,Zu h,Zt (by simp)]
  ·rw[Zt h,Zt h,ih (n+1)]
   simp only[Z7];rw[show n+1+q.length+1=n+(q.length+1)+1 from by omega]
theorem qj.snoc {q:List (Mk×Bool)} (h:qj fl q) {r:Mk×Bool} (D:gW fl 116 r.1):qj fl (q++[r]):=fun x z=>by
 rcases aar.1 z with z|z
 ·exact h x z
 ·simp at z;subst z;exact D
end Go.Proofs.YtfkdailfcmnjlaaGreatDoor
