/-
  A part.
-/
import Derived.Test.YtfkdailfcmnjlaaGreatDoorAll24
set_option linter.all false
set_option maxHeartbeats 40000000
set_option maxRecDepth 1000000
namespace Go.Proofs.YtfkdailfcmnjlaaGreatDoor
open Go Go.RowKit Tryz
variable {a b}
def qP (t:Nat):UInt8:=if t=0 then 45 else if t=1 then 110 else if t=2 then 116 else 109
def gz (st:List Nat):List UInt8:=st.reverse.map qP
def jm (cl:List Nat):List UInt8:=cl.map qP
theorem ji (t) (st):gz (t::st)=gz st++[qP t]:=by simp[gz]
theorem eU (st:List Nat):(gz st).length=st.length:=by simp[gz]
theorem lO (cl:List Nat):(jm cl).length=cl.length:=by simp[jm]
def sN (l:List Nat):Prop:= ∀t∈l,t<4
def jV (l:List Nat):Prop:= ∀t∈l,1<=t/\t<4
theorem zS (E:a<4) (G:b<4) (h:qP a=qP b):a=b:=by
 have z:a=0\/a=1\/a=2\/a=3:=by omega
 have D:b=0\/b=1\/b=2\/b=3:=by omega
 rcases z with rfl|rfl|rfl|rfl<;>rcases D with rfl|rfl|rfl|rfl<;>first|rfl|(exfalso;revert h;decide)
theorem uv:∀{a b:List Nat},sN a->sN b->a.map qP=b.map qP->a=b
 |[],[],_,_,_=>rfl
 |[],y::s,_,_,h=>by simp at h
 |x::r,[],_,_,h=>by simp at h
 |x::r,y::s,D,E,h=>by
  simp only[QL,Sv] at h;rw[zS (D x (by simp)) (E y (by simp)) h.1,uv (λt z=>D t (by simp[z])) (λt z=>E t (by simp[z])) h.2]
theorem Fu (D:jV a) (E:jV b) (h:gz a=gz b):a=b:=by
 have:=uv (a:=a.reverse) (b:=b.reverse) (λt z=>(D t (by simpa using z)).2) (λt z=>(E t (by simpa using z)).2) h
 simpa using this
section
attribute [local go_sem ↓] Go.wp_at_zero Go.wp_at_succ
variable {st want n q k t l}
theorem wQ (q:Nat) (h:q<256) (w):Calls prog 49 #[.int .u8 q] w λe w'=>e= .returned (Iq (cG q))/\w'=w:=by
 go_enter func49,ntmps49
 go_wp2
 all_goals go_ret
 all_goals refine⟨da ?_,rfl⟩
 all_goals (simp only[Td,Sh,ne_eq] at*;unfold cG;repeat' split)<;>first|rfl|omega
theorem Hm (q cells:Nat) (h:q<256) (z:cells<256) (w):Calls prog 95 #[.int .u8 q,Iq cells] w λe w'=>e= .returned (Iq (dE q cells))/\w'=w:=by
 go_enter func95,ntmps95
 go_wp2
 all_goals go_ret
 all_goals refine⟨da ?_,rfl⟩
 all_goals (simp only[Td,Sh,ne_eq] at*;unfold dE;repeat' split)<;>first|rfl|omega
theorem ni (a b:List UInt8):(ByteArray.mk a.toArray)++(ByteArray.mk b.toArray)=⟨(a++b).toArray⟩:=by
 apply TN;simp
def wR (stack types more:List UInt8):Option (List UInt8):=if types.length<=stack.length/\stack.drop (stack.length - types.length)=types then some (stack.take (stack.length - types.length)++more) else none
def zT (r:Option (List UInt8)):Value:=match r with
 |some s=> .tuple #[S s,.bool true]
 |none=> .tuple #[S [],.bool false]
theorem Hn (stack types more) (U:stack.length<=10000) (V:types.length<=10000) (h3:more.length<=10000) (w):Calls prog 96 #[S stack,S types,S more] w λe w'=>e= .returned (zT (wR stack types more))/\w'=w:=by
 have I:({data:=stack.toArray}:ByteArray).extract (stack.length - types.length) stack.length=⟨(stack.drop (stack.length - types.length)).toArray⟩:=by
  rw[gm];unfold cut;rw[Q4 (by simp)]
 have E:({data:=stack.toArray}:ByteArray).extract 0 (stack.length - types.length)=⟨(stack.take (stack.length - types.length)).toArray⟩:=by
  rw[gm];unfold cut;simp
 have q:Hid (wR stack types more=if types.length<=stack.length/\stack.drop (stack.length - types.length)=types then some (stack.take (stack.length - types.length)++more) else none):=rfl
 have G:=Hi I;have J:=Hi E;clear I E;generalize wR stack types more=r at*
 by_cases O:types.length<=stack.length
 ·have R:((stack.length:Int) - types.length).toNat=stack.length - types.length:=by omega
  by_cases D:stack.drop (stack.length - types.length)=types
  ·have z:Hid _:=q.out.trans (Qo ⟨O,D⟩)
   clear q;go_enter func96,ntmps96
   go_wp2
   all_goals go_ret2
   ·exfalso
    rename_i A
    rw[G.out,Sf] at A;simp[D] at A;omega
   ·refine⟨?_,rfl⟩
    rw[z.out,zT];simp[Sf,J.out,ni]
  ·have z:Hid _:=q.out.trans (Qj (λh=>D h.2))
   clear q;go_enter func96,ntmps96
   go_wp2
   all_goals go_ret2
   ·exact⟨by rw[z.out];rfl,rfl⟩
   ·exfalso
    rename_i A
    rw[G.out,Sf] at A;simp[D] at A
 ·have z:Hid _:=q.out.trans (Qj (λh=>O h.1))
  clear q;go_enter func96,ntmps96
  go_wp2
  all_goals go_ret2
  exact⟨by rw[z.out];rfl,rfl⟩
def oK (k:Kn):Value:= .agg #[.bool true,S (gz k.st),S (jm k.cl)]
def mR (r:Option Kn) (e:Ending):Prop:=match r with
 |some k=>e= .returned (.tuple #[oK k,.bool true])
 |none=> ∃q z,e= .returned (.tuple #[.agg #[.bool true,.string q,.string z],.bool false])
theorem zU (a b:List Nat):gz (a++b)=gz b++gz a:=by simp[gz]
theorem Ho {more} (A:jV st) (D:jV want):wR (gz st) (gz want) (gz more)=if st.take want.length=want then some (gz (more++st.drop want.length)) else none:=by
 unfold wR;rw[eU,eU]
 by_cases h:st.take want.length=want
 ·have z:want.length<=st.length:=by have:=RK List.length h;simp at this;omega
  have e:gz st=gz (st.drop want.length)++gz want:=by
   conv=>lhs;rw[<-Sw want.length st,h]
   exact zU _ _
  have q:(gz (st.drop want.length)).length=st.length - want.length:=by rw[eU];simp
  rw[Qo h,Qo ⟨z,by rw[e,Sm (by omega),QG (by omega)];rfl⟩,e,S6 (by omega),Q4 (by omega),zU]
 ·rw[Qj h,Qj]
  rintro⟨z,q⟩;refine h ?_;have e:gz st=gz (st.drop want.length)++gz (st.take want.length):=by
   conv=>lhs;rw[<-Sw want.length st]
   exact zU _ _
  have G:(gz (st.drop want.length)).length=st.length - want.length:=by rw[eU];simp
  rw[e,Sm (by omega),QG (by omega)] at q
  exact Fu (λt E=>A t (SH E)) D q
theorem gd (w) (q z):Below w.heap.size w ((w.alloc q).alloc z):=((Qq _ _).alloc (Qn _) _).alloc (by simp) _
abbrev BA (l:List UInt8):ByteArray:=⟨l.toArray⟩
theorem Hp (I:b.length<=4000) (J:k.st.length<=100) (D:jV k.st) (E:a<(ByteArray.mk b.toArray).size) (z:((ByteArray.mk b.toArray)[a]).toNat=q) (h:q=1\/q=2\/q=3) (w):Calls prog 46 #[S b,Iq a,oK k] w λe w'=>mR (eo q n k) e/\Below w.heap.size w w':=by
 have G:=E;have O:=eU k.st;have A:Hid (eo q n k=some ⟨q::k.st,k.cl⟩/\S (gz (q::k.st))=Value.string (BA (gz k.st)++BA [qP q])):=⟨by rcases h with rfl|rfl|rfl<;>rfl,by rw[ji,ni]⟩
 unfold oK;rcases h with h|h|h
 all_goals
  rw[h] at z;go_enter func46,ntmps46
  go_wp2
  refine Qs (v:= .tuple #[.agg #[.bool true,.string (BA (gz k.st)++BA [qP q]),S (jm k.cl)],.bool true]) (by simp[results,results46,go_sem,h,qP]) rfl ?_
  exact⟨by rw[A.out.1];show _=_;rw[oK,A.out.2],gd _ _ _⟩
theorem Hq (I:b.length<=4000) (J:k.st.length<=100) (A:jV k.st) (D:a<(ByteArray.mk b.toArray).size) (z:((ByteArray.mk b.toArray)[a]).toNat=q) (h:q=16\/q=17\/q=18) (w):Calls prog 46 #[S b,Iq a,oK k] w λe w'=>mR (eo q n k) e/\Below w.heap.size w w':=by
 have G:=D;have O:=eU k.st;have E:Hid (eo q n k=some k):=by rcases h with rfl|rfl|rfl<;>rfl
 unfold oK;rcases h with h|h|h
 all_goals
  rw[h] at z;go_enter func46,ntmps46
  go_wp2
  refine Qs (v:= .tuple #[.agg #[.bool true,S (gz k.st),S (jm k.cl)],.bool true]) (by simp[results,results46,go_sem]) rfl ?_
  exact⟨by rw[E.out];rfl,gd _ _ _⟩
def LP (q:Nat):List Nat:=if q<12 then[1,1] else if q=13\/q=14 then[2,2] else[2]
def Pm (q:Nat):List Nat:=if q<9 then[1] else if q=15 then[] else[2]
theorem Hr (Z:b.length<=4000) (hk:k.st.length<=100) (I:jV k.st) (O:a<(ByteArray.mk b.toArray).size) (V:((ByteArray.mk b.toArray)[a]).toNat=q) (h:q=7\/q=8\/q=10\/q=11\/q=12\/q=13\/q=14\/q=15) (w):Calls prog 46 #[S b,Iq a,oK k] w λe w'=>mR (eo q n k) e/\Below w.heap.size w w':=by
 have Y:=O;have hl:=eU k.st;have E:=Ho (st:=k.st) (want:=LP q) (more:=Pm q) I (by rcases h with rfl|rfl|rfl|rfl|rfl|rfl|rfl|rfl<;>(intro t J;simp[LP] at J;subst J;decide))
 have G:eo q n k=if k.st.take (LP q).length=LP q then some ⟨Pm q++k.st.drop (LP q).length,k.cl⟩ else none:=by rcases h with rfl|rfl|rfl|rfl|rfl|rfl|rfl|rfl<;>rfl
 have z:=λW=>Hn (gz k.st) (gz (LP q)) (gz (Pm q)) (by omega) (by rw[eU];unfold LP;(repeat' split)<;>decide) (by rw[eU];unfold Pm;(repeat' split)<;>decide) W
 unfold oK;generalize R:Pm q++k.st.drop (LP q).length=X at*
 by_cases A:k.st.take (LP q).length=LP q
 ·rw[E,Qo A] at z
  have D:=Hi (G.trans (Qo A));unfold zT at z;simp only[] at z;rcases h with rfl|rfl|rfl|rfl|rfl|rfl|rfl|rfl
  all_goals
   go_enter func46,ntmps46;go_wp2_with fail;apply(z _).mono;rintro e U ⟨rfl,rfl⟩
   go_wp2
   refine Qs (v:= .tuple #[.agg #[.bool true,S (gz X),S (jm k.cl)],.bool true]) (by simp[results,results46,go_sem]) rfl ?_
   exact⟨by rw[D.out];rfl,gd _ _ _⟩
 ·rw[E,Qj A] at z
  have D:=Hi (G.trans (Qj A));unfold zT at z;simp only[] at z;rcases h with rfl|rfl|rfl|rfl|rfl|rfl|rfl|rfl
  all_goals
   go_enter func46,ntmps46;go_wp2_with fail;apply(z _).mono;rintro e U ⟨rfl,rfl⟩
   go_wp2
   refine Qs (v:= .tuple #[.agg #[.bool true,S [],S (jm k.cl)],.bool false]) (by simp[results,results46,go_sem]) rfl ?_
   exact⟨by rw[D.out];exact⟨_,_,rfl⟩,gd _ _ _⟩
theorem zV (h:n<=8):(BA [110,110,110,110,109,109,109,116,116]).extract n (n+1)=BA [qP (fL n)]:=by
 have e:n=0\/n=1\/n=2\/n=3\/n=4\/n=5\/n=6\/n=7\/n=8:=by omega
 rcases e with rfl|rfl|rfl|rfl|rfl|rfl|rfl|rfl|rfl<;>rfl
theorem ga (l:LB) (i) (h:i<(ByteArray.mk l.toArray).size):((ByteArray.mk l.toArray)[i]).toNat=(l.getD i 0).toNat:=by
 have q:=h
 show(l.toArray[i]).toNat=_
 rw[Qi,Ql q];rfl
theorem N9 (cl) (h:n<cl.length) (t):jm (cl.set n t)=cut (jm cl) 0 n++[qP t]++cut (jm cl) (n+1) cl.length:=by
 have e:cut (jm cl) (n+1) cl.length=(jm cl).drop (n+1):=by unfold cut;exact Q4 (by rw[TB,lO];omega)
 rw[e];unfold cut jm;rw[List.set_eq_take_append_cons_drop,Qo h];simp[List.map_take,List.map_drop]
theorem Mv (t) (r):cut (gz (t::r)) 0 r.length=gz r:=by
 unfold cut;rw[ji];simp[eU,S6]
theorem Mw (t) (r):cut (gz (t::r)) r.length (r.length+1)=[qP t]:=by
 unfold cut;rw[ji,Sm (by rw[eU];omega),QG (by rw[eU];omega)];simp
theorem Mx (cl) (h:n<cl.length):cut (jm cl) n (n+1)=[qP (cl.getD n 0)]:=by
 have q:n<(jm cl).length:=by rw[lO];exact h
 unfold cut;rw[QF q]
 simp[jm,Qi,Ql h]
theorem zW (cl) (h:n<cl.length):(jm cl).getD n 0=qP (cl.getD n 0):=by
 simp[jm,Qi,Ql h]
theorem Oa (t) (r):(gz (t::r)).getD r.length 0=qP t:=by
 rw[ji,Qi,QQ (by rw[eU];omega),eU];simp
theorem Ob (t u) (r):(gz (t::u::r)).getD r.length 0=qP u:=by
 rw[ji,ji,Qi,QT (by rw[Qt,eU];simp),QQ (by rw[eU];omega),eU];simp
theorem KO (h:t<4):qP t=45↔t=0:=by
 have e:t=0\/t=1\/t=2\/t=3:=by omega
 rcases e with rfl|rfl|rfl|rfl<;>decide
theorem sN.getD (h:sN l) (n):l.getD n 0<4:=by
 rw[Qi]
 cases e:l[n]? with
 |none=>decide
 |some v=>exact h v (Ta e)
theorem Pn {b:LB} (Y:b.length<=4000) (Z:k.st.length<=100) (hc:k.cl.length<=255) (D:jV k.st) (E:sN k.cl) (G:a<(ByteArray.mk b.toArray).size) (R:((ByteArray.mk b.toArray)[a]).toNat=4) (q:a+1<(ByteArray.mk b.toArray).size) (hn:((ByteArray.mk b.toArray)[a+1]).toNat=n) (z:n<=8) (w):Calls prog 46 #[S b,Iq a,oK k] w λe w'=>mR (eo 4 n k) e/\Bl w w':=by
 have U:a<b.length:=G;have hl:=eU k.st;unfold oK;have V:(n:Int)+1<=9:=by omega
 have hw:IntKind.u8.wrap ((n:Int)+1)=n+1:=by unfold IntKind.wrap;simp[IntKind.signed,IntKind.bits];omega
 have q2:a+1<b.length:=q;have I:(0:Int)<=(a:Int)+1:=by omega
 have J:(a:Int)+1<(b.length:Int):=by omega
 have O:=Hi (zV z);have A:Hid (eo 4 n k=some ⟨fL n::k.st,k.cl⟩/\S (gz (fL n::k.st))=Value.string (BA (gz k.st)++BA [qP (fL n)])):=⟨rfl,by rw[ji,ni]⟩
 go_enter func46,ntmps46;go_wp2_with fail
 go_region
 go_wp2
 refine Qs (v:= .tuple #[.agg #[.bool true,.string (BA (gz k.st)++(BA [110,110,110,110,109,109,109,116,116]).extract n (n+1)),S (jm k.cl)],.bool true]) (by simp[results,results46,go_sem]) rfl ?_
 exact⟨by rw[A.out.1];show _=_;rw[oK,A.out.2,<-O.out],(gd _ _ _).drew⟩
theorem Po {b:LB} (hb:b.length<=4000) (z:k.st.length<=100) (hc:k.cl.length<=255) (A:jV k.st) (D:sN k.cl) (I:a<(ByteArray.mk b.toArray).size) (U:((ByteArray.mk b.toArray)[a]).toNat=5) (E:a+1<(ByteArray.mk b.toArray).size) (hn:((ByteArray.mk b.toArray)[a+1]).toNat=n) (G:n<k.cl.length) (w):Calls prog 46 #[S b,Iq a,oK k] w λe w'=>mR (eo 5 n k) e/\Bl w w':=by
 have V:a<b.length:=I;obtain⟨st,cl⟩:=k;simp only[] at*;have q2:a+1<b.length:=E;have J:(0:Int)<=(a:Int)+1:=by omega
 have O:(a:Int)+1<(b.length:Int):=by omega
 have q4:(0:Int)<=(n:Int)/\(n:Int)<=(cl.length:Int):=by omega
 have q7:(0:Int)<=(n:Int)+1/\(n:Int)+1<=(cl.length:Int):=by omega
 cases st with
 |nil=>
  have R:=eU [];have q:Hid (eo 5 n ⟨[],cl⟩=none):=rfl;unfold oK;go_enter func46,ntmps46
  go_wp2
  refine Qs (v:= .tuple #[.agg #[.bool true,S (gz []),S (jm cl)],.bool false]) (by simp[results,results46,go_sem]) rfl ?_
  exact⟨by rw[q.out];exact⟨_,_,rfl⟩,gd _ _ _⟩
 |cons t r=>
  have R:(gz (t::r)).length=r.length+1:=eU (t::r);have Y:=lO cl;have Z:r.length+1<=100:=z;have q5:((r.length:Int)+1==0)=false:=by simp;omega
  have q8:(0:Int)<=(r.length:Int)/\(r.length:Int)<=(r.length:Int)+1:=by omega
  have q:Hid (eo 5 n ⟨t::r,cl⟩=some ⟨r,cl.set n t⟩/\S (gz r)= .string ((BA (gz (t::r))).extract 0 r.length)/\S (jm (cl.set n t))= .string ((BA (jm cl)).extract 0 n++(BA (gz (t::r))).extract r.length (r.length+1)++(BA (jm cl)).extract (n+1) cl.length)):=by
   refine⟨rfl,?_,?_⟩
   ·rw[gm,Mv]
   ·rw[gm,gm,gm,ni,ni,Mw,N9 cl G]
  unfold oK;simp only[];go_enter func46,ntmps46;go_wp2_with fail
  go_region
  go_wp2
  refine Qs (v:= .tuple #[.agg #[.bool true,.string ((BA (gz (t::r))).extract 0 r.length),.string ((BA (jm cl)).extract 0 n++(BA (gz (t::r))).extract r.length (r.length+1)++(BA (jm cl)).extract (n+1) cl.length)],.bool true]) (by simp[results,results46,go_sem]) rfl ?_
  exact⟨by rw[q.out.1];show _=_;rw[oK,q.out.2.1,q.out.2.2],(gd _ _ _).drew⟩
theorem Pp {b:LB} (hb:b.length<=4000) (hk:k.st.length<=100) (hc:k.cl.length<=255) (R:jV k.st) (J:sN k.cl) (ha:a<(ByteArray.mk b.toArray).size) (aa:((ByteArray.mk b.toArray)[a]).toNat=6) (U:a+1<(ByteArray.mk b.toArray).size) (hn:((ByteArray.mk b.toArray)[a+1]).toNat=n) (q:n<k.cl.length) (w):Calls prog 46 #[S b,Iq a,oK k] w λe w'=>mR (eo 6 n k) e/\Bl w w':=by
 have ab:a<b.length:=ha;have hl:=eU k.st;have V:=lO k.cl;have q2:a+1<b.length:=U;have q0:(0:Int)<=(a:Int)+1:=by omega
 have q1:(a:Int)+1<(b.length:Int):=by omega
 have q3:(0:Int)<=(a:Int)+1/\(a:Int)+1<(b.length:Int):=⟨q0,q1⟩;have q4:(0:Int)<=(n:Int)/\(n:Int)<=(k.cl.length:Int):=by omega
 have q7:(0:Int)<=(n:Int)+1/\(n:Int)+1<=(k.cl.length:Int):=by omega
 have Y:n<(ByteArray.mk (jm k.cl).toArray).size:=by rw[<-V] at q;exact q
 have A:=ga (jm k.cl) n Y;rw[zW k.cl q] at A;have HS:Hid (S (gz (k.cl.getD n 0::k.st))= .string (BA (gz k.st)++(BA (jm k.cl)).extract n (n+1))):=by show _=_;rw[gm,ni,Mx k.cl q,ji]
 have G:Hid (eo 6 n k=if k.cl.getD n 0=0 then none else some ⟨k.cl.getD n 0::k.st,k.cl⟩):=rfl
 have O:=J.getD n;unfold oK
 by_cases D:k.cl.getD n 0=0
 ·have E:Hid _:=G.out.trans (Qo D)
  rw[D] at A;have Z:((ByteArray.mk (jm k.cl).toArray)[n]).toNat=45:=A;clear R J G A D O;go_enter func46,ntmps46;go_wp2_with fail
  go_region
  go_wp2
  refine Qs (v:= .tuple #[.agg #[.bool true,.string (BA (gz k.st)++(BA (jm k.cl)).extract n (n+1)),S (jm k.cl)],.bool false]) (by simp[results,results46,go_sem]) rfl ?_
  exact⟨by rw[E.out];exact⟨_,_,rfl⟩,(gd _ _ _).drew⟩
 ·have E:Hid _:=G.out.trans (Qj D)
  have I:qP (k.cl.getD n 0)≠45:=λe=>D ((KO O).1 e)
  have Z:((((ByteArray.mk (jm k.cl).toArray)[n]).toNat:Int) !=45)=true:=by
   rw[A];have:(qP (k.cl.getD n 0)).toNat≠45:=λe=>I (RD.1 e)
   generalize (qP (k.cl.getD n 0)).toNat=z at*;simp;omega
  clear R J G A D O I;go_enter func46,ntmps46;go_wp2_with fail
  go_region
  go_wp2
  refine Qs (v:= .tuple #[.agg #[.bool true,.string (BA (gz k.st)++(BA (jm k.cl)).extract n (n+1)),S (jm k.cl)],.bool true]) (by simp[results,results46,go_sem]) rfl ?_
  exact⟨by rw[E.out];show _=_;rw[oK,HS.out],(gd _ _ _).drew⟩
theorem Pr {b:LB} (hb:b.length<=4000) (D:k.st.length<=100) (hc:k.cl.length<=255) (A:jV k.st) (G:sN k.cl) (U:a<(ByteArray.mk b.toArray).size) (aa:((ByteArray.mk b.toArray)[a]).toNat=9) (w):Calls prog 46 #[S b,Iq a,oK k] w λe w'=>mR (eo 9 n k) e/\Bl w w':=by
 have ab:a<b.length:=U;obtain⟨st,cl⟩:=k;simp only[] at*
 match st,D,A with
 |[],_,_=>
  have I:(gz []).length=0:=rfl;have q:Hid (eo 9 n ⟨[],cl⟩=none):=rfl;unfold oK;go_enter func46,ntmps46;go_wp2_with fail
  go_region
  go_wp2
  refine Qs (v:= .tuple #[.agg #[.bool true,S (gz []),S (jm cl)],.bool false]) (by simp[results,results46,go_sem]) rfl ?_
  exact⟨by rw[q.out];exact⟨_,_,rfl⟩,(gd _ _ _).drew⟩
 |[t],_,_=>
  have I:(gz [t]).length=1:=rfl;have q:Hid (eo 9 n ⟨[t],cl⟩=none):=rfl;unfold oK;go_enter func46,ntmps46;go_wp2_with fail
  go_region
  go_wp2
  refine Qs (v:= .tuple #[.agg #[.bool true,S (gz [t]),S (jm cl)],.bool false]) (by simp[results,results46,go_sem]) rfl ?_
  exact⟨by rw[q.out];exact⟨_,_,rfl⟩,(gd _ _ _).drew⟩
 |t::u::r,D,A=>
  have I:(gz (t::u::r)).length=r.length+1+1:=eU _;have ad:r.length+1+1<=100:=D;have J:r.length+1<(ByteArray.mk (gz (t::u::r)).toArray).size:=by show r.length+1<(gz (t::u::r)).length;omega
  have O:r.length<(ByteArray.mk (gz (t::u::r)).toArray).size:=by show r.length<(gz (t::u::r)).length;omega
  have V:=ga (gz (t::u::r)) (r.length+1) J;have Y:=ga (gz (t::u::r)) r.length O;have Z:(gz (t::u::r)).getD (r.length+1) 0=qP t:=Oa t (u::r);rw[Z] at V;rw[Ob t u r] at Y
  have q2:(0:Int)<=(r.length:Int)+1+1 - 2/\(r.length:Int)+1+1 - 2<(r.length:Int)+1+1:=by omega
  have q3:(2:Int)<=(r.length:Int)+1+1:=by omega
  have q4:(0:Int)<=(r.length:Int)+1+1 - 2/\(r.length:Int)+1+1 - 2<=(r.length:Int)+1+1:=by omega
  have q:Hid (eo 9 n ⟨t::u::r,cl⟩=if t=u then some ⟨2::r,cl⟩ else none):=rfl
  have R:Hid (S (gz (2::r))= .string ((BA (gz (t::u::r))).extract 0 r.length++BA [116])):=by
   show _=_
   rw[gm,ni,ji];unfold cut;rw[ji,ji,QW];simp[eU];rfl
  by_cases e:t=u
  ·subst e
   have E:=Hi (q.out.trans (Qo rfl));unfold oK;generalize (qP t).toNat=z at*;simp only[];go_enter func46,ntmps46;go_wp2_with fail
   go_region
   go_wp2
   refine Qs (v:= .tuple #[.agg #[.bool true,.string ((BA (gz (t::t::r))).extract 0 r.length++BA [116]),S (jm cl)],.bool true]) (by simp[results,results46,go_sem]) rfl ?_
   exact⟨by rw[E.out];show _=_;rw[oK,R.out],(gd _ _ _).drew⟩
  ·have E:Hid _:=q.out.trans (Qj e)
   have ae:((((qP t).toNat:Int))==((qP u).toNat:Int))=false:=by
    have:(qP t).toNat≠(qP u).toNat:=λe'=>e (zS (A t (by simp)).2 (A u (by simp)).2 (RD.1 e'))
    simp;omega
   unfold oK;generalize (qP t).toNat=z at*;generalize (qP u).toNat=y at*;simp only[];go_enter func46,ntmps46;go_wp2_with fail
   go_region
   go_wp2
   refine Qs (v:= .tuple #[.agg #[.bool true,S (gz (t::u::r)),S (jm cl)],.bool false]) (by simp[results,results46,go_sem]) rfl ?_
   exact⟨by rw[E.out];exact⟨_,_,rfl⟩,(gd _ _ _).drew⟩
end
end Go.Proofs.YtfkdailfcmnjlaaGreatDoor
