/-
  A part.
-/
import Derived.Test.YtfkdailfcmnjlaaGreatDoorMeant19
set_option linter.unusedVariables false
set_option linter.unusedSimpArgs false
set_option maxHeartbeats 40000000
set_option maxRecDepth 1000000
namespace Go.Proofs.YtfkdailfcmnjlaaGreatDoor
open Go Go.RowKit Tryz
attribute [local go_sem ↓] Go.wp_at_zero Go.wp_at_succ
structure L3 where
 op:Nat
 n:Int
 tj:Nat
def gL:L3:=⟨0,0,0⟩
def er (x:j8):L3:=⟨x.op,x.n,x.to⟩
def AK (l:List L3):List Value:=l.flatMap fun x=>[Iq (x.op:Nat),Iq x.n,Iq (x.tj:Nat),Iq 0]
variable {j lp k b n c2:Nat} {w w' J D:World} {v jv u:Value} {F G:Nat→Prop} {js:List Nat} {z:Nat→Nat} {nm:List UInt8}
theorem Mb (l:List L3):(AK l).length=l.length*4:=by
 induction l with
 |nil=>rfl
 |cons x r ih=>simp[AK] at ih⊢;omega
theorem Ko (l:List L3) (x:L3):AK (l++[x])=AK l++[Iq (x.op:Nat),Iq x.n,Iq (x.tj:Nat),Iq 0]:=by simp[AK]
theorem Kp (l:List L3):∀i,i<l.length→(AK l)[i*4]?=some (Iq ((l.getD i gL).op:Nat))∧(AK l)[i*4+1]?=some (Iq (l.getD i gL).n)∧(AK l)[i*4+2]?=some (Iq ((l.getD i gL).tj:Nat))∧(AK l)[i*4+3]?=some (Iq 0):=by
 induction l with
 |nil=>intro i z;simp at z
 |cons x r ih=>
  intro i z;have e:AK (x::r)= Iq (x.op:Nat):: Iq x.n:: Iq (x.tj:Nat):: Iq 0::AK r:=rfl
  cases i with
  |zero=>rw[e];exact⟨rfl,rfl,rfl,rfl⟩
  |succ i=>
   obtain⟨a,b,c,d⟩:=ih i (by simpa using z)
   have D:(i+1)*4=i*4+4:=by omega
   rw[e,D];simp only[ZX];exact⟨a,b,c,d⟩
def ou (l:List L3) (j T:Nat):List L3:=l.set j ⟨(l.getD j gL).op,(l.getD j gL).n,T⟩
theorem ow (l:List L3) (j T:Nat):(ou l j T).length=l.length:=by simp[ou]
variable {l l' E:List L3}
theorem Mc (h:j<l.length) (T:Nat):(AK l).set (j*4+2) (Iq (T:Nat))=AK (ou l j T):=by
 induction l generalizing j with
 |nil=>simp at h
 |cons x r ih=>
  have e:∀x r,AK (x::r)= Iq (x.op:Nat):: Iq x.n:: Iq (x.tj:Nat):: Iq 0::AK r:=fun _ _=>rfl
  cases j with
  |zero=>rfl
  |succ j=>
   have z:(j+1)*4+2=(j*4+2)+4:=by omega
   have D:ou (x::r) (j+1) T=x::ou r j T:=rfl;rw[D,e,e,←ih (by simpa using h),z]
   rfl
structure lY (w:World) (lp:Nat) (jmp:Bool) (v:Value) (l:List L3) (dep cells:Nat):Prop where
 blk:w.heap[lp]?=some (.cells #[.bool jmp,v,Iq (dep:Nat),Iq (cells:Nat)] 194 (0,0))
 row:w.ownsRow 0 247 4 v l.length (AK l)
theorem lY.ne {jmp:Bool} {dep cells:Nat} (h:lY w lp jmp v l dep cells):v.ownBlock≠some lp:=fun D=>by
 obtain⟨G,E⟩:=dF h.row D;have z:=h.blk;rw[E] at z;simp at z
theorem lY.only {jmp:Bool} {dep cells:Nat} (h:lY w lp jmp v l dep cells) (z:dt F w w') (D:∀b,(b=lp∨v.ownBlock=some b)→ ¬F b):lY w' lp jmp v l dep cells:=
 ⟨(z.block lp (be h.blk) (D lp (.inl rfl))).trans h.blk,dE h.row (fun k E=>z.block k (h.row.lt k E).2 (D k (.inr E)))⟩
def ez (w w':World) (lp:Nat) (jmp:Bool) (v:Value) (l:List L3) (dep cells:Nat):Prop:=
 ∃E,lY w' lp jmp E l dep cells∧dt (fun b=>b=lp∨v.ownBlock=some b) w w'∧ ∀b,E.ownBlock=some b→v.ownBlock=some b∨w.heap.size≤b
theorem jU {jmp:Bool} {dep cells:Nat} (G:Nat) (n:Int) (h:lY w lp jmp v l dep cells) (hl:l.length≤5000):
 Calls prog 93 #[Pq lp,Iq G,Iq n] w fun e w'=>e= .returned (Iq (l.length:Nat))∧ez w w' lp jmp v (l++[⟨G,n,0⟩]) dep cells:=by
 have ab:w.cell? ⟨lp,1,none⟩=some v:=by rw[Zz w lp 1 _ _ _ h.blk];rfl
 have ac:w.frozen? ⟨lp,1,none⟩=false:=by simp[World.frozen?,h.blk]
 have ad:=be h.blk;have R:=h.ne;obtain⟨a,cap,rfl⟩:∃a cap,v= .slice a l.length cap:=by
  obtain⟨hl,h⟩:=h.row;rcases h with⟨rfl,h0⟩|⟨g,cap,ah,rfl,Z,hg,h1,h2,h3,h4⟩
  ·exact⟨none,0,by rw[h0]⟩
  ·exact⟨_,_,rfl⟩
 obtain⟨i0,hi,hz⟩:=ZP.1 CB;simp only[ZT] at hz;obtain⟨ae,af,ag⟩:=hz;have HR:Hid (w.ownsRow 0 247 4 (.slice a l.length cap) l.length (AK l)):=h.row;have HP:Hid (w.heap[lp]?=some (.cells #[.bool jmp,.slice a l.length cap,Iq (dep:Nat),Iq (cells:Nat)] 194 (0,0))):=h.blk;have HN:Hid ((Value.slice a l.length cap).ownBlock≠some lp):=R;go_enter func93,ntmps93
 go_wp2_with (
  at_builtin
  go_must (refine wpList_append_lies _ (by rfl) _ _ 192 (by rfl) 0 247 i0 (.agg #[Iq 0,Iq 0,Iq 0,Iq 0]) 4 32 underlying192 hi ae af ag (by rfl) (by decide) _ _ _ (by rfl) (HR.out.alloc _) ⟨w.heap.size,0,none⟩ 1 1 [Iq G,Iq n,Iq 0,Iq 0] (by rfl) (by rfl) (World.news_of_block (Zy w _)) (fun x hx=>by simp at hx;rcases hx with rfl|rfl|rfl<;>rfl) (by decide) (by unfold maxLen;omega) (by omega) (by simp) _ rfl ?_)
  intro gg z J E D I aa;have O:=(D.block _ (by simp;omega) (fun e=>HN.out e.symm)).trans (ZE w _ _ ad)
  have e1:=(ZI (a:=⟨lp,1,none⟩) O).trans ab;have e2:=(aao (a:=⟨lp,1,none⟩) O).trans ac;have U:=Hi O;have V:=Hi E;have Y:=Hi D
  clear O E D)
 have HL:Hid (ez w (J.setCell ⟨lp,1,none⟩ (Sq gg (l.length+1) z)) lp jmp (.slice a l.length cap) (l++[⟨G,n,0⟩]) dep cells):=by
  refine⟨Sq gg (l.length+1) z,⟨?_,?_⟩,?_,?_⟩
  ·rw[ZK J lp 1 _ _ _ (U.out.trans HP.out)]
   rfl
  ·have h1:J.ownsRow 0 247 4 (Sq gg (l.length+1) z) (l.length+1) (AK l++[Iq G,Iq n,Iq 0,Iq 0]):=V.out
   have h2:=Z9 h1 (a:=⟨lp,1,none⟩) (by
    intro e;simp[Value.ownBlock] at e;rcases I with h|h
    ·exact HN.out (by rw[h,e])
    ·rw[ZB] at h;omega) (Sq gg (l.length+1) z)
   rw[Ko,ZC];exact h2
  ·exact(((dt.refl _ w).alloc _).grown Y.out (fun k hk=> .inl (.inr hk))).setCell (.inl (.inl rfl)) _
  ·intro b Z
   simp[Value.ownBlock] at Z;subst Z;rcases I with h|h
   ·exact .inl h
   ·right;rw[h,ZB];omega
 go_ret;exact⟨rfl,HL.out⟩
theorem ez.refl {w:World} {lp:Nat} {jmp:Bool} {v:Value} {l:List L3} {dep cells:Nat} (h:lY w lp jmp v l dep cells):ez w w lp jmp v l dep cells:=⟨v,h,dt.refl _ _,fun _ z=> .inl z⟩
def gd (l:List L3) (js:List Nat) (T:Nat):List L3:=js.foldl (fun l j=>ou l j T) l
theorem sw (js:List Nat):∀(l:List L3) (T:Nat),(gd l js T).length=l.length:=by
 induction js with
 |nil=>intro l T;rfl
 |cons j r ih=>intro l T;show(gd (ou l j T) r T).length=_;rw[ih,ow]
theorem CE (l:List L3) (T:Nat) (h:k<js.length):gd l (js.take (k+1)) T=ou (gd l (js.take k) T) (js.getD k 0) T:=by
 unfold gd;rw[aa6,Zv h,Option.toList_some,aaQ];simp[Zs,Zv h]
theorem lY.setTo {w:World} {lp g cap:Nat} {jmp:Bool} {l:List L3} {dep cells:Nat} (h:lY w lp jmp (Sq g l.length cap) l dep cells) {j:Nat} (I:j<l.length) (T:Nat):lY (w.setCell ⟨g,j*4+2,none⟩ (Iq (T:Nat))) lp jmp (Sq g (ou l j T).length cap) (Proofs.YtfkdailfcmnjlaaGreatDoor.ou l j T) dep cells:=by
 have E:=h.ne;have J:g≠lp:=fun e=>E (by rw[e];rfl)
 refine⟨?_,?_⟩
 ·rw[ZO _ _ _ _ (by simpa using fun e=>J e.symm),ow];exact h.blk
 ·obtain⟨hl,O⟩:=h.row
  refine⟨by rw[Mb],?_⟩
  rcases O with⟨e,_⟩|⟨g',R,G,e,U,V,Y,Z,b5,b6⟩
  ·simp at e
  ·simp only[aak,ZR,aaJ,aby,abf] at e
   obtain⟨rfl,rfl⟩:=e;refine .inr ⟨g,cap,G.setIfInBounds (j*4+2) (Iq (T:Nat)),rfl,U,ZK w g (j*4+2) _ _ _ V,by rw[ow];exact Y,Z,by simpa using b5,?_⟩
   rw[ow,←Mc I,←b6];simp[List.take_set]
theorem lY.slice {w:World} {lp:Nat} {jmp:Bool} {v:Value} {l:List L3} {dep cells:Nat} (h:lY w lp jmp v l dep cells) (D:0<l.length):∃g cap,v= Sq g l.length cap∧g<w.heap.size∧(∀j,w.frozen? ⟨g,j,none⟩=false)∧ ∀j,j<l.length→w.cell? ⟨g,j*4+2,none⟩=some (Iq ((l.getD j gL).tj:Nat)):=by
 obtain⟨g,cap,e,_,z⟩:=World.ownsRow.form h.row D;subst e;refine⟨g,cap,rfl,z,fun j=>World.ownsRow.frozenAt h.row j,fun j E=>?_⟩
 have:=(Kp l j E).2.2.1;have G:=aa1 h.row (j*4+2) (by omega)
 rw[G];exact this
theorem iP {jmp:Bool} {dep cells:Nat} (h:lY w lp jmp v l dep cells) (hl:l.length≤5000) (ak:js.length≤5000) (E:IR w 3 jv (js.map fun j=>((j:Nat):Int))) (I:∀j∈js,j<l.length):
 Calls prog 136 #[Pq lp,jv] w fun e w'=>e= .returned (.tuple #[])∧ez w w' lp jmp v (gd l js l.length) dep cells:=by
 by_cases J:js=[]
 ·subst J
  obtain⟨ja,D,rfl⟩:=E.sl;have HL:Hid (ez w w lp jmp v (gd l [] l.length) dep cells):=ez.refl h;go_enter func136,ntmps136;go_wp2
  go_loopw [8] (fun R wr=>R= Iq 0∧wr=w) (fun _ _=>0)
  case atStart=>exact⟨rfl,rfl⟩
  case round=>
   obtain⟨rfl,rfl⟩:=hrel
   go_wp2
   go_end0
   exact⟨rfl,HL.out⟩
 have aa:0<l.length:=by
  cases js with
  |nil=>exact absurd rfl J
  |cons j r=>have:=I j (by simp);omega
 obtain⟨g,cap,rfl,hg,_,_⟩:=h.slice aa;obtain⟨jg,D,rfl,am⟩:=E.form (by
  cases js with
  |nil=>exact absurd rfl J
  |cons j r=>simp)
 rw[aaA] at*;have U:Hid (lY w lp jmp (Sq g l.length cap) (gd l (js.take 0) l.length) dep cells∧dt (fun b=>b=lp∨(Value.slice (some ⟨g,0,none⟩) l.length cap).ownBlock=some b) w w∧IR w 3 (Sq jg js.length D) (js.map fun j=>((j:Nat):Int))):=⟨h,dt.refl _ _,E⟩
 have af:=Hi I;go_enter func136,ntmps136;go_wp2
 go_loopw [8] (fun R wr=> ∃k:Nat,k≤js.length∧R= Iq k∧Hid (lY wr lp jmp (Sq g l.length cap) (gd l (js.take k) l.length) dep cells∧dt (fun b=>b=lp∨(Value.slice (some ⟨g,0,none⟩) l.length cap).ownBlock=some b) w wr∧IR wr 3 (Sq jg js.length D) (js.map fun j=>((j:Nat):Int)))) (fun R _=>js.length - (intOf R).toNat)
 case atStart=>exact⟨0,ZL _,rfl,U.out⟩
 case round=>
  obtain⟨k,hk,rfl,HI⟩:=hrel;obtain⟨G,Y,V⟩:=HI.out
  by_cases O:k<js.length
  ·have an:(0:Int)≤(k:Int)∧(k:Int)<(js.length:Int):=by omega
   have ag:=V.cell (k:=k) (by simpa using O)
   have ab:(js.map fun j=>((j:Nat):Int)).getD k 0=((js.getD k 0:Nat):Int):=by
    rw[Zs,Zs,aaj]
    cases js[k]?<;>rfl
   rw[ab] at ag;have ac:js.getD k 0<l.length:=af.out _ (by rw[Zs,Zv O];exact ZV O)
   have z:=sw (js.take k) l l.length;obtain⟨g',aj,e',_,ad,ae⟩:=G.slice (by rw[z];exact aa)
   simp only[aak,ZR,aaJ,aby] at e';obtain⟨rfl,-,rfl⟩:=e';have ao:=ae (js.getD k 0) (by rw[z];exact ac)
   have ap:=ad (js.getD k 0*4+2);have aq:=Zz wr lp 1 _ _ _ G.blk;have ar:(0:Int)≤((js.getD k 0:Nat):Int)∧((js.getD k 0:Nat):Int)<(l.length:Int):=by omega
   have Z:Hid (lY (wr.setCell ⟨g,js.getD k 0*4+2,none⟩ (Iq (l.length:Nat))) lp jmp (Sq g l.length cap) (gd l (js.take (k+1)) l.length) dep cells∧dt (fun b=>b=lp∨(Value.slice (some ⟨g,0,none⟩) l.length cap).ownBlock=some b) w (wr.setCell ⟨g,js.getD k 0*4+2,none⟩ (Iq (l.length:Nat)))∧IR (wr.setCell ⟨g,js.getD k 0*4+2,none⟩ (Iq (l.length:Nat))) 3 (Sq jg js.length D) (js.map fun j=>((j:Nat):Int))):=by
    have ah:lY wr lp jmp (Sq g (gd l (js.take k) l.length).length cap) (gd l (js.take k) l.length) dep cells:=by rw[z];exact G
    have h1:=ah.setTo (j:=js.getD k 0) (by rw[z];exact ac) l.length
    rw[ow,z] at h1;obtain⟨au,ai⟩:=dF G.row (k:=g) rfl;refine⟨by rw[CE l l.length O];exact h1,Y.setCell (.inl (.inr rfl)) _,?_⟩
    refine V.only ((dt.refl (fun q=>q=g) wr).setCell (.inl rfl) _) (fun q hq f=>?_)
    subst f;exact V.ne ai (by decide) hq
   generalize (gd l (js.take k) l.length)=l2 at*;generalize js.getD k 0=jj at*;go_wp2
   go_region
   go_wp2
   exact⟨⟨k+1,by omega,by go_num,⟨⟨Z.out.1.blk,Z.out.1.row⟩,Z.out.2.1.drew,Z.out.2.2⟩⟩,by simp[intOf];omega⟩
  ·obtain rfl:k=js.length:=by omega
   have HL:Hid (ez w wr lp jmp (Sq g l.length cap) (gd l js l.length) dep cells):=by
    rw[abc] at G;exact⟨_,G,Y,fun _ hb=> .inl hb⟩
   go_wp2
   go_end0
   exact⟨rfl,HL.out⟩
theorem Kq (k:Nat) (z:fL k) (w:World):Calls prog 180 #[Iq k] w fun e w'=>e= .returned (Iq (jG k:Nat))∧w'=w:=by
 unfold fL at z;rcases z with rfl|rfl|rfl|rfl|rfl|rfl|rfl
 all_goals
  go_enter func180,ntmps180
  go_wp2
  go_ret;exact⟨rfl,rfl⟩
theorem CF (k:Nat) (z:k=12∨k=13) (w:World):Calls prog 135 #[Iq k] w fun e w'=>e= .returned (Iq (gC k:Nat))∧w'=w:=by
 rcases z with rfl|rfl
 all_goals
  go_enter func135,ntmps135
  go_wp2
  go_ret;exact⟨rfl,rfl⟩
theorem ez.weak {z:World} {jmp:Bool} {dep cells:Nat} (h:ez w w' lp jmp v l dep cells) (D:z=w):ez z w' lp jmp v l dep cells:=D▸h
theorem CG {jmp:Bool} {dep cells:Nat} {pl n lt:Int} (h:lY w lp jmp v l dep cells) (hl:l.length≤5000) (R:dR k) (hc:nj w b k pl n nm u lt):
 Calls prog 181 #[Pq lp,Pq b] w fun e w'=>e= .returned (.tuple #[])∧ez w w' lp jmp v (l++[⟨eQ ⟨k,n,lt,[]⟩,ij ⟨k,n,lt,[]⟩,0⟩]) dep cells:=by
 have Y:k≤100:=by unfold dR at R;omega
 have U:=fun w=>sj k w Y
 have V:=fun w=>yV k w Y
 have J:=fun op n=>jU op n h hl
 obtain⟨c0,c1,c2,c3,c4,c5⟩:=hc
 by_cases O:27≤k
 ·have hd:(27≤k∧k≤35):=by unfold dR at R;omega
  have G:Hid (eQ ⟨k,n,lt,[]⟩=4∧ij ⟨k,n,lt,[]⟩=((k - 27:Nat):Int)):=⟨by simp[eQ,O],by simp[ij,O]⟩
  have E:=J 4 ((k - 27:Nat):Int);rw[Zu hd,aad hd] at U;generalize k - 27=m at*;go_enter func181,ntmps181
  go_wp2_with (first
   |(go_at_call 171;refine(U _).mono ?_;rintro e w' ⟨rfl,z⟩;obtain rfl:=z.symm)
   |(go_at_call 93;refine E.mono ?_;rintro e w2 ⟨rfl,D⟩;have I:Hid _:=D;clear D E))
  refine ZH (v:= .tuple #[]) (by simp[results,results181,go_sem]) rfl ?_
  exact⟨rfl,by rw[G.out.1,G.out.2];exact I.out⟩
 have aa: ¬(27≤k∧k≤35):=by omega
 rw[Zt aa,Z4 aa] at U
 by_cases Z:22≤k
 ·have hd:(22≤k∧k≤26):=by unfold dR at R;omega
  have G:Hid (eQ ⟨k,n,lt,[]⟩=3∧ij ⟨k,n,lt,[]⟩=((k - 22:Nat):Int)):=⟨by simp[eQ,O,Z],by simp[ij,O,Z]⟩
  have E:=J 3 ((k - 22:Nat):Int);rw[Zu hd,aad hd] at V;generalize k - 22=m at*;go_enter func181,ntmps181
  go_wp2_with (first
   |(go_at_call 171;refine(U _).mono ?_;rintro e w' ⟨rfl,z⟩;obtain rfl:=z.symm)
   |(go_at_call 172;refine(V _).mono ?_;rintro e w' ⟨rfl,z⟩;obtain rfl:=z.symm)
   |(go_at_call 93;refine E.mono ?_;rintro e w2 ⟨rfl,D⟩;have I:Hid _:=D;clear D E))
  refine ZH (v:= .tuple #[]) (by simp[results,results181,go_sem]) rfl ?_
  exact⟨rfl,by rw[G.out.1,G.out.2];exact I.out⟩
 have ab: ¬(22≤k∧k≤26):=by omega
 rw[Zt ab,Z4 ab] at V
 by_cases h1:k=1
 ·subst h1
  have G:Hid (eQ ⟨1,n,lt,[]⟩=1∧ij ⟨1,n,lt,[]⟩=n):=⟨rfl,rfl⟩;have E:=J 1 n;go_enter func181,ntmps181
  go_wp2_with (first
   |(go_at_call 171;refine(U _).mono ?_;rintro e w' ⟨rfl,z⟩;obtain rfl:=z.symm)
   |(go_at_call 172;refine(V _).mono ?_;rintro e w' ⟨rfl,z⟩;obtain rfl:=z.symm)
   |(go_at_call 93;refine E.mono ?_;rintro e w2 ⟨rfl,D⟩;have I:Hid _:=D;clear D E))
  go_end0
  exact⟨rfl,by rw[G.out.1,G.out.2];exact I.out⟩
 by_cases h2:k=2
 ·subst h2
  have G:Hid (eQ ⟨2,n,lt,[]⟩=6∧ij ⟨2,n,lt,[]⟩=lt):=⟨rfl,rfl⟩;have E:=J 6 lt;go_enter func181,ntmps181
  go_wp2_with (first
   |(go_at_call 171;refine(U _).mono ?_;rintro e w' ⟨rfl,z⟩;obtain rfl:=z.symm)
   |(go_at_call 172;refine(V _).mono ?_;rintro e w' ⟨rfl,z⟩;obtain rfl:=z.symm)
   |(go_at_call 93;refine E.mono ?_;rintro e w2 ⟨rfl,D⟩;have I:Hid _:=D;clear D E))
  go_end0
  exact⟨rfl,by rw[G.out.1,G.out.2];exact I.out⟩
 have G:Hid (eQ ⟨k,n,lt,[]⟩=2∧ij ⟨k,n,lt,[]⟩=dq (decide (k=20))):=⟨by simp[eQ,O,Z,h1,h2],by simp[ij,O,Z,h1,h2]⟩
 have W4:=fun w=>iw (decide (k=20)) w
 have E:=J 2 (dq (decide (k=20)));have ac:k=20∨k=21:=by unfold dR at R;omega
 rcases ac with rfl|rfl
 ·rw[aad rfl] at W4 E
  go_enter func181,ntmps181
  go_wp2_with (first
   |(go_at_call 171;refine(U _).mono ?_;rintro e w' ⟨rfl,z⟩;obtain rfl:=z.symm)
   |(go_at_call 172;refine(V _).mono ?_;rintro e w' ⟨rfl,z⟩;obtain rfl:=z.symm)
   |(go_at_call 82;refine(W4 _).mono ?_;rintro e w' ⟨rfl,z⟩;obtain rfl:=z.symm)
   |(go_at_call 93;refine E.mono ?_;rintro e w2 ⟨rfl,D⟩;have I:Hid _:=D;clear D E))
  go_end0
  exact⟨rfl,by rw[G.out.1,G.out.2];exact I.out⟩
 ·rw[Z4 (by decide)] at W4 E
  go_enter func181,ntmps181
  go_wp2_with (first
   |(go_at_call 171;refine(U _).mono ?_;rintro e w' ⟨rfl,z⟩;obtain rfl:=z.symm)
   |(go_at_call 172;refine(V _).mono ?_;rintro e w' ⟨rfl,z⟩;obtain rfl:=z.symm)
   |(go_at_call 82;refine(W4 _).mono ?_;rintro e w' ⟨rfl,z⟩;obtain rfl:=z.symm)
   |(go_at_call 93;refine E.mono ?_;rintro e w2 ⟨rfl,D⟩;have I:Hid _:=D;clear D E))
  go_end0
  exact⟨rfl,by rw[G.out.1,G.out.2];exact I.out⟩
def nU (jmp:Bool):Nat→Bool→Tr→Nat→List Nat
 |0,_,_,_=>[]
 |d+1,this,t,p=>
  if oY jmp t.k then
   if t.k=20∨t.k=21 then(if this=decide (t.k=20) then[p] else[])
   else if t.k=19 then nU jmp d (!this) (t.kid 0) p
   else if t.k=14 then nU jmp d this (t.kid 1) (p+dC jmp d (some false) (t.kid 0))++nU jmp d this (t.kid 2) (p+dC jmp d (some false) (t.kid 0)+dC jmp d (some this) (t.kid 1)+1)
   else(if this=decide (t.k=17) then nU jmp d (decide (t.k=17)) (t.kid 0) p else[])++nU jmp d this (t.kid 1) (p+dC jmp d (some (decide (t.k=17))) (t.kid 0))
  else[p+dC jmp (d+1) none t+(if this then 1 else 0)]
theorem xG (l:List L3) (a b:List Nat) (T:Nat):gd l (a++b) T=gd (gd l a T) b T:=by unfold gd;rw[aaQ]
theorem px (pre post:List L3) (x:L3) (T:Nat):ou (pre++(x::post)) pre.length T=pre++(⟨x.op,x.n,T⟩::post):=by
 unfold ou;have e:(pre++(x::post)).getD pre.length gL=x:=by
  rw[Zs,aaf (Zw _)];simp
 rw[e,List.set_append_right _ _ (Zw _)];simp
theorem j9 (jmp:Bool) (d:Nat) (m:Option Bool) (t:Tr) (k:Kn) (p T:Nat):((gp jmp d m t k p T).map er).length=dC jmp d m t:=by rw[aaA,eI]
theorem Ar {jmp:Bool} (d:Nat):∀{t:Tr} {k:Kn} {this:Bool} {pre post:List L3} {p:Nat} (T:Nat),iC d t→pre.length=p→gd (pre++((gp jmp d (some this) t k p 0).map er++post)) (nU jmp d this t p) T=pre++((gp jmp d (some this) t k p T).map er++post):=by
 induction d with
 |zero=>intro t k this pre post p T h;exact h.elim
 |succ d ih=>
  intro t k this pre post p T h E;have J:=h.2
  cases O:oY jmp t.k with
  |false=>
   have R:∀T,gp jmp (d+1) (some this) t k p T=gp jmp (d+1) none t k p 0++((if this then[⟨12,0,0,⟨2::k.st,k.cl⟩⟩] else[])++[⟨15,0,T,⟨2::k.st,k.cl⟩⟩]):=fun T=>by
    simp only[gp,O];rfl
   have aa:nU jmp (d+1) this t p=[p+dC jmp (d+1) none t+(if this then 1 else 0)]:=by simp only[nU,O];rfl
   rw[R 0,R T,aa];have hl:=j9 jmp (d+1) none t k p 0
   cases this with
   |true=>
    have e:=px (pre++((gp jmp (d+1) none t k p 0).map er++[⟨12,0,0⟩])) post ⟨15,0,0⟩ T;rw[ZC,ZC,hl,E] at e
    simpa [gd,er,aaV] using e
   |false=>
    have e:=px (pre++(gp jmp (d+1) none t k p 0).map er) post ⟨15,0,0⟩ T;rw[ZC,hl,E] at e
    simpa [gd,er] using e
  |true=>
   simp only[gp,nU,O,aax];rcases h.1 with⟨D,z,_⟩|⟨D,a,z⟩|⟨D,a,b,c,z⟩|⟨D,a,b,z⟩
   ·have G:t.k=20∨t.k=21:=by
     unfold oY at O;unfold dR at D
     simp at O;omega
    simp only[Zu G]
    by_cases g:this=decide (t.k=20)
    ·simp only[Zu g]
     have e:=px pre post ⟨16,0,0⟩ T;rw[E] at e
     simpa [gd,er] using e
    ·simp only[Zt g]
     rfl
   ·have G: ¬(t.k=20∨t.k=21):=by omega
    rw[Zt G,Zt G,Zu D,Zu D,Zt G,Zu D];have U:t.kid 0=a:=by unfold Tr.kid;rw[z];rfl
    rw[U];exact ih T (J a (by rw[z];simp)) E
   ·have G: ¬(t.k=20∨t.k=21):=by omega
    have V: ¬t.k=19:=by omega
    have U:t.kid 0=a:=by unfold Tr.kid;rw[z];rfl
    have e1:t.kid 1=b:=by unfold Tr.kid;rw[z];rfl
    have e2:t.kid 2=c:=by unfold Tr.kid;rw[z];rfl
    simp only[Zt G,Zt V,Zu D,U,e1,e2];rw[xG];have Y:=j9 jmp d (some false) a k p (p+dC jmp d (some false) a+dC jmp d (some this) b+1);have lb:=fun T=>j9 jmp d (some this) b k (p+dC jmp d (some false) a) T
    have Z:=ih (t:=b) (k:=k) (this:=this) (pre:=pre++(gp jmp d (some false) a k p (p+dC jmp d (some false) a+dC jmp d (some this) b+1)).map er) (post:=⟨16,0,p+dC jmp d (some false) a+dC jmp d (some this) b+1+dC jmp d (some this) c⟩::((gp jmp d (some this) c k (p+dC jmp d (some false) a+dC jmp d (some this) b+1) 0).map er++post)) T (J b (by rw[z];simp)) (p:=p+dC jmp d (some false) a) (by rw[ZC,Y,E])
    have I:=ih (t:=c) (k:=k) (this:=this) (pre:=pre++((gp jmp d (some false) a k p (p+dC jmp d (some false) a+dC jmp d (some this) b+1)).map er++((gp jmp d (some this) b k (p+dC jmp d (some false) a) T).map er++[⟨16,0,p+dC jmp d (some false) a+dC jmp d (some this) b+1+dC jmp d (some this) c⟩]))) (post:=post) T (J c (by rw[z];simp)) (p:=p+dC jmp d (some false) a+dC jmp d (some this) b+1) (by rw[ZC,ZC,ZC,Y,lb,E];simp;omega)
    simp only[aag,ZS,ZZ,aaZ,aaF,er] at Z I⊢;rw[Z,I]
   ·have G: ¬(t.k=20∨t.k=21):=by unfold fL at D;omega
    have V: ¬t.k=19:=by unfold fL at D;omega
    have ab: ¬t.k=14:=by unfold fL at D;omega
    have U:t.kid 0=a:=by unfold Tr.kid;rw[z];rfl
    have e1:t.kid 1=b:=by unfold Tr.kid;rw[z];rfl
    simp only[Zt G,Zt V,Zt ab,U,e1];rw[xG];have Y:=fun T=>j9 jmp d (some (decide (t.k=17))) a k p T
    by_cases g:this=decide (t.k=17)
    ·simp only[Zu g]
     have Z:=ih (t:=a) (k:=k) (this:=decide (t.k=17)) (pre:=pre) (post:=(gp jmp d (some this) b k (p+dC jmp d (some (decide (t.k=17))) a) 0).map er++post) T (J a (by rw[z];simp)) E
     have I:=ih (t:=b) (k:=k) (this:=this) (pre:=pre++(gp jmp d (some (decide (t.k=17))) a k p T).map er) (post:=post) T (J b (by rw[z];simp)) (p:=p+dC jmp d (some (decide (t.k=17))) a) (by rw[ZC,Y,E])
     simp only[aag,ZZ] at Z I⊢;rw[Z,I]
    ·simp only[Zt g]
     have I:=ih (t:=b) (k:=k) (this:=this) (pre:=pre++(gp jmp d (some (decide (t.k=17))) a k p (p+dC jmp d (some (decide (t.k=17))) a+dC jmp d (some this) b)).map er) (post:=post) T (J b (by rw[z];simp)) (p:=p+dC jmp d (some (decide (t.k=17))) a) (by rw[ZC,Y,E])
     simp only[aag,ZZ] at I⊢
     show gd (pre++_) _ T=_
     rw[I]
theorem ez.trans {w D E:World} {lp:Nat} {jmp:Bool} {v:Value} {G I:List L3} {J O c1 c2:Nat} (V:ez w D lp jmp v G J c1) (Y:∀z,lY D lp jmp z G J c1→ez D E lp jmp z I O c2):ez w E lp jmp v I O c2:=by
 obtain⟨z,a1,R,U⟩:=V;obtain⟨Z,a2,o2,f2⟩:=Y z a1;refine⟨Z,a2,R.trans o2 (fun _ _ h=>h) (fun i hi h=>?_),fun b hb=>?_⟩
 ·rcases h with h|h
  ·exact .inl h
  ·rcases U i h with h|h
   ·exact .inr h
   ·omega
 ·rcases f2 b hb with h|h
  ·exact U b h
  ·right;have:=R.size;omega
theorem xH (jmp:Bool) (d:Nat):∀(m:Option Bool) (t:Tr) (k z:Kn) (p T:Nat),(gp jmp d m t k p T).map er=(gp jmp d m t z p T).map er:=by
 induction d with
 |zero=>intros;rfl
 |succ d ih=>
  intro m t k z p T;have E:(gp jmp (d+1) none t k p 0).map er=(gp jmp (d+1) none t z p 0).map er:=by
   simp only[gp]
   (repeat' split)<;>simp only[aag,ZS,aai,er]
   ·rw[ih _ _ k z,ih _ _ k z,ih _ (t.kid 2) k z]
   ·rw[ih _ _ k z]
   ·rw[ih _ (t.kid 0) k z,ih _ (t.kid 1) _ ⟨dx z.cl d (t.kid 0)::z.st,z.cl⟩]
  cases m with
  |none=>exact E
  |some this=>
   cases J:oY jmp t.k with
   |false=>
    have I:∀k T,gp jmp (d+1) (some this) t k p T=gp jmp (d+1) none t k p 0++((if this then[⟨12,0,0,⟨2::k.st,k.cl⟩⟩] else[])++[⟨15,0,T,⟨2::k.st,k.cl⟩⟩]):=fun k T=>by
     simp only[gp,J];rfl
    simp only[I,aag,E]
    cases this<;>rfl
   |true=>
    simp only[gp,J,aax]
    (repeat' split)
    all_goals first
     |rfl
     |exact ih _ _ k z _ _
     |(simp only[aag,ZS,er];rw[ih _ (t.kid 0) k z,ih _ (t.kid 1) k z,ih _ (t.kid 2) k z])
     |(simp only[aag];rw[ih _ (t.kid 0) k z,ih _ (t.kid 1) k z])
def As (F:Nat→Prop) (w:World) (u:Value) (n:Nat) (E:Nat→Nat):Prop:= ∃a cap,u= .slice a n cap∧ ∀j,j<n→ ∃g,a=some ⟨g,0,none⟩∧ ¬F g∧w.cell? ⟨g,j,none⟩=some (Pq (E j))
def fH (F:Nat→Prop):Nat→World→Nat→Tr→Prop
 |0,_,_,_=>False
 |d+1,w,b,t=> ∃(pl:Int) (nm:List UInt8) (u:Value) (D:Nat→Nat),¬F b∧nj w b t.k pl t.n nm u t.l∧As F w u t.kids.length D∧ ∀j,j<t.kids.length→fH F d w (D j) (t.kid j)
theorem As.un (h:As F w u n z):ph w u n z:=by
 obtain⟨a,cap,e,h⟩:=h;refine⟨a,cap,e,fun j D=>?_⟩
 obtain⟨g,e,_,c⟩:=h j D;exact⟨g,e,c⟩
theorem fH.tr {d:Nat}:∀{w:World} {b:Nat} {t:Tr},fH F d w b t→pK d w b t:=by
 induction d with
 |zero=>intro w b t h;exact h.elim
 |succ d ih=>
  intro w b t h;obtain⟨pl,nm,u,z,_,D,E,h3⟩:=h;exact⟨pl,nm,u,z,D,E.un,fun j G=>ih (h3 j G)⟩
theorem As.only (h:As F w u n z) (E:dt F w w'):As F w' u n z:=by
 obtain⟨a,cap,e,h⟩:=h;refine⟨a,cap,e,fun j G=>?_⟩
 obtain⟨g,e,D,c⟩:=h j G;exact⟨g,e,D,by rw[ZI (w:=w) (a:=⟨g,j,none⟩) (E.block g (Zx w _ c) D)];exact c⟩
theorem xI {pl n l:Int} (h:nj w b k pl n nm u l) (z: ¬F b) (D:dt F w w'):nj w' b k pl n nm u l:=by
 have e:∀j,w'.cell? ⟨b,j,none⟩=w.cell? ⟨b,j,none⟩:=fun j=>ZI (w:=w) (a:=⟨b,j,none⟩) (D.block b (Zx w _ h.c0) z)
 exact⟨(e 0).trans h.c0,(e 1).trans h.c1,(e 2).trans h.c2,(e 3).trans h.c3,(e 4).trans h.c4,(e 5).trans h.c5⟩
theorem fH.only {F:Nat→Prop} {d:Nat}:∀{w w':World} {b:Nat} {t:Tr},fH F d w b t→dt F w w'→fH F d w' b t:=by
 induction d with
 |zero=>intro w w' b t h;exact h.elim
 |succ d ih=>
  intro w w' b t h z;obtain⟨pl,nm,u,E,D,G,I,h3⟩:=h;exact⟨pl,nm,u,E,D,xI G D z,I.only z,fun j J=>ih (h3 j J) z⟩
theorem fH.below {d:Nat} {t:Tr} (h:fH F d w b t) (z:Below w.heap.size w w'):fH F d w' b t:=h.only (dt.of_below z)
theorem As.below (h:As F w u n z) (D:Below w.heap.size w w'):As F w' u n z:=h.only (dt.of_below D)
theorem As.more (h:As F w u n z) (D:∀g,g<w.heap.size→G g→F g):As G w u n z:=by
 obtain⟨a,cap,e,h⟩:=h;refine⟨a,cap,e,fun j E=>?_⟩
 obtain⟨g,e,I,c⟩:=h j E;exact⟨g,e,fun x=>I (D g (Zx w _ c) x),c⟩
theorem fH.more {F G:Nat→Prop} {d:Nat}:∀{w:World} {b:Nat} {t:Tr},fH F d w b t→(∀g,g<w.heap.size→G g→F g)→fH G d w b t:=by
 induction d with
 |zero=>intro w b t h;exact h.elim
 |succ d ih=>
  intro w b t h z;obtain⟨pl,nm,u,O,R,I,U,h3⟩:=h;exact⟨pl,nm,u,O,fun x=>R (z b (Zx w _ I.c0) x),I,U.more z,fun j V=>ih (h3 j V) z⟩
theorem fH.up {d:Nat}:∀{w:World} {b:Nat} {t:Tr},fH F d w b t→ ∀{e:Nat},d≤e→fH F e w b t:=by
 induction d with
 |zero=>intro w b t h;exact h.elim
 |succ d ih=>
  intro w b t h e J;obtain⟨e,rfl⟩:∃q,e=q+1:=⟨e - 1,by omega⟩
  obtain⟨pl,nm,u,z,D,E,G,h3⟩:=h;exact⟨pl,nm,u,z,D,E,G,fun j I=>ih (h3 j I) (by omega)⟩
theorem pK.off {d:Nat}:∀{w:World} {b:Nat} {t:Tr},pK d w b t→fH (fun g=>w.heap.size≤g) d w b t:=by
 induction d with
 |zero=>intro w b t h;exact h.elim
 |succ d ih=>
  intro w b t h;obtain⟨pl,nm,u,R,G,z,h3⟩:=h;obtain⟨a,cap,e,z⟩:=z;refine⟨pl,nm,u,R,fun x=>?_,G,⟨a,cap,e,fun j D=>?_⟩,fun j D=>ih (h3 j D)⟩
  ·have:=Zx w _ G.c0;simp only[] at this;omega
  ·obtain⟨g,e,c⟩:=z j D
   exact⟨g,e,fun x=>by have:=Zx w _ c;simp only[] at this;omega,c⟩
def gE (jmp:Bool) (d:Nat) (m:Option Bool) (t:Tr) (p:Nat):List L3:=(gp jmp d m t ⟨[],[]⟩ p 0).map er
theorem jI (jmp:Bool) (d:Nat) (m:Option Bool) (t:Tr) (p:Nat):(gE jmp d m t p).length=dC jmp d m t:=j9 _ _ _ _ _ _ _
theorem Md {jmp:Bool} {d:Nat} {t:Tr} {p:Nat} (z:t.k≠14) (D:t.k≠19) (E:t.kids.length≠2):gE jmp (d+1) none t p=[⟨eQ t,ij t,0⟩]:=by
 unfold gE;simp only[gp];rw[Zt z,Zt D,Zt E];rfl
theorem Nu {jmp:Bool} {d:Nat} {t:Tr} {p:Nat} (z:t.k=19):gE jmp (d+1) none t p=gE jmp d none (t.kid 0) p++[⟨12,0,0⟩]:=by
 unfold gE;simp only[gp];rw[Zt (by omega),Zu z];simp[er]
theorem Nv {jmp:Bool} {d:Nat} {t:Tr} {p:Nat} (z:t.k≠14) (D:t.k≠19) (E:t.kids.length=2):gE jmp (d+1) none t p=gE jmp d none (t.kid 0) p++(gE jmp d none (t.kid 1) (p+dC jmp d none (t.kid 0))++[⟨jG t.k,0,0⟩]):=by
 unfold gE;simp only[gp];rw[Zt z,Zt D,Zu E]
 simp only[aag,ZS,aai,er];rw[xH jmp d none (t.kid 1) _ ⟨[],[]⟩]
theorem xJ (l:List L3) (j T:Nat):gd l [j] T=ou l j T:=rfl
structure AL (F:Nat→Prop) (w0 w:World) (lp:Nat) (jmp:Bool) (v:Value) (l:List L3) (dep cells:Nat):Prop where
 at_:lY w lp jmp v l dep cells
 lp0:F lp∨w0.heap.size≤lp
 own:∀g,v.ownBlock=some g→F g∨w0.heap.size≤g
 bel:dt F w0 w
theorem AL.next {jmp:Bool} {dep cells D z:Nat} (h:AL F J w lp jmp v l dep cells) (ho:ez w w' lp jmp v l' D z):
 ∃G,AL F J w' lp jmp G l' D z∧(∀{jv:Value} {js:List Int},IR w 3 jv js→IR w' 3 jv js)∧w.heap.size≤w'.heap.size∧(∀{O:World} {R:List L3} {U c2:Nat},ez w' O lp jmp G R U c2→ez w O lp jmp v R U c2):=by
 obtain⟨G,a1,E,V⟩:=ho;have Y:dt F J w':=h.bel.trans E (fun _ _ h=>h) (fun k aa Z=>by
  rcases Z with rfl|Z
  ·exact h.lp0.resolve_right (by omega)
  ·exact(h.own k Z).resolve_right (by omega))
 refine⟨G,⟨a1,h.lp0,fun g I=>?_,Y⟩,fun{jv js} hj=>hj.only E (fun g I hF=>?_),E.size,fun{O R U c2} h2=>?_⟩
 ·rcases V g I with h1|h1
  ·exact h.own g h1
  ·right;have:=h.bel.size;omega
 ·rcases hF with rfl|hF
  ·exact hj.ne h.at_.blk (by decide) I
  ·obtain⟨cs,hc⟩:=dF h.at_.row hF
   exact hj.ne hc (by decide) I
 ·obtain⟨v2,a2,o2,f2⟩:=h2
  refine⟨v2,a2,E.trans o2 (fun _ _ h=>h) (fun i hi h=>?_),fun b Y=>?_⟩
  ·rcases h with h|h
   ·exact .inl h
   ·rcases V i h with h|h
    ·exact .inr h
    ·omega
  ·rcases f2 b Y with h|h
   ·exact V b h
   ·right;have:=E.size;omega
theorem AL.below {G:World} {jmp:Bool} {dep cells:Nat} (h:AL F G w lp jmp v l dep cells) (z:Below w.heap.size w w'):AL F G w' lp jmp v l dep cells:=
 ⟨⟨(z.block _ (be h.at_.blk)).trans h.at_.blk,dn h.at_.row z⟩,h.lp0,h.own,h.bel.trans (dt.of_below (F:=F) z) (fun _ _ h=>h) (fun _ _ h=>h)⟩
theorem ez.from {z:World} {jmp:Bool} {G:Nat} (I:Below w.heap.size w z) (h:ez z D lp jmp v E G c2):ez w D lp jmp v E G c2:=by
 obtain⟨O,a2,R,U⟩:=h;refine⟨O,a2,(dt.of_below I).trans R (fun _ _ h=>h) (fun _ _ h=>h),fun b J=>?_⟩
 rcases U b J with h|h
 ·exact .inl h
 ·right;have:=I.size;omega
structure Kr (W:World) (b:Nat) (t:Tr) (pl:Int) (nm:List UInt8) (u:Value) (bl:Nat→Nat):Prop where
 cc:nj W b t.k pl t.n nm u t.l
 un:ph W u t.kids.length bl
theorem qR {d:Nat} {t:Tr} (h:fH F (d+1) D b t):∃pl nm u z,(∀W,dt F D W→Kr W b t pl nm u z)∧ ∀j,j<t.kids.length→fH F d D (z j) (t.kid j):=by
 obtain⟨pl,nm,u,z,G,I,J,h3⟩:=h;exact⟨pl,nm,u,z,fun W E=>⟨xI I G E,(J.only E).un⟩,h3⟩
def zj (jmp:Bool) (d:Nat):Prop:= ∀{F:Nat→Prop} {t:Tr} {E w:World} {lp b bn dep cells:Nat} {v:Value} {l:List L3},iC d t→fH F d E b t→AL F E w lp jmp v l dep cells→l.length+dC jmp d none t≤4900→bn+d≤1000→dep≤1000→
 Calls prog 133 #[Pq lp,Pq b,Iq bn] w fun e w'=>e= .returned (.tuple #[])∧ez w w' lp jmp v (l++gE jmp d none t l.length) (max dep (gQ jmp d none t bn)) cells
def sB (jmp:Bool) (d:Nat):Prop:= ∀{F:Nat→Prop} {t:Tr} {z w:World} {lp b bn dep cells:Nat} {v:Value} {l:List L3} {this:Bool},iC d t→fH F d z b t→AL F z w lp jmp v l dep cells→l.length+dC jmp d (some this) t≤4900→bn+d≤1000→dep≤1000→
 Calls prog 134 #[Pq lp,.bool this,Pq b,Iq bn] w fun e w'=> ∃jv,e= .returned jv∧IR w' 3 jv ((nU jmp d this t l.length).map fun j=>((j:Nat):Int))∧(∀g,jv.ownBlock=some g→w.heap.size≤g)∧ez w w' lp jmp v (l++gE jmp d (some this) t l.length) (max dep (gQ jmp d (some this) t bn)) cells
end Go.Proofs.YtfkdailfcmnjlaaGreatDoor
set_option maxHeartbeats 40000000
set_option maxRecDepth 1000000
namespace Go.Proofs.YtfkdailfcmnjlaaGreatDoor
open Go Go.RowKit Tryz
theorem FA {jmp:Bool} {d:Nat} {a b c:Tr} {m:Option Bool} {l:List L3} {p:Nat} (z:l.length=p) (U:iC d a):
 ou (gd (l++gE jmp d (some false) a p++gE jmp d m b (p+dC jmp d (some false) a)++[⟨16,0,0⟩]) (nU jmp d false a p) (p+dC jmp d (some false) a+dC jmp d m b+1)++gE jmp d m c (p+dC jmp d (some false) a+dC jmp d m b+1)) (p+dC jmp d (some false) a+dC jmp d m b) (p+dC jmp d (some false) a+dC jmp d m b+1+dC jmp d m c)
  =l++((gp jmp d (some false) a ⟨[],[]⟩ p (p+dC jmp d (some false) a+dC jmp d m b+1)).map er++(gE jmp d m b (p+dC jmp d (some false) a)++(⟨16,0,p+dC jmp d (some false) a+dC jmp d m b+1+dC jmp d m c⟩::gE jmp d m c (p+dC jmp d (some false) a+dC jmp d m b+1)))):=by
 have V:=Ar (jmp:=jmp) d (t:=a) (k:=⟨[],[]⟩) (this:=false) (pre:=l) (post:=gE jmp d m b (p+dC jmp d (some false) a)++[⟨16,0,0⟩]) (p+dC jmp d (some false) a+dC jmp d m b+1) U z;have Y:l++gE jmp d (some false) a p++gE jmp d m b (p+dC jmp d (some false) a)++[⟨16,0,0⟩]=l++((gp jmp d (some false) a ⟨[],[]⟩ p 0).map er++(gE jmp d m b (p+dC jmp d (some false) a)++[⟨16,0,0⟩])):=by
  show l++(gp jmp d (some false) a ⟨[],[]⟩ p 0).map er++_++_=_
  simp
 rw[Y,V];have D:=px (l++((gp jmp d (some false) a ⟨[],[]⟩ p (p+dC jmp d (some false) a+dC jmp d m b+1)).map er++gE jmp d m b (p+dC jmp d (some false) a))) (gE jmp d m c (p+dC jmp d (some false) a+dC jmp d m b+1)) ⟨16,0,0⟩ (p+dC jmp d (some false) a+dC jmp d m b+1+dC jmp d m c);rw[ZC,ZC,j9,jI,z,←aaV] at D;have Z:l++((gp jmp d (some false) a ⟨[],[]⟩ p (p+dC jmp d (some false) a+dC jmp d m b+1)).map er++(gE jmp d m b (p+dC jmp d (some false) a)++[⟨16,0,0⟩]))++gE jmp d m c (p+dC jmp d (some false) a+dC jmp d m b+1)=l++((gp jmp d (some false) a ⟨[],[]⟩ p (p+dC jmp d (some false) a+dC jmp d m b+1)).map er++gE jmp d m b (p+dC jmp d (some false) a))++(⟨16,0,0⟩::gE jmp d m c (p+dC jmp d (some false) a+dC jmp d m b+1)):=by simp
 rw[Z,D];simp
section
variable {jmp : Bool} {d : Nat} {t : Tr} {p : Nat} {this : Bool}
theorem Nw (I:oY jmp t.k=false):gE jmp (d+1) (some this) t p=gE jmp (d+1) none t p++((if this then[⟨12,0,0⟩] else[])++[⟨15,0,0⟩]):=by
 have z:gp jmp (d+1) (some this) t ⟨[],[]⟩ p 0=gp jmp (d+1) none t ⟨[],[]⟩ p 0++((if this then[⟨12,0,0,⟨2::[],[]⟩⟩] else[])++[⟨15,0,0,⟨2::[],[]⟩⟩]):=by
  simp only[gp,I];rfl
 unfold gE;rw[z];simp only[aag]
 cases this<;>rfl
theorem EC (z:oY jmp t.k=false):dC jmp (d+1) (some this) t=dC jmp (d+1) none t+(if this then 2 else 1):=by simp only[dC,z];rfl
theorem Ny {b:Nat} (z:oY jmp t.k=false):gQ jmp (d+1) (some this) t b=gQ jmp (d+1) none t b:=by simp only[gQ,z];rfl
theorem At (z:oY jmp t.k=false):nU jmp (d+1) this t p=[p+dC jmp (d+1) none t+(if this then 1 else 0)]:=by simp only[nU,z];rfl
theorem Au (z:oY jmp t.k=true) (D:t.k=20∨t.k=21):gE jmp (d+1) (some this) t p=(if this=decide (t.k=20) then[⟨16,0,0⟩] else[])∧dC jmp (d+1) (some this) t=(if this=decide (t.k=20) then 1 else 0)∧(∀b,gQ jmp (d+1) (some this) t b=0)∧nU jmp (d+1) this t p=(if this=decide (t.k=20) then[p] else[]):=by
 refine⟨?_,?_,fun b=>?_,?_⟩
 ·unfold gE;simp only[gp,z,aax,Zu D];split<;>rfl
 ·simp only[dC,z,aax,Zu D]
 ·simp only[gQ,z,aax,Zu D]
 ·simp only[nU,z,aax,Zu D]
theorem ED (z:oY jmp t.k=true) (D:t.k=19):gE jmp (d+1) (some this) t p=gE jmp d (some (!this)) (t.kid 0) p∧dC jmp (d+1) (some this) t=dC jmp d (some (!this)) (t.kid 0)∧(∀b,gQ jmp (d+1) (some this) t b=gQ jmp d (some (!this)) (t.kid 0) b)∧nU jmp (d+1) this t p=nU jmp d (!this) (t.kid 0) p:=by
 have E: ¬(t.k=20∨t.k=21):=by omega
 refine⟨?_,?_,fun b=>?_,?_⟩
 ·unfold gE;simp only[gp,z,aax,Zt E,Zu D]
 ·simp only[dC,z,aax,Zt E,Zu D]
 ·simp only[gQ,z,aax,Zt E,Zu D]
 ·simp only[nU,z,aax,Zt E,Zu D]
theorem Ks (z:oY jmp t.k=true) (D:t.k=14):
 gE jmp (d+1) (some this) t p=(gp jmp d (some false) (t.kid 0) ⟨[],[]⟩ p (p+dC jmp d (some false) (t.kid 0)+dC jmp d (some this) (t.kid 1)+1)).map er++(gE jmp d (some this) (t.kid 1) (p+dC jmp d (some false) (t.kid 0))++(⟨16,0,p+dC jmp d (some false) (t.kid 0)+dC jmp d (some this) (t.kid 1)+1+dC jmp d (some this) (t.kid 2)⟩::gE jmp d (some this) (t.kid 2) (p+dC jmp d (some false) (t.kid 0)+dC jmp d (some this) (t.kid 1)+1)))
 ∧dC jmp (d+1) (some this) t=dC jmp d (some false) (t.kid 0)+dC jmp d (some this) (t.kid 1)+1+dC jmp d (some this) (t.kid 2)
 ∧(∀b,gQ jmp (d+1) (some this) t b=max (gQ jmp d (some false) (t.kid 0) b) (max (gQ jmp d (some this) (t.kid 1) b) (gQ jmp d (some this) (t.kid 2) b)))
 ∧nU jmp (d+1) this t p=nU jmp d this (t.kid 1) (p+dC jmp d (some false) (t.kid 0))++nU jmp d this (t.kid 2) (p+dC jmp d (some false) (t.kid 0)+dC jmp d (some this) (t.kid 1)+1):=by
 have E: ¬(t.k=20∨t.k=21):=by omega
 have h3: ¬t.k=19:=by omega
 refine⟨?_,?_,fun b=>?_,?_⟩
 ·unfold gE;simp only[gp,z,aax,Zt E,Zt h3,Zu D,aag,ZS,er]
 ·simp only[dC,z,aax,Zt E,Zt h3,Zu D]
 ·simp only[gQ,z,aax,Zt E,Zt h3,Zu D]
 ·simp only[nU,z,aax,Zt E,Zt h3,Zu D]
theorem Av (z:oY jmp t.k=true) (G:t.k=17∨t.k=18):
 gE jmp (d+1) (some this) t p=(gp jmp d (some (decide (t.k=17))) (t.kid 0) ⟨[],[]⟩ p (if this=decide (t.k=17) then 0 else p+dC jmp d (some (decide (t.k=17))) (t.kid 0)+dC jmp d (some this) (t.kid 1))).map er++gE jmp d (some this) (t.kid 1) (p+dC jmp d (some (decide (t.k=17))) (t.kid 0))
 ∧dC jmp (d+1) (some this) t=dC jmp d (some (decide (t.k=17))) (t.kid 0)+dC jmp d (some this) (t.kid 1)
 ∧(∀b,gQ jmp (d+1) (some this) t b=max (gQ jmp d (some (decide (t.k=17))) (t.kid 0) b) (gQ jmp d (some this) (t.kid 1) b))
 ∧nU jmp (d+1) this t p=(if this=decide (t.k=17) then nU jmp d (decide (t.k=17)) (t.kid 0) p else[])++nU jmp d this (t.kid 1) (p+dC jmp d (some (decide (t.k=17))) (t.kid 0)):=by
 have D: ¬(t.k=20∨t.k=21):=by omega
 have h3: ¬t.k=19:=by omega
 have E: ¬t.k=14:=by omega
 refine⟨?_,?_,fun b=>?_,?_⟩
 ·unfold gE;simp only[gp,z,aax,Zt D,Zt h3,Zt E,aag]
 ·simp only[dC,z,aax,Zt D,Zt h3,Zt E]
 ·simp only[gQ,z,aax,Zt D,Zt h3,Zt E]
 ·simp only[nU,z,aax,Zt D,Zt h3,Zt E]
theorem Nz (z:t.k=14):dC jmp (d+1) none t=dC jmp d (some false) (t.kid 0)+dC jmp d none (t.kid 1)+1+dC jmp d none (t.kid 2)∧(∀b,gQ jmp (d+1) none t b=max (gQ jmp d (some false) (t.kid 0) b) (max (gQ jmp d none (t.kid 1) b) (gQ jmp d none (t.kid 2) b)))
 ∧gE jmp (d+1) none t p=(gp jmp d (some false) (t.kid 0) ⟨[],[]⟩ p (p+dC jmp d (some false) (t.kid 0)+dC jmp d none (t.kid 1)+1)).map er++(gE jmp d none (t.kid 1) (p+dC jmp d (some false) (t.kid 0))++(⟨16,0,p+dC jmp d (some false) (t.kid 0)+dC jmp d none (t.kid 1)+1+dC jmp d none (t.kid 2)⟩::gE jmp d none (t.kid 2) (p+dC jmp d (some false) (t.kid 0)+dC jmp d none (t.kid 1)+1))):=by
 refine⟨by simp only[dC,Zu z],fun b=>by simp only[gQ,Zu z],?_⟩
 unfold gE;simp only[gp,Zu z,aag,ZS,er]
theorem Me (z:t.k=19):dC jmp (d+1) none t=dC jmp d none (t.kid 0)+1∧ ∀b,gQ jmp (d+1) none t b=gQ jmp d none (t.kid 0) b:=by
 have h: ¬t.k=14:=by omega
 exact⟨by simp only[dC,Zt h,Zu z],fun b=>by simp only[gQ,Zt h,Zu z]⟩
theorem Mf (z:t.k≠14) (D:t.k≠19) (E:t.kids.length=2):dC jmp (d+1) none t=dC jmp d none (t.kid 0)+dC jmp d none (t.kid 1)+1∧ ∀b,gQ jmp (d+1) none t b=max (gQ jmp d none (t.kid 0) b) (gQ jmp d none (t.kid 1) (b+1)):=
 ⟨by simp only[dC,Zt z,Zt D,Zu E],fun b=>by simp only[gQ,Zt z,Zt D,Zu E]⟩
theorem Kt (z:t.k≠14) (D:t.k≠19) (E:t.kids.length≠2):dC jmp (d+1) none t=1∧ ∀b,gQ jmp (d+1) none t b=b+1:=
 ⟨by simp only[dC,Zt z,Zt D,Zt E],fun b=>by simp only[gQ,Zt z,Zt D,Zt E]⟩
theorem Aw (d:Nat):∀{t:Tr} {this:Bool} {p:Nat},∀j∈nU jmp d this t p,p≤j∧j<p+dC jmp d (some this) t:=by
 induction d with
 |zero=>intro t this p j z;simp[nU] at z
 |succ d ih=>
  intro t this p j z
  cases D:oY jmp t.k with
  |false=>
   rw[At D] at z;rw[EC D];simp at z;subst z
   cases this<;>simp<;>omega
  |true=>
   by_cases R:t.k=20∨t.k=21
   ·obtain⟨_,E,_,G⟩:=Au (d:=d) (p:=p) (this:=this) D R
    rw[G] at z;rw[E]
    split at z
    ·rename_i h;rw[Zu h];simp at z;omega
    ·simp at z
   ·by_cases h3:t.k=19
    ·obtain⟨_,E,_,G⟩:=ED (d:=d) (p:=p) (this:=this) D h3
     rw[G] at z;rw[E];exact ih j z
    ·by_cases U:t.k=14
     ·obtain⟨_,E,_,G⟩:=Ks (d:=d) (p:=p) (this:=this) D U
      rw[G] at z;rw[E]
      rcases aar.1 z with z|z
      ·have:=ih j z;omega
      ·have:=ih j z;omega
     ·have V:t.k=17∨t.k=18:=by unfold oY at D;simp at D;omega
      obtain⟨_,E,_,G⟩:=Av (d:=d) (p:=p) (this:=this) D V;rw[G] at z;rw[E]
      rcases aar.1 z with z|z
      ·split at z
       ·have:=ih j z;omega
       ·simp at z
      ·have:=ih j z;omega
theorem py (d:Nat):∀{t:Tr} {this:Bool} {p:Nat},(nU jmp d this t p).length≤dC jmp d (some this) t:=by
 induction d with
 |zero=>intro t this p;simp[nU]
 |succ d ih=>
  intro t this p
  cases z:oY jmp t.k with
  |false=>rw[At z,EC z];cases this<;>simp
  |true=>
   by_cases G:t.k=20∨t.k=21
   ·obtain⟨_,D,_,E⟩:=Au (d:=d) (p:=p) (this:=this) z G
    rw[E,D];split<;>simp
   ·by_cases h3:t.k=19
    ·obtain⟨_,D,_,E⟩:=ED (d:=d) (p:=p) (this:=this) z h3
     rw[E,D];exact ih
    ·by_cases I:t.k=14
     ·obtain⟨_,D,_,E⟩:=Ks (d:=d) (p:=p) (this:=this) z I
      rw[E,D,ZC];have a1:= @ih (t.kid 1) this (p+dC jmp d (some false) (t.kid 0));have a2:= @ih (t.kid 2) this (p+dC jmp d (some false) (t.kid 0)+dC jmp d (some this) (t.kid 1)+1);omega
     ·have J:t.k=17∨t.k=18:=by unfold oY at z;simp at z;omega
      obtain⟨_,D,_,E⟩:=Av (d:=d) (p:=p) (this:=this) z J;rw[E,D,ZC];have a1:= @ih (t.kid 0) (decide (t.k=17)) p;have a2:= @ih (t.kid 1) this (p+dC jmp d (some (decide (t.k=17))) (t.kid 0))
      split
      ·omega
      ·simp;omega
end
end Go.Proofs.YtfkdailfcmnjlaaGreatDoor
namespace Go.Proofs.YtfkdailfcmnjlaaGreatDoor
open Go Go.RowKit Tryz
attribute [local go_sem ↓] Go.wp_at_zero Go.wp_at_succ
variable {F:Nat→Prop} {D nm z G:List UInt8} {b lp bn j i k g:Nat} {u v lv E:Value} {w0 w w' wr:World}
theorem sC (w:World) (x:Int):IR (w.alloc (.cells #[Iq x] 3)) 3 (Sq w.heap.size 1 1) [x]:=by
 refine⟨rfl,.inr ⟨w.heap.size,1,#[Iq x],rfl,ZL _,Zy w _,Zw _,by unfold maxLen;omega,rfl,rfl⟩⟩
theorem lJ {D:World} {t:Tr} {pl:Int} {I:Nat→Nat} (h:∀W,dt F D W→Kr W b t pl nm u I) (h0:0<t.kids.length):
 ∃g cap,∀W,dt F D W→W.cell? ⟨b,0,none⟩=some (Iq t.k)∧W.cell? ⟨b,4,none⟩=some (Sq g t.kids.length cap)∧ ∀j,j<t.kids.length→W.cell? ⟨g,j,none⟩=some (Pq (I j)):=by
 obtain⟨a,cap,e,hc⟩:=(h D (dt.refl _ _)).un;obtain⟨g,J,_⟩:=hc 0 h0;refine⟨g,cap,fun W O=>?_⟩
 obtain⟨a',aa,E,R⟩:=(h W O).un;have U:=(h W O).cc;rw[e] at E;simp only[aak,abf] at E;obtain⟨rfl,rfl⟩:=E;refine⟨U.c0,by rw[U.c4,e,J],fun j hj=>?_⟩
 obtain⟨g',z,c⟩:=R j hj;rw[J] at z;simp only[ZR,aaJ,aby] at z;rw[z];exact c
variable {l:List L3}
theorem Ax {jmp:Bool} {d:Nat} (HL:zj jmp d) (HJ:sB jmp d) {t:Tr} {dep cells:Nat} (hw:iC (d+1) t) (hk:t.k=14) (hT:fH F (d+1) w0 b t) (h:AL F w0 w lp jmp v l dep cells) (ar:l.length+dC jmp (d+1) none t≤4900) (aD:bn+(d+1)≤1000) (au:dep≤1000):
 Calls prog 179 #[Pq lp,Pq b,Iq bn] w fun e w'=>e= .returned (.tuple #[])∧ez w w' lp jmp v (l++gE jmp (d+1) none t l.length) (max dep (gQ jmp (d+1) none t bn)) cells:=by
 obtain⟨es,ed,eg⟩:=Nz (jmp:=jmp) (d:=d) (p:=l.length) hk;rw[es] at ar;rw[ed,eg];obtain⟨ka,kb,kc,D⟩:∃ka kb kc,t.kids=[ka,kb,kc]:=by
  rcases hw.1 with⟨z,_⟩|⟨z,_⟩|⟨_,h2⟩|⟨z,_⟩
  ·unfold dR at z;omega
  ·omega
  ·exact h2
  ·unfold fL at z;omega
 have aa:t.kids.length=3:=by rw[D];rfl
 obtain⟨pl,nm,u,bl,HN,HK⟩:=qR hT;obtain⟨g,cap,Y⟩:=lJ HN (by omega)
 have E:∀j,j<3→iC d (t.kid j):=fun j Z=>hw.2 _ (by
  unfold Tr.kid;rw[Zs,Zv (by omega)]
  exact ZV _)
 have HT:=fun j (Z:j<3)=>HK j (by omega)
 rw[aa] at Y;have FC:Hid (∀W,dt F w0 W→Cq W b 4 (Sq g 3 cap)∧Cq W g 0 (Pq (bl 0))∧Cq W g 1 (Pq (bl 1))∧Cq W g 2 (Pq (bl 2))):=fun W hb=>⟨(Y W hb).2.1,(Y W hb).2.2 0 (by omega),(Y W hb).2.2 1 (by omega),(Y W hb).2.2 2 (by omega)⟩
 have aE:=r9 jmp d (some false) (t.kid 0) bn;have aF:=r9 jmp d none (t.kid 1) bn;have av:=Hi (FA (jmp:=jmp) (d:=d) (a:=t.kid 0) (b:=t.kid 1) (c:=t.kid 2) (m:=none) (l:=l) (p:=l.length) rfl (E 0 (by omega)))
 have ag:= @Aw jmp d (t.kid 0) false l.length;have aH:= @py jmp d (t.kid 0) false l.length;have lA:=jI jmp d (some false) (t.kid 0) l.length;have lB:=jI jmp d none (t.kid 1) (l.length+dC jmp d (some false) (t.kid 0));have HB:=Hi h;have W1:=HJ (this:=false) (bn:=bn) (E 0 (by omega)) (HT 0 (by omega)) h (by omega) (by omega) au
 obtain⟨c4,c0,_,_⟩:=FC.out w h.bel;have ah:=Hi E;have ai:=Hi HT;have aw:=Hi ag;go_enter func179,ntmps179;go_wp2_with fail;apply W1.mono;rintro e w1 ⟨jv,rfl,ab,_,G⟩;obtain⟨v1,z,k1,z1,g1⟩:=HB.out.next G;have W2:=HL (bn:=bn) (ah.out 1 (by omega)) (ai.out 1 (by omega)) z (by rw[ZC,lA];omega) (by omega) (by omega)
 rw[ZC,lA] at W2;obtain⟨d4,_,d1,_⟩:=FC.out w1 z.bel;have aj:=Hi z;have ax:Hid _:= @g1;have ak:=Hi ab;go_wp2_with fail;apply W2.mono;rintro e w2 ⟨rfl,I⟩;obtain⟨v2,h2,k2,z2,g2⟩:=aj.out.next I;have am:=Hi (k2 ak.out);have W3:=jU 16 0 h2.at_ (by simp only[ZC,lA,lB];omega)
 obtain⟨ix,ac⟩:∃ix:Nat,l.length+dC jmp d (some false) (t.kid 0)+dC jmp d none (t.kid 1)=ix:=⟨_,rfl⟩;have hJ:(l++gE jmp d (some false) (t.kid 0) l.length++gE jmp d none (t.kid 1) (l.length+dC jmp d (some false) (t.kid 0))).length=ix:=by
  simp only[ZC,lA,lB];exact ac
 rw[hJ] at W3;have an:=Hi ac;have ao:=Hi h2;have ay:Hid _:= @g2;go_wp2_with fail;apply W3.mono;rintro e w3 ⟨rfl,J⟩;obtain⟨v3,h3,k3,z3,g3⟩:=ao.out.next J;have O:(l++gE jmp d (some false) (t.kid 0) l.length++gE jmp d none (t.kid 1) (l.length+dC jmp d (some false) (t.kid 0))++[(⟨16,0,0⟩:L3)]).length=l.length+dC jmp d (some false) (t.kid 0)+dC jmp d none (t.kid 1)+1:=by
  simp only[ZC,lA,lB,Z7,aas]
 have W4:=iP (jv:=jv) (js:=nU jmp d false (t.kid 0) l.length) h3.at_ (by rw[O];omega) (by omega) (k3 am.out) (fun j Z=>by have:=aw.out j Z;rw[O];omega)
 rw[O] at W4;have ap:=Hi h3;have az:Hid _:= @g3;go_wp2_with fail;apply W4.mono;rintro e w4 ⟨rfl,R⟩;obtain⟨v4,h4,k4,z4,g4⟩:=ap.out.next R;have U:=sw (nU jmp d false (t.kid 0) l.length) (l++gE jmp d (some false) (t.kid 0) l.length++gE jmp d none (t.kid 1) (l.length+dC jmp d (some false) (t.kid 0))++[(⟨16,0,0⟩:L3)]) (l.length+dC jmp d (some false) (t.kid 0)+dC jmp d none (t.kid 1)+1);rw[O] at U;have W5:=HL (bn:=bn) (ah.out 2 (by omega)) (ai.out 2 (by omega)) h4 (by rw[U];omega) (by omega) (by omega)
 rw[U] at W5;obtain⟨d4,_,_,d2⟩:=FC.out w4 h4.bel;have aq:=Hi h4;have aA:Hid _:= @g4;go_wp2_with fail;apply W5.mono;rintro e w5 ⟨rfl,V⟩;obtain⟨v5,h5,k5,z5,g5⟩:=aq.out.next V;have ad:Below w5.heap.size w5 (w5.alloc (.cells #[Iq (ix:Nat)] 3)):=(ZA _ _).alloc (Zw _) _;have ae:(gd (l++gE jmp d (some false) (t.kid 0) l.length++gE jmp d none (t.kid 1) (l.length+dC jmp d (some false) (t.kid 0))++[(⟨16,0,0⟩:L3)]) (nU jmp d false (t.kid 0) l.length) (l.length+dC jmp d (some false) (t.kid 0)+dC jmp d none (t.kid 1)+1)++gE jmp d none (t.kid 2) (l.length+dC jmp d (some false) (t.kid 0)+dC jmp d none (t.kid 1)+1)).length=l.length+dC jmp d (some false) (t.kid 0)+dC jmp d none (t.kid 1)+1+dC jmp d none (t.kid 2):=by
  rw[ZC,U,jI]
 have W6:=iP (js:=[ix]) (h5.below ad).at_ (by rw[ae];omega) (by simp) (sC w5 _) (fun j Z=>by simp only[abq] at Z;have:=an.out;rw[Z,ae];omega)
 have aB:Hid _:= @g5;have aC:=Hi ad;go_wp2_with fail;apply W6.mono;rintro e w6 ⟨rfl,af⟩;go_wp2
 go_end0
 refine⟨rfl,?_⟩;have hf:=ax.out (ay.out (az.out (aA.out (aB.out (ez.from aC.out af)))));rw[xJ,ae,←an.out,av.out] at hf;have em:max (max (max dep (gQ jmp d (some false) (t.kid 0) bn)) (gQ jmp d none (t.kid 1) bn)) (gQ jmp d none (t.kid 2) bn)=max dep (max (gQ jmp d (some false) (t.kid 0) bn) (max (gQ jmp d none (t.kid 1) bn) (gQ jmp d none (t.kid 2) bn))):=by omega
 rw[em] at hf;exact hf
theorem ez.dep {w z:World} {lp:Nat} {jmp:Bool} {v:Value} {l:List L3} {dep cells:Nat} (h:ez w z lp jmp v l dep cells) (x:Nat):ez w (z.setCell ⟨lp,2,none⟩ (Iq (x:Nat))) lp jmp v l x cells:=by
 obtain⟨I,a1,J,O⟩:=h;refine⟨I,⟨?_,?_⟩,J.setCell (.inl (.inl rfl)) _,O⟩
 ·rw[ZK z lp 2 _ _ _ a1.blk];rfl
 ·exact Z9 a1.row (a:=⟨lp,2,none⟩) a1.ne _
theorem mj {d:Nat} {t:Tr} (z:iC (d+1) t) (D:j<t.kids.length):iC d (t.kid j):=z.2 _ (by
 unfold Tr.kid;rw[Zs,Zv D];exact ZV _)
theorem Ku {jmp:Bool} {d:Nat} (HL:zj jmp d) (HJ:sB jmp d):zj jmp (d+1):=by
 intro F t w0 w lp b bn dep cells v l Y hT h Z ah ab;obtain⟨pl,nm,u,bl,U,HK⟩:=qR hT;have c0:=(U w h.bel).cc.c0;rcases Y.1 with⟨E,D,_⟩|⟨E,ka,D⟩|⟨E,_⟩|⟨E,ka,kb,D⟩
 ·have J:t.k≠14:=by unfold dR at E;omega
  have O:t.k≠19:=by unfold dR at E;omega
  have R:t.kids.length≠2:=by rw[D];decide
  obtain⟨es,ed⟩:=Kt (jmp:=jmp) (d:=d) J O R;rw[Md J O R,ed];have I:=CG h.at_ (by omega) E (U w h.bel).cc
  have ew:eQ ⟨t.k,t.n,t.l,[]⟩=eQ t∧ij ⟨t.k,t.n,t.l,[]⟩=ij t:=⟨rfl,rfl⟩;rw[ew.1,ew.2] at I;obtain⟨a,cap,eu,_⟩:=(U w h.bel).un;have c4:w.cell? ⟨b,4,none⟩=some (.slice a t.kids.length cap):=by rw[(U w h.bel).cc.c4,eu]
  rw[D] at c4;have af:((t.k:Int)==14)=false:=by simp;omega
  have ag:((t.k:Int)==19)=false:=by simp;omega
  generalize eQ t=op at*;generalize ij t=n at*;generalize t.k=k at*;go_enter func133,ntmps133;go_wp2_with fail;apply I.mono;rintro e w1 ⟨rfl,z⟩;have HO:Hid (ez w w1 lp jmp v (l++[⟨op,n,0⟩]) dep cells):=z;obtain⟨v1,a1,_,_⟩:=z;have p2:=Zz w1 lp 2 _ _ _ a1.blk;have pf:w1.frozen? ⟨lp,2,none⟩=false:=by simp[World.frozen?,a1.blk]
  by_cases hm:bn+1≤dep
  ·have i1:max (dep:Int) ((bn:Int)+1)=(dep:Int):=by omega
   have i2: ¬(dep:Int)<(bn:Int)+1:=by omega
   have EM:Hid (max dep (bn+1)=dep):=by show _=_;omega
   go_wp2
   go_end0
   refine⟨rfl,?_⟩;rw[EM.out];exact ez.dep HO.out dep
  ·have i1:max (dep:Int) ((bn:Int)+1)=(bn:Int)+1:=by omega
   have i3: ¬(bn:Int)+1≤(dep:Int):=by omega
   have EM:Hid (max dep (bn+1)=bn+1):=by show _=_;omega
   go_wp2
   go_end0
   refine⟨rfl,?_⟩;rw[EM.out];exact ez.dep HO.out (bn+1)
 ·have ai:t.kids.length=1:=by rw[D];rfl
  obtain⟨es,ed⟩:=Me (jmp:=jmp) (d:=d) E;rw[Nu E,ed];rw[es] at Z;obtain⟨g,cap,V⟩:=lJ U (by omega)
  rw[ai] at V;have I:=HL (bn:=bn) (mj Y (j:=0) (by omega)) (HK 0 (by omega)) h (by omega) (by omega) ab
  obtain⟨_,c4,hg⟩:=V w h.bel;have q0:=hg 0 (by omega)
  have lA:=jI jmp d none (t.kid 0) l.length;rw[E] at c0;have HB:=Hi h;go_enter func133,ntmps133;go_wp2_with fail;apply I.mono;rintro e w1 ⟨rfl,z⟩;obtain⟨v1,h1,_,_,g1⟩:=HB.out.next z;have W2:=jU 12 0 h1.at_ (by rw[ZC,lA];omega)
  have ac:Hid _:= @g1;generalize (l++gE jmp d none (t.kid 0) l.length).length=ix at*;go_wp2_with fail;apply W2.mono;rintro e w2 ⟨rfl,G⟩;have aj:=Hi G;go_wp2;refine ZH (v:= .tuple #[]) (by simp[results,results133,go_sem]) rfl ?_
  refine⟨rfl,?_⟩;have hf:=ac.out aj.out;rw[ZZ] at hf;exact hf
 ·have I:=Ax HL HJ Y E hT h Z ah ab
  rw[E] at c0;go_enter func133,ntmps133;go_wp2_with fail;apply I.mono;rintro e w1 ⟨rfl,z⟩;have HO:=Hi z;go_wp2;refine ZH (v:= .tuple #[]) (by simp[results,results133,go_sem]) rfl ?_
  exact⟨rfl,HO.out⟩
 ·have J:t.k≠14:=by unfold fL at E;omega
  have O:t.k≠19:=by unfold fL at E;omega
  have R:t.kids.length=2:=by rw[D];rfl
  obtain⟨es,ed⟩:=Mf (jmp:=jmp) (d:=d) J O R;rw[Nv J O R,ed];rw[es] at Z;obtain⟨g,cap,V⟩:=lJ U (by omega)
  rw[R] at V;have FC:Hid (∀W,dt F w0 W→Cq W b 0 (Iq t.k)∧Cq W b 4 (Sq g 2 cap)∧Cq W g 0 (Pq (bl 0))∧Cq W g 1 (Pq (bl 1))):=fun W hb=>⟨(V W hb).1,(V W hb).2.1,(V W hb).2.2 0 (by omega),(V W hb).2.2 1 (by omega)⟩
  have I:=HL (bn:=bn) (mj Y (j:=0) (by omega)) (HK 0 (by omega)) h (by omega) (by omega) ab
  have ak:=Hi (mj Y (j:=1) (by omega))
  have am:=Hi (HK 1 (by omega))
  obtain⟨_,c4,q0,_⟩:=FC.out w h.bel;have lA:=jI jmp d none (t.kid 0) l.length;have lB:=jI jmp d none (t.kid 1) (l.length+dC jmp d none (t.kid 0));have av:=r9 jmp d none (t.kid 0) bn;have W4:=fun W=>Kq t.k E W
  have af:((t.k:Int)==14)=false:=by simp;omega
  have ag:((t.k:Int)==19)=false:=by simp;omega
  have HB:=Hi h;generalize t.k=k at*;go_enter func133,ntmps133;go_wp2_with fail;apply I.mono;rintro e w1 ⟨rfl,z⟩;obtain⟨v1,h1,_,_,g1⟩:=HB.out.next z;have W2:=HL (bn:=bn+1) ak.out am.out h1 (by rw[ZC,lA];omega) (by omega) (by omega)
  rw[ZC,lA] at W2;have an:=Hi W2;have eb:((bn+1:Nat):Int)=(bn:Int)+1:=by omega
  rw[eb] at W2;obtain⟨_,d4,_,d1⟩:=FC.out w1 h1.bel;have ac:Hid _:= @g1;have ao:=Hi h1;go_wp2_with fail;apply W2.mono;rintro e w2 ⟨rfl,G⟩;obtain⟨v2,h2,_,_,g2⟩:=ao.out.next G;have W3:=jU (jG k) 0 h2.at_ (by simp only[ZC,lA,lB];omega)
  obtain⟨e0,_,_,_⟩:=FC.out w2 h2.bel;have ap:Hid _:= @g2;generalize (l++gE jmp d none (t.kid 0) l.length++gE jmp d none (t.kid 1) (l.length+dC jmp d none (t.kid 0))).length=ix at*;generalize ad:jG k=op at*;have aq:=Hi ad
  go_wp2_with (first
   |(go_at_call 180;refine(W4 _).mono ?_;rintro e w' ⟨rfl,ae⟩;have ar:=ae.symm;clear ae;subst ar)
   |fail)
  apply W3.mono;rintro e w3 ⟨rfl,aa⟩;have au:=Hi aa;go_wp2;refine ZH (v:= .tuple #[]) (by simp[results,results133,go_sem]) rfl ?_
  refine⟨rfl,?_⟩;have hf:=ac.out (ap.out au.out);rw[ZZ,ZZ] at hf;have em:max (max dep (gQ jmp d none (t.kid 0) bn)) (gQ jmp d none (t.kid 1) (bn+1))=max dep (max (gQ jmp d none (t.kid 0) bn) (gQ jmp d none (t.kid 1) (bn+1))):=by omega
  rw[em,←aq.out] at hf;exact hf
def BR (w:World) (v:Value) (D:List UInt8):Prop:=w.ownsRow 0 5 1 v D.length (D.map fun c=>Value.int .u8 (c.toNat:Nat))
theorem BR.sl {l:List UInt8} (h:BR w v l):∃a cap,v= .slice a l.length cap:=by
 obtain⟨E,h⟩:=h;rcases h with⟨rfl,z⟩|⟨g,cap,D,rfl,G,I,J,O,h3,R⟩
 ·exact⟨none,0,by rw[z]⟩
 ·exact⟨_,_,rfl⟩
theorem FB:(prog.info? 5).map (fun i=>(i.zero,i.size,i.bytes))=some (some (.int .u8 0),1,1):=by kernel_rfl
theorem CH (n:Int) (c:Nat):∀k,k≤c→(nA n c).take k=(List.range k).map fun j=>rJ n (c - 1 - j):=by
 intro k G
 apply abP
 intro i
 by_cases D:i<k
 ·have E:i<(nA n c).length:=by rw[nh];omega
  rw[abe,Zu D,aaj,abm D,Zv E];have z:=Ag n c i (by omega)
  unfold de at z;rw[Zs,Zv E] at z;simp only[abo,abI] at z⊢;rw[ab1.1 z]
 ·rw[abe,Zt D,ZQ (by simp;omega)]
structure OV (w wr:World) (v bv:Value) (bs:List UInt8) (n:Int) (c k:Nat):Prop where
 row:BR wr bv (bs++(nA n c).take k)
 only:dt (fun b=>v.ownBlock=some b) w wr
 own:∀b,bv.ownBlock=some b→v.ownBlock=some b∨w.heap.size≤b
theorem oA (n:Int) (c:Nat) (hc:c≤8) (h:BR w v z) (hl:z.length≤10000):
 Calls prog 140 #[v,Iq n,Iq c] w fun e w'=>(∃v',e= .returned v'∧BR w' v' (z++nA n c)∧ ∀b,v'.ownBlock=some b→v.ownBlock=some b∨w.heap.size≤b)∧dt (fun b=>v.ownBlock=some b) w w':=by
 obtain⟨i0,hi,hz⟩:=ZP.1 FB;simp only[ZT] at hz;obtain⟨ac,ad,ae⟩:=hz;have J:Hid (OV w w v v z n c 0):=⟨by simpa using h,dt.refl _ _,fun _ R=> .inl R⟩
 obtain⟨a,cap,hv⟩:=h.sl;clear h;go_enter func140,ntmps140;go_wp2
 go_loopw [0,7] (fun bv lv wr=> ∃k:Nat,k≤c∧lv= Iq ((c:Int) - 1 - k)∧Hid (OV w wr v bv z n c k)) (fun _ lv _=>((intOf lv)+1).toNat)
 case atStart=>exact⟨0,ZL _,by simp,J.out⟩
 case round=>
  obtain⟨k,hk,rfl,U⟩:=hrel;obtain⟨E,O,I⟩:=U.out
  by_cases ai:k<c
  ·obtain⟨a2,G,rfl⟩:=E.sl
   obtain⟨m,hm⟩:∃m:Nat,c=k+1+m:=⟨c - (k+1),by omega⟩
   have Z:(c:Int) - 1 - k=(m:Int):=by omega
   have D:(z++(nA n c).take k).length=z.length+k:=by rw[ZC,abE,nh];omega
   rw[Z];rw[D] at E I⊢;have aj:m≤7:=by omega
   have HR:Hid (wr.ownsRow 0 5 1 (.slice a2 (z.length+k) G) (z.length+k) ((z++(nA n c).take k).map fun c=>Value.int .u8 (c.toNat:Nat))):=by
    have h:=E;unfold BR at h;rw[D] at h;exact h
   have HV:Hid (n / 2^(8*m) %256=(((rJ n m).toNat:Nat):Int)):=by
    show _=_
    rw[BO,Int.pow_mul];have h1:0≤(n /((2:Int)^8)^m) %256:=abr _ (by decide)
    have h2:((2:Int)^8)=256:=by decide
    rw[h2] at h1⊢;omega
   have HT:Hid (z++(nA n c).take (k+1)=(z++(nA n c).take k)++[rJ n m]):=by
    show _=_
    rw[CH n c (k+1) (by omega),CH n c k (by omega),List.range_succ,aag,ZZ]
    have e:c - 1 - k=m:=by omega
    simp[e]
   have HO:=Hi O;have HF:=Hi I;have aa:=Hi D;have HM:=Hi hm;clear E U J O I D hm Z
   go_wp2_with (
    at_builtin
    go_must (refine wpList_append_lies _ (by rfl) _ _ 155 (by rfl) 0 5 i0 (.int .u8 0) 1 1 underlying155 hi ac ad ae (by rfl) (by decide) _ _ _ (by rfl) (HR.out.alloc _) ⟨wr.heap.size,0,none⟩ 1 1 [.int .u8 (n / 2^(8*m) %256)] (by rfl) (by rfl) (World.news_of_block (Zy wr _)) (fun x hx=>by simp at hx;rcases hx with rfl;rfl) (by decide) (by unfold maxLen;omega) (by omega) (by simp) _ rfl ?_)
    intro gg ab w5 V Y af ah)
   have HN:Hid (OV w w5 v (Sq gg (z.length+k+1) ab) z n c (k+1)):=by
    have ag:=((dt.refl (fun b=>(Value.slice a2 (z.length+k) G).ownBlock=some b) wr).alloc _).grown Y (fun k hk=> .inl hk)
    refine⟨?_,HO.out.trans ag (fun _ _ h=>h) (fun i hi h=>?_),fun b R=>?_⟩
    ·rw[HT.out]
     unfold BR;rw[ZC,aa.out,aag];have e:List.map (fun c=>Value.int .u8 ((c.toNat:Nat):Int)) [rJ n m]=[.int .u8 (n / 2^(8*m) %256)]:=by rw[HV.out];rfl
     rw[e];exact V
    ·rcases HF.out i h with h|h
     ·exact h
     ·omega
    ·simp[Value.ownBlock] at R
     subst R;rcases af with h|h
     ·exact HF.out _ h
     ·right
      have:=HO.out.size;rw[h,ZB];omega
   go_roundw
   case rel=>exact⟨k+1,by omega,by have:=HM.out;congr 1;omega,HN.out⟩
   case measure=>have:=HM.out;simp[intOf]
  ·obtain rfl:k=c:=by omega
   have HL:=Hi U.out;clear E O I U J
   go_wp2
   go_ret;obtain⟨E,O,I⟩:=HL.out;rw[aay (by rw[nh];exact Zw _)] at E
   exact⟨⟨_,rfl,E,I⟩,O⟩
def tL (l:List L3) (i:Nat):Nat:=3+((l.take i).map fun x=>1+dK x.op).sum
theorem Kv (l:List L3):tL l 0=3:=by simp[tL]
theorem CI (h:i<l.length):tL l (i+1)=tL l i+(1+dK (l.getD i gL).op):=by
 unfold tL;rw[aa6,Zv h,Zs,Zv h,aag,List.sum_append];simp only[Option.toList_some,ZS,aai,abL,List.sum_nil,abo];omega
theorem EE (l:List L3) (i:Nat):tL l i≤3+9*i:=by
 induction i with
 |zero=>simp[tL]
 |succ i ih=>
  by_cases h:i<l.length
  ·rw[CI h]
   have:=mH (l.getD i gL).op;omega
  ·unfold tL at ih⊢
   rw[aay (by omega)] at ih⊢
   omega
def pz (l:List L3) (k:Nat):List Int:=(List.range l.length).map fun i=>if i<k then((tL l i:Nat):Int) else 0
theorem tM (l:List L3) (k:Nat):(pz l k).length=l.length:=by simp[pz]
theorem Kw (l:List L3) (h:k<l.length):(pz l k).set k ((tL l k:Nat):Int)=pz l (k+1):=by
 apply abP
 intro i
 by_cases E:i<l.length
 ·have e:∀k,(pz l k)[i]?=some (if i<k then((tL l i:Nat):Int) else 0):=fun k=>by simp[pz,E]
  by_cases z:k=i
  ·subst z
   rw[List.getElem?_set_self (by rw[tM];exact h),e,Zu (by omega)]
  ·rw[List.getElem?_set_ne z,e,e]
   by_cases D:i<k
   ·rw[Zu D,Zu (by omega)]
   ·rw[Zt D,Zt (by omega)]
 ·rw[ZQ (by rw[aaX,tM];omega),ZQ (by rw[tM];omega)]
def CJ (w:World) (lv:Value) (l:List L3):Prop:= ∃a cap,lv= .slice a l.length cap∧ ∀j,j<l.length→ ∃g,a=some ⟨g,0,none⟩∧w.cell? ⟨g,j*4,none⟩=some (Iq ((l.getD j gL).op:Nat))∧w.cell? ⟨g,j*4+1,none⟩=some (Iq (l.getD j gL).n)∧w.cell? ⟨g,j*4+2,none⟩=some (Iq ((l.getD j gL).tj:Nat))∧w.cell? ⟨g,j*4+3,none⟩=some (Iq 0)
theorem CJ.below (h:CJ w lv l) (z:Below w.heap.size w w'):CJ w' lv l:=by
 obtain⟨a,cap,e,E⟩:=h;refine⟨a,cap,e,fun j G=>?_⟩
 obtain⟨g,I,c0,c1,c2,c3⟩:=E j G;have D:=Zx w _ c0;exact⟨g,I,by rw[z.cell (p:=⟨g,j*4,none⟩) D];exact c0,by rw[z.cell (p:=⟨g,j*4+1,none⟩) D];exact c1,by rw[z.cell (p:=⟨g,j*4+2,none⟩) D];exact c2,by rw[z.cell (p:=⟨g,j*4+3,none⟩) D];exact c3⟩
theorem lY.ins {jmp:Bool} {dep cells:Nat} (h:lY w lp jmp v l dep cells):CJ w v l:=by
 by_cases E:0<l.length
 ·obtain⟨g,cap,e,_,I⟩:=World.ownsRow.form h.row E
  subst e;refine⟨_,cap,rfl,fun j z=>⟨g,rfl,?_⟩⟩
  obtain⟨a,b,c,d⟩:=Kp l j z;have D:=fun q (O:q<l.length*4)=>aa1 h.row q (by omega)
  exact⟨(D (j*4) (by omega)).trans a,(D (j*4+1) (by omega)).trans b,(D (j*4+2) (by omega)).trans c,(D (j*4+3) (by omega)).trans d⟩
 ·have e:l=[]:=aap (by omega)
  subst e;obtain⟨R,G⟩:=h.row;rcases G with⟨rfl,_⟩|⟨g,cap,J,rfl,_⟩
  ·exact⟨none,0,rfl,fun j z=>by simp at z⟩
  ·exact⟨_,cap,rfl,fun j z=>by simp at z⟩
theorem CK:(prog.info? 3).map (fun i=>(i.zero,i.size,i.bytes))=some (some (Iq 0),1,8):=by kernel_rfl
theorem CL (h:CJ w lv l) (hl:l.length≤5000):
 Calls prog 137 #[lv] w fun e w'=>(∃g,e= .returned (Sq g l.length l.length)∧w.heap.size≤g∧w'.heap[g]?=some (.cells ((pz l l.length).map (Value.int .i64)).toArray 3 (0,0)))∧Below w.heap.size w w':=by
 have ae:=run_make_row' (P:=prog) 38 3 (Iq 0) 8 underlying38 CK rfl .i64 .i64 l.length (by omega) (by omega)
 have HI:=Hi h;have U:=fun V n tj w=>qQ V n tj 0 w
 obtain⟨a,cap,rfl,_⟩:=h;have I:Hid ((w.alloc (.cells (madeCells #[Iq 0] l.length) 3)).heap[w.heap.size]?=some (.cells ((pz l 0).map (Value.int .i64)).toArray 3 (0,0))∧Below w.heap.size w (w.alloc (.cells (madeCells #[Iq 0] l.length) 3))):=by
  refine⟨?_,(ZA _ _).alloc (Zw _) _⟩;have e:madeCells #[Iq 0] l.length=((pz l 0).map (Value.int .i64)).toArray:=by
   apply Array.ext
   ·rw[aci];simp[pz]
   ·intro i h1 h2
    simp[madeCells,pz,acv]
  rw[←e];exact Zy w _
 unfold fI at U;go_enter func137,ntmps137;go_wp2_with fail;generalize w.alloc (.cells (madeCells #[Iq 0] l.length) 3)=W0 at*
 go_loopw [4,12] (fun av R wr=> ∃k:Nat,k≤l.length∧R= Iq k∧av= Iq (tL l k:Nat)∧Hid (wr.heap[w.heap.size]?=some (.cells ((pz l k).map (Value.int .i64)).toArray 3 (0,0))∧Below w.heap.size w wr)) (fun _ R _=>l.length - (intOf R).toNat)
 case atStart=>exact⟨0,ZL _,rfl,by rw[Kv];rfl,I.out⟩
 case round=>
  obtain⟨k,hk,rfl,rfl,O⟩:=hrel;obtain⟨D,E⟩:=O.out
  by_cases G:k<l.length
  ·obtain⟨a',ac,Y,Z⟩:=CJ.below (w:=w) HI.out E
   simp only[aak,abf] at Y;obtain⟨rfl,rfl⟩:=Y;obtain⟨g,rfl,c0,c1,c2,c3⟩:=Z k G;have af:(0:Int)≤(k:Int)∧(k:Int)<(l.length:Int):=by omega
   have ad:=EE l k;have HS:=Hi (CI G);have ag:=mH (l.getD k gL).op;have aa:=be D;have ai:wr.cell? ⟨w.heap.size,k,none⟩=some (Iq ((pz l k).getD k 0)):=by
    rw[Zz wr _ k _ _ _ D,aaC,aaj,Zs,Zv (by rw[tM];exact G)];rfl
   have aj:wr.frozen? ⟨w.heap.size,k,none⟩=false:=by simp[World.frozen?,D]
   have HB:Hid (∀o J,Below ((wr.setCell ⟨w.heap.size,k,none⟩ (Iq (tL l k:Nat))).alloc o).heap.size ((wr.setCell ⟨w.heap.size,k,none⟩ (Iq (tL l k:Nat))).alloc o) J→J.heap[w.heap.size]?=some (.cells ((pz l (k+1)).map (Value.int .i64)).toArray 3 (0,0))∧Below w.heap.size w J):=fun o J hb=>by
    have q0:Below w.heap.size w (wr.setCell ⟨w.heap.size,k,none⟩ (Iq (tL l k:Nat))):=E.setCell (Zw _) _;have q1:Below w.heap.size w ((wr.setCell ⟨w.heap.size,k,none⟩ (Iq (tL l k:Nat))).alloc o):=q0.alloc q0.size _;refine⟨(hb.block _ (by simp;omega)).trans ((ZE _ o _ (by simpa using aa)).trans ?_),q1.trans (hb.mono q1.size)⟩
    rw[ZK wr _ k _ _ _ D,←Kw l G,List.map_set];simp
   generalize tL l k=pp at*;generalize (l.getD k gL).op=V at*;generalize (l.getD k gL).n=nn at*;generalize (l.getD k gL).tj=tt at*;generalize (pz l k).getD k 0=z at*
   go_wp2_with (first|(go_at_call 139;refine(U _ _ _ _).mono ?_;rintro e J ⟨rfl,ab⟩))
   exact⟨⟨k+1,by omega,by go_num,by rw[HS.out];congr 1,HB.out _ _ ab⟩,by simp[intOf];omega⟩
  ·obtain rfl:k=l.length:=by omega
   have HL:=Hi O.out
   go_wp2
   go_ret;exact⟨⟨_,rfl,Zw _,HL.out.1⟩,HL.out.2⟩
def CM (l:List L3) (i:Nat) (x:L3):Int:=if x.op=15∨x.op=16 then(tL l x.tj:Int) - (tL l i:Int) - ((1+dK x.op:Nat):Int) else x.n
def H9 (l:List L3) (i:Nat) (x:L3):List UInt8:=UInt8.ofNat x.op::nA (CM l i x) (dK x.op)
def Ia (l:List L3) (k:Nat):List UInt8:=(List.range k).flatMap fun i=>H9 l i (l.getD i gL)
theorem CN (l:List L3) (k:Nat):Ia l (k+1)=Ia l k++H9 l k (l.getD k gL):=by
 unfold Ia;rw[List.range_succ,List.flatMap_append];simp
theorem Mg (l:List L3) (k:Nat):(Ia l k).length≤9*k:=by
 induction k with
 |zero=>simp[Ia]
 |succ k ih=>
  rw[CN,ZC];have:(H9 l k (l.getD k gL)).length≤9:=by
   unfold H9;rw[Z7,nh];have:=mH (l.getD k gL).op;omega
  omega
def OC (dep cells:Nat) (l:List L3):List UInt8:=[71,UInt8.ofNat dep,UInt8.ofNat cells]++Ia l l.length
structure Mh (w wr:World) (pg:Nat) (bv:Value) (dep cells:Nat) (l:List L3) (k:Nat):Prop where
 row:BR wr bv ([71,UInt8.ofNat dep,UInt8.ofNat cells]++Ia l k)
 bel:Below w.heap.size w wr
 pl:wr.heap[pg]?=some (.cells ((pz l l.length).map (Value.int .i64)).toArray 3 (0,0))
 own:∀b,bv.ownBlock=some b→w.heap.size≤b
theorem Kx {l:List UInt8} (h:BR w v l) {p:Nat} {cs:Array Value} {T:TypeId} {z:Nat×Nat} (E:w.heap[p]?=some (.cells cs T z)) (G:T≠5):v.ownBlock≠some p:=fun e=>by
 obtain⟨I,D⟩:=dF h e;rw[E] at D;simp at D;exact G D.2.1
theorem Mh.below {D:Nat} {dep cells:Nat} (h:Mh w wr D E dep cells l k) (z:Below wr.heap.size wr w'):Mh w w' D E dep cells l k:=
 ⟨dn h.row z,h.bel.trans (z.mono h.bel.size),(z.block _ (be h.pl)).trans h.pl,h.own⟩
theorem Mh.more {E:Nat} {D z:Value} {dep cells:Nat} (h:Mh w wr E D dep cells l k) (R:BR w' z G) (I:dt (fun b=>D.ownBlock=some b) wr w') (U:∀b,z.ownBlock=some b→D.ownBlock=some b∨wr.heap.size≤b):
 BR w' z G∧Below w.heap.size w w'∧w'.heap[E]?=some (.cells ((pz l l.length).map (Value.int .i64)).toArray 3 (0,0))∧ ∀b,z.ownBlock=some b→w.heap.size≤b:=by
 refine⟨R,h.bel.trans (I.below h.bel.size (fun k _ V=>h.own k V)),(I.block _ (be h.pl) (Kx h.row h.pl (by decide))).trans h.pl,fun b Y=>?_⟩
 rcases U b Y with J|J
 ·exact h.own b J
 ·have:=h.bel.size;omega
theorem FD {cap z:Nat} (E:((UInt8.ofNat z).toNat:Int)=(z:Int)) (h:w.ownsRow 0 5 1 (Sq g (D.length+1) cap) (D.length+1) ((D.map fun c=>Value.int .u8 (c.toNat:Nat))++[.int .u8 (z:Nat)])):BR w (Sq g (D.length+1) cap) (D++[UInt8.ofNat z]):=by
 unfold BR;rw[ZC,aag];have e:List.map (fun c:UInt8=>Value.int .u8 ((c.toNat:Nat):Int)) [UInt8.ofNat z]=[.int .u8 (z:Nat)]:=by simp only[ZS,aai,E]
 rw[e];exact h
theorem vQ (l:List L3) (h:i<l.length):((pz l l.length).map (Value.int .i64)).toArray[i]?=some (Iq ((tL l i:Nat):Int)):=by
 rw[aaC,aaj];unfold pz;rw[aaj,abm h];simp[h]
theorem Ib {dep cells:Nat} (h:CJ w lv l) (hl:l.length≤1000) (aG:∀x∈l,x.op<256∧((x.op=15∨x.op=16)→x.tj<l.length)) (hd:dep≤255) (hc:cells≤255):
 Calls prog 94 #[Iq dep,Iq cells,lv] w fun e w'=>e= .returned (S (OC dep cells l))∧Below w.heap.size w w':=by
 have W0:=CL h (by omega)
 have HI:=Hi h;have a9:Hid (∀i,i<l.length→(l.getD i gL).op<256∧(((l.getD i gL).op=15∨(l.getD i gL).op=16)→(l.getD i gL).tj<l.length)):=fun i hi=>by
  have:=aG (l.getD i gL) (by rw[Zs,Zv hi];exact ZV _)
  exact this
 obtain⟨i0,hi,hz⟩:=ZP.1 FB;simp only[ZT] at hz;obtain⟨aH,aI,aJ⟩:=hz;obtain⟨a,cap,rfl,_⟩:=h;go_enter func94,ntmps94;go_wp2_with fail;apply W0.mono;rintro e w1 ⟨⟨pg,rfl,bi,ay⟩,au⟩;have ed:((UInt8.ofNat dep).toNat:Int)=(dep:Int):=by rw[aaK];omega
 have ec:((UInt8.ofNat cells).toNat:Int)=(cells:Int):=by rw[aaK];omega
 have ba:Hid (Mh w (w1.alloc (.cells #[.int .u8 71,.int .u8 (dep:Nat),.int .u8 (cells:Nat)] 5)) pg (Sq w1.heap.size 3 3) dep cells l 0):=by
  have aK:Below w1.heap.size w1 (w1.alloc (.cells #[.int .u8 71,.int .u8 (dep:Nat),.int .u8 (cells:Nat)] 5)):=(ZA _ _).alloc (Zw _) _;refine⟨?_,au.trans (aK.mono au.size),(aK.block _ (be ay)).trans ay,fun b I=>?_⟩
  ·refine⟨rfl,.inr ⟨w1.heap.size,3,#[.int .u8 71,.int .u8 (dep:Nat),.int .u8 (cells:Nat)],rfl,ZL _,Zy w1 _,Zw _,by unfold maxLen;omega,rfl,?_⟩⟩
   simp[Ia];omega
  ·simp[Value.ownBlock] at I
   have:=au.size;omega
 go_wp2_with fail
 go_loopw [8,21] (fun bv iv wr=> ∃k:Nat,k≤l.length∧iv= Iq k∧Hid (Mh w wr pg bv dep cells l k)) (fun _ iv _=>l.length - (intOf iv).toNat)
 case atStart=>exact⟨0,ZL _,rfl,ba.out⟩
 case round=>
  obtain⟨k,hk,rfl,HX⟩:=hrel
  by_cases av:k<l.length
  ·have hX:=HX.out
   obtain⟨D,O⟩:∃D:List UInt8,[71,UInt8.ofNat dep,UInt8.ofNat cells]++Ia l k=D:=⟨_,rfl⟩;have J:=hX.row;rw[O] at J;have bj:D.length≤9003:=by rw[←O];have:=Mg l k;simp;omega
   have aL:=Hi O;obtain⟨Z,G,rfl⟩:=BR.sl J;have ag:Hid (BR wr (.slice Z D.length G) D):=J;obtain⟨a',bh,e',aM⟩:=CJ.below (w:=w) HI.out hX.bel;simp only[aak,abf] at e';obtain⟨rfl,rfl⟩:=e';obtain⟨g,rfl,c0,c1,c2,c3⟩:=aM k av;obtain⟨bk,az⟩:=a9.out k av;have bl:(0:Int)≤(k:Int)∧(k:Int)<(l.length:Int):=by omega
   have aN:Hid (Ia l (k+1)=Ia l k++(UInt8.ofNat (l.getD k gL).op::nA (CM l k (l.getD k gL)) (dK (l.getD k gL).op))):=CN l k;have af:Hid (CM l k (l.getD k gL)=if(l.getD k gL).op=15∨(l.getD k gL).op=16 then(tL l (l.getD k gL).tj:Int) - (tL l k:Int) - ((1+dK (l.getD k gL).op:Nat):Int) else(l.getD k gL).n):=rfl
   have aP:=(Zz wr _ k _ _ _ hX.pl).trans (vQ l av);have aQ:(l.getD k gL).tj<l.length→wr.cell? ⟨pg,(l.getD k gL).tj,none⟩=some (Iq ((tL l (l.getD k gL).tj:Nat):Int)):=fun ht=>(Zz wr _ _ _ _ _ hX.pl).trans (vQ l ht)
   have aR:=EE l k;have aq:=fun(ht:(l.getD k gL).tj<l.length)=>EE l (l.getD k gL).tj
   generalize CM l k (l.getD k gL)=nL at*;generalize (l.getD k gL).op=E at*;generalize (l.getD k gL).n=nn at*;generalize (l.getD k gL).tj=V at*;have aS:=mH E;have W1:=fun w=>zg E nn V 0 w
   have W2:=fun w=>qQ E nn V 0 w
   have W3:=fun w=>rM E w
   unfold fI at W1 W2;have aT:((UInt8.ofNat E).toNat:Int)=(E:Int):=by rw[aaK];omega
   have aU:=Hi aT;have bm:g<wr.heap.size:=Zx wr _ c0;have g1:g≠wr.heap.size:=by omega
   have g2:wr.heap.size≠g:=by omega
   have hA:Below wr.heap.size wr (wr.alloc (.cells #[Iq (E:Nat),Iq nn,Iq (V:Nat),Iq 0] 247)):=(ZA _ _).alloc (Zw _) _;have aV:(wr.alloc (.cells #[Iq (E:Nat),Iq nn,Iq (V:Nat),Iq 0] 247)).heap[wr.heap.size]?=some (.cells #[Iq (E:Nat),Iq nn,Iq (V:Nat),Iq 0] 247 (0,0)):=Zy wr _;have aw:=Hi aV;have HA:=Hi hA;have ax:=Hi hX
   by_cases hj:E=15∨E=16
   ·have ht:=az hj
    have bb:=aq ht;have ej:decide (E=15∨E=16)=true:=aad hj;rw[ej] at W1;rw[Zu hj] at af;go_wp2_with fail;apply(W1 _).mono;rintro e z ⟨rfl,aa⟩;have Y:Below wr.heap.size wr z:=HA.out.trans (aa.mono HA.out.size);have h2:=ax.out.below Y;have x2:=(aa.block _ (by simp)).trans aw.out
    have P0:∀W,Below z.heap.size z W→W.cell? ⟨pg,k,none⟩=some (Iq ((tL l k:Nat):Int)):=fun W I=>by rw[I.cell (p:=⟨pg,k,none⟩) (be h2.pl)];exact(Zz z _ k _ _ _ h2.pl).trans (vQ l av)
    have P1:∀W,Below z.heap.size z W→W.cell? ⟨pg,V,none⟩=some (Iq ((tL l V:Nat):Int)):=fun W I=>by rw[I.cell (p:=⟨pg,V,none⟩) (be h2.pl)];exact(Zz z _ V _ _ _ h2.pl).trans (vQ l ht)
    have X0:∀W,Below z.heap.size z W→W.cell? ⟨wr.heap.size,0,none⟩=some (Iq (E:Nat)):=fun W I=>by rw[I.cell (p:=⟨wr.heap.size,0,none⟩) (be x2)];exact Zz z _ 0 _ _ _ x2
    have X1:∀W,Below z.heap.size z W→W.cell? ⟨wr.heap.size,1,none⟩=some (Iq nn):=fun W I=>by rw[I.cell (p:=⟨wr.heap.size,1,none⟩) (be x2)];exact Zz z _ 1 _ _ _ x2
    have X2:∀W,Below z.heap.size z W→W.cell? ⟨wr.heap.size,2,none⟩=some (Iq (V:Nat)):=fun W I=>by rw[I.cell (p:=⟨wr.heap.size,2,none⟩) (be x2)];exact Zz z _ 2 _ _ _ x2
    have X3:∀W,Below z.heap.size z W→W.cell? ⟨wr.heap.size,3,none⟩=some (Iq 0):=fun W I=>by rw[I.cell (p:=⟨wr.heap.size,3,none⟩) (be x2)];exact Zz z _ 3 _ _ _ x2
    have aW:Below z.heap.size z z:=ZA _ _;have KD:Hid (∀W:World,Below z.heap.size z W→Below z.heap.size z W.drew):=fun W h=>h.drew
    have KB:Hid (∀W W':World,Below z.heap.size z W→Below W.heap.size W W'→Below z.heap.size z W'):=fun W W' h h'=>h.trans (h'.mono h.size)
    have bc:(0:Int)≤(V:Int)∧(V:Int)<(l.length:Int):=by omega
    have bd:1+dK E≤9:=by omega
    generalize 1+dK E=so at*;generalize tL l V=pt at*;generalize tL l k=pk at*;have aX:IntKind.i64.wrap ((pt:Int) - (pk:Int))=(pt:Int) - (pk:Int):=by rw[ZY];omega
    have aY:IntKind.i64.wrap ((pt:Int) - (pk:Int) - (so:Int))=nL:=by rw[af.out,ZY];omega
    have bf:=Hi h2;have aZ:=Hi x2;have a0:=Hi Y;go_wp2_with fail
    go_region_held3 (fun W=>Below z.heap.size z W) (first|assumption|exact KB.out _ _ (by assumption) a8|exact KD.out _ aW|exact KD.out _ (by assumption)|go_keep)
     (first
      |(go_at_call 139;refine(W2 _).mono ?_;rintro e w3 ⟨rfl,a8⟩))
    all_goals
     rename_i hHeld
     have aA:Below wr.heap.size wr w3:=a0.out.trans (hHeld.mono a0.out.size);have h3:=bf.out.below hHeld;have x3:=(hHeld.block _ (be aZ.out)).trans aZ.out
     try rw[aX,aY]
     have HR:Hid (w3.ownsRow 0 5 1 (.slice Z D.length G) D.length (D.map fun c=>Value.int .u8 (c.toNat:Nat))):=dn ag.out aA
     have aB:=be x3;have ah:=Hi x3;have aC:=Hi h3;have aD:Hid (BR w3 (.slice Z D.length G) D):=dn ag.out aA;have W5:=fun(w':World) (v:Value) (b2:List UInt8) (I:BR w' v b2) (hl:b2.length≤10000)=>oA nL (dK E) aS I hl
     go_wp2_with (first
      |(at_builtin;go_must (refine wpList_append_lies _ (by rfl) _ _ 155 (by rfl) 0 5 i0 (.int .u8 0) 1 1 underlying155 hi aH aI aJ (by rfl) (by decide) _ _ _ (by rfl) (HR.out.alloc _) ⟨w3.heap.size,0,none⟩ 1 1 [.int .u8 (E:Nat)] (by rfl) (by rfl) (World.news_of_block (Zy w3 _)) (fun x hx=>by simp at hx;rcases hx with rfl;rfl) (by decide) (by unfold maxLen;omega) (by omega) (by simp) _ rfl ?_);intro gg ab w5 R U ai ar;have aj:BR w5 (Sq gg (D.length+1) ab) (D++[UInt8.ofNat E]):=FD aU.out R;have ac:dt (fun b=>(Value.slice Z D.length G).ownBlock=some b) w3 w5:=((dt.refl (fun b=>(Value.slice Z D.length G).ownBlock=some b) w3).alloc _).grown U (fun k hk=> .inl hk);have x5:=(ac.block _ aB (Kx aD.out ah.out (by decide))).trans ah.out;have z0:w5.cell? ⟨wr.heap.size,0,none⟩=some (Iq (E:Nat)):=Zz w5 _ 0 _ _ _ x5;have ak:∀b,(Value.slice (some ⟨gg,0,none⟩) (D.length+1) ab).ownBlock=some b→(Value.slice Z D.length G).ownBlock=some b∨w3.heap.size≤b:=fun b I=>(by simp[Value.ownBlock] at I;subst I;rcases ai with h|h;exact .inl h;right;rw[h,ZB];omega);have H5:Hid _:=aj;have ad:Hid _:=ac;have ae:Hid _:=ak;clear R U ai ar aj ac x5 ak)
      |(go_at_call 141;refine(W3 _).mono ?_;rintro e w' ⟨rfl,am⟩;have aE:=am.symm;clear am;subst aE))
     apply(W5 _ _ _ H5.out (by simp;omega)).mono
     rintro e w6 ⟨⟨v6,rfl,an,ao⟩,ap⟩;have HN:Hid (Mh w w6 pg v6 dep cells l (k+1)):=by
      obtain⟨m1,m2,m3,m4⟩:=aC.out.more an (ad.out.trans ap (fun _ _ h=>h) (fun i hi h=>(ae.out i h).resolve_right (by omega))) (fun b I=>by
       rcases ao b I with h|h
       ·exact ae.out b h
       ·right;have:=ad.out.size;omega)
      refine⟨?_,m2,m3,m4⟩;rw[aN.out,←ZZ,aL.out];have e:D++UInt8.ofNat E::nA nL (dK E)=D++[UInt8.ofNat E]++nA nL (dK E):=by simp
      rw[e];exact m1
     go_wp2_with fail
     go_roundw
     case rel=>exact⟨k+1,by omega,by go_num,HN.out⟩
     case measure=>simp[intOf];omega
   ·have ej:decide (E=15∨E=16)=false:=Z4 hj
    rw[ej] at W1;rw[Zt hj] at af;have aF:Hid (nn=nL):=af.out.symm;go_wp2_with fail;apply(W1 _).mono;rintro e z ⟨rfl,aa⟩;have Y:Below wr.heap.size wr z:=HA.out.trans (aa.mono HA.out.size);have h2:=ax.out.below Y;have x2:=(aa.block _ (by simp)).trans aw.out
    rw[aF.out];have HR:Hid (z.ownsRow 0 5 1 (.slice Z D.length G) D.length (D.map fun c=>Value.int .u8 (c.toNat:Nat))):=dn ag.out Y
    have y0:z.cell? ⟨wr.heap.size,0,none⟩=some (Iq (E:Nat)):=Zz z _ 0 _ _ _ x2;have aB:=be x2;have ah:=Hi x2;have aC:=Hi h2;have aD:Hid (BR z (.slice Z D.length G) D):=dn ag.out Y;have W5:=fun(w':World) (v:Value) (b2:List UInt8) (I:BR w' v b2) (hl:b2.length≤10000)=>oA nL (dK E) aS I hl
    go_wp2_with (first
     |(at_builtin;go_must (refine wpList_append_lies _ (by rfl) _ _ 155 (by rfl) 0 5 i0 (.int .u8 0) 1 1 underlying155 hi aH aI aJ (by rfl) (by decide) _ _ _ (by rfl) (HR.out.alloc _) ⟨z.heap.size,0,none⟩ 1 1 [.int .u8 (E:Nat)] (by rfl) (by rfl) (World.news_of_block (Zy z _)) (fun x hx=>by simp at hx;rcases hx with rfl;rfl) (by decide) (by unfold maxLen;omega) (by omega) (by simp) _ rfl ?_);intro gg ab w5 R U ai ar;have aj:BR w5 (Sq gg (D.length+1) ab) (D++[UInt8.ofNat E]):=FD aU.out R;have ac:dt (fun b=>(Value.slice Z D.length G).ownBlock=some b) z w5:=((dt.refl (fun b=>(Value.slice Z D.length G).ownBlock=some b) z).alloc _).grown U (fun k hk=> .inl hk);have x5:=(ac.block _ aB (Kx aD.out ah.out (by decide))).trans ah.out;have z0:w5.cell? ⟨wr.heap.size,0,none⟩=some (Iq (E:Nat)):=Zz w5 _ 0 _ _ _ x5;have ak:∀b,(Value.slice (some ⟨gg,0,none⟩) (D.length+1) ab).ownBlock=some b→(Value.slice Z D.length G).ownBlock=some b∨z.heap.size≤b:=fun b I=>(by simp[Value.ownBlock] at I;subst I;rcases ai with h|h;exact .inl h;right;rw[h,ZB];omega);have H5:Hid _:=aj;have ad:Hid _:=ac;have ae:Hid _:=ak;clear R U ai ar aj ac x5 ak)
     |(go_at_call 141;refine(W3 _).mono ?_;rintro e w' ⟨rfl,am⟩;have aE:=am.symm;clear am;subst aE))
    apply(W5 _ _ _ H5.out (by simp;omega)).mono
    rintro e w6 ⟨⟨v6,rfl,an,ao⟩,ap⟩;have HN:Hid (Mh w w6 pg v6 dep cells l (k+1)):=by
     obtain⟨m1,m2,m3,m4⟩:=aC.out.more an (ad.out.trans ap (fun _ _ h=>h) (fun i hi h=>(ae.out i h).resolve_right (by omega))) (fun b I=>by
      rcases ao b I with h|h
      ·exact ae.out b h
      ·right;have:=ad.out.size;omega)
     refine⟨?_,m2,m3,m4⟩;rw[aN.out,←ZZ,aL.out];have e:D++UInt8.ofNat E::nA nL (dK E)=D++[UInt8.ofNat E]++nA nL (dK E):=by simp
     rw[e];exact m1
    go_wp2_with fail
    go_roundw
    case rel=>exact⟨k+1,by omega,by go_num,HN.out⟩
    case measure=>simp[intOf];omega
  ·obtain rfl:k=l.length:=by omega
   have hX:=HX.out;obtain⟨D,O⟩:∃D:List UInt8,[71,UInt8.ofNat dep,UInt8.ofNat cells]++Ia l l.length=D:=⟨_,rfl⟩;have J:=hX.row;rw[O] at J;have HE:Hid (D=OC dep cells l):=O.symm;have h0:0<D.length:=by rw[←O];simp
   obtain⟨g,G,rfl,_,_⟩:=World.ownsRow.form J h0;have bo:(convert 155 9 (Sq g D.length G)).run prog wr= .ok (S D) wr:=by
    refine run_convert_bytes_back wr 155 9 5 ⟨g,0,none⟩ G D underlying155 underlying5 underlying9 fun j hj=>?_
    have hc:=aa1 J j (by omega)
    rw[Addr.add_mid];simp only[aaq];rw[hc];simp[aaj,Zv hj]
   have bg:=Hi hX.bel;go_wp2_with fail;go_ret;exact⟨by show Ending.returned (S D)=_;rw[HE.out],bg.out⟩
end Go.Proofs.YtfkdailfcmnjlaaGreatDoor
