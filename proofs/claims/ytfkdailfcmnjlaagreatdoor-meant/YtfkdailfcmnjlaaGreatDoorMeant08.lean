/-
  A part.
-/
import Derived.Test.YtfkdailfcmnjlaaGreatDoorMeant07
import Derived.Deep.RegionLaw
set_option linter.unusedVariables false
set_option linter.unusedSimpArgs false
set_option maxHeartbeats 40000000
set_option maxRecDepth 1000000
namespace Go.Proofs.YtfkdailfcmnjlaaGreatDoor
open Go Go.RowKit Tryz
attribute [local go_sem ↓] Go.wp_at_zero Go.wp_at_succ
variable {w w' W:World} {p:kf} {rb k B gl cl b f i g base size n c G F fr:Nat} {pv I z v D:Value} {o:Obj} {ts:List Tok} {L:List Pt} {x a:Int} {r:Da} {ps:List kf} {xs:List dY} {l:List (List UInt8)} {s:List UInt8}
theorem oK.one (h:oK w p):p.sv.oneCell'=true:=by
 rcases h with⟨_,e⟩|⟨z,e,_⟩<;>rw[e]<;>rfl
theorem oK.of (h:oK w p) (E:∀(k:Nat) (cs:Array Value),w.heap[k]?=some (.cells cs 3 (0,0))→w'.heap[k]?=w.heap[k]?):oK w' p:=by
 rcases h with e|⟨z,e,D⟩
 ·exact .inl e
 ·exact .inr ⟨z,e,by rw[E z _ D];exact D⟩
def On (p:kf):Pt:=⟨p.tok,p.subs⟩
theorem Fr.far (h:Fr rb pv I w w') (J:w.heap[k]?=some o) (U:k≠rb) (V:some k≠pv.ownBlock):w'.heap[k]?=some o:=by
 rw[h.block k (be J) U V];exact J
theorem M3 {s:St} (h:RS B rb gl cl ts s w) (O:w.heap[k]?=some o) (R:∀cs,o≠ .cells cs 169 (0,0)):some k≠s.pv.ownBlock:=fun e=>by
 obtain⟨cs,D⟩:=dF h.parts e.symm;rw[O] at D;simp at D;exact R cs D
theorem Fr.new (h:Fr rb pv z w w') (I:w.heap.size≤b) (j:Nat) (v:Value):Fr rb pv z w (w'.setCell ⟨b,j,none⟩ v):=
 ⟨h.os,h.tape,h.output,by simpa using h.size,fun k D E G=>by rw[ZO _ _ _ _ (by simp;omega)];exact h.block k D E G,h.own⟩
theorem Dn {x:dY} (h:gS f ts i L x=some r):
 ∃a:Rd,P f 6 ts i L 0=some a∧((a.ok=true∧fX (dc ts a.i) [59]=true∧r=⟨true,a.i+1,a.L,{x with top:=a.top,parts:=a.L.length}⟩)∨(¬(a.ok=true∧fX (dc ts a.i) [59]=true)∧r.ok=false∧r.i=a.i)):=by
 unfold gS at h
 cases E:P f 6 ts i L 0 with
 |none=>rw[E] at h;simp at h
 |some a=>
  rw[E] at h;simp only at h;refine⟨a,rfl,?_⟩
  by_cases z:a.ok=true
  ·rw[Zu z] at h
   by_cases D:fX (dc ts a.i) [59]=true
   ·rw[Zu D] at h;simp at h;exact .inl ⟨z,D,h.symm⟩
   ·rw[Zt D] at h;simp[fb] at h;subst h;exact .inr ⟨fun e=>D e.2,rfl,rfl⟩
  ·rw[Zt z] at h;simp[fb] at h;subst h;exact .inr ⟨fun e=>z e.1,rfl,rfl⟩
structure oL (B g cap:Nat) (ps:List kf) (w:World):Prop where
 row:w.ownsRow B 169 5 (.slice (some ⟨g,0,none⟩) ps.length cap) ps.length (hZ ps)
 subs:∀p∈ps,oK w p
 few:ps.length≤1001
def nR:kf:=⟨ku,[],0,.slice none 0 0⟩
theorem zG (ps:List kf) (i:Nat) (z:i<ps.length):(hZ ps)[i*5]?=some (.int .u8 (ps.getD i nR).tok.k)∧(hZ ps)[i*5+1]?=some (S (ps.getD i nR).tok.text)∧(hZ ps)[i*5+2]?=some (Iq (ps.getD i nR).tok.pl)∧(hZ ps)[i*5+3]?=some (ps.getD i nR).sv∧(hZ ps)[i*5+4]?=some (Iq (ps.getD i nR).n):=by
 induction ps generalizing i with
 |nil=>simp at z
 |cons t ps ih=>
  cases i with
  |zero=>simp[hZ]
  |succ i=>
   have:=ih i (by simpa using z)
   have e:hZ (t::ps)=[.int .u8 t.tok.k,S t.tok.text,Iq t.tok.pl,t.sv,Iq t.n]++hZ ps:=rfl;rw[e,show(i+1)*5=i*5+1+1+1+1+1 from by omega,show i*5+1+1+1+1+1+2=i*5+2+1+1+1+1+1 from by omega,show i*5+1+1+1+1+1+3=i*5+3+1+1+1+1+1 from by omega,show i*5+1+1+1+1+1+4=i*5+4+1+1+1+1+1 from by omega,show i*5+1+1+1+1+1+1=i*5+1+1+1+1+1+1 from rfl]
   simpa using this
theorem oL.cells {B g cap:Nat} {ps:List kf} {w:World} (h:oL B g cap ps w) (i:Nat) (J:i<ps.length):
 Cq w g (i*5) (.int .u8 (ps.getD i nR).tok.k)∧Cq w g (i*5+1) (S (ps.getD i nR).tok.text)∧Cq w g (i*5+2) (Iq (ps.getD i nR).tok.pl)∧w.cell? ⟨g,i*5+3,none⟩=some (ps.getD i nR).sv∧Cq w g (i*5+4) (Iq (ps.getD i nR).n):=by
 have z:=h.row.cells (g:=g) rfl;obtain⟨a,b,c,d,e⟩:=zG ps i J;have O:∀j,(⟨g,0,none⟩:Addr).add j=⟨g,j,none⟩:=fun j=>by unfold Addr.add;split<;>simp_all
 have D:=z _ _ a;have E:=z _ _ b;have G:=z _ _ c;have h3:=z _ _ d;have I:=z _ _ e
 rw[O] at D E G h3 I;exact⟨D,E,G,h3,I⟩
theorem oL.below {cap:Nat} (h:oL B g cap ps w) (z:Below w.heap.size w w'):oL B g cap ps w':=
 ⟨dn h.row z,fun p D=>(h.subs p D).of fun k _ E=>z.block k (be E),h.few⟩
def jO (xs:List dY):List Value:=xs.flatMap fun x=>[S x.name,.bool x.allow,Iq x.top,Iq x.pl,Iq x.named,Iq x.parts]
theorem A7 (xs:List dY) (i:Nat) (z:i<xs.length):(jO xs)[i*6]?=some (S xs[i].name)∧(jO xs)[i*6+1]?=some (.bool xs[i].allow)∧(jO xs)[i*6+2]?=some (Iq xs[i].top)∧(jO xs)[i*6+3]?=some (Iq xs[i].pl)∧(jO xs)[i*6+4]?=some (Iq xs[i].named)∧(jO xs)[i*6+5]?=some (Iq xs[i].parts):=by
 induction xs generalizing i with
 |nil=>simp at z
 |cons t xs ih=>
  cases i with
  |zero=>simp[jO]
  |succ i=>
   have:=ih i (by simpa using z)
   have e:jO (t::xs)=[S t.name,.bool t.allow,Iq t.top,Iq t.pl,Iq t.named,Iq t.parts]++jO xs:=rfl;rw[e,show(i+1)*6=i*6+1+1+1+1+1+1 from by omega,show i*6+1+1+1+1+1+1+2=i*6+2+1+1+1+1+1+1 from by omega,show i*6+1+1+1+1+1+1+3=i*6+3+1+1+1+1+1+1 from by omega,show i*6+1+1+1+1+1+1+4=i*6+4+1+1+1+1+1+1 from by omega,show i*6+1+1+1+1+1+1+5=i*6+5+1+1+1+1+1+1 from by omega]
   simpa using this
structure kH (B:Nat) (iv:Value) (xs:List dY) (w:World):Prop where
 row:w.ownsRow B 95 6 iv xs.length (jO xs)
 few:xs.length≤1001
theorem kH.below (h:kH B z xs w) (D:Below w.heap.size w w'):kH B z xs w':=⟨dn h.row D,h.few⟩
theorem kH.form (h:kH B z xs w):(z= .slice none 0 0∧xs.length=0)∨ ∃g c,z= Sq g xs.length c:=by
 rcases h.row.2 with e|⟨g,cap,D,e,_⟩
 ·exact .inl e
 ·exact .inr ⟨g,cap,e⟩
theorem kH.cells {B g c:Nat} {xs:List dY} {w:World} (h:kH B (Sq g xs.length c) xs w) (i:Nat) (O:i<xs.length):
 Cq w g (i*6) (S xs[i].name)∧Cq w g (i*6+1) (.bool xs[i].allow)∧Cq w g (i*6+2) (Iq xs[i].top)∧Cq w g (i*6+3) (Iq xs[i].pl)∧Cq w g (i*6+4) (Iq xs[i].named)∧Cq w g (i*6+5) (Iq xs[i].parts):=by
 have z:=h.row.cells (g:=g) rfl;obtain⟨a,b,c,d,e,f⟩:=A7 xs i O;have R:∀j,(⟨g,0,none⟩:Addr).add j=⟨g,j,none⟩:=fun j=>by unfold Addr.add;split<;>simp_all
 have D:=z _ _ a;have E:=z _ _ b;have G:=z _ _ c;have h3:=z _ _ d;have I:=z _ _ e;have J:=z _ _ f
 rw[R] at D E G h3 I J;exact⟨D,E,G,h3,I,J⟩
def byteCells (l:List UInt8):List Value:=l.map fun c=>Value.int .u8 (c.toNat:Int)
structure I8 (B gi c g cap:Nat) (xs:List dY) (ps:List kf) (bv:Value) (its:List UInt8) (w:World):Prop where
 items:kH B (.slice (some ⟨gi,0,none⟩) xs.length c) xs w
 parts:oL B g cap ps w
 bytes:w.ownsRow B 5 1 bv its.length (byteCells its)
 len:its.length≤xs.length
theorem I8.below {B D c g cap:Nat} {xs:List dY} {ps:List kf} {E:Value} {its:List UInt8} {w w':World} (h:I8 B D c g cap xs ps E its w) (z:Below w.heap.size w w'):I8 B D c g cap xs ps E its w':=
 ⟨h.items.below z,h.parts.below z,dn h.bytes z,h.len⟩
theorem I9 (l:List (List UInt8)) (s:List UInt8):dP l s<l.length:=by
 induction l with
 |nil=>simp[dP]
 |cons x r ih=>unfold dP;simp only[Z7];split;omega;split<;>omega
theorem zH {z:Nat} {e:TypeId} {xs:List Value} (h:w.ownsRow base e size v n xs) (I:z≤base):w.ownsRow z e size v n xs:=by
 obtain⟨G,D⟩:=h;refine⟨G,?_⟩;rcases D with D|⟨g,cap,E,a,b,r⟩
 ·exact .inl D
 ·exact .inr ⟨g,cap,E,a,by omega,r⟩
abbrev Oo (z pv:Value):Obj:= .cells #[z,pv] 90
structure M4 (B:Nat) (L:List Pt) (xs:List dY) (iv pv:Value) (w:World):Prop where
 items:kH B iv xs w
 parts:∃ps:List kf,w.ownsRow B 169 5 pv ps.length (hZ ps)∧(∀p∈ps,oK w p)∧ps.length≤1001∧(∀p∈ps,p.n=My p.tok)∧ps.map On=L
def Lj (n k:Nat) (L:List Pt) (xs:List dY) (w:World) (e:Ending) (w':World):Prop:=
 Below w.heap.size w w'∧ ∃z pv,e= .returned (.tuple #[.agg #[z,pv],Iq n,Iq k])∧(∃a b c,z= .slice a b c)∧(∃a b c,pv= .slice a b c)∧(n≠0→z= .slice none 0 0∧pv= .slice none 0 0)∧(n=0→M4 w.heap.size L xs z pv w')
theorem RS.types {s:St} (h:RS B rb gl cl ts s w) (E:∀(k:Nat) (cs:Array Value) (e:TypeId),w.heap[k]?=some (.cells cs e (0,0))→e≠95→e≠90→w'.heap[k]?=w.heap[k]?):RS B rb gl cl ts s w':=by
 refine⟨?_,?_,?_,?_,h.hb,h.hi,h.hn,h.fin,h.few⟩
 ·rw[E _ _ _ h.rd (by decide) (by decide)];exact h.rd
 ·refine dE h.words fun k D=>?_
  obtain⟨z,G⟩:=dF h.words D;exact E k z _ G (by decide) (by decide)
 ·refine dE h.parts fun k D=>?_
  obtain⟨z,G⟩:=dF h.parts D;exact E k z _ G (by decide) (by decide)
 ·intro p U
  exact(h.subs p U).of fun k z D=>E k z _ D (by decide) (by decide)
theorem Fr.row {s s':St} (h:RS B rb gl cl ts s w) (E:Fr rb s.pv s'.pv w w') {ys:List Value} (D:w.ownsRow base 95 6 v n ys):w'.ownsRow base 95 6 v n ys:=by
 refine dE D fun k G=>?_
 obtain⟨cs,z⟩:=dF D G;refine E.block k (be z) (fun e=>?_) (M3 h z (by simp))
 subst e;rw[h.rd] at z;simp at z
structure Dp (w:World) (xs:List dY) (ps:List kf) (iv pv:Value) (W:World):Prop where
 below:Below w.heap.size w W
 res:W.heap[w.heap.size]?=some (Oo (.slice none 0 0) (.slice none 0 0))
 pol:W.heap[w.heap.size+1]?=some (Oo iv pv)
 items:kH w.heap.size iv xs W
 row:W.ownsRow w.heap.size 169 5 pv ps.length (hZ ps)
 subs:∀p∈ps,oK W p
 few:ps.length≤1001
theorem Dp.next {E:World} (h:Dp w xs ps D pv W) (z:Below W.heap.size W E):Dp w xs ps D pv E:=
 ⟨h.below.trans (z.mono h.below.size),by rw[z.block _ (be h.res)];exact h.res,by rw[z.block _ (be h.pol)];exact h.pol,h.items.below z,dn h.row z,fun p G=>(h.subs p G).of fun k _ I=>z.block k (be I),h.few⟩
theorem Dp.cells {w:World} {xs:List dY} {ps:List kf} {z pv:Value} {W:World} (h:Dp w xs ps z pv W):
 (Cq W w.heap.size 0 (.slice none 0 0)∧Cq W w.heap.size 1 (.slice none 0 0)∧Cq W (w.heap.size+1) 0 z∧Cq W (w.heap.size+1) 1 pv)∧(∀j,W.frozen? ⟨w.heap.size,j,none⟩=false):=by
 have D:=fun j=>Zz W w.heap.size j _ _ _ h.res
 have E:=fun j=>Zz W (w.heap.size+1) j _ _ _ h.pol
 exact⟨⟨D 0,D 1,E 0,E 1⟩,fun j=>by simp[World.frozen?,h.res]⟩
theorem Dp.out {a E:Option Addr} {I:Nat} (h:Dp w xs ps (.slice a b c) (.slice E G I) W) (Y:∀p∈ps,p.n=My p.tok):
 Lj 0 0 (ps.map On) xs w (.returned (.tuple #[.agg #[.slice a b c,.slice E G I],Iq (0:Nat),Iq (0:Nat)])) ((W.setCell ⟨w.heap.size,0,none⟩ (.slice a b c)).setCell ⟨w.heap.size,1,none⟩ (.slice E G I)):=by
 have D:∀(k:Nat) (cs:Array Value) (e:TypeId),W.heap[k]?=some (.cells cs e (0,0))→e≠90→((W.setCell ⟨w.heap.size,0,none⟩ (.slice a b c)).setCell ⟨w.heap.size,1,none⟩ (.slice E G I)).heap[k]?=W.heap[k]?:=fun k cs e z Z=>by
  have J:k≠w.heap.size:=fun hh=>by subst hh;rw[h.res] at z;simp at z;exact Z z.2.symm
  rw[ZO _ _ _ _ J,ZO _ _ _ _ J]
 refine⟨(h.below.setCell (p:=⟨w.heap.size,0,none⟩) (Zw _) _).setCell (p:=⟨w.heap.size,1,none⟩) (Zw _) _,_,_,rfl,⟨_,_,_,rfl⟩,⟨_,_,_,rfl⟩,fun e=>absurd rfl e,fun _=>⟨⟨?_,h.items.few⟩,ps,?_,?_,h.few,Y,rfl⟩⟩
 ·refine dE h.items.row fun k z=>?_
  obtain⟨cs,O⟩:=dF h.items.row z;exact D k cs _ O (by decide)
 ·refine dE h.row fun k z=>?_
  obtain⟨cs,O⟩:=dF h.row z;exact D k cs _ O (by decide)
 ·intro p hp
  exact(h.subs p hp).of fun k cs z=>D k cs _ z (by decide)
theorem Gc {l:List UInt8} {a:Nat} {t:Tok} (I:l.length≤1000) (z:a<l.length) (h:ji l a=some t):t.k≠101∧Mz t:=by
 have E:=oJ z h;refine⟨?_,by omega,?_⟩
 ·unfold ji at h
  rw[Zv z] at h;simp only at h
  repeat' split at h
  all_goals first
   |(simp at h;subst h;simp)
   |(simp at h)
 ·intro G
  unfold ji at h
  split at h
  ·split at h
   ·simp at h
   ·rename_i D
    simp at h;subst h
    refine⟨I4 ld l a,?_⟩
    unfold big at D;simpa using D
  ·exfalso
   rw[Zv z] at h;simp only at h
   repeat' split at h
   all_goals first
    |(simp at h;subst h;simp at G)
    |(simp at h)
theorem zI (l:List UInt8) (O:l.length≤1000) (f:Nat):∀(a:Nat) (ts:List Tok),a≤l.length→l.length - a<f→nx f l a=(ts,none)→
 0<ts.length∧ts.length≤l.length - a+1∧(∀t∈ts,Mz t)∧(∀i,i+1=ts.length→(ts.getD i ku).k=101)∧(∀i,i+1<ts.length→(ts.getD i ku).k≠101):=by
 induction f with
 |zero=>intro a ts _ h;omega
 |succ f ih=>
  intro a ts R hf h;have h1:=sF lL l a;have h2:=mu lL l a R;rw[nx] at h
  by_cases I:l.length≤eA lL l a
  ·rw[Zu I] at h;simp at h;subst h
   refine⟨by simp,by simp,?_,?_,?_⟩
   ·intro t J;simp at J;subst J;exact⟨by simp,fun e=>by simp at e⟩
   ·intro i z;simp at z;subst z;rfl
   ·intro i z;simp at z
  ·rw[Zt I] at h
   cases D:ji l (eA lL l a) with
   |none=>rw[D] at h;simp at h
   |some t=>
    rw[D] at h;simp only[ZT] at h;obtain⟨rfl,U⟩:=h;have V:=oJ (by omega) D
    have G:=Gc O (by omega) D
    have:=ih (eA lL l a+t.text.length) (nx f l (eA lL l a+t.text.length)).1 (by omega) (by omega) (by rw[←U])
    obtain⟨r1,r2,Y,Z,r5⟩:=this;refine⟨by simp,by simp;omega,?_,?_,?_⟩
    ·intro u E;simp at E;rcases E with rfl|E
     ·exact G.2
     ·exact Y u E
    ·intro i z
     cases i with
     |zero=>simp only[Z7] at z;omega
     |succ i=>simpa using Z i (by simpa using z)
    ·intro i z
     cases i with
     |zero=>simpa using G.1
     |succ i=>simpa using r5 i (by simpa using z)
theorem Gd (h:jB F ts i L=some r) (z:r.ok=true):
 i<r.i∧(∃new,r.L=L++new)∧Inv L.length r.L∧L.length≤r.it.top∧r.it.top<r.L.length∧r.it.parts=r.L.length:=by
 have tail:∀(j:Nat) (x:dY),i<j→gS F ts j L x=some r→i<r.i∧(∃new,r.L=L++new)∧Inv L.length r.L∧L.length≤r.it.top∧r.it.top<r.L.length∧r.it.parts=r.L.length:=by
  intro j x O I;obtain⟨a,J,D⟩:=Dn I;rcases D with⟨E,R,rfl⟩|⟨_,G,_⟩
  ·have k:=zx F 6 ts j L 0 L.length a J E (Zw _) (fun k U V=>by omega) (by omega) (by omega)
   have Y:=k.fwd;exact⟨by simp;omega,k.more,k.inv,k.top.1,k.top.2,rfl⟩
  ·rw[G] at z;simp at z
 unfold jB at h
 split at h
 ·split at h
  ·split at h
   ·exact tail _ _ (by omega) h
   ·simp[fb] at h;subst h;simp at z
  ·simp[fb] at h;subst h;simp at z
 ·split at h
  ·split at h
   ·exact tail _ _ (by omega) h
   ·simp[fb] at h;subst h;simp at z
  ·simp[fb] at h;subst h;simp at z
theorem Dq (i:Nat) (L:List Pt) (D:16*ts.length+8≤F):∃r,jB F ts i L=some r:=by
 have tail:∀(j:Nat) (x:dY),∃r,gS F ts j L x=some r:=by
  intro j x;obtain⟨a,z⟩:=Lf F 6 ts j L 0 (by have:wt 6=8:=rfl;omega) (by omega)
  unfold gS;rw[z];simp only
  repeat' split
  all_goals exact⟨_,rfl⟩
 unfold jB
 repeat' split
 all_goals first
  |exact tail _ _
  |exact⟨_,rfl⟩
theorem nH (G:16*ts.length+8≤F) (I:∀i,i+1=ts.length→(ts.getD i ku).k=101) (g:Nat):∀(i:Nat) (L:List Pt) (xs:List dY),ts.length - i<g→ ∃R,fs F ts g i L xs=some R:=by
 induction g with
 |zero=>intro i L xs h;omega
 |succ g ih=>
  intro i L xs h;rw[fs]
  by_cases E:(dc ts i).k=101
  ·rw[Zu E];exact⟨_,rfl⟩
  ·rw[Zt E]
   obtain⟨r,z⟩:=Dq i L G;rw[z];simp only
   by_cases D:r.ok=true
   ·rw[Zu D]
    have:=(Gd z D).1
    by_cases Y:i<ts.length
    ·exact ih r.i r.L _ (by omega)
    ·exfalso
     have J:dc ts i=ku:=by unfold dc;rw[Zs,ZQ (by omega)];rfl
     unfold jB at z;rw[J] at z;have O:fX ku tW=false:=by decide
     have U:fX ku jD=false:=by decide
     have V:fX ku nE=false:=by decide
     rw[O,U,V] at z;simp[fb] at z;subst z;simp at D
   ·rw[Zt D];exact⟨_,rfl⟩
def Pw (L:List Pt) (fr to:Nat):Prop:= ∀k,fr≤k→k<to→(L.getD k dh).subs.length≤3∧(∀j∈(L.getD k dh).subs,fr≤j∧j<k)∧yu (L.getD k dh).tok (L.getD k dh).subs.length
def Ll (L:List Pt):List dY→Nat→Prop
 |[],fr=>fr=L.length
 |x::r,fr=>fr≤x.top∧x.top<x.parts∧x.parts≤L.length∧Pw L fr x.parts∧Ll L r x.parts
theorem Ll.snoc (h:Ll L xs fr) (new:List Pt) (x:dY) (E:L.length≤x.top) (G:x.top<x.parts) (h3:x.parts=(L++new).length) (I:Inv L.length (L++new)):Ll (L++new) (xs++[x]) fr:=by
 induction xs generalizing fr with
 |nil=>
  have:fr=L.length:=h;subst this;exact⟨E,G,by omega,fun k a b=>I k a (by omega),h3⟩
 |cons y r ih=>
  obtain⟨a,b,c,d,e⟩:=h;refine⟨a,b,by simp;omega,?_,ih e⟩
  intro k z D;rw[hY (by omega)]
  exact d k z D
def pF (ts:List Tok):rP:=(fs (16*ts.length+8) ts (ts.length+1) 0 [] []).getD ⟨false,0,[],[]⟩
def du (l:List UInt8):(Nat×Nat)×List Pt×List dY:=
 if 1000<l.length then((1,0),[],[])
 else match (nx (l.length+1) l 0).2 with
  |some p=>((2,p),[],[])
  |none=>(eC (nx (l.length+1) l 0).1 (pF (nx (l.length+1) l 0).1),(pF (nx (l.length+1) l 0).1).L,(pF (nx (l.length+1) l 0).1).xs)
def dG (a:Int):Prop:= -9223372036854775808≤a∧a≤9223372036854775807
def dM (a:Int):Int:=if 9223372036854775807<a then 9223372036854775807 else if a< -9223372036854775808 then -9223372036854775808 else a
theorem lS (a:Int):dG (dM a):=by unfold dM dG;split;omega;split<;>omega
def dq (b:Bool):Int:=if b then 1 else 0
def fe (n:Int):Int:=if n<0∨4<n then 0 else n
def n9 (s:List UInt8) (a b:Int):Int:=
 if s=[43] then dM (a+b) else if s=[45] then dM (a - b) else if s=[61] then dq (a==b) else if s=[60] then dq (decide (a<b)) else if s=[60,61] then dq (decide (a≤b))
 else if s=[111,114] then dq (a==1||b==1) else dq (a==1&&b==1)
theorem wrap64 (h:dG x):IntKind.i64.wrap x=x:=by
 unfold dG at h;simp[IntKind.wrap,IntKind.signed,IntKind.bits];omega
theorem iw (b:Bool) (w:World):Calls prog 82 #[.bool b] w fun e w'=>e= .returned (Iq (dq b))∧w'=w:=by
 cases b
 all_goals
  go_enter func82,ntmps82;go_wp2;go_ret;exact⟨rfl,rfl⟩
theorem uU (n:Int) (w:World):Calls prog 81 #[Iq n] w fun e w'=>e= .returned (Iq (fe n))∧w'=w:=by
 by_cases D:n<0
 ·have z:Hid (fe n=0):=by show _=_;unfold fe;rw[Zu (.inl D)]
  go_enter func81,ntmps81;go_wp2;go_ret;exact⟨by rw[z.out];rfl,rfl⟩
 ·by_cases E:4<n
  ·have z:Hid (fe n=0):=by show _=_;unfold fe;rw[Zu (.inr E)]
   go_enter func81,ntmps81;go_wp2;go_ret;exact⟨by rw[z.out];rfl,rfl⟩
  ·have z:Hid (fe n=n):=by show _=_;unfold fe;rw[Zt (by omega)]
   go_enter func81,ntmps81;go_wp2;go_ret;exact⟨by rw[z.out];rfl,rfl⟩
theorem wC (a b:Int) (w:World):Calls prog 166 #[Iq a,Iq b] w fun e w'=>e= .returned (Iq (dq (a==b)))∧w'=w:=by
 have z:=fun w=>iw (a==b) w
 generalize D:dq (a==b)=r at*;go_enter func166,ntmps166;go_wp2_with fail;apply(z _).mono;rintro e E ⟨rfl,rfl⟩;go_wp2;go_ret;exact⟨rfl,rfl⟩
theorem yA (a b:Int) (w:World):Calls prog 167 #[Iq a,Iq b] w fun e w'=>e= .returned (Iq (dq (decide (a<b))))∧w'=w:=by
 have z:=fun w=>iw (decide (a<b)) w
 generalize D:dq (decide (a<b))=r at*;go_enter func167,ntmps167;go_wp2_with fail;apply(z _).mono;rintro e E ⟨rfl,rfl⟩;go_wp2;go_ret;exact⟨rfl,rfl⟩
theorem uV (a b:Int) (w:World):Calls prog 168 #[Iq a,Iq b] w fun e w'=>e= .returned (Iq (dq (decide (a≤b))))∧w'=w:=by
 have z:=fun w=>iw (decide (a≤b)) w
 generalize D:dq (decide (a≤b))=r at*;go_enter func168,ntmps168;go_wp2_with fail;apply(z _).mono;rintro e E ⟨rfl,rfl⟩;go_wp2;go_ret;exact⟨rfl,rfl⟩
theorem A8 (a b:Int) (w:World):Calls prog 169 #[Iq a,Iq b] w fun e w'=>e= .returned (Iq (dq (a==1&&b==1)))∧w'=w:=by
 have z:=fun w b=>iw b w
 cases D:(a==1)
 all_goals
  cases E:(b==1)
 all_goals
  go_enter func169,ntmps169;go_wp2_with fail;apply(z _ _).mono;rintro e G ⟨rfl,rfl⟩;go_wp2;go_ret;exact⟨rfl,rfl⟩
theorem Fe (a b:Int) (w:World):Calls prog 170 #[Iq a,Iq b] w fun e w'=>e= .returned (Iq (dq (a==1||b==1)))∧w'=w:=by
 have z:=fun w b=>iw b w
 cases D:(a==1)
 all_goals
  cases E:(b==1)
 all_goals
  go_enter func170,ntmps170;go_wp2_with fail;apply(z _ _).mono;rintro e G ⟨rfl,rfl⟩;go_wp2;go_ret;exact⟨rfl,rfl⟩
theorem A9 (D:a=0∨a=1) (w:World):Calls prog 125 #[Iq a] w fun e w'=>e= .returned (Iq (1 - a))∧w'=w:=by
 have z:=fun w b=>iw b w
 rcases D with rfl|rfl
 all_goals
  go_enter func125,ntmps125;go_wp2_with fail;apply(z _ _).mono;rintro e E ⟨rfl,rfl⟩;go_wp2;go_ret;exact⟨rfl,rfl⟩
def dI:List (List UInt8):=[[],[],[],[40],[41],[59],[43],[45],[61],[60,61],[60],[108,101,116],[97,108,108,111,119],[100,101,110,121],[105,102],[116,104,101,110],[101,108,115,101],[111,114],[97,110,100],[110,111,116],[116,114,117,101],[102,97,108,115,101],[110,111,110,101],[105,110,118,105,116,101],[106,111,105,110],[108,101,97,118,101],[98,97,110],[108,101,118,101,108],[114,97,110,107],[110,101,101,100],[119,104,101,110],[115,101,110,100,101,114],[116,97,114,103,101,116],[119,97,110,116,115],[115,101,108,102],[111,112,101,110]]
def Sp (w:World):Prop:= ∀k,k<36→w.cell? ⟨0,k,none⟩=some (S (dI.getD k []))
theorem Sp.pos (h:Sp w):0<w.heap.size:=Zx w _ (h 0 (by decide))
theorem Sp.below (h:Sp w) (z:0<B) (D:Below B w w'):Sp w':=fun k E=>by rw[D.cell (p:=⟨0,k,none⟩) z];exact h k E
theorem kI (k:Nat) (w:World) (h:Sp w) (z:k<36):Calls prog 119 #[Iq k] w fun e w'=>e= .returned (S (dI.getD k []))∧w'=w:=by
 have D:=h k z;have E:(0:Int)≤(k:Int):=by omega
 have G:(k:Int)<36:=by omega
 generalize dI.getD k []=t at*;go_enter func119,ntmps119
 go_wp2
 go_ret;exact⟨rfl,rfl⟩
theorem lT (c:UInt8) (w:World):Calls prog 145 #[.int .u8 c.toNat] w fun e w'=>e= .returned (.bool (ld c))∧w'=w:=by
 have h:=c.toNat_lt;have z:Hid (ld c=(decide (48≤c.toNat)&&decide (c.toNat≤57))):=rfl;go_enter func145,ntmps145
 go_wp2
 all_goals go_ret
 all_goals refine⟨lQ ?_,rfl⟩
 all_goals rw[z.out,aaH]
 all_goals simp
 all_goals omega
theorem mw (c:UInt8) (w:World):Calls prog 148 #[.int .u8 c.toNat] w fun e w'=>e= .returned (.bool (lf c))∧w'=w:=by
 have h:=c.toNat_lt;have z:Hid (lf c=(decide (97≤c.toNat)&&decide (c.toNat≤122))):=rfl;go_enter func148,ntmps148
 go_wp2
 all_goals go_ret
 all_goals refine⟨lQ ?_,rfl⟩
 all_goals rw[z.out,aaH]
 all_goals simp
 all_goals omega
set_option maxHeartbeats 1000000 in
theorem pS (l : List UInt8) (a : Nat) (w : World) (hl : l.length ≤ 1000) (ha : a ≤ l.length) : Calls prog 101 #[S l, Iq a] w fun e w' => e = .returned (Iq (eA lL l a)) ∧ w' = w := by
  go_enter func101, ntmps101;go_wp2
  go_loop [1] (fun i => ∃ j : Nat, a ≤ j ∧ j ≤ l.length ∧ i = Iq j ∧ Hid (eA lL l a = eA lL l j)) (fun i => l.length - (intOf i).toNat)
  case atStart => exact ⟨a, by omega, by omega, rfl, rfl⟩
  case round =>
    obtain ⟨j, hkj, hj, rfl, HB⟩ := hrel
    by_cases hlt : j < l.length
    · go_wp2
      case roundEnd =>
        refine ⟨⟨j + 1, by omega, by omega, by go_num, ?_⟩, by simp [intOf]; omega⟩
        show _ = _; rw [HB.out]; exact mC lL l j hlt (Ol ‹_›)
      case roundEnd =>
        refine ⟨⟨j + 1, by omega, by omega, by go_num, ?_⟩, by simp [intOf]; omega⟩
        show _ = _; rw [HB.out]; exact mC lL l j hlt (OO ‹_›)
      go_ret;refine ⟨eV ?_, rfl⟩;rw [HB.out, zu lL l j hlt (Om ‹_›)]
    · go_wp2
      go_ret;refine ⟨eV ?_, rfl⟩;rw [HB.out, vU lL l j (by omega)]
theorem Dr (l:List UInt8) (w:World) (I:l.length≤1000):Calls prog 147 #[S l,.func (.func 145) #[] #[]] w fun e w'=>e= .returned (Iq (eA ld l 0))∧w'=w:=by
 go_enter func147,ntmps147;go_wp2
 go_loop [5] (fun i=> ∃j:Nat,j≤l.length∧i= Iq j∧Hid (eA ld l 0=eA ld l j)) (fun i=>l.length - (intOf i).toNat)
 case atStart=>exact⟨0,by omega,rfl,rfl⟩
 case round=>
  obtain⟨j,J,rfl,G⟩:=hrel
  by_cases E:j<l.length
  ·cases D:ld l[j] with
   |true=>
    have z:=Hi D;go_wp2_with fail;apply(lT l[j] _).mono;rintro e w' ⟨rfl,rfl⟩;rw[z.out];go_wp2;refine⟨⟨j+1,by omega,by go_num,?_⟩,by simp[intOf];omega⟩
    show _=_;rw[G.out];exact mC ld l j E z.out
   |false=>
    have z:=Hi D;go_wp2_with fail;apply(lT l[j] _).mono;rintro e w' ⟨rfl,rfl⟩;rw[z.out];go_wp2;go_ret;refine⟨eV ?_,rfl⟩;rw[G.out,zu ld l j E z.out]
  ·go_wp2
   go_ret;refine⟨eV ?_,rfl⟩;rw[G.out,vU ld l j (by omega)]
theorem Ba (l:List UInt8) (w:World) (I:l.length≤1000):Calls prog 147 #[S l,.func (.func 148) #[] #[]] w fun e w'=>e= .returned (Iq (eA lf l 0))∧w'=w:=by
 go_enter func147,ntmps147;go_wp2
 go_loop [5] (fun i=> ∃j:Nat,j≤l.length∧i= Iq j∧Hid (eA lf l 0=eA lf l j)) (fun i=>l.length - (intOf i).toNat)
 case atStart=>exact⟨0,by omega,rfl,rfl⟩
 case round=>
  obtain⟨j,J,rfl,G⟩:=hrel
  by_cases E:j<l.length
  ·cases D:lf l[j] with
   |true=>
    have z:=Hi D;go_wp2_with fail;apply(mw l[j] _).mono;rintro e w' ⟨rfl,rfl⟩;rw[z.out];go_wp2;refine⟨⟨j+1,by omega,by go_num,?_⟩,by simp[intOf];omega⟩
    show _=_;rw[G.out];exact mC lf l j E z.out
   |false=>
    have z:=Hi D;go_wp2_with fail;apply(mw l[j] _).mono;rintro e w' ⟨rfl,rfl⟩;rw[z.out];go_wp2;go_ret;refine⟨eV ?_,rfl⟩;rw[G.out,zu lf l j E z.out]
  ·go_wp2
   go_ret;refine⟨eV ?_,rfl⟩;rw[G.out,vU lf l j (by omega)]
def da (t:Tok):Nat:=if t.k=110 then 1 else if t.k=111 then 2 else if t.k=101 then 0 else(dP dI t.text).toNat
theorem Ge (l:List (List UInt8)) (s:List UInt8) (k:Nat) (D:k<l.length) (E:∀q,q<k→l.getD q []≠s) (z:l.getD k []=s):dP l s=k:=by
 induction l generalizing k with
 |nil=>simp at D
 |cons x r ih=>
  unfold dP
  cases k with
  |zero=>simp at z;rw[z];simp
  |succ k=>
   have G:(x==s)=false:=by have:=E 0 (by omega);simpa using this
   have:=ih k (by simpa using D) (fun q I=>by have:=E (q+1) (by omega);simpa using this) (by simpa using z)
   rw[G,this];simp;omega
theorem vG (h:0≤dP l s):s∈l:=by
 induction l with
 |nil=>simp[dP] at h
 |cons x r ih=>
  unfold dP at h
  by_cases e:(x==s)=true
  ·simp at e;simp[e]
  ·rw[Zt e] at h
   by_cases z:dP r s<0
   ·rw[Zu z] at h;omega
   ·exact abV _ (ih (by omega))
theorem vH (h:s∈l):0≤dP l s:=by
 induction l with
 |nil=>simp at h
 |cons x r ih=>
  unfold dP
  by_cases e:(x==s)=true
  ·rw[Zu e];omega
  ·rw[Zt e]
   have:s∈r:=by simp at h e;rcases h with h|h;exact absurd h.symm e;exact h
   have:=ih this;rw[Zt (by omega)];omega
theorem Ja:dI.drop 11=vD++dX++dL:=by decide
theorem sM (s:List UInt8):pL s=true↔s∈dI.drop 11:=by
 rw[Ja];unfold pL;simp only[ab0,acj,aar];constructor
 ·rintro((h|h)|h)
  ·exact .inl (.inr (vG h))
  ·exact .inr (vG h)
  ·exact .inl (.inl (vG h))
 ·rintro((h|h)|h)
  ·exact .inr (vH h)
  ·exact .inl (.inl (vH h))
  ·exact .inl (.inr (vH h))
theorem Ds (D:s≠[]) (E:∀c∈s,lf c=true):∀q,q<11→dI.getD q []≠s:=by
 intro q G e;have z:∀q,q<11→(dI.getD q []).all lf=true→dI.getD q []=[]:=by decide
 have:=z q G (by rw[e];exact abn.2 E)
 rw[e] at this;exact D this
def rz (s:List UInt8):Value×Nat:=if pL s then(.agg #[Iq (dP dI s),Iq 0,Iq 0,S []],s.length) else if s.length≤8 then(.agg #[Iq 2,Iq 0,Iq 0,S s],s.length) else(.agg #[Iq 0,Iq 0,Iq 0,S []],0)
set_option maxHeartbeats 2000000 in
theorem Jb (s : List UInt8) (w : World) (hS : Sp w) (hs : s.length ≤ 1000) (h0 : s ≠ []) (hl :∀ c ∈ s, lf c = true) :
    Calls prog 149 #[S s] w fun e w' => e = .returned (.tuple #[(rz s).1, Iq (rz s).2]) ∧ Below w.heap.size w w' := by
  have hB := (ZA w.heap.size w).alloc (Zw _) (.cells #[Iq 0, Iq 0, Iq 0, S []] 160);have hSp := hS.below hS.pos hB;have HB : Hid _ := hB;have HL : Hid _ := Ds h0 hl;clear hB h0 hl hS;go_enter func149, ntmps149;go_wp2
  go_loop [4] (fun i => ∃ k : Nat, 11 ≤ k ∧ k ≤ 36 ∧ i = Iq k ∧ Hid (∀ q, q < k → dI.getD q [] ≠ s)) (fun i => 36 - (intOf i).toNat)
  case atStart => exact ⟨11, by omega, by omega, rfl, HL.out⟩
  case round =>
    obtain ⟨k, hk1, hk2, rfl, HQ⟩ := hrel
    by_cases hlt : k < 36
    · cases he : (s == dI.getD k []) with
      | true =>
        have HE : Hid (dI.getD k [] = s) := by exact (show s = dI.getD k [] by simpa using he).symm
        have hix : Hid (dP dI s = k) := Ge dI s k (by exact hlt) HQ.out HE.out
        have hkw : Hid (pL s = true) := (sM s).2 (by
          rw [← HE.out, Zs, Zv (by exact hlt)]
          exact List.mem_drop_iff_getElem.2 ⟨k - 11, by have : dI.length = 36 := rfl; omega, by simp only [abo]; congr 1; omega⟩)
        clear he;go_wp2_with fail;apply(kI k _ hSp hlt).mono;rintro e w' ⟨rfl, rfl⟩;rw [HE.out];go_wp2;exact ZH (v := .tuple #[.agg #[Iq k, Iq 0, Iq 0, S []], Iq s.length]) (by simp [results, results149, go_sem]) rfl ⟨by unfold rz; rw [Zu hkw.out, hix.out], (ZA _ _).alloc (Zw _) _⟩
      | false =>
        have HE : Hid (dI.getD k [] ≠ s) := fun e => by rw [e] at he; simp at he
        have he' := he;generalize hg : dI.getD k [] = sp at *;have HG : Hid _ := hg;clear he hg;go_wp2_with fail;apply(kI k _ hSp hlt).mono;rintro e w' ⟨rfl, rfl⟩;rw [HG.out];go_wp2;refine ⟨⟨k + 1, by omega, by omega, by go_num, fun q hq => ?_⟩, by simp [intOf]; omega⟩
        by_cases e : q = k
        · subst e; rw [HG.out]; exact HE.out
        · exact HQ.out q (by omega)
    · have hkw : Hid (pL s = false) := by
        show _ = _
        cases e : pL s with
        | false => rfl
        | true =>
          obtain ⟨i, hi, hi2⟩ := aa0.1 ((sM s).1 e);have hsl : dI.length = 36 := rfl;have hi' : i < 25 := by simp at hi; omega
          exact absurd (by rw [List.getElem_drop] at hi2; rw [Zs, Zv (by omega)]; exact hi2) (HQ.out (11 + i) (by omega))
      by_cases h8 : s.length ≤ 8
      · go_wp2
        exact ZH (v := .tuple #[.agg #[Iq 2, Iq 0, Iq 0, S s], Iq s.length]) (by simp [results, results149, go_sem]) rfl ⟨by unfold rz; rw [Zt (by simp [hkw.out]), Zu h8], (ZA _ _).alloc (Zw _) _⟩
      · go_wp2
        exact ZH (v := .tuple #[.agg #[Iq 0, Iq 0, Iq 0, S []], Iq 0]) (by simp [results, results149, go_sem]) rfl ⟨by unfold rz; rw [Zt (by simp [hkw.out]), Zt h8]; rfl, (ZA _ _).alloc (Zw _) _⟩
theorem Bb (s p:List UInt8):(((ByteArray.mk s.toArray).extract 0 p.length).toList==p)=p.isPrefixOf s:=by
 rw[uh,ByteArray.toList_mk,aaH,aca,abJ];simp only[cut,abQ,Nat.sub_zero,abX];exact eq_comm
theorem rA (s p:List UInt8) (w:World) (D:s.length≤1000) (E:p.length≤1000):Calls prog 209 #[S s,S p] w fun e w'=>e= .returned (.bool (p.isPrefixOf s))∧w'=w:=by
 by_cases h:p.length≤s.length
 ·go_enter func209,ntmps209
  go_wp2
  all_goals go_ret
  all_goals refine⟨lQ ?_,rfl⟩
  all_goals exact Bb s p
 ·have z:Hid (p.isPrefixOf s=false):=by
   show _=_
   rw[aa5];intro e
   rw[aca] at e;exact h e.length_le
  rw[z.out];go_enter func209,ntmps209
  go_wp2
  all_goals go_ret
  all_goals refine⟨lQ ?_,rfl⟩
  all_goals rfl
def mq (s:List UInt8):Option Nat:=(List.range' 3 8).find? (fun k=>(dI.getD k []).isPrefixOf s)
theorem Gf (h3:3≤k) (I:k<11) (z:∀q,3≤q→q<k→(dI.getD q []).isPrefixOf s=false) (D:(dI.getD k []).isPrefixOf s=true):mq s=some k:=by
 unfold mq;rw[List.find?_range'_eq_some];refine⟨D,by simp;omega,fun j E G=>?_⟩
 rw[z j E G];rfl
theorem Jc (z:∀q,3≤q→q<11→(dI.getD q []).isPrefixOf s=false):mq s=none:=by
 unfold mq;rw[List.find?_eq_none];intro x D;rw[List.mem_range'_1] at D;rw[z x (by omega) (by omega)];simp
def pT (s:List UInt8):Value×Nat:=match mq s with
 |some k=>(.agg #[Iq k,Iq 0,Iq 0,S []],(dI.getD k []).length)
 |none=>(.agg #[Iq 0,Iq 0,Iq 0,S []],0)
theorem Bc:∀k,k<36→(dI.getD k []).length≤1000:=by decide
theorem Jd (s:List UInt8) (w:World) (O:Sp w) (Y:s.length≤1000):
 Calls prog 150 #[S s] w fun e w'=>e= .returned (.tuple #[(pT s).1,Iq (pT s).2])∧Below w.heap.size w w':=by
 have R:=(ZA w.heap.size w).alloc (Zw _) (.cells #[Iq 0,Iq 0,Iq 0,S []] 160);have E:=O.below O.pos R;go_enter func150,ntmps150;go_wp2
 go_loop [4] (fun i=> ∃k:Nat,3≤k∧k≤11∧i= Iq k∧Hid (∀q,3≤q→q<k→(dI.getD q []).isPrefixOf s=false)) (fun i=>11 - (intOf i).toNat)
 case atStart=>exact⟨3,by omega,by omega,rfl,fun q Z h2=>by omega⟩
 case round=>
  obtain⟨k,aa,ad,rfl,U⟩:=hrel
  by_cases ab:k<11
  ·have z:=Bc k (by omega)
   cases D:(dI.getD k []).isPrefixOf s with
   |true=>
    have V:Hid (pT s=(.agg #[Iq k,Iq 0,Iq 0,S []],(dI.getD k []).length)):=by
     show _=_;unfold pT;rw[Gf aa ab U.out D]
    have I:=Hi D;generalize G:dI.getD k []=sp at*;have J:=Hi G;go_wp2_with fail;apply(kI k _ E (by omega)).mono
    rintro e w' ⟨rfl,rfl⟩;rw[J.out];go_wp2_with fail;apply(rA s sp _ Y z).mono;rintro e w' ⟨rfl,rfl⟩;rw[I.out];go_wp2_with fail;apply(kI k _ E (by omega)).mono
    rintro e w' ⟨rfl,rfl⟩;rw[J.out];go_wp2;exact ZH (v:= .tuple #[.agg #[Iq k,Iq 0,Iq 0,S []],Iq sp.length]) (by simp[results,results150,go_sem]) rfl ⟨by rw[V.out],(ZA _ _).alloc (Zw _) _⟩
   |false=>
    have I:=Hi D;have ac:=Hi D;generalize G:dI.getD k []=sp at z I;have J:=Hi G;go_wp2_with fail;apply(kI k _ E (by omega)).mono
    rintro e w' ⟨rfl,rfl⟩;rw[J.out];go_wp2_with fail;apply(rA s sp _ Y z).mono;rintro e w' ⟨rfl,rfl⟩;rw[I.out];go_wp2;refine⟨⟨k+1,by omega,by omega,by go_num,fun q h3 hq=>?_⟩,by simp[intOf];omega⟩
    by_cases e:q=k
    ·rw[e];exact ac.out
    ·exact U.out q h3 (by omega)
  ·have V:Hid (pT s=(.agg #[Iq 0,Iq 0,Iq 0,S []],0)):=by
    show _=_;unfold pT;rw[Jc (fun q Z h2=>U.out q Z (by omega))]
   go_wp2;exact ZH (v:= .tuple #[.agg #[Iq 0,Iq 0,Iq 0,S []],Iq 0]) (by simp[results,results150,go_sem]) rfl ⟨by rw[V.out];rfl,(ZA _ _).alloc (Zw _) _⟩
theorem yB (h:9223372036854775807<x) (z:x≤18446744073709551615):IntKind.i64.wrap x=x - 18446744073709551616:=by
 simp[IntKind.wrap,IntKind.signed,IntKind.bits];omega
theorem wD (h:x< -9223372036854775808) (z: -18446744073709551616≤x):IntKind.i64.wrap x=x+18446744073709551616:=by
 simp[IntKind.wrap,IntKind.signed,IntKind.bits];omega
theorem Bd {b:Int} (I:dG a) (J:dG b) (w:World):Calls prog 164 #[Iq a,Iq b] w fun e w'=>e= .returned (Iq (dM (a+b)))∧w'=w:=by
 unfold dG at I J
 by_cases D:9223372036854775807<a+b
 ·have z:Hid (dM (a+b)=9223372036854775807):=by show _=_;unfold dM;rw[Zu D]
  have G:=yB D (by omega)
  have a1:0≤a:=by omega
  have a2:0≤b:=by omega
  have a3:a+b - 18446744073709551616<0:=by omega
  go_enter func164,ntmps164;go_wp2;go_ret;exact⟨by rw[z.out];rfl,rfl⟩
 ·by_cases E:a+b< -9223372036854775808
  ·have z:Hid (dM (a+b)= -9223372036854775808):=by show _=_;unfold dM;rw[Zt D,Zu E]
   have G:=wD E (by omega)
   have a1:a<0:=by omega
   have a2:b<0:=by omega
   have a3:0≤a+b+18446744073709551616:=by omega
   go_enter func164,ntmps164;go_wp2;go_ret;exact⟨by rw[z.out];rfl,rfl⟩
  ·have z:Hid (dM (a+b)=a+b):=by show _=_;unfold dM;rw[Zt D,Zt E]
   have G:=wrap64 (by unfold dG;omega)
   by_cases a1:0≤a
   ·by_cases a2:0≤b
    ·have _h:=0
     go_enter func164,ntmps164;go_wp2;go_ret;exact⟨by rw[z.out];rfl,rfl⟩
    ·have _h:=0
     go_enter func164,ntmps164;go_wp2;go_ret;exact⟨by rw[z.out];rfl,rfl⟩
   ·by_cases a2:0≤b
    ·have _h:=0
     go_enter func164,ntmps164;go_wp2;go_ret;exact⟨by rw[z.out];rfl,rfl⟩
    ·have _h:=0
     go_enter func164,ntmps164;go_wp2;go_ret;exact⟨by rw[z.out];rfl,rfl⟩
theorem Be {b:Int} (I:dG a) (J:dG b) (w:World):Calls prog 165 #[Iq a,Iq b] w fun e w'=>e= .returned (Iq (dM (a - b)))∧w'=w:=by
 unfold dG at I J
 by_cases D:9223372036854775807<a - b
 ·have z:Hid (dM (a - b)=9223372036854775807):=by show _=_;unfold dM;rw[Zu D]
  have G:=yB D (by omega)
  have a1:0≤a:=by omega
  have a2:b<0:=by omega
  have a3:a - b - 18446744073709551616<0:=by omega
  go_enter func165,ntmps165;go_wp2;go_ret;exact⟨by rw[z.out];rfl,rfl⟩
 ·by_cases E:a - b< -9223372036854775808
  ·have z:Hid (dM (a - b)= -9223372036854775808):=by show _=_;unfold dM;rw[Zt D,Zu E]
   have G:=wD E (by omega)
   have a1:a<0:=by omega
   have a2:0≤b:=by omega
   have a3:0≤a - b+18446744073709551616:=by omega
   go_enter func165,ntmps165;go_wp2;go_ret;exact⟨by rw[z.out];rfl,rfl⟩
  ·have z:Hid (dM (a - b)=a - b):=by show _=_;unfold dM;rw[Zt D,Zt E]
   have G:=wrap64 (by unfold dG;omega)
   by_cases a1:0≤a
   ·by_cases a2:0≤b
    ·have _h:=0
     go_enter func165,ntmps165;go_wp2;go_ret;exact⟨by rw[z.out];rfl,rfl⟩
    ·have _h:=0
     go_enter func165,ntmps165;go_wp2;go_ret;exact⟨by rw[z.out];rfl,rfl⟩
   ·by_cases a2:0≤b
    ·have _h:=0
     go_enter func165,ntmps165;go_wp2;go_ret;exact⟨by rw[z.out];rfl,rfl⟩
    ·have _h:=0
     go_enter func165,ntmps165;go_wp2;go_ret;exact⟨by rw[z.out];rfl,rfl⟩
theorem Lm (a b:List UInt8):(ByteArray.mk a.toArray++ByteArray.mk b.toArray)=ByteArray.mk (a++b).toArray:=by
 apply aae
 simp
theorem wrap_small (z:0≤x) (D:x≤9223372036854775807):IntKind.i64.wrap x=x:=by
 simp[IntKind.wrap,IntKind.signed,IntKind.bits];omega
end Go.Proofs.YtfkdailfcmnjlaaGreatDoor
