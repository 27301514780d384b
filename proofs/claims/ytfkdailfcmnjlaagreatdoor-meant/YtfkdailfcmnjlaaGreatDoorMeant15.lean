/-
  A part.
-/
import Derived.Test.YtfkdailfcmnjlaaGreatDoorMeant13
import Derived.Test.YtfkdailfcmnjlaaGreatDoorMeant14
set_option linter.unusedVariables false
set_option linter.unusedSimpArgs false
set_option maxHeartbeats 40000000
set_option maxRecDepth 1000000
namespace Go.Proofs.YtfkdailfcmnjlaaGreatDoor
open Go Go.RowKit Tryz
variable {F i j b:Nat} {ts:List Tok} {L:List Pt} {xs:List dY} {vals fl:List Int}
theorem G2 {r:Da} (h:jB F ts i L=some r) (z:r.ok=true):r.it.name=[]∨ ∃t∈ts,r.it.name=t.text:=by
 have tail:∀(j:Nat) (x:dY),gS F ts j L x=some r→r.it.name=x.name:=by
  intro j x I;obtain⟨a,R,D⟩:=lC I;rcases D with⟨O,U,rfl⟩|⟨_,E,_⟩
  ·rfl
  ·rw[E] at z;simp at z
 unfold jB at h
 split at h
 ·split at h
  ·rename_i G
   split at h
   ·have J:=(rQ (ts:=ts) (i:=i+1) fun e=>by rw[e] at G;exact absurd G (by decide)).2
    exact .inr ⟨_,J,tail _ _ h⟩
   ·simp[fb] at h;subst h;simp at z
  ·simp[fb] at h;subst h;simp at z
 ·split at h
  ·split at h
   ·exact .inl (tail _ _ h)
   ·simp[fb] at h;subst h;simp at z
  ·simp[fb] at h;subst h;simp at z
theorem B9 (g:Nat):∀(i:Nat) (L:List Pt) (xs:List dY) (R:rP),(∀x∈xs,x.name=[]∨ ∃t∈ts,x.name=t.text)→fs F ts g i L xs=some R→R.ok=true→ ∀x∈R.xs,x.name=[]∨ ∃t∈ts,x.name=t.text:=by
 induction g with
 |zero=>intro i L xs R _ h;rw[fs] at h;simp at h
 |succ g ih=>
  intro i L xs R G h I
  by_cases J:(dc ts i).k=101
  ·have:=qv h J;subst this;exact G
  ·rw[fs,Zt J] at h
   cases E:jB F ts i L with
   |none=>rw[E] at h;simp at h
   |some r=>
    rw[E] at h;simp only at h
    by_cases D:r.ok=true
    ·rw[Zu D] at h
     refine ih r.i r.L (xs++[r.it]) R (fun x z=>?_) h I
     rcases aar.1 z with z|z
     ·exact G x z
     ·rw[abq] at z;subst z;exact G2 E D
    ·rw[Zt D] at h;simp at h;subst h;simp at I
structure Fv (L:List Pt) (xs:List dY):Prop where
 parts:qN L
 trees:fB L xs 0
 names:∀x∈xs,x.name.length≤1000
theorem Ca (l:List UInt8) (z:(du l).1.1=0):Fv (du l).2.1 (du l).2.2:=by
 unfold du at*
 by_cases V:1000<l.length
 ·rw[Zu V] at z;simp at z
 ·rw[Zt V] at z⊢
  cases D:(nx (l.length+1) l 0).2 with
  |some p=>rw[D] at z;simp at z
  |none=>
   rw[D] at z;simp only[] at z⊢;have E:nx (l.length+1) l 0=((nx (l.length+1) l 0).1,none):=by rw[←D]
   obtain⟨r1,r2,O,Z,r5⟩:=zI l (by omega) (l.length+1) 0 _ (ZL _) (by omega) E
   obtain⟨J,aa⟩:=qL l (l.length+1) 0 _ (ZL _) (by omega) E
   generalize (nx (l.length+1) l 0).1=ts at*;obtain⟨R,I⟩:=nH (F:=16*ts.length+8) (Zw _) Z (ts.length+1) 0 [] [] (by omega)
   have e:pF ts=R:=by unfold pF;rw[I];rfl
   rw[e] at z⊢;have U:R.ok=true:=by
    cases G:R.ok with
    |true=>rfl
    |false=>unfold eC at z;rw[Zu G] at z;simp at z
   obtain⟨k1,k2,k3⟩:=qM J (by omega) I U
   obtain⟨_,Y,_,_⟩:=uY J.sorted _ 0 [] [] R rfl ⟨by simp,by simp,by simp⟩ (by simp) (by omega) I U
   have k5:=B9 _ 0 [] [] R (by simp) I U
   refine⟨⟨k3,fun k G=>(O _ (Y.2.2 k G)).1,fun k G hn=>((O _ (Y.2.2 k G)).2 hn).2,k2.few⟩,k1,fun x D=>?_⟩
   rcases k5 x D with h|⟨t,ht,h⟩
   ·rw[h];simp
   ·rw[h];exact(O t ht).1
attribute [local go_sem ↓] Go.wp_at_zero Go.wp_at_succ
def qh (l:List Int):List Value:=l.map fun v=>Value.int .i64 v
structure JQ (B gi c g cap gf:Nat) (xs:List dY) (ps:List kf) (bv:Value) (vals fl:List Int) (w:World):Prop where
 items:kH B (.slice (some ⟨gi,0,none⟩) xs.length c) xs w
 parts:oL B g cap ps w
 row:w.ownsRow B 2 1 bv vals.length (qh vals)
 len:vals.length≤xs.length
 fields:∀i,i<9→w.cell? ⟨gf,i,none⟩=some (Iq (fl.getD i 0))
theorem JQ.below {B E c g cap D:Nat} {xs:List dY} {ps:List kf} {G:Value} {vals fl:List Int} {w w':World} (h:JQ B E c g cap D xs ps G vals fl w) (z:Below w.heap.size w w'):JQ B E c g cap D xs ps G vals fl w':=
 ⟨h.items.below z,h.parts.below z,dn h.row z,h.len,fun i I=>by rw[z.cell (p:=⟨D,i,none⟩) (Zx w _ (h.fields i I))];exact h.fields i I⟩
def Al (l:List UInt8):List UInt8:=if(du l).1.1=0 then Dg (du l).2.1 (du l).2.2 else[]
theorem Am (ts:List Tok) (R:rP) (h:(eC ts R).1=0):(eC ts R).2=0:=by
 unfold eC at*
 repeat' split at h
 all_goals simp_all
theorem yX (l:List UInt8) (h:(du l).1.1=0):(du l).1.2=0:=by
 unfold du at*
 by_cases z:1000<l.length
 ·rw[Zu z] at h;simp at h
 ·rw[Zt z] at h⊢
  cases D:(nx (l.length+1) l 0).2 with
  |some p=>rw[D] at h;simp at h
  |none=>
   rw[D] at h;exact Am _ _ h
def jq (xs:List dY) (fl:List Int) (L:List Pt):List dY→List Int→Nat→Option (Bool×Nat)
 |[],_,_=>none
 |x::r,vals,n=>
  if x.name=[] then(if iH xs vals fl L (x.top+1) x.top=1 then some (x.allow,n+1) else jq xs fl L r (vals++[iH xs vals fl L (x.top+1) x.top]) (n+1))
  else jq xs fl L r (vals++[iH xs vals fl L (x.top+1) x.top]) n
def jH (l:List UInt8) (fl:List Int):Bool×Nat:=if(du l).1.1=0 then(jq (du l).2.2 fl (du l).2.1 (du l).2.2 [] 0).getD (false,0) else(false,0)
structure nq (L:List Pt) (xs:List dY):Prop where
 print:Fv L xs
 parts:ic L
 names:eM xs L xs 0 0=none
 types:fA xs L xs []=none
theorem Cb (l:List UInt8) (z:(du l).1.1=0):ic (du l).2.1∧eM (du l).2.2 (du l).2.1 (du l).2.2 0 0=none∧fA (du l).2.2 (du l).2.1 (du l).2.2 []=none:=by
 unfold du at*
 by_cases G:1000<l.length
 ·rw[Zu G] at z;simp at z
 ·rw[Zt G] at z⊢
  cases E:(nx (l.length+1) l 0).2 with
  |some p=>rw[E] at z;simp at z
  |none=>
   rw[E] at z;simp only[] at z⊢;have D:nx (l.length+1) l 0=((nx (l.length+1) l 0).1,none):=by rw[←E]
   obtain⟨r1,r2,r3,Y,r5⟩:=zI l (by omega) (l.length+1) 0 _ (ZL _) (by omega) D
   obtain⟨I,aa⟩:=qL l (l.length+1) 0 _ (ZL _) (by omega) D
   generalize (nx (l.length+1) l 0).1=ts at*;obtain⟨R,J⟩:=nH (F:=16*ts.length+8) (Zw _) Y (ts.length+1) 0 [] [] (by omega)
   have e:pF ts=R:=by unfold pF;rw[J];rfl
   rw[e] at z⊢;have O:R.ok=true:=by
    cases Z:R.ok with
    |true=>rfl
    |false=>unfold eC at z;rw[Zu Z] at z;simp at z
   refine⟨(qM I (by omega) J O).2.1,?_⟩
   unfold eC at z;rw[Zt (by rw[O];simp)] at z
   cases U:ir R.L R.xs 0 0 with
   |some p=>rw[U] at z;simp at z
   |none=>
    rw[U] at z;simp only[] at z
    cases V:eM R.xs R.L R.xs 0 0 with
    |some p=>rw[V] at z;simp at z
    |none=>
     rw[V] at z;simp only[] at z
     cases ht:fA R.xs R.L R.xs [] with
     |some p=>rw[ht] at z;simp at z
     |none=>exact⟨rfl,rfl⟩
theorem sq (l:List UInt8) (z:(du l).1.1=0):nq (du l).2.1 (du l).2.2:=by
 obtain⟨a,b,c⟩:=Cb l z;exact⟨Ca l z,a,b,c⟩
def uD (xs:List dY) (L:List Pt) (j:Nat) (vals:List Int):Prop:=
 ∃its fr,oP its vals∧its.length=j∧fB L (xs.drop j) fr∧eM xs L (xs.drop j) fr j=none∧fA xs L (xs.drop j) its=none
theorem nq.start (h:nq L xs):uD xs L 0 []:=
 ⟨[],0,⟨rfl,fun i z=>by simp at z⟩,rfl,h.print.trees,h.names,h.types⟩
theorem uD.item (J:ic L) (h:uD xs L j vals) (O:j<xs.length):
 ∃its E,oP its vals∧its.length=j∧eK (xs[j].top+1) L E xs[j].top∧pW xs its.length L E (xs[j].top+1)∧eU xs its L (xs[j].top+1) xs[j].top≠0:=by
 obtain⟨its,fr,R,G,z,I,D⟩:=h;rw[ZW O] at z I D;refine⟨its,fr,R,G,z.1.fit,?_,fun e=>?_⟩
 ·rw[G];exact(kj J z.1 z.2.1 I).1
 ·rw[fA,Zu (.inl (by rw[e];rfl))] at D;simp at D
theorem uD.next (R:ic L) (U:qN L) (V:gG fl) (h:uD xs L j vals) (Y:j<xs.length):
 uD xs L (j+1) (vals++[iH xs vals fl L (xs[j].top+1) xs[j].top]):=by
 obtain⟨its,fr,G,I,D,J,z⟩:=h;rw[ZW Y] at D J z;obtain⟨Z,O⟩:=kj R D.1 D.2.1 J;rw[fA] at z
 by_cases E:(eU xs its L (xs[j].top+1) xs[j].top).toNat=0∨(xs[j].name=[]∧(eU xs its L (xs[j].top+1) xs[j].top).toNat≠116)
 ·rw[Zu E] at z;simp at z
 ·rw[Zt E] at z
  refine⟨its++[eU xs its L (xs[j].top+1) xs[j].top],xs[j].parts,G.snoc ?_,by simp[I],D.2.2,O,z⟩
  refine wK G V U.num _ D.1.fit (by rw[I];exact Z) fun e=>E (.inl (by rw[e];rfl))
theorem yY (e:Ev) (s:Na) (J:dG e.need) (O:dG e.when_) (h3:dG s.dflt) (I:∀x∈s.levels,dG x.2):gG (eD e s):=by
 have D:∀(z:List (List UInt8×Int)) (u:List UInt8),(∀x∈z,dG x.2)→dG (fG s.dflt z u):=fun z u=>by
  induction z with
  |nil=>intro _;exact h3
  |cons x r ih=>
   intro h;rw[fG];split
   ·exact h x (by simp)
   ·exact ih fun y R=>h y (by simp[R])
 have E:∀n:Int,dG (fe n):=fun n=>by unfold fe dG;split<;>omega
 have G:∀(z:List (List UInt8×Int)) (u:List UInt8),dG (fy z u):=fun z u=>by
  induction z with
  |nil=>unfold fy dG;omega
  |cons x r ih=>rw[fy];split;exact E _;exact ih
 refine⟨rfl,fun i V=>?_⟩
 have U:i=0∨i=1∨i=2∨i=3∨i=4∨i=5∨i=6∨i=7∨i=8:=by omega
 rcases U with rfl|rfl|rfl|rfl|rfl|rfl|rfl|rfl|rfl
 ·exact⟨D _ _ I,fun e=>absurd e (by decide)⟩
 ·exact⟨D _ _ I,fun e=>absurd e (by decide)⟩
 ·exact⟨J,fun e=>absurd e (by decide)⟩
 ·exact⟨O,fun e=>absurd e (by decide)⟩
 ·exact⟨G _ _,fun e=>absurd e (by decide)⟩
 ·exact⟨G _ _,fun e=>absurd e (by decide)⟩
 ·exact⟨E _,fun e=>absurd e (by decide)⟩
 ·exact fm _ _
 ·exact fm _ _
def LI (r:Bool×Nat):Value:= .agg #[.bool r.1,Iq r.2,Iq 0]
theorem qO {w:World} {x0 x1 x2:Value} (h:w.heap[b]?=some (.cells #[x0,x1,x2] 40 (0,0))):(Cq w b 0 x0∧Cq w b 1 x1∧Cq w b 2 x2)∧ ∀j,w.frozen? ⟨b,j,none⟩=false:=by
 have z:=fun j=>Zz w b j _ _ _ h
 exact⟨⟨z 0,z 1,z 2⟩,fun j=>by simp[World.frozen?,h]⟩
theorem tB (h:gG fl):eO fl:=fun n D=>by
 have z:=h.has n (by omega)
 refine⟨z.1,fun e=>z.2 ?_⟩
 have:n=0∨n=1∨n=2∨n=3∨n=4∨n=5∨n=6∨n=7∨n=8:=by omega
 rcases this with rfl|rfl|rfl|rfl|rfl|rfl|rfl|rfl|rfl<;>first|rfl|(exfalso;revert e;decide)
theorem G3 {c:UInt8} (h:fh c=2):c=116:=by
 unfold fh at h
 split at h
 ·simp at h
 ·split at h
  ·rename_i e;exact ab1.1 e
  ·split at h<;>simp at h
theorem Cc:∀(xs:List dY) (its:List UInt8) (vals:List Int),vals.length=its.length→(∀i,i<its.length→ya (its.getD i 0) (vals.getD i 0))→kR (fw xs its) (ee xs vals)
 |[],its,vals,_,_=>fun i z=>by cases its<;>simp[fw] at z
 |x::xs,[],vals,_,_=>fun i z=>by simp[fw] at z
 |x::xs,c::its,[],h,_=>by simp at h
 |x::xs,c::its,v::vals,h,E=>by
  have ih:=Cc xs its vals (by simpa using h) fun i z=>by have:=E (i+1) (by simpa using z);simpa using this
  rw[fw,ee]
  split
  ·exact ih
  ·intro i z
   cases i with
   |zero=>
    have D:=E 0 (by simp)
    simp only[abl] at D⊢;exact⟨D.1,fun e=>D.2 (G3 e)⟩
   |succ i=>rw[ZX] at z⊢;rw[ZX];exact ih i z
def pj (xs:List dY) (L:List Pt) (j:Nat) (vals:List Int):Prop:=
 ∃its fr,oP its vals∧its.length=j∧fB L (xs.drop j) fr∧eM xs L (xs.drop j) fr j=none∧fA xs L (xs.drop j) its=none∧ ∀c∈its,me c
theorem nq.start2 (h:nq L xs):pj xs L 0 []:=
 ⟨[],0,⟨rfl,fun i z=>by simp at z⟩,rfl,h.print.trees,h.names,h.types,by simp⟩
structure Ni (xs:List dY) (L:List Pt) (fl:List Int) (j:Nat) (vals:List Int) (lt:List Nat):Prop where
 tree:∃lo,eK ((xs.getD j eh).top+1) L lo (xs.getD j eh).top
 wf:iC ((xs.getD j eh).top+1) (hU (dP (gA xs)) L ((xs.getD j eh).top+1) (xs.getD j eh).top)
 ty:dx lt ((xs.getD j eh).top+1) (hU (dP (gA xs)) L ((xs.getD j eh).top+1) (xs.getD j eh).top)≠0
 ev:fu (ee (xs.take j) vals) fl ((xs.getD j eh).top+1) (hU (dP (gA xs)) L ((xs.getD j eh).top+1) (xs.getD j eh).top)=iH xs vals fl L ((xs.getD j eh).top+1) (xs.getD j eh).top
 lets:kR lt (ee (xs.take j) vals)
 len:lt.length≤(ee (xs.take j) vals).length
theorem pj.item (hL:ic L) (G:qN L) (h:pj xs L j vals) (hj:j<xs.length):(∃lt,Ni xs L fl j vals lt)∧vals.length=j:=by
 obtain⟨its,fr,U,I,z,V,J,Y⟩:=h;rw[fF hj eh] at z V J;have Z:pW xs its.length L fr ((xs.getD j eh).top+1):=by rw[I];exact(kj hL z.1 z.2.1 V).1
 have D:eU xs its L ((xs.getD j eh).top+1) (xs.getD j eh).top≠0:=fun e=>by
  rw[fA,Zu (.inl (by rw[e];rfl))] at J;simp at J
 have E:=U.len;have O:=MI (vals:=vals) (fl:=fl) G.tokw Y (by omega) E G.num _ z.1.fit Z D
 have e1:ee (xs.take vals.length) vals=ee (xs.take j) vals:=by rw[E,I]
 have h1:=O.ty;rw[I] at h1;refine⟨⟨fw (xs.take j) its,⟨fr,z.1.fit⟩,O.wf,?_,by rw[←e1];exact O.ev,Cc _ _ _ E fun i hi=>U.has i hi,?_⟩,by omega⟩
 ·rw[h1]
  intro e;rcases qy G.tokw Y _ z.1.fit Z with R|R
  ·exact D R
  ·exact D ((mP (.inr R)).1 e)
 ·rw[oG _ _ (by simp;omega),qg _ _ (by simp;omega)];exact Zw _
theorem pj.next (hL:ic L) (O:qN L) (hF:gG fl) (h:pj xs L j vals) (hj:j<xs.length):
 pj xs L (j+1) (vals++[iH xs vals fl L ((xs.getD j eh).top+1) (xs.getD j eh).top]):=by
 obtain⟨its,fr,R,U,D,V,E,Y⟩:=h;rw[fF hj eh] at D V E;obtain⟨Z,aa⟩:=kj hL D.1 D.2.1 V;have hg:pW xs its.length L fr ((xs.getD j eh).top+1):=by rw[U];exact Z
 rw[fA] at E
 by_cases I:(eU xs its L ((xs.getD j eh).top+1) (xs.getD j eh).top).toNat=0∨((xs.getD j eh).name=[]∧(eU xs its L ((xs.getD j eh).top+1) (xs.getD j eh).top).toNat≠116)
 ·rw[Zu I] at E;simp at E
 ·rw[Zt I] at E
  have G:eU xs its L ((xs.getD j eh).top+1) (xs.getD j eh).top≠0:=fun e=>I (.inl (by rw[e];rfl))
  refine⟨its++[eU xs its L ((xs.getD j eh).top+1) (xs.getD j eh).top],(xs.getD j eh).parts,R.snoc ?_,by simp[U],D.2.2,aa,E,?_⟩
  ·exact wK R hF O.num _ D.1.fit hg G
  ·intro c z
   simp only[aar,abq] at z;rcases z with z|rfl
   ·exact Y c z
   ·rcases qy O.tokw Y _ D.1.fit hg with J|J
    ·exact absurd J G
    ·exact J
end Go.Proofs.YtfkdailfcmnjlaaGreatDoor
set_option maxHeartbeats 40000000
set_option maxRecDepth 1000000
namespace Go.Proofs.YtfkdailfcmnjlaaGreatDoor
open Go Go.RowKit Tryz
attribute [local go_sem ↓] Go.wp_at_zero Go.wp_at_succ
variable {bs : Nat}
variable {w E I:World} {base D k size n:Nat} {v lv:Value} {fl:List Int} {xs:List dY} {L:List Pt}
theorem JS:(prog.info? 112).map (fun i=>(i.zero,i.size,i.bytes))=some (some (Iq 0),1,8):=by kernel_rfl
theorem LJ {l:List Int} (h:w.ownsRow base 112 1 v l.length (qh l)):∃a cap,v= .slice a l.length cap∧xm w a l:=by
 obtain⟨R,h⟩:=h;rcases h with⟨rfl,G⟩|⟨g,cap,z,rfl,U,I,V,Y,h3,J⟩
 ·exact⟨none,0,by rw[G],fun k E=>by omega⟩
 ·refine⟨_,cap,rfl,fun k E=>⟨g,rfl,?_⟩⟩
  rw[Zz w g k _ _ _ I];have O:z[k]?=(z.toList.take (l.length*1))[k]?:=by
   rw[aaD (by omega)];simp
  rw[O,J];unfold qh;simp[E,Zs]
def mg (fl:List Int) (lv:Value):Obj:= .cells #[Iq (fl.getD 0 0),Iq (fl.getD 1 0),Iq (fl.getD 2 0),Iq (fl.getD 3 0),Iq (fl.getD 4 0),Iq (fl.getD 5 0),Iq (fl.getD 6 0),Iq (fl.getD 7 0),Iq (fl.getD 8 0),lv] 181 (0,0)
def K9 (fl:List Int):Value:= .agg #[Iq (fl.getD 0 0),Iq (fl.getD 1 0),Iq (fl.getD 2 0),Iq (fl.getD 3 0),Iq (fl.getD 4 0),Iq (fl.getD 5 0),Iq (fl.getD 6 0),Iq (fl.getD 7 0),Iq (fl.getD 8 0)]
theorem Nj (h:w.heap[D]?=some (mg fl lv)):rK w D fl lv:=by
 unfold mg at h;have z:=fun j=>Zz w D j _ _ _ h
 refine⟨fun i E=>?_,z 9⟩
 have:i=0∨i=1∨i=2∨i=3∨i=4∨i=5∨i=6∨i=7∨i=8:=by omega
 rcases this with rfl|rfl|rfl|rfl|rfl|rfl|rfl|rfl|rfl
 ·exact z 0
 ·exact z 1
 ·exact z 2
 ·exact z 3
 ·exact z 4
 ·exact z 5
 ·exact z 6
 ·exact z 7
 ·exact z 8
theorem JT (h:k<xs.length) (vals:List Int) (n:Nat):jq xs fl L (xs.drop k) vals n=if(xs.getD k eh).name=[] then(if iH xs vals fl L ((xs.getD k eh).top+1) (xs.getD k eh).top=1 then some ((xs.getD k eh).allow,n+1) else jq xs fl L (xs.drop (k+1)) (vals++[iH xs vals fl L ((xs.getD k eh).top+1) (xs.getD k eh).top]) (n+1))
 else jq xs fl L (xs.drop (k+1)) (vals++[iH xs vals fl L ((xs.getD k eh).top+1) (xs.getD k eh).top]) n:=by
 rw[fF h eh,jq]
def Fw (G:Nat) (L:List Pt) (xs:List dY) (ys:List (Tok×Tok×Nat×Int)) (fl:List Int) (w:World) (r:Bool×Nat) (k:Nat) (lv:Value) (wr:World):Prop:=
 ∃(vals:List Int) (l q:Nat),pj xs L k vals∧r=(jq xs fl L (xs.drop k) vals q).getD (false,0)∧sT l q (xs.drop k) (ys.drop k)∧dQ (ey G L (N1 (dP (gA xs))) w) (xs.drop k) (ys.drop k)∧wr.ownsRow (w.heap.size+3) 112 1 lv (ee (xs.take k) vals).length (qh (ee (xs.take k) vals))∧q≤k
theorem D6 {o:Obj} {e:TypeId} {l:List Value} (z:Below w.heap.size w E) (G:E.ownsRow base e size v n l) (D:(E.alloc o).grownBy I v.ownBlock) (R:w.heap.size≤base):Below w.heap.size w I:=by
 have U:=z.size;have J:=D.size;simp at J;refine⟨D.os.trans z.os,D.tape.trans z.tape,D.output.trans z.output,by omega,fun k O=>?_⟩
 rw[D.block k (by simp;omega) (fun e=>by have:=(G.lt _ e.symm).1;omega),ZE E o k (by omega)]
 exact z.block k O
theorem G4 {ys:List (Tok×Tok×Nat×Int)} (hP:xi bs L xs base v ys w) (hM:nq L xs) (hF:gG fl):
 Calls prog 39 #[v,K9 fl] w fun e w'=>e= .returned (LI ((jq xs fl L xs [] 0).getD (false,0)))∧Below w.heap.size w w':=by
 obtain⟨a,cap,rfl,hcell⟩:=lD hP.row;obtain⟨i0,hi,hz0,hz1,hz2⟩:=abF JS;have hlen:=Hi hP.items.len;have hyl:=hP.few;have HC:=Hi hcell;have HL:Hid (ic L):=hM.parts;have HPL:Hid (qN L):=hM.print.parts;have HF:Hid (gG fl):=hF;have HF2:Hid (eO fl):=tB hF
 generalize hr:(jq xs fl L xs [] 0).getD (false,0)=r at*;have hrel0:Fw bs L xs ys fl w r 0 (.slice none 0 0) (((w.alloc (.cells #[Iq (fl.getD 0 0),Iq (fl.getD 1 0),Iq (fl.getD 2 0),Iq (fl.getD 3 0),Iq (fl.getD 4 0),Iq (fl.getD 5 0),Iq (fl.getD 6 0),Iq (fl.getD 7 0),Iq (fl.getD 8 0)] 114 (0,0))).alloc (.cells #[.bool false,Iq 0,Iq 0] 40 (0,0))).alloc (mg fl (.slice none 0 0))):=
  ⟨[],0,0,hM.start2,hr.symm,hP.numb,hP.items,aam _ _ _ _,Zw _⟩
 have hB0:Below w.heap.size w (((w.alloc (.cells #[Iq (fl.getD 0 0),Iq (fl.getD 1 0),Iq (fl.getD 2 0),Iq (fl.getD 3 0),Iq (fl.getD 4 0),Iq (fl.getD 5 0),Iq (fl.getD 6 0),Iq (fl.getD 7 0),Iq (fl.getD 8 0)] 114 (0,0))).alloc (.cells #[.bool false,Iq 0,Iq 0] 40 (0,0))).alloc (mg fl (.slice none 0 0))):=(((ZA _ _).alloc (Zw _) _).alloc (by simp) _).alloc (by simp;omega) _
 have hT0:(((w.alloc (.cells #[Iq (fl.getD 0 0),Iq (fl.getD 1 0),Iq (fl.getD 2 0),Iq (fl.getD 3 0),Iq (fl.getD 4 0),Iq (fl.getD 5 0),Iq (fl.getD 6 0),Iq (fl.getD 7 0),Iq (fl.getD 8 0)] 114 (0,0))).alloc (.cells #[.bool false,Iq 0,Iq 0] 40 (0,0))).alloc (mg fl (.slice none 0 0))).heap[w.heap.size+1+1]?=some (mg fl (.slice none 0 0)):=by
  have e:=Zy ((w.alloc (.cells #[Iq (fl.getD 0 0),Iq (fl.getD 1 0),Iq (fl.getD 2 0),Iq (fl.getD 3 0),Iq (fl.getD 4 0),Iq (fl.getD 5 0),Iq (fl.getD 6 0),Iq (fl.getD 7 0),Iq (fl.getD 8 0)] 114 (0,0))).alloc (.cells #[.bool false,Iq 0,Iq 0] 40 (0,0))) (mg fl (.slice none 0 0));rw[ZB,ZB] at e;exact e
 have hV0:(((w.alloc (.cells #[Iq (fl.getD 0 0),Iq (fl.getD 1 0),Iq (fl.getD 2 0),Iq (fl.getD 3 0),Iq (fl.getD 4 0),Iq (fl.getD 5 0),Iq (fl.getD 6 0),Iq (fl.getD 7 0),Iq (fl.getD 8 0)] 114 (0,0))).alloc (.cells #[.bool false,Iq 0,Iq 0] 40 (0,0))).alloc (mg fl (.slice none 0 0))).heap[w.heap.size+1]?=some (.cells #[.bool false,Iq 0,Iq 0] 40 (0,0)):=by
  rw[ZE _ _ _ (by simp)]
  have e:=Zy (w.alloc (.cells #[Iq (fl.getD 0 0),Iq (fl.getD 1 0),Iq (fl.getD 2 0),Iq (fl.getD 3 0),Iq (fl.getD 4 0),Iq (fl.getD 5 0),Iq (fl.getD 6 0),Iq (fl.getD 7 0),Iq (fl.getD 8 0)] 114 (0,0))) (.cells #[.bool false,Iq 0,Iq 0] 40 (0,0));rw[ZB] at e;exact e
 have hS0:w.heap.size+3≤(((w.alloc (.cells #[Iq (fl.getD 0 0),Iq (fl.getD 1 0),Iq (fl.getD 2 0),Iq (fl.getD 3 0),Iq (fl.getD 4 0),Iq (fl.getD 5 0),Iq (fl.getD 6 0),Iq (fl.getD 7 0),Iq (fl.getD 8 0)] 114 (0,0))).alloc (.cells #[.bool false,Iq 0,Iq 0] 40 (0,0))).alloc (mg fl (.slice none 0 0))).heap.size:=by simp
 have H0:=Hi (And.intro hrel0 (And.intro hB0 (And.intro hT0 (And.intro hV0 hS0))));clear hP hM hF hcell hr hrel0 hB0 hT0 hV0 hS0;unfold K9;unfold mg at H0;generalize hf0:fl.getD 0 0=f0 at*;generalize hf1:fl.getD 1 0=f1 at*;generalize hf2:fl.getD 2 0=f2 at*;generalize hf3:fl.getD 3 0=f3 at*;generalize hf4:fl.getD 4 0=f4 at*;generalize hf5:fl.getD 5 0=f5 at*;generalize hf6:fl.getD 6 0=f6 at*;generalize hf7:fl.getD 7 0=f7 at*;generalize hf8:fl.getD 8 0=f8 at*;have HTO:Hid (∀lv,mg fl lv= .cells #[Iq f0,Iq f1,Iq f2,Iq f3,Iq f4,Iq f5,Iq f6,Iq f7,Iq f8,lv] 181 (0,0)):=fun lv=>by unfold mg;rw[hf0,hf1,hf2,hf3,hf4,hf5,hf6,hf7,hf8]
 clear hf0 hf1 hf2 hf3 hf4 hf5 hf6 hf7 hf8;go_enter func39,ntmps39;go_wp2_with fail;obtain⟨hrel0,hB0,hT0,hV0,hS0⟩:=H0.out;clear H0;generalize (((w.alloc (.cells #[Iq f0,Iq f1,Iq f2,Iq f3,Iq f4,Iq f5,Iq f6,Iq f7,Iq f8] 114 (0,0))).alloc (.cells #[.bool false,Iq 0,Iq 0] 40 (0,0))).alloc (.cells #[Iq f0,Iq f1,Iq f2,Iq f3,Iq f4,Iq f5,Iq f6,Iq f7,Iq f8,.slice none 0 0] 181 (0,0)))=wz at*
 go_loopw [14] (fun kv wr=> ∃(k:Nat) (lv:Value),k≤ys.length∧kv= Iq k∧Hid (Fw bs L xs ys fl w r k lv wr)∧Below w.heap.size w wr∧wr.heap[w.heap.size+1+1]?=some (.cells #[Iq f0,Iq f1,Iq f2,Iq f3,Iq f4,Iq f5,Iq f6,Iq f7,Iq f8,lv] 181 (0,0))∧wr.heap[w.heap.size+1]?=some (.cells #[.bool false,Iq 0,Iq 0] 40 (0,0))∧w.heap.size+3≤wr.heap.size) (fun kv _=>ys.length - (intOf kv).toNat)
 case atStart=>exact⟨0,_,ZL _,rfl,hrel0,hB0,hT0,hV0,hS0⟩
 case round=>
  clear hrel0 hB0 hT0 hV0 hS0;obtain⟨k,lv,hk,rfl,HR,hbw,hTw,hVw,hSw⟩:=hrel
  by_cases hlt:k<ys.length
  ·have hltx:k<xs.length:=by rw[←hlen.out];exact hlt
   obtain⟨vals,nl,q,hA,hre,hnu,hit,hown,hqk⟩:=HR.out;clear HR;obtain⟨⟨lt,hI⟩,hvl⟩:=hA.item (fl:=fl) HL.out HPL.out hltx;have HNX:=Hi (hA.next HL.out HPL.out HF.out hltx);have HML:=Hi (JT (fl:=fl) (L:=L) hltx vals q);have HTX:=Hi (qC hltx eh);have hgl:(ee (xs.take k) vals).length≤k:=by
    rw[qg _ _ (by simp;omega)];exact Z8 (vE _) (by simp;omega)
   have HSN:Hid (∀x t,ee (xs.take k++[x]) (vals++[t])=if x.name=[] then ee (xs.take k) vals else ee (xs.take k) vals++[t]):=fun x t=>tA _ _ _ _ (by simp;omega)
   rw[fF hltx eh,fF hlt (ff,ff,0,0)] at hnu hit;obtain⟨g,rfl,⟨gcs,hgc⟩,hcells⟩:=HC.out k hlt;obtain⟨⟨lo,hTF⟩,hwf,hty,hev,hlets,hlln⟩:=hI;generalize xs.getD k eh=x at*;generalize ys.getD k (ff,ff,0,0)=y at*;obtain⟨⟨hCd,hO⟩,hit2⟩:=hit;obtain⟨t0,u0,b,wh⟩:=y;simp only[] at hCd hO;unfold sT at hnu;simp only[] at hnu;have hct:∀j,j<10→wr.cell? ⟨g,k*10+j,none⟩=(fC (t0,u0,b,wh))[j]?:=fun j hj=>by
    rw[hbw.cell (p:=⟨g,k*10+j,none⟩) (be hgc)];exact hcells j hj
   have c0:Cq wr g (k*10) (Iq (da t0)):=hct 0 (by omega)
   have c1:Cq wr g (k*10+1) (Iq t0.pl):=hct 1 (by omega)
   have c2:Cq wr g (k*10+2) (Iq (dz t0)):=hct 2 (by omega)
   have c3:Cq wr g (k*10+3) (S (di t0)):=hct 3 (by omega)
   have c4:Cq wr g (k*10+4) (Iq (da u0)):=hct 4 (by omega)
   have c5:Cq wr g (k*10+5) (Iq u0.pl):=hct 5 (by omega)
   have c6:Cq wr g (k*10+6) (Iq (dz u0)):=hct 6 (by omega)
   have c7:Cq wr g (k*10+7) (S (di u0)):=hct 7 (by omega)
   have c8:Cq wr g (k*10+8) (Iq wh):=hct 8 (by omega)
   have c9:Cq wr g (k*10+9) (Pq b):=hct 9 (by omega)
   have hb1:Below wr.heap.size wr (wr.alloc (jZ t0 u0 wh (Pq b))):=(ZA _ _).alloc (Zw _) _;have hB1:Below w.heap.size w (wr.alloc (jZ t0 u0 wh (Pq b))):=hbw.trans (hb1.mono hbw.size);have hz1':(wr.alloc (jZ t0 u0 wh (Pq b))).heap[wr.heap.size]?=some (jZ t0 u0 wh (Pq b)):=Zy wr _;obtain⟨al,capl,rfl,hIn⟩:=LJ hown;have hTl:rK (wr.alloc (jZ t0 u0 wh (Pq b))) (w.heap.size+1+1) fl (.slice al (ee (xs.take k) vals).length capl):=Nj (by rw[HTO.out,hb1.block _ (be hTw)];exact hTw)
   have W1:=yW hlets HF2.out hlln (by omega) (hCd.tr _ hTF|>.below hB1) hwf hty hTl (hIn.below hb1)
   rw[hev] at W1;have hown1:=dn hown hb1;have hTw1:=(hb1.block _ (be hTw)).trans hTw;have hVw1:=(hb1.block _ (be hVw)).trans hVw;generalize iH xs vals fl L (x.top+1) x.top=tv at*;unfold jZ at hb1 hB1 hz1' W1 hown1 hTw1 hVw1;have HIT3:=Hi hit2;have HNU:=Hi hnu;have HO:Hid (yh x t0 u0):=hO;have HRE:=Hi hre;clear hct hcells hit2 hCd hTF hwf hty hev hlets hlln hnu hgc hTl hIn hown hO hre hA hTw hVw hbw;generalize hkd:da t0=kd at*;generalize t0.pl=q1 at*;generalize dz t0=q2 at*;generalize di t0=q3 at*;generalize da u0=q4 at*;generalize u0.pl=q5 at*;generalize dz u0=q6 at*;generalize di u0=q7 at*;have HKD:=Hi hkd;clear hkd;rcases wQ HO.out with⟨hn,hk11⟩|⟨hn,hk11⟩
   ·rw[HKD.out] at hk11
    subst hk11;have HRE2:Hid (r=(jq xs fl L (xs.drop (k+1)) (vals++[tv]) q).getD (false,0)):=by show _=_;rw[HRE.out,HML.out,Zt hn]
    have HNU2:Hid (sT (nl+1) q (xs.drop (k+1)) (ys.drop (k+1))):=by
     rcases HNU.out with h|h
     ·exact h.2.2
     ·exact absurd h.1 hn
    have HLV:Hid (ee (xs.take (k+1)) (vals++[tv])=ee (xs.take k) vals++[tv]):=by show _=_;rw[HTX.out,HSN.out,Zt hn]
    clear hn HRE HML HNU HSN HTX;go_wp2_with fail;apply W1.mono;rintro e w1 ⟨rfl,hb2⟩;clear W1 c0 c1 c2 c3 c4 c5 c6 c7 c8 c9;have hB2:=hB1.trans (hb2.mono hB1.size);have hz2':=(hb2.block _ (be hz1')).trans hz1';have hT2:=(hb2.block _ (be hTw1)).trans hTw1;have hV2:=(hb2.block _ (be hVw1)).trans hVw1;have hown2:=dn hown1 hb2;have hs2:=Z8 hSw (Z8 hb1.size hb2.size);obtain⟨⟨z0,z1,z2,z3,z4,z5,z6,z7,z8,z9⟩,zf⟩:=eo hz2';have t9:=Zz w1 _ 9 _ _ _ hT2;simp only[aaC,aa2,aaI] at t9;have tfz:∀j,w1.frozen? ⟨w.heap.size+1+1,j,none⟩=false:=fun j=>by simp[World.frozen?,hT2]
    have htb:w.heap.size+1+1<w1.heap.size:=by omega
    have hne:some (w.heap.size+1+1)≠(Value.slice al (ee (xs.take k) vals).length capl).ownBlock:=fun e=>by
     have:=(hown2.lt _ e.symm).1;omega
    have HB2:=Hi hB2;have HT2:=Hi hT2;have HV2:=Hi hV2;clear hb1 hB1 hz1' hown1 hTw1 hVw1 hb2 hz2' hB2 hT2 hV2;generalize ee (xs.take k) vals=lvs at*
    go_wp2_with (
     at_builtin
     go_must (refine wpList_append_lies _ (by rfl) _ _ 179 (by rfl) (w.heap.size+3) 112 i0 (Iq 0) 1 8 underlying179 hi hz0 hz1 hz2 (by rfl) (by decide) _ _ _ (by rfl) (hown2.alloc _) ⟨w1.heap.size,0,none⟩ 1 1 [Iq tv] (by rfl) (by rfl) (World.news_of_block (Zy w1 _)) (fun x hx=>by simp at hx;rcases hx with rfl;rfl) (by decide) (by unfold maxLen;omega) (by omega) (by simp;omega) _ rfl ?_)
     intro gg cap' w3 hown3 hgrow hat hlt3;have e0:=(hgrow.block _ (by simp;omega) hne).trans (ZE w1 _ _ htb)
     have e1:=(ZI (a:=⟨w.heap.size+1+1,9,none⟩) e0).trans t9;have e2:=(aao (a:=⟨w.heap.size+1+1,9,none⟩) e0).trans (tfz 9);have HE0:=Hi e0;have HO3:=Hi hown3;have HG3:=Hi hgrow
     clear e0 hown3 hgrow)
    go_roundw
    case rel=>
     have hO3:=HO3.out;have hgb:=(hO3.lt gg rfl).1;have hT3:=HE0.out.trans HT2.out;have hV3:=(HG3.out.block _ (by simp;omega) (fun e=>by have:=(hown2.lt _ e.symm).1;omega)).trans ((ZE w1 _ _ (by omega)).trans HV2.out)
     refine⟨k+1,Sq gg (lvs.length+1) cap',by omega,by simp,⟨vals++[tv],nl+1,q,HNX.out,HRE2.out,HNU2.out,HIT3.out,?_,by omega⟩,?_,?_,?_,?_⟩
     ·rw[HLV.out]
      have h1:=Z9 hO3 (a:=⟨w.heap.size+1+1,9,none⟩) (by simp[Value.ownBlock];omega) (Sq gg (lvs.length+1) cap')
      simpa [qh] using h1
     ·exact(D6 HB2.out hown2 HG3.out (by omega)).setCell (by simp;omega) _
     ·rw[ZK w3 _ 9 _ _ _ hT3];rfl
     ·rw[ZO _ _ _ _ (by simp)];exact hV3
     ·have:=HG3.out.size;simp at this⊢;omega
    case measure=>simp[intOf];omega
   ·rw[HKD.out] at hk11
    have hkd2:((kd:Int)==(11:Int))=false:=by
     have: ¬((kd:Int)=11):=by omega
     simpa using this
    have hwh:wh=((q+1:Nat):Int)∧sT nl (q+1) (xs.drop (k+1)) (ys.drop (k+1)):=by
     rcases HNU.out with h|h
     ·exact absurd hn h.1
     ·exact h.2
    have HNU2:=Hi hwh.2;have HWH:=Hi hwh.1;have hal:kd=if x.allow then 12 else 13:=by
     rcases HO.out with h|h
     ·exact absurd hn h.1
     ·rw[←HKD.out];exact h.2.1
    have hal2:((kd:Int)==(12:Int))=x.allow:=by
     rw[hal];cases x.allow<;>rfl
    have HLV:Hid (ee (xs.take (k+1)) (vals++[tv])=ee (xs.take k) vals):=by show _=_;rw[HTX.out,HSN.out,Zu hn]
    by_cases htv:tv=1
    ·subst htv
     have HE:Hid (r=(x.allow,q+1)):=by show _=_;rw[HRE.out,HML.out,Zu hn,Zu rfl];rfl
     clear hn hal HRE HML HNU HSN HTX hwh HNU2 HLV;go_wp2_with fail;apply W1.mono;rintro e w1 ⟨rfl,hb2⟩;clear W1 c0 c1 c2 c3 c4 c5 c6 c7 c8 c9;have HB2:=Hi (hB1.trans (hb2.mono hB1.size));have hz2':=(hb2.block _ (be hz1')).trans hz1';obtain⟨⟨z0,z1,z2,z3,z4,z5,z6,z7,z8,z9⟩,zf⟩:=eo hz2';obtain⟨⟨v0,v1,v2⟩,vf⟩:=qO ((hb2.block _ (be hVw1)).trans hVw1);have nz:wr.heap.size≠w.heap.size+1:=by omega
     clear hb1 hB1 hz1' hown1 hTw1 hVw1 hb2 hz2';generalize x.allow=xa at*;go_wp2;refine ZH (v:= .agg #[.bool xa,Iq wh,Iq 0]) (by simp[results,results39,go_sem,v0,v1,v2,vf]) rfl ?_
     exact⟨by rw[HE.out,HWH.out];rfl,((HB2.out.setCell (by simp) _).setCell (by simp) _).setCell (by simp) _⟩
    ·have t1:(tv==1)=false:=by simpa using htv
     have HRE2:Hid (r=(jq xs fl L (xs.drop (k+1)) (vals++[tv]) (q+1)).getD (false,0)):=by show _=_;rw[HRE.out,HML.out,Zu hn,Zt htv]
     clear hn hal HRE HML HNU HSN HTX hwh htv hal2;go_wp2_with fail;apply W1.mono;rintro e w1 ⟨rfl,hb2⟩;clear W1 c0 c1 c2 c3 c4 c5 c6 c7 c8 c9;have HB2:=Hi (hB1.trans (hb2.mono hB1.size));have hz2':=(hb2.block _ (be hz1')).trans hz1';have HT2:=Hi ((hb2.block _ (be hTw1)).trans hTw1);have HV2:=Hi ((hb2.block _ (be hVw1)).trans hVw1);have hown2:=dn hown1 hb2;have hs2:=Z8 hSw (Z8 hb1.size hb2.size);obtain⟨⟨z0,z1,z2,z3,z4,z5,z6,z7,z8,z9⟩,zf⟩:=eo hz2';clear hb1 hB1 hz1' hown1 hTw1 hVw1 hb2 hz2';go_wp2
     go_roundw
     case rel=>exact⟨k+1,_,by omega,by simp,⟨vals++[tv],nl,q+1,HNX.out,HRE2.out,HNU2.out,HIT3.out,by rw[HLV.out];exact hown2,by omega⟩,HB2.out,HT2.out,HV2.out,hs2⟩
     case measure=>simp[intOf];omega
  ·have hke:k=ys.length:=by omega
   subst hke;obtain⟨vals,nl,q,hA,hre,hnu,hit,hown,hqk⟩:=HR.out;have HE:Hid (r=(false,0)):=by
    show _=_
    rw[hre,aab (by rw[hlen.out];exact Zw _)];rfl
   obtain⟨⟨v0,v1,v2⟩,vf⟩:=qO hVw;have HB:=Hi hbw;clear hA hre hnu hit hown hbw hTw hVw HR;go_wp2;refine ZH (v:= .agg #[.bool false,Iq 0,Iq 0]) (by simp[results,results39,go_sem,v0,v1,v2,vf]) rfl ?_
   exact⟨by rw[HE.out];rfl,((HB.out.setCell (by simp) _).setCell (by simp) _).setCell (by simp) _⟩
end Go.Proofs.YtfkdailfcmnjlaaGreatDoor
namespace Go.Proofs.YtfkdailfcmnjlaaGreatDoor
open Go Go.RowKit Tryz
attribute [local go_sem ↓] Go.wp_at_zero Go.wp_at_succ
theorem lW {B b:Nat} {a:World} (z:B≤b):∀(vs:List Value) (o:Nat) {w:World},Below B a w→Below B a (w.setCells b o vs)
 |[],_,_,h=>h
 |v::r,o,w,h=>lW z r (o+1) (h.setCell (by simpa using z) v)
variable {w w':World} {b o n z base d f g j:Nat} {t:Tr} {lv v:Value} {L:List Pt} {xs:List dY} {l:List UInt8} {pol:List (qZ×List (Nat×List UInt8))} {ix:List UInt8→Int} {fl:List Int}
theorem lX (h:w.there b o n) (D:Below w.heap.size w w'):w'.there b o n:=fun j E=>by
 have z:=h j E;have G:b<w.heap.size:=by
  obtain⟨v,I⟩:=Option.isSome_iff_exists.1 z.1;exact Zx w _ I
 have e:=D.block b G;exact⟨by rw[ZI (w:=w) (a:=⟨b,o+j,none⟩) e];exact z.1,by rw[aao (w:=w) (a:=⟨b,o+j,none⟩) e];exact z.2⟩
theorem Cd {cs:Array Value} {t:TypeId} (h:w.heap[b]?=some (.cells cs t (0,0))):w.there b 0 cs.size:=fun j z=>by
 rw[aaq];exact⟨by rw[Zz w b j _ _ _ h];simp[z],by simp[World.frozen?,h]⟩
theorem vg {mv:Value} (e:Ev) (s:Na) (w:World) (h1:eW lv s.levels w) (h2:eW mv s.members w):
 Calls prog 40 #[DX e,tf lv mv s] w fun en w'=>en= .returned (K9 (eD e s))∧Below w.heap.size w w':=by
 unfold DX tf;obtain⟨z,D,O,R,wh⟩:=e;obtain⟨G,E,I,J⟩:=s;simp only[] at*
 have ab:Below w.heap.size w (((w.alloc (.cells #[S z,S D,Iq O,Iq R,Iq wh] 46)).alloc (.cells #[lv,Iq E,mv,.bool J] 50)).alloc (.cells #[Iq 0,Iq 0,Iq 0,Iq 0,Iq 0,Iq 0,Iq 0,Iq 0,Iq 0] 114)):=(((ZA _ _).alloc (Zw _) _).alloc (by simp) _).alloc (by simp;omega) _
 have ac:(((w.alloc (.cells #[S z,S D,Iq O,Iq R,Iq wh] 46)).alloc (.cells #[lv,Iq E,mv,.bool J] 50)).alloc (.cells #[Iq 0,Iq 0,Iq 0,Iq 0,Iq 0,Iq 0,Iq 0,Iq 0,Iq 0] 114)).heap[w.heap.size]?=some (.cells #[S z,S D,Iq O,Iq R,Iq wh] 46 (0,0)):=by rw[ZE _ _ _ (by simp;omega),ZE _ _ _ (by simp)];exact Zy w _
 have ad:(((w.alloc (.cells #[S z,S D,Iq O,Iq R,Iq wh] 46)).alloc (.cells #[lv,Iq E,mv,.bool J] 50)).alloc (.cells #[Iq 0,Iq 0,Iq 0,Iq 0,Iq 0,Iq 0,Iq 0,Iq 0,Iq 0] 114)).heap[w.heap.size+1]?=some (.cells #[lv,Iq E,mv,.bool J] 50 (0,0)):=by
  rw[ZE _ _ _ (by simp)]
  have e:=Zy (w.alloc (.cells #[S z,S D,Iq O,Iq R,Iq wh] 46)) (.cells #[lv,Iq E,mv,.bool J] 50);rw[ZB] at e;exact e
 have ae:(((w.alloc (.cells #[S z,S D,Iq O,Iq R,Iq wh] 46)).alloc (.cells #[lv,Iq E,mv,.bool J] 50)).alloc (.cells #[Iq 0,Iq 0,Iq 0,Iq 0,Iq 0,Iq 0,Iq 0,Iq 0,Iq 0] 114)).heap[w.heap.size+1+1]?=some (.cells #[Iq 0,Iq 0,Iq 0,Iq 0,Iq 0,Iq 0,Iq 0,Iq 0,Iq 0] 114 (0,0)):=by
  have e:=Zy ((w.alloc (.cells #[S z,S D,Iq O,Iq R,Iq wh] 46)).alloc (.cells #[lv,Iq E,mv,.bool J] 50)) (.cells #[Iq 0,Iq 0,Iq 0,Iq 0,Iq 0,Iq 0,Iq 0,Iq 0,Iq 0] 114);rw[ZB,ZB] at e;exact e
 have H0:=Hi (And.intro ab (And.intro ac (And.intro ad ae)));have WL:∀(u:List UInt8) (W:World),Below w.heap.size w W→Calls prog 79 #[.agg #[lv,Iq E,mv,.bool J],S u] W fun e w'=>e= .returned (Iq (fG E G u))∧Below W.heap.size W w':=fun u W hb=>DB u W (h1.below hb)
 have WI:∀(u:List UInt8) (W:World),Below w.heap.size w W→Calls prog 80 #[.agg #[lv,Iq E,mv,.bool J],S u] W fun e w'=>e= .returned (Iq (fy I u))∧Below W.heap.size W w':=fun u W hb=>yb u W (h2.below hb)
 have WK:=fun W=>uU O W
 have WT:=fun b W=>iw b W
 have KP:Hid (∀W Z,(Below w.heap.size w W∧W.cell? ⟨w.heap.size,0,none⟩=some (S z)∧W.cell? ⟨w.heap.size,1,none⟩=some (S D)∧W.cell? ⟨w.heap.size,2,none⟩=some (Iq O)∧W.cell? ⟨w.heap.size,3,none⟩=some (Iq R)∧W.cell? ⟨w.heap.size,4,none⟩=some (Iq wh)∧W.cell? ⟨w.heap.size+1,0,none⟩=some (lv)∧W.cell? ⟨w.heap.size+1,1,none⟩=some (Iq E)∧W.cell? ⟨w.heap.size+1,2,none⟩=some (mv)∧W.cell? ⟨w.heap.size+1,3,none⟩=some (.bool J)∧W.there (w.heap.size+1+1) 0 9)→Below W.heap.size W Z→(Below w.heap.size w Z∧Z.cell? ⟨w.heap.size,0,none⟩=some (S z)∧Z.cell? ⟨w.heap.size,1,none⟩=some (S D)∧Z.cell? ⟨w.heap.size,2,none⟩=some (Iq O)∧Z.cell? ⟨w.heap.size,3,none⟩=some (Iq R)∧Z.cell? ⟨w.heap.size,4,none⟩=some (Iq wh)∧Z.cell? ⟨w.heap.size+1,0,none⟩=some (lv)∧Z.cell? ⟨w.heap.size+1,1,none⟩=some (Iq E)∧Z.cell? ⟨w.heap.size+1,2,none⟩=some (mv)∧Z.cell? ⟨w.heap.size+1,3,none⟩=some (.bool J)∧Z.there (w.heap.size+1+1) 0 9)):=fun W Z hS hb=>by
  obtain⟨aa,a0,a1,a2,a3,a4,a5,a6,a7,a8,tt⟩:=hS;refine⟨aa.trans (hb.mono aa.size),?_,?_,?_,?_,?_,?_,?_,?_,?_,?_⟩
  all_goals first
   |(rw[hb.cell (Zx W _ (by assumption))];assumption)
   |exact lX tt hb
 have KD:Hid (∀W:World,(Below w.heap.size w W∧Cq W w.heap.size 0 (S z)∧Cq W w.heap.size 1 (S D)∧Cq W w.heap.size 2 (Iq O)∧Cq W w.heap.size 3 (Iq R)∧Cq W w.heap.size 4 (Iq wh)∧Cq W (w.heap.size+1) 0 (lv)∧Cq W (w.heap.size+1) 1 (Iq E)∧Cq W (w.heap.size+1) 2 (mv)∧Cq W (w.heap.size+1) 3 (.bool J)∧W.there (w.heap.size+1+1) 0 9)→(Below w.heap.size w W.drew∧Cq W.drew w.heap.size 0 (S z)∧Cq W.drew w.heap.size 1 (S D)∧Cq W.drew w.heap.size 2 (Iq O)∧Cq W.drew w.heap.size 3 (Iq R)∧Cq W.drew w.heap.size 4 (Iq wh)∧Cq W.drew (w.heap.size+1) 0 (lv)∧Cq W.drew (w.heap.size+1) 1 (Iq E)∧Cq W.drew (w.heap.size+1) 2 (mv)∧Cq W.drew (w.heap.size+1) 3 (.bool J)∧W.drew.there (w.heap.size+1+1) 0 9)):=fun W hS=>by
  obtain⟨aa,a0,a1,a2,a3,a4,a5,a6,a7,a8,tt⟩:=hS;exact⟨aa.drew,a0,a1,a2,a3,a4,a5,a6,a7,a8,tt⟩
 have KS:Hid (∀W vs,(Below w.heap.size w W∧Cq W w.heap.size 0 (S z)∧Cq W w.heap.size 1 (S D)∧Cq W w.heap.size 2 (Iq O)∧Cq W w.heap.size 3 (Iq R)∧Cq W w.heap.size 4 (Iq wh)∧Cq W (w.heap.size+1) 0 (lv)∧Cq W (w.heap.size+1) 1 (Iq E)∧Cq W (w.heap.size+1) 2 (mv)∧Cq W (w.heap.size+1) 3 (.bool J)∧W.there (w.heap.size+1+1) 0 9)→(Below w.heap.size w (W.setCells (w.heap.size+1+1) 0 vs)∧(W.setCells (w.heap.size+1+1) 0 vs).cell? ⟨w.heap.size,0,none⟩=some (S z)∧(W.setCells (w.heap.size+1+1) 0 vs).cell? ⟨w.heap.size,1,none⟩=some (S D)∧(W.setCells (w.heap.size+1+1) 0 vs).cell? ⟨w.heap.size,2,none⟩=some (Iq O)∧(W.setCells (w.heap.size+1+1) 0 vs).cell? ⟨w.heap.size,3,none⟩=some (Iq R)∧(W.setCells (w.heap.size+1+1) 0 vs).cell? ⟨w.heap.size,4,none⟩=some (Iq wh)∧(W.setCells (w.heap.size+1+1) 0 vs).cell? ⟨w.heap.size+1,0,none⟩=some (lv)∧(W.setCells (w.heap.size+1+1) 0 vs).cell? ⟨w.heap.size+1,1,none⟩=some (Iq E)∧(W.setCells (w.heap.size+1+1) 0 vs).cell? ⟨w.heap.size+1,2,none⟩=some (mv)∧(W.setCells (w.heap.size+1+1) 0 vs).cell? ⟨w.heap.size+1,3,none⟩=some (.bool J)∧(W.setCells (w.heap.size+1+1) 0 vs).there (w.heap.size+1+1) 0 9)):=fun W vs hS=>by
  obtain⟨aa,a0,a1,a2,a3,a4,a5,a6,a7,a8,tt⟩:=hS;refine⟨lW (by omega) _ _ aa,?_,?_,?_,?_,?_,?_,?_,?_,?_,?_⟩
  all_goals first
   |(rw[World.cell?_setCells_out _ _ _ _ _ (fun h=>by exfalso;dsimp only at h;omega)];assumption)
   |exact World.there_setCells tt _ _ _
 have HF:Hid (eD ⟨z,D,O,R,wh⟩ ⟨G,E,I,J⟩=[fG E G z,fG E G D,R,wh,fy I z,fy I D,fe O,dq (z==D),dq J]):=rfl;go_enter func40,ntmps40;go_wp2_with fail;obtain⟨ab,ac,ad,ae⟩:=H0.out;generalize (((w.alloc (.cells #[S z,S D,Iq O,Iq R,Iq wh] 46)).alloc (.cells #[lv,Iq E,mv,.bool J] 50)).alloc (.cells #[Iq 0,Iq 0,Iq 0,Iq 0,Iq 0,Iq 0,Iq 0,Iq 0,Iq 0] 114))=Y at*;have ai:(Below w.heap.size w Y∧Y.cell? ⟨w.heap.size,0,none⟩=some (S z)∧Y.cell? ⟨w.heap.size,1,none⟩=some (S D)∧Y.cell? ⟨w.heap.size,2,none⟩=some (Iq O)∧Y.cell? ⟨w.heap.size,3,none⟩=some (Iq R)∧Y.cell? ⟨w.heap.size,4,none⟩=some (Iq wh)∧Y.cell? ⟨w.heap.size+1,0,none⟩=some (lv)∧Y.cell? ⟨w.heap.size+1,1,none⟩=some (Iq E)∧Y.cell? ⟨w.heap.size+1,2,none⟩=some (mv)∧Y.cell? ⟨w.heap.size+1,3,none⟩=some (.bool J)∧Y.there (w.heap.size+1+1) 0 9):=by
  refine⟨ab,?_,?_,?_,?_,?_,?_,?_,?_,?_,?_⟩
  all_goals first|(rw[Zz Y w.heap.size _ _ _ _ ac];rfl)|(rw[Zz Y (w.heap.size+1) _ _ _ _ ad];rfl)|exact Cd ae
 have af:[Value.int .i64 (fG E G z),Value.int .i64 (fG E G D),Value.int .i64 R,Value.int .i64 wh,Value.int .i64 (fy I z),Value.int .i64 (fy I D),Value.int .i64 (fe O),Value.int .i64 (dq (z==D)),Value.int .i64 (dq J)].length=9:=rfl;have ah:∀v∈[Value.int .i64 (fG E G z),Value.int .i64 (fG E G D),Value.int .i64 R,Value.int .i64 wh,Value.int .i64 (fy I z),Value.int .i64 (fy I D),Value.int .i64 (fe O),Value.int .i64 (dq (z==D)),Value.int .i64 (dq J)],v.oneCell'=true:=by
  intro v hv;simp only[ZU,aal,abk] at hv;rcases hv with rfl|rfl|rfl|rfl|rfl|rfl|rfl|rfl|rfl<;>rfl
 have an:Option.map (fun x=>x.size) (prog.info? 114)=some 9:=by kernel_rfl
 go_region_held3 (fun w'=>(Below w.heap.size w w'∧Cq w' w.heap.size 0 (S z)∧Cq w' w.heap.size 1 (S D)∧Cq w' w.heap.size 2 (Iq O)∧Cq w' w.heap.size 3 (Iq R)∧Cq w' w.heap.size 4 (Iq wh)∧Cq w' (w.heap.size+1) 0 (lv)∧Cq w' (w.heap.size+1) 1 (Iq E)∧Cq w' (w.heap.size+1) 2 (mv)∧Cq w' (w.heap.size+1) 3 (.bool J)∧w'.there (w.heap.size+1+1) 0 9)) (first|with_reducible exact KD.out _ (by assumption)|with_reducible exact KP.out _ _ (by assumption) (by assumption)|with_reducible exact KS.out _ _ (by assumption)|with_reducible assumption|go_keep)
  (first
   |(go_at_call 79;refine(WL _ _ (by exact acf (by assumption))).mono ?_;rintro e U ⟨rfl,ag⟩)
   |(go_at_call 80;refine(WI _ _ (by exact acf (by assumption))).mono ?_;rintro e U ⟨rfl,ag⟩)
   |(go_at_call 81;refine(WK _).mono ?_;rintro e U ⟨rfl,rfl⟩)
   |(go_at_call 82;refine(WT _ _).mono ?_;rintro e U ⟨rfl,rfl⟩))
 rename_i W1 B1 W2 B2 W3 B3 hHeld
 have aj:Y.drew.there (w.heap.size+1+1) 0 9:=fun j hj=>ai.2.2.2.2.2.2.2.2.2.2 j hj
 have ht:=lX (lX (lX (lX aj B1) B2) B3) ag;have V:=abM (w.heap.size+1+1) [Value.int .i64 (fG E G z),Value.int .i64 (fG E G D),Value.int .i64 R,Value.int .i64 wh,Value.int .i64 (fy I z),Value.int .i64 (fy I D),Value.int .i64 (fe O),Value.int .i64 (dq (z==D)),Value.int .i64 (dq J)] 0 U (fun j hj=>by
  exact(ht j (by rw[af] at hj;exact hj)).1)
 have ak:∀j,j<9→(U.setCells (w.heap.size+1+1) 0 [Value.int .i64 (fG E G z),Value.int .i64 (fG E G D),Value.int .i64 R,Value.int .i64 wh,Value.int .i64 (fy I z),Value.int .i64 (fy I D),Value.int .i64 (fe O),Value.int .i64 (dq (z==D)),Value.int .i64 (dq J)]).frozen? ⟨w.heap.size+1+1,j,none⟩=false:=fun j hj=>by
  have:=hHeld.2.2.2.2.2.2.2.2.2.2 j hj;rw[aaq] at this;exact this.2
 have am:=hHeld.1;have r0:=V 0 (by simp)
 have r1:=V 1 (by simp)
 have r2:=V 2 (by simp)
 have r3:=V 3 (by simp)
 have r4:=V 4 (by simp)
 have r5:=V 5 (by simp)
 have r6:=V 6 (by simp)
 have r7:=V 7 (by simp)
 have r8:=V 8 (by simp)
 have HN:=Hi (And.intro am ak);generalize (U.setCells (w.heap.size+1+1) 0 [Value.int .i64 (fG E G z),Value.int .i64 (fG E G D),Value.int .i64 R,Value.int .i64 wh,Value.int .i64 (fy I z),Value.int .i64 (fy I D),Value.int .i64 (fe O),Value.int .i64 (dq (z==D)),Value.int .i64 (dq J)])=wf at r0 r1 r2 r3 r4 r5 r6 r7 r8 HN⊢;generalize fG E G z=y0 at r0 HF⊢;generalize fG E G D=y1 at r1 HF⊢;generalize fy I z=y4 at r4 HF⊢;generalize fy I D=y5 at r5 HF⊢;generalize fe O=y6 at r6 HF⊢;generalize dq (z==D)=y7 at r7 HF⊢;generalize dq J=y8 at r8 HF⊢;go_wp2;refine ZH (v:= .agg #[Iq y0,Iq y1,Iq R,Iq wh,Iq y4,Iq y5,Iq y6,Iq y7,Iq y8]) (by simp[results,results40,go_sem,r0,r1,r2,r3,r4,r5,r6,r7,r8]) rfl ?_
 exact⟨by rw[HF.out];rfl,HN.out.1⟩
def xn (w:World) (G st:Array Value):World:=((w.alloc (.cells G 46 (0,0))).alloc (.cells st 50 (0,0))).alloc (.cells #[.bool false,Iq 0,Iq 0] 40 (0,0))
theorem Ce (w:World) (z st:Array Value):Below w.heap.size w (xn w z st)∧(xn w z st).heap[w.heap.size]?=some (.cells z 46 (0,0))∧(xn w z st).heap[w.heap.size+1]?=some (.cells st 50 (0,0))∧(xn w z st).heap[w.heap.size+1+1]?=some (.cells #[.bool false,Iq 0,Iq 0] 40 (0,0)):=by
 refine⟨(((ZA _ _).alloc (Zw _) _).alloc (by simp) _).alloc (by simp;omega) _,?_,?_,?_⟩
 ·unfold xn;rw[ZE _ _ _ (by simp;omega),ZE _ _ _ (by simp)];exact Zy w _
 ·unfold xn;rw[ZE _ _ _ (by simp)]
  have e:=Zy (w.alloc (.cells z 46 (0,0))) (.cells st 50 (0,0));rw[ZB] at e;exact e
 ·have e:=Zy ((w.alloc (.cells z 46 (0,0))).alloc (.cells st 50 (0,0))) (.cells #[.bool false,Iq 0,Iq 0] 40 (0,0));rw[ZB,ZB] at e;exact e
theorem xi.below {ys:List (Tok×Tok×Nat×Int)} (h:xi z L xs base v ys w) (D:Below w.heap.size w w'):xi z L xs base v ys w':=
 ⟨dn h.row D,h.few,h.items.grow D,h.trees,h.parts,h.tokw,h.names,h.types,h.numb,h.many⟩
theorem yZ {mv:Value} (l:List UInt8) (e:Ev) (s:Na) (w:World) (hW:Wd w) (hm:l.length≤maxLen) (h1:eW lv s.levels w) (h2:eW mv s.members w) (hF:gG (eD e s)):
 Calls prog 18 #[S l,DX e,tf lv mv s] w fun en w'=>en= .returned (.tuple #[LI (jH l (eD e s)),Iq (du l).1.1])∧Below w.heap.size w w':=by
 have HR:=fun W (h:Below w.heap.size w W)=>uC l W (Wd.below hW h) hm
 have HK:Hid ((du l).1.1=0→nq (du l).2.1 (du l).2.2):=sq l;have HX:Hid (jH l (eD e s)=if(du l).1.1=0 then(jq (du l).2.2 (eD e s) (du l).2.1 (du l).2.2 [] 0).getD (false,0) else(false,0)):=rfl
 have Y:=fun W (hb:Below w.heap.size w W)=>vg e s W (h1.below hb) (h2.below hb)
 have HF:Hid (gG (eD e s)):=hF;have ah:Hid (LI=fun r=> .agg #[.bool r.1,Iq r.2,Iq 0]):=rfl
 have hb:=xj l;generalize eD e s=fl at*;generalize jH l fl=r at*;generalize (du l).1.1=n at*;generalize (du l).1.2=k at*;generalize (du l).2.1=L at*;generalize (du l).2.2=xs at*;unfold DX tf at*;obtain⟨sn,tg,wa,nd,wh⟩:=e;obtain⟨ls,df,ms,op⟩:=s;simp only[] at*;have H0:=Hi (Ce w #[S sn,S tg,Iq wa,Iq nd,Iq wh] #[lv,Iq df,mv,.bool op]);unfold xn at H0;go_enter func18,ntmps18;go_wp2_with fail;obtain⟨I,Z,aa,ab⟩:=H0.out;generalize (((w.alloc (.cells #[S sn,S tg,Iq wa,Iq nd,Iq wh] 46 (0,0))).alloc (.cells #[lv,Iq df,mv,.bool op] 50 (0,0))).alloc (.cells #[.bool false,Iq 0,Iq 0] 40 (0,0)))=wz at*;apply(HR _ I).mono;rintro en z ⟨U,v,rfl,hv⟩;have J:=I.trans (U.mono I.size);have D:=(U.block _ (be Z)).trans Z;have E:=(U.block _ (be aa)).trans aa;have R:=(U.block _ (be ab)).trans ab
 by_cases V:n=0
 ·obtain⟨bs,ys,an,hP⟩:=hv V
  have hk:=HK.out V;have ac:Hid (r=(jq xs fl L xs [] 0).getD (false,0)):=by show _=_;rw[HX.out,Zu V]
  subst V;have W1:=Y z J;have W2:∀W,Below z.heap.size z W→Calls prog 39 #[v,K9 fl] W fun e w'=>e= .returned (LI ((jq xs fl L xs [] 0).getD (false,0)))∧Below W.heap.size W w':=fun W hW=>G4 (hP.below hW) hk HF.out
  rw[←ac.out,ah.out] at W2
  have e0:=Zz z w.heap.size 0 _ _ _ D;have e1:=Zz z w.heap.size 1 _ _ _ D;have e2:=Zz z w.heap.size 2 _ _ _ D;have e3:=Zz z w.heap.size 3 _ _ _ D;have e4:=Zz z w.heap.size 4 _ _ _ D;have s0:=Zz z (w.heap.size+1) 0 _ _ _ E;have s1:=Zz z (w.heap.size+1) 1 _ _ _ E;have s2:=Zz z (w.heap.size+1) 2 _ _ _ E;have s3:=Zz z (w.heap.size+1) 3 _ _ _ E;simp only[aaC,aa2,aaI] at e0 e1 e2 e3 e4 s0 s1 s2 s3;have ad:=Hi R;have O:=Hi J;go_wp2_with fail;apply W1.mono;rintro en w2 ⟨rfl,G⟩;have W3:=W2 w2 G;generalize K9 fl=fv at*;go_wp2_with fail;apply W3.mono;rintro en w3 ⟨rfl,ae⟩;have af:=O.out.trans ((G.trans (ae.mono G.size)).mono O.out.size);have ag:=((G.trans (ae.mono G.size)).block _ (be ad.out)).trans ad.out;obtain⟨⟨v0,v1,v2⟩,vf⟩:=qO ag;have ai:=Hi af;obtain⟨ra,rn⟩:=r;simp only[] at*;go_wp2;refine ZH (v:= .tuple #[.agg #[.bool ra,Iq rn,Iq 0],Iq 0]) (by simp[results,results18,go_sem,v0,v1,v2,vf]) rfl ?_
  exact⟨rfl,((ai.out.setCell (by simp;omega) _).setCell (by simp;omega) _).setCell (by simp;omega) _⟩
 ·have x1:((n:Int)==0)=false:=by
   have: ¬(n:Int)=0:=by omega
   simpa using this
  have x2:((n:Int) !=0)=true:=by
   have: ¬(n:Int)=0:=by omega
   simpa using this
  have ac:Hid (r=(false,0)):=by show _=_;rw[HX.out,Zt V]
  obtain⟨⟨v0,v1,v2⟩,vf⟩:=qO R;have O:=Hi J;go_wp2;refine ZH (v:= .tuple #[.agg #[.bool false,Iq 0,Iq 0],Iq n]) (by simp[results,results18,go_sem,v0,v1,v2,vf]) rfl ?_
  exact⟨by rw[ac.out];rfl,((O.out.setCell (by simp;omega) _).setCell (by simp;omega) _).setCell (by simp;omega) _⟩
theorem Cf (hl:l.length≤1000) (hx:LX l (nP pol)) (hp:∀p∈pol,iV d 6 p.2 p.1.sy∧(p.1.name≠[]→p.1.allow=false)):
 fB (du l).2.1 (du l).2.2 0∧pR d (du l).2.1 (du l).2.2 (pol.map Prod.fst) 0∧(MC d (pol.map Prod.fst)→(du l).1=(0,0)):=by
 obtain⟨ts,D,h2⟩:=MW l (l.length+1) 0 _ (hx _ (by simp))
 unfold du;rw[Zt (by omega),D]
 simp only[];obtain⟨r1,r2,r3,r4,r5⟩:=zI l (by omega) (l.length+1) 0 _ (ZL _) (by omega) D
 obtain⟨G,ad⟩:=qL l (l.length+1) 0 _ (ZL _) (by omega) D
 obtain⟨R,E⟩:=nH (F:=16*ts.length+8) (Zw _) r4 (ts.length+1) 0 [] [] (by omega)
 have e:pF ts=R:=by unfold pF;rw[E];rfl
 rw[e];obtain⟨m1,m2⟩:=MX h2;obtain⟨I,new,ae,q1,J,O⟩:=FX pol _ 0 [] [] R hp m1 m2 E;obtain⟨U,k2,k3⟩:=qM G (by omega) E I
 rw[aaF] at J;subst J;exact⟨U,O,fun h=>(zE I k2 U O).1.2 h⟩
theorem xo (V:l.length≤1000) (Y:LX l (nP pol)) (Z:∀p∈pol,iV d 6 p.2 p.1.sy∧(p.1.name≠[]→p.1.allow=false)) (ok:MC d (pol.map Prod.fst)):(du l).1=(0,0)∧Al l=kG d (pol.map Prod.fst):=by
 obtain⟨h1,h2,h3⟩:=Cf V Y Z;have D:=h3 ok;refine⟨D,?_⟩;unfold Al;rw[Zu (by rw[D]),Dl h1 h2]
theorem D7 {pol:List qZ} (h:∀s∈pol,MB d s.sy∧Dm s):∀p∈pol.map (fun s=>(s,iu d s.sy)),iV d 6 p.2 p.1.sy∧(p.1.name≠[]→p.1.allow=false):=by
 intro p I;obtain⟨s,J,rfl⟩:=aav.1 I;obtain⟨O,R⟩:=h s J;obtain⟨U,V⟩:=IZ d O;refine⟨U.out V (Zw 6),fun Y=>?_⟩
 rcases R with h|⟨_,_,_,h⟩
 ·exact absurd h Y
 ·exact h
theorem LK {pol:List qZ} (W:Sy→List (Nat×List UInt8)):(pol.map fun s=>(s,W s.sy)).map Prod.fst=pol:=by
 rw[aa4];exact List.map_id pol
def tC (ix:List UInt8→Int) (L:List Pt):Nat→Nat→List dY→List fV
 |_,_,[]=>[]
 |l,r,x::xs=>if x.name=[] then⟨if x.allow then 12 else 13,r+1,hU ix L (x.top+1) x.top⟩::tC ix L l (r+1) xs else⟨11,l,hU ix L (x.top+1) x.top⟩::tC ix L (l+1) r xs
theorem Cg (F:Nat→Nat):∀(l:List Nat) (m j:Nat),j∈l→F j≤l.foldl (fun m j=>max m (F j)) m∧m≤l.foldl (fun m j=>max m (F j)) m:=by
 intro l
 induction l with
 |nil=>intro m j h;simp at h
 |cons x r ih=>
  intro m j h;have z:∀(r:List Nat) (m:Nat),m≤r.foldl (fun m j=>max m (F j)) m:=fun r=>by
   induction r with
   |nil=>intro m;exact Zw _
   |cons y r ih=>intro m;exact Z8 (ab4 _ _) (ih _)
  have D:=z r (max m (F x));simp only[aaz];rcases ZU.1 h with rfl|h
  ·omega
  ·have:=(ih (max m (F x)) j h).1
   omega
theorem Nk (f:Nat):∀{i g:Nat},iC f (hU ix L f i)→dep f L i≤g→iC g (hU ix L f i):=by
 induction f with
 |zero=>intro i g h;exact h.elim
 |succ f ih=>
  intro i g h z;rw[dep] at z;obtain⟨g,rfl⟩:∃q,g=q+1:=⟨g - 1,by omega⟩
  refine⟨h.1,fun c D=>?_⟩
  have G:=h.2 c D;have E:=D;obtain⟨j,I,rfl⟩:=aav.1 E;refine ih G ?_;have:=(Cg (dep f L) _ 0 j I).1;unfold jc at z;omega
theorem Nl {lt:List Nat} (z:iC f t) (D:iC g t):dx lt f t=dx lt g t:=(nK z (ab4 f g)).symm.trans (nK D (acr f g))
theorem Nn {lv:List Int} (z:iC f t) (D:iC g t):fu lv fl f t=fu lv fl g t:=(qd z (ab4 f g)).symm.trans (qd D (acr f g))
theorem LL (z:iC f t) (D:iC g t):fz f t=fz g t:=(qD z (ab4 f g)).symm.trans (qD D (acr f g))
theorem xq {T:Nat→Nat→Prop} {g:Nat→Nat} (E:∀z j,T z j→z≤j∧g j=j+1 - z):∀{js:List Nat} {z D:Nat},kA T z js D→z≤D∧(js.map g).sum=D - z
 |[],z,D,h=>by
  have h:z=D:=h
  subst h;simp
 |j::js,z,D,h=>by
  obtain⟨J,G⟩:=E z j h.1;obtain⟨h3,I⟩:=xq E h.2;rw[ZS,abL,G,I];omega
theorem JU (f:Nat):∀{z i:Nat},eK f L z i→z≤i∧fz f (hU ix L f i)=i+1 - z:=by
 induction f with
 |zero=>intro z i h;exact h.elim
 |succ f ih=>
  intro z i h;obtain⟨D,E⟩:=xq (g:=fun j=>fz f (hU ix L f j)) (fun z j h=>ih h) h.2.2
  refine⟨D,?_⟩;have e:fz (f+1) (hU ix L (f+1) i)=1+(((L.getD i dh).subs.map (hU ix L f)).map (fz f)).sum:=rfl;rw[e,aa4];have G:(fz f∘hU ix L f)=fun j=>fz f (hU ix L f j):=rfl
  rw[G,E];omega
theorem xr {α:Type} {a b:List α} {z v:α} (h:∀i,a.getD i z=b.getD i z) (D:b.length<a.length):∀i,(a.set b.length v).getD i z=(b++[v]).getD i z:=fun i=>by
 by_cases e:b.length=i
 ·subst e
  rw[dD D,Zs,aaf (Zw _)];simp
 ·rw[getD_set_ne e,h i]
  by_cases g:i<b.length
  ·rw[Zs,Zs,aah g]
  ·rw[Zs,Zs,ZQ (by omega),ZQ (by simp;omega)]
theorem G5 {α:Type} {l:List α} (h:j<l.length) (d:α):l.take (j+1)=l.take j++[l.getD j d]:=by
 rw[aa6,Zs,Zv h];rfl
structure Ox (xs:List dY) (L:List Pt) (fl:List Int) (j l r fr:Nat) (lt:List Nat) (env vals:List Int) (its:List fV):Prop where
 ty:pJ 24 lt its
 seq:oj l its
 mean:fJ 24 fl env its=(jq xs fl L (xs.drop j) vals r).getD (false,0)
 cnt:gY 24 its=L.length - fr
 fr:fr≤L.length
 len:its.length+j=xs.length
 many:j<xs.length→xs.length≤30∧L.length≤200
theorem No (hL:ic L) (hP:qN L) (hF:gG fl):∀(m j l r fr:Nat) (z:List UInt8) (vals G:List Int) (lt:List Nat),xs.length - j=m→j≤xs.length→oP z vals→z.length=j→fB L (xs.drop j) fr→eM xs L (xs.drop j) fr j=none→fA xs L (xs.drop j) z=none→(∀c∈z,me c)→ir L (xs.drop j) l j=none→(fw (xs.take j) z).length=l→r+l=j→l≤10→r≤20→fr≤200→lt.length=10→G.length=10→(∀i,lt.getD i 0=(fw (xs.take j) z).getD i 0)→(∀i,G.getD i 0=(ee (xs.take j) vals).getD i 0)→
 Ox xs L fl j l r fr lt G vals (tC (dP (gA xs)) L l r (xs.drop j)):=by
 intro m
 induction m with
 |zero=>
  intro j l r fr z vals G lt hm hj hV hl D hN V hI J R au ae af ap h1 h2 h3 h4;have e:xs.drop j=[]:=aab (by omega)
  rw[e] at D⊢;have D:fr=L.length:=D;refine⟨trivial,trivial,?_,?_,by omega,?_,by omega⟩
  ·rw[e];rfl
  ·rw[D];simp[tC,gY]
  ·show 0+j=_;omega
 |succ m ih=>
  intro j l r fr z vals G lt hm hj hV hl D hN V hI J R au ae af ap h1 h2 h3 h4;have Z:j<xs.length:=by omega
  have ag:=hV.len;rw[fF Z eh] at D hN V J;have aa:∀vals r,jq xs fl L (xs.drop j) vals r=jq xs fl L (xs.getD j eh::xs.drop (j+1)) vals r:=fun vals r=>by rw[fF Z eh]
  obtain⟨av,ah⟩:=kj hL D.1 D.2.1 hN;have hg:pW xs z.length L fr ((xs.getD j eh).top+1):=by rw[hl];exact av
  have aw:=G5 Z eh;rw[fF Z eh];generalize hx:xs.getD j eh=x at*;rw[fA] at V;rw[ir] at J
  by_cases hc:(eU xs z L (x.top+1) x.top).toNat=0∨(x.name=[]∧(eU xs z L (x.top+1) x.top).toNat≠116)
  ·rw[Zu hc] at V;simp at V
  rw[Zt hc] at V;have ab:eU xs z L (x.top+1) x.top≠0:=fun e=>hc (.inl (by rw[e];rfl))
  have ax:(x.name==[])=decide (x.name=[]):=by
   by_cases e:x.name=[]
   ·rw[e];rfl
   ·rw[Z4 e];exact beq_false_of_ne e
  by_cases hb:10<l+(if x.name==[] then 0 else 1)∨20<j+1 - (l+(if x.name==[] then 0 else 1))∨200<x.parts∨20<dep (x.top+1) L x.top
  ·rw[Zu hb] at J;simp at J
  rw[Zt hb] at J;have ai:me (eU xs z L (x.top+1) x.top):=by
   rcases qy hP.tokw hI _ D.1.fit hg with h0|h0
   ·exact absurd h0 ab
   ·exact h0
  have ht:=MI (vals:=vals) (fl:=fl) hP.tokw hI (by omega) ag hP.num _ D.1.fit hg ab
  have aq:=Nk _ ht.wf (g:=20) (by omega)
  have hw:iC 24 (hU (dP (gA xs)) L (x.top+1) x.top):=aq.up (by omega)
  have ay:=JU (ix:=dP (gA xs)) _ D.1.fit;have ac:dx lt 24 (hU (dP (gA xs)) L (x.top+1) x.top)=fh (eU xs z L (x.top+1) x.top):=by
   rw[BV h3,Nl hw ht.wf];have:=ht.ty;rw[hl] at this;exact this
  have aj:fu G fl 24 (hU (dP (gA xs)) L (x.top+1) x.top)=iH xs vals fl L (x.top+1) x.top:=by
   rw[BW h4,Nn hw ht.wf];have:=ht.ev;rw[ag,hl] at this;exact this
  have ak:fz 24 (hU (dP (gA xs)) L (x.top+1) x.top)=x.parts - fr:=by
   rw[LL hw ht.wf,ay.2,←D.2.1]
  have aA:=D.2.1;have hz:fh (eU xs z L (x.top+1) x.top)≠0:=fun e=>ab ((mP (.inr ai)).1 e)
  have am:=hV.snoc (wK hV hF hP.num _ D.1.fit hg ab);have an:∀c∈z++[eU xs z L (x.top+1) x.top],me c:=fun c ad=>by
   simp only[aar,abq] at ad;rcases ad with ad|rfl
   ·exact hI c ad
   ·exact ai
  have aB:(xs.take j).length=j:=by rw[abE];omega
  have E:=pO (xs.take j) x (eU xs z L (x.top+1) x.top) z (by omega)
  have O:=tA (xs.take j) x (iH xs vals fl L (x.top+1) x.top) vals (by omega)
  have ao:(ee (xs.take j) vals).length=l:=by
   rw[qg _ _ (by omega),←oG _ z (by omega)];exact R
  rw[←aw] at E O
  by_cases U:x.name=[]
  ·rw[U] at hb J
   simp only[beq_self_eq_true,aax,abG] at hb J;rw[Zu U] at E O;have I:=ih (j+1) l (r+1) x.parts _ _ G lt (by omega) (by omega) am (by simp[hl]) D.2.2 ah V an J (by rw[E];exact R) (by omega) ae (by omega) (by omega) h1 h2 (fun i=>by rw[E];exact h3 i) (fun i=>by rw[O];exact h4 i)
   have ar:=Classical.byContradiction fun e=>hc (.inr ⟨U,e⟩)
   have ei:tC (dP (gA xs)) L l r (x::xs.drop (j+1))=⟨if x.allow then 12 else 13,r+1,hU (dP (gA xs)) L (x.top+1) x.top⟩::tC (dP (gA xs)) L l (r+1) (xs.drop (j+1)):=by rw[tC,Zu U]
   rw[ei];have hk:((if x.allow then 12 else 13:Nat)=12∨(if x.allow then 12 else 13:Nat)=13):=by cases x.allow<;>simp
   refine⟨⟨hw,by rw[ac];exact hz,.inr ⟨hk,?_,by show r+1≤255;omega,I.ty⟩⟩,.inr ⟨by show(if x.allow then 12 else 13:Nat)≠11;cases x.allow<;>simp,I.seq⟩,?_,?_,?_,?_,fun _=>?_⟩
   ·rw[ac];unfold fh;rw[ar];rfl
   ·rw[fJ,Zt (by show ¬(if x.allow then 12 else 13:Nat)=11;cases x.allow<;>simp),aa,jq,Zu U]
    simp only[aj]
    by_cases e1:iH xs vals fl L (x.top+1) x.top=1
    ·rw[Zu e1,Zu e1];cases x.allow<;>rfl
    ·rw[Zt e1,Zt e1];exact I.mean
   ·show fz 24 _+gY 24 _=_
    rw[ak,I.cnt];have:=I.fr;omega
   ·have:=I.fr;omega
   ·have:=I.len
    simp only[Z7];omega
   ·by_cases e:j+1<xs.length
    ·exact I.many e
    ·have h9:xs.drop (j+1)=[]:=aab (by omega)
     have Y:=D.2.2;rw[h9] at Y;have Y:x.parts=L.length:=Y;omega
  ·have az:(x.name==[])=false:=by rw[ax];exact Z4 U
   rw[az] at hb J;simp only[abp,abw] at hb J;rw[Zt U] at E O;have I:=ih (j+1) (l+1) r x.parts _ _ (G.set l (iH xs vals fl L (x.top+1) x.top)) (lt.set l (fh (eU xs z L (x.top+1) x.top))) (by omega) (by omega) am (by simp[hl]) D.2.2 ah V an J (by rw[E,ZC,R];rfl) (by omega) (by omega) af (by omega) (by rw[aaX];exact h1) (by rw[aaX];exact h2)
    (fun i=>by rw[E];have:=xr (v:=fh (eU xs z L (x.top+1) x.top)) h3 (by rw[h1,R];omega) i;rw[R] at this;exact this)
    (fun i=>by rw[O];have:=xr (v:=iH xs vals fl L (x.top+1) x.top) h4 (by rw[h2,ao];omega) i;rw[ao] at this;exact this)
   have ei:tC (dP (gA xs)) L l r (x::xs.drop (j+1))=⟨11,l,hU (dP (gA xs)) L (x.top+1) x.top⟩::tC (dP (gA xs)) L (l+1) r (xs.drop (j+1)):=by rw[tC,Zt U]
   rw[ei];refine⟨⟨hw,by rw[ac];exact hz,.inl ⟨rfl,by show l<lt.length;omega,?_⟩⟩,.inl ⟨rfl,rfl,I.seq⟩,?_,?_,?_,?_,fun _=>?_⟩
   ·simp only[ac];exact I.ty
   ·rw[fJ,Zu rfl,aa,jq,Zt U]
    simp only[aj];exact I.mean
   ·show fz 24 _+gY 24 _=_
    rw[ak,I.cnt];have:=I.fr;omega
   ·have:=I.fr;omega
   ·have:=I.len
    simp only[Z7];omega
   ·by_cases e:j+1<xs.length
    ·exact I.many e
    ·have h9:xs.drop (j+1)=[]:=aab (by omega)
     have Y:=D.2.2;rw[h9] at Y;have Y:x.parts=L.length:=Y;omega
def xt (L:List Pt) (xs:List dY):List fV:=tC (dP (gA xs)) L 0 0 xs
structure Oy (xs:List dY) (L:List Pt):Prop where
 ty:pJ 24 eZ (xt L xs)
 seq:oj 0 (xt L xs)
 mean:∀fl,gG fl→fJ 24 fl jR (xt L xs)=(jq xs fl L xs [] 0).getD (false,0)
 cnt:gY 24 (xt L xs)=L.length
 len:(xt L xs).length=xs.length
 few:L.length≤200∧xs.length≤30
theorem MJ (h:nq L xs) (I:ir L xs 0 0=none):Oy xs L:=by
 have J:∀i,jR.getD i 0=0:=fun i=>by
  unfold jR;rw[Zs];rcases i with _|_|_|_|_|_|_|_|_|_|i<;>simp
 have H:=fun fl (D:gG fl)=>No h.parts h.print.parts D xs.length 0 0 0 0 [] [] jR eZ (by omega) (ZL _) ⟨rfl,fun i E=>by simp at E⟩ rfl h.print.trees h.names h.types (by simp) I rfl rfl (by omega) (by omega) (by omega) rfl rfl (fun i=>by rw[iz];rfl) (fun i=>by rw[J];rfl)
 simp only[abQ] at H;have z:=H jn (by
  refine⟨rfl,fun i E=>?_⟩
  have e:jn.getD i 0=0:=by
   unfold jn;rw[Zs];rcases i with _|_|_|_|_|_|_|_|_|i<;>simp
  rw[e];exact fm _ false)
 refine⟨z.ty,z.seq,fun fl D=>(H fl D).mean,by have:=z.cnt;exact this,z.len,?_⟩
 by_cases e:0<xs.length
 ·have:=z.many e;omega
 ·have O:xs=[]:=aap (by omega)
  have G:=h.print.trees;subst O;have G:0=L.length:=G;simp;omega
theorem D8 (l:List UInt8) (z:(du l).1.1=0):ir (du l).2.1 (du l).2.2 0 0=none:=by
 unfold du at*
 by_cases D:1000<l.length
 ·rw[Zu D] at z;simp at z
 ·rw[Zt D] at z⊢
  cases E:(nx (l.length+1) l 0).2 with
  |some p=>rw[E] at z;simp at z
  |none=>
   rw[E] at z;simp only[] at z⊢;generalize pF (nx (l.length+1) l 0).1=R at*;unfold eC at z
   by_cases G:R.ok=false
   ·rw[Zu G] at z;simp at z
   ·rw[Zt G] at z
    cases e:ir R.L R.xs 0 0 with
    |none=>rfl
    |some p=>rw[e] at z;simp at z
end Go.Proofs.YtfkdailfcmnjlaaGreatDoor
