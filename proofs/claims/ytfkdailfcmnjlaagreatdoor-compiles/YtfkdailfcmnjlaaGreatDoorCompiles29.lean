/-
  A part.
-/
import Derived.Test.YtfkdailfcmnjlaaGreatDoorCompiles28
set_option linter.all false
set_option maxHeartbeats 40000000
set_option maxRecDepth 1000000
namespace Go.Proofs.YtfkdailfcmnjlaaGreatDoor
open Go Go.RowKit Tryz
variable {L t f g lv fl j xs d pol}
def qR (ix:List UInt8->Int) (L:List Pt):Nat->Nat->List dk->List fQ
 |_,_,[]=>[]
 |l,r,x::xs=>if x.name=[] then⟨if x.allow then 12 else 13,r+1,gy ix L (x.top+1) x.top⟩::qR ix L l (r+1) xs else⟨11,l,gy ix L (x.top+1) x.top⟩::qR ix L (l+1) r xs
theorem CT (F:Nat->Nat):∀(l:List Nat) m j,j∈l->F j<=l.foldl (λm j=>max m (F j)) m/\m<=l.foldl (λm j=>max m (F j)) m:=by
 intro l;induction l with
 |nil=>intro m j h;simp at h
 |cons x r ih=>
  intro m j h;have z:∀(r:List Nat) (m:Nat),m<=r.foldl (λm j=>max m (F j)) m:=λr=>by
   induction r with
   |nil=>intro m;exact RL _
   |cons y r ih=>intro m;exact SF (UM _ _) (ih _)
  have D:=z r (max m (F x));simp only[To];rcases Sm.1 h with rfl|h
  ·omega
  have:=(ih (max m (F x)) j h).1;omega
theorem PG {ix:LB->Int} (f):∀{i g},hY f (gy ix L f i)->dep f L i<=g->hY g (gy ix L f i):=by
 induction f with
 |zero=>intro i g h;exact h.elim
 |succ f ih=>
  intro i g h z;rw[dep] at z;obtain⟨g,rfl⟩:∃q,g=q+1:=⟨g - 1,by omega⟩
  refine⟨h.1,λc D=>?_⟩
  have G:=h.2 c D;have E:=D;obtain⟨j,I,rfl⟩:=Tc.1 E;refine ih G ?_;have:=(CT (dep f L) _ 0 j I).1;unfold gO at z;omega
theorem PH {lt} (z:hY f t) (D:hY g t):cP lt f t=cP lt g t:=(nu z (UM f g)).symm.trans (nu D (Va f g))
theorem PI (z:hY f t) (D:hY g t):eP lv fl f t=eP lv fl g t:=(pU z (UM f g)).symm.trans (pU D (Va f g))
theorem NY (z:hY f t) (D:hY g t):eR f t=eR g t:=(qw z (UM f g)).symm.trans (qw D (Va f g))
theorem xw {T g} (E:∀z j,T z j->z<=j/\g j=j+1 - z):∀{js z D},jS T z js D->z<=D/\(js.map g).sum=D - z
 |[],z,D,h=>by
  have h:z=D:=h;subst h;simp
 |j::js,z,D,h=>by
  obtain⟨J,G⟩:=E z j h.1;obtain⟨h3,I⟩:=xw E h.2;rw[Sa,Uk,G,I];omega
theorem Mf {ix:LB->Int} (f):∀{z i},dN f L z i->z<=i/\eR f (gy ix L f i)=i+1 - z:=by
 induction f with
 |zero=>intro z i h;exact h.elim
 |succ f ih=>
  intro z i h;obtain⟨D,E⟩:=xw (λz j h=>ih h) h.2.2
  refine⟨D,?_⟩;have e:eR (f+1) (gy ix L (f+1) i)=1+(((L.getD i cD).subs.map (gy ix L f)).map (eR f)).sum:=rfl;rw[e,TD];have G:(eR f∘gy ix L f)=λj=>eR f (gy ix L f j):=rfl
  rw[G,E];omega
theorem xx {α:Type} {a b:List α} {z v:α} (h:∀i,a.getD i z=b.getD i z) (D:b.length<a.length):∀i,(a.set b.length v).getD i z=(b++[v]).getD i z:=λi=>by
 by_cases e:b.length=i
 ·subst e;rw[cT D,RG,Sg (RL _)];simp
 rw[getD_set_ne e,h i];by_cases g:i<b.length
 ·rw[RG,RG,Si g]
 rw[RG,RG,R2 (by omega),R2 (by simp;omega)]
theorem Jh {α:Type} {l:List α} (h:j<l.length) (d:α):l.take (j+1)=l.take j++[l.getD j d]:=by
 rw[TG,RG,RI h];rfl
structure QO (xs) (L) (fl) (j l r fr) (lt) (env vals) (its):Prop where
 ty:pd 24 lt its
 seq:nX l its
 mean:eY 24 fl env its=(jO xs fl L (xs.drop j) vals r).getD (false,0)
 cnt:gH 24 its=L.length - fr
 fr:fr<=L.length
 len:its.length+j=xs.length
 many:j<xs.length->xs.length<=30/\L.length<=200
theorem PJ (hL:iq L) (hP:oQ L) (hF:gh fl):∀m j l r fr (z:LB) vals G lt,xs.length - j=m->j<=xs.length->mJ z vals->z.length=j->ek L (xs.drop j) fr->dq xs L (xs.drop j) fr j=none->dF xs L (xs.drop j) z=none->(∀c∈z,lK c)->eK L (xs.drop j) l j=none->(eM (xs.take j) z).length=l->r+l=j->l<=10->r<=20->fr<=200->lt.length=10->G.length=10->(∀i,lt.getD i 0=(eM (xs.take j) z).getD i 0)->(∀i,G.getD i 0=(eW (xs.take j) vals).getD i 0)->
 QO xs L fl j l r fr lt G vals (qR (du (fN xs)) L l r (xs.drop j)):=by
 intro m;induction m with
 |zero=>
  intro j l r fr z vals G lt hm hj hV hl D hN V hI J R au ae af ap h1 h2 h3 h4;have e:xs.drop j=[]:=R8 (by omega)
  rw[e] at D⊢;have D:fr=L.length:=D;refine⟨trivial,trivial,?_,?_,by omega,?_,by omega⟩
  ·rw[e];rfl
  ·rw[D];simp[qR,gH]
  show 0+j=_;omega
 |succ m ih=>
  intro j l r fr z vals G lt hm hj hV hl D hN V hI J R au ae af ap h1 h2 h3 h4;have Z:j<xs.length:=by omega
  have ag:=hV.len;rw[fK Z dQ] at D hN V J;have aa:∀vals r,jO xs fl L (xs.drop j) vals r=jO xs fl L (xs.getD j dQ::xs.drop (j+1)) vals r:=λvals r=>by rw[fK Z dQ]
  obtain⟨av,ah⟩:=kf hL D.1 D.2.1 hN;have hg:nS xs z.length L fr ((xs.getD j dQ).top+1):=by rw[hl];exact av
  have aw:=Jh Z dQ;rw[fK Z dQ];generalize hx:xs.getD j dQ=x at*;rw[dF] at V;rw[eK] at J;by_cases hc:(dr xs z L (x.top+1) x.top).toNat=0\/(x.name=[]/\(dr xs z L (x.top+1) x.top).toNat≠116)
  ·rw[RK hc] at V;simp at V
  rw[RH hc] at V;have ab:dr xs z L (x.top+1) x.top≠0:=λe=>hc (.inl (by rw[e];rfl))
  have ax:(x.name==[])=decide (x.name=[]):=by
   by_cases e:x.name=[]
   ·rw[e];rfl
   rw[Sc e];exact beq_false_of_ne e
  by_cases hb:10<l+(if x.name==[] then 0 else 1)\/20<j+1 - (l+(if x.name==[] then 0 else 1))\/200<x.parts\/20<dep (x.top+1) L x.top
  ·rw[RK hb] at J;simp at J
  rw[RH hb] at J;have ai:lK (dr xs z L (x.top+1) x.top):=by
   rcases qp hP.tokw hI _ D.1.fit hg with h0|h0
   ·exact absurd h0 ab
   exact h0
  have ht:=OW (vals:=vals) (fl:=fl) hP.tokw hI (by omega) ag hP.num _ D.1.fit hg ab
  have aq:=PG _ ht.wf (g:=20) (by omega)
  have hw:hY 24 (gy (du (fN xs)) L (x.top+1) x.top):=aq.up (by omega)
  have ay:=Mf (ix:=du (fN xs)) _ D.1.fit;have ac:cP lt 24 (gy (du (fN xs)) L (x.top+1) x.top)=eF (dr xs z L (x.top+1) x.top):=by
   rw[CG h3,PH hw ht.wf];have:=ht.ty;rw[hl] at this;exact this
  have aj:eP G fl 24 (gy (du (fN xs)) L (x.top+1) x.top)=gR xs vals fl L (x.top+1) x.top:=by
   rw[CH h4,PI hw ht.wf];have:=ht.ev;rw[ag,hl] at this;exact this
  have ak:eR 24 (gy (du (fN xs)) L (x.top+1) x.top)=x.parts - fr:=by
   rw[NY hw ht.wf,ay.2,<-D.2.1]
  have aA:=D.2.1;have hz:eF (dr xs z L (x.top+1) x.top)≠0:=λe=>ab ((mC (.inr ai)).1 e)
  have am:=hV.snoc (pQ hV hF hP.num _ D.1.fit hg ab);have an:∀c∈z++[dr xs z L (x.top+1) x.top],lK c:=λc ad=>by
   simp only[SV,TQ] at ad;rcases ad with ad|rfl
   ·exact hI c ad
   exact ai
  have aB:(xs.take j).length=j:=by rw[Up];omega
  have E:=py (xs.take j) x (dr xs z L (x.top+1) x.top) z (by omega)
  have O:=AL (xs.take j) x (gR xs vals fl L (x.top+1) x.top) vals (by omega)
  have ao:(eW (xs.take j) vals).length=l:=by
   rw[uQ _ _ (by omega),<-ou _ z (by omega)];exact R
  rw[<-aw] at E O;by_cases U:x.name=[]
  ·rw[U] at hb J;simp only[beq_self_eq_true,Td,Us] at hb J;rw[RK U] at E O;have I:=ih (j+1) l (r+1) x.parts _ _ G lt (by omega) (by omega) am (by simp[hl]) D.2.2 ah V an J (by rw[E];exact R) (by omega) ae (by omega) (by omega) h1 h2 (λi=>by rw[E];exact h3 i) (λi=>by rw[O];exact h4 i)
   have ar:=Classical.byContradiction λe=>hc (.inr ⟨U,e⟩)
   have ei:qR (du (fN xs)) L l r (x::xs.drop (j+1))=⟨if x.allow then 12 else 13,r+1,gy (du (fN xs)) L (x.top+1) x.top⟩::qR (du (fN xs)) L l (r+1) (xs.drop (j+1)):=by rw[qR,RK U]
   rw[ei];have hk:((if x.allow then 12 else 13:Nat)=12\/(if x.allow then 12 else 13:Nat)=13):=by cases x.allow<;>simp
   refine⟨⟨hw,by rw[ac];exact hz,.inr ⟨hk,?_,by show r+1<=255;omega,I.ty⟩⟩,.inr ⟨by show(if x.allow then 12 else 13:Nat)≠11;cases x.allow<;>simp,I.seq⟩,?_,?_,?_,?_,λ_=>?_⟩
   ·rw[ac];unfold eF;rw[ar];rfl
   ·rw[eY,RH (by show ¬(if x.allow then 12 else 13:Nat)=11;cases x.allow<;>simp),aa,jO,RK U]
    simp only[aj];by_cases e1:gR xs vals fl L (x.top+1) x.top=1
    ·rw[RK e1,RK e1];cases x.allow<;>rfl
    rw[RH e1,RH e1];exact I.mean
   ·show eR 24 _+gH 24 _=_;rw[ak,I.cnt];have:=I.fr;omega
   ·have:=I.fr;omega
   ·have:=I.len;simp only[R7];omega
   by_cases e:j+1<xs.length
   ·exact I.many e
   have h9:xs.drop (j+1)=[]:=R8 (by omega)
   have Y:=D.2.2;rw[h9] at Y;have Y:x.parts=L.length:=Y;omega
  have az:(x.name==[])=false:=by rw[ax];exact Sc U
  rw[az] at hb J;simp only[Uc,Ui] at hb J;rw[RH U] at E O;have I:=ih (j+1) (l+1) r x.parts _ _ (G.set l (gR xs vals fl L (x.top+1) x.top)) (lt.set l (eF (dr xs z L (x.top+1) x.top))) (by omega) (by omega) am (by simp[hl]) D.2.2 ah V an J (by rw[E,RT,R];rfl) (by omega) (by omega) af (by omega) (by rw[SW];exact h1) (by rw[SW];exact h2)
   (λi=>by rw[E];have:=xx (v:=eF (dr xs z L (x.top+1) x.top)) h3 (by rw[h1,R];omega) i;rw[R] at this;exact this)
   (λi=>by rw[O];have:=xx (v:=gR xs vals fl L (x.top+1) x.top) h4 (by rw[h2,ao];omega) i;rw[ao] at this;exact this)
  have ei:qR (du (fN xs)) L l r (x::xs.drop (j+1))=⟨11,l,gy (du (fN xs)) L (x.top+1) x.top⟩::qR (du (fN xs)) L (l+1) r (xs.drop (j+1)):=by rw[qR,RH U]
  rw[ei];refine⟨⟨hw,by rw[ac];exact hz,.inl ⟨rfl,by show l<lt.length;omega,?_⟩⟩,.inl ⟨rfl,rfl,I.seq⟩,?_,?_,?_,?_,λ_=>?_⟩
  ·simp only[ac];exact I.ty
  ·rw[eY,RK rfl,aa,jO,RH U];simp only[aj];exact I.mean
  ·show eR 24 _+gH 24 _=_;rw[ak,I.cnt];have:=I.fr;omega
  ·have:=I.fr;omega
  ·have:=I.len;simp only[R7];omega
  by_cases e:j+1<xs.length
  ·exact I.many e
  have h9:xs.drop (j+1)=[]:=R8 (by omega)
  have Y:=D.2.2;rw[h9] at Y;have Y:x.parts=L.length:=Y;omega
def rX (L:List Pt) (xs:List dk):List fQ:=qR (du (fN xs)) L 0 0 xs
structure QP (xs) (L):Prop where
 ty:pd 24 eB (rX L xs)
 seq:nX 0 (rX L xs)
 mean:∀fl,gh fl->eY 24 fl jM (rX L xs)=(jO xs fl L xs [] 0).getD (false,0)
 cnt:gH 24 (rX L xs)=L.length
 len:(rX L xs).length=xs.length
 few:L.length<=200/\xs.length<=30
theorem Mg (h:pX L xs) (I:eK L xs 0 0=none):QP xs L:=by
 have J:∀i,jM.getD i 0=0:=λi=>by
  unfold jM;rw[RG];rcases i with _|_|_|_|_|_|_|_|_|_|i<;>simp
 have H:=λfl (D:gh fl)=>PJ h.parts h.print.parts D xs.length 0 0 0 0 [] [] jM eB (by omega) (R0 _) ⟨rfl,λi E=>by simp at E⟩ rfl h.print.trees h.names h.types (by simp) I rfl rfl (by omega) (by omega) (by omega) rfl rfl (λi=>by rw[gX];rfl) (λi=>by rw[J];rfl)
 simp only[Un] at H;have z:=H jF (by
  refine⟨rfl,λi E=>?_⟩
  have e:jF.getD i 0=0:=by
   unfold jF;rw[RG];rcases i with _|_|_|_|_|_|_|_|_|i<;>simp
  rw[e];exact ju _ false)
 refine⟨z.ty,z.seq,λfl D=>(H fl D).mean,by have:=z.cnt;exact this,z.len,?_⟩
 by_cases e:0<xs.length
 ·have:=z.many e;omega
 have O:xs=[]:=SI (by omega)
 have G:=h.print.trees;subst O;have G:0=L.length:=G;simp;omega
theorem xy (l:LB) (z:(cF l).1.1=0):eK (cF l).2.1 (cF l).2.2 0 0=none:=by
 unfold cF at*;by_cases D:1000<l.length
 ·rw[RK D] at z;simp at z
 rw[RH D] at z⊢;cases E:(jQ (l.length+1) l 0).2 with
 |some p=>rw[E] at z;simp at z
 |none=>
  rw[E] at z;simp only[] at z⊢;generalize lQ (jQ (l.length+1) l 0).1=R at*;unfold da at z;by_cases G:R.ok=false
  ·rw[RK G] at z;simp at z
  rw[RH G] at z;cases e:eK R.L R.xs 0 0 with
  |none=>rfl
  |some p=>rw[e] at z;simp at z
def OX (ix:List UInt8->Int) (t:Tok) (l:List Tr):Tr:=⟨cz t,cY t,if cz t=2 then ix (cG t) else 0,l⟩
theorem NZ (ix:LB->Int):Fair (OX ix):=λt s l h _=>by
 obtain⟨D,z⟩:=h;unfold OX cz cY cG G7;by_cases e:s.k=110
 ·rw[RK e] at z;simp[D,e,z]
 rw[RH e] at z;simp[D,z]
theorem QQ (ix:LB->Int) (f) (L):∀i,gy ix L f i=Bz (OX ix) fL f L i:=by
 induction f with
 |zero=>intro i;rfl
 |succ f ih=>
  intro i;rw[gy,Bz];unfold OX;rw[show gy ix L f=Bz (OX ix) fL f L from funext ih];rfl
def Mh (ix:List UInt8->Int) (d:Nat):Nat->Nat->List qY->List fQ
 |_,_,[]=>[]
 |l,r,s::q=>if s.name=[] then⟨if s.allow then 12 else 13,r+1,Kq (OX ix) fL d s.sy⟩::Mh ix d l (r+1) q else⟨11,l,Kq (OX ix) fL d s.sy⟩::Mh ix d (l+1) r q
theorem xz {ix:LB->Int} {d L}:∀{xs pol fr z l r},ek L xs z->nh d L xs pol fr->qR ix L l r xs=Mh ix d l r pol
 |[],[],_,_,_,_,_,_=>rfl
 |[],_::_,_,_,_,_,_,h=>h.elim
 |_::_,[],_,_,_,_,_,h=>h.elim
 |x::xs,s::q,fr,z,l,r,D,h=>by
  have e:gy ix L (x.top+1) x.top=Kq (OX ix) fL d s.sy:=by rw[QQ];exact su (NZ ix) _ D.1.fit h.2.2.1
  rw[qR,Mh,e,h.1,h.2.1,xz D.2.2 h.2.2.2.2.2,xz D.2.2 h.2.2.2.2.2]
theorem zE:∀{xs ys},xs.map dk.name=ys.map dk.name->fN xs=fN ys
 |[],[],_=>rfl
 |[],_::_,h=>by simp at h
 |_::_,[],h=>by simp at h
 |x::xs,y::ys,h=>by
  simp only[Sa,TX] at h;rw[fN,fN,h.1,zE h.2]
theorem CU (z:ek L xs 0) (h:nh d L xs pol 0):rX L xs=Mh (du (fN (pol.map yL))) d 0 0 pol:=by
 unfold rX;rw[zE h.names];exact xz z h
theorem Ji (l:LB) (D:(cF l).1.1=0) (E:(fU l).length<=1000):rX (cF (fU l)).2.1 (cF (fU l)).2.2=rX (cF l).2.1 (cF l).2.2:=by
 obtain⟨d,pol,G,I,h3,J⟩:=zD l D;have e:fU l=lG d pol:=by unfold fU;rw[RK D,rK G I]
 rw[e] at E⊢;obtain⟨V,O,_⟩:=CQ E (yN pol J) (xt J);rw[AO] at O;rw[CU V O,CU G I]
section
attribute [local go_sem ↓] Go.wp_at_zero Go.wp_at_succ
variable {bs : Nat}
def Qn (fl:List Int):Value:= .agg #[Iq (fl.getD 0 0),Iq (fl.getD 1 0),Iq (fl.getD 2 0),Iq (fl.getD 3 0),Iq (fl.getD 4 0),Iq (fl.getD 5 0),Iq (fl.getD 6 0),Iq (fl.getD 7 0),Iq (fl.getD 8 0)]
end
section
attribute [local go_sem ↓] Go.wp_at_zero Go.wp_at_succ
variable {w w' b o n cs z base v ys}
theorem jn {B b a} (z:B<=b):∀vs o {w},Below B a w->Below B a (w.setCells b o vs)
 |[],_,_,h=>h
 |v::r,o,w,h=>jn z r (o+1) (h.setCell (by simpa using z) v)
theorem lD (h:w.there b o n) (D:Bl w w'):w'.there b o n:=λj E=>by
 have z:=h j E;have G:b<w.heap.size:=by
  obtain⟨v,I⟩:=Option.isSome_iff_exists.1 z.1;exact RN w _ I
 have e:=D.block b G;exact⟨by rw[R1 e];exact z.1,by rw[SO e];exact z.2⟩
theorem CV {w:World} (h:w.heap[b]?=some (.cells cs t (0,0))):w.there b 0 cs.size:=λj z=>by
 rw[Sw];exact⟨by rw[RM w b j _ _ _ h];simp[z],by simp[World.frozen?,h]⟩
theorem CW {mv} (e) (s) (w) (h1:dD lv s.levels w) (h2:dD mv s.members w):
 Calls prog 40 #[zx e,lW lv mv s] w λen w'=>en= .returned (Qn (dM e s))/\Bl w w':=by
 unfold zx lW;obtain⟨z,D,O,R,wh⟩:=e;obtain⟨G,E,I,J⟩:=s;simp only[] at*;have ab:Bl w (((w.alloc (.cells #[S z,S D,Iq O,Iq R,Iq wh] 46)).alloc (.cells #[lv,Iq E,mv,.bool J] 50)).alloc (.cells #[Iq 0,Iq 0,Iq 0,Iq 0,Iq 0,Iq 0,Iq 0,Iq 0,Iq 0] 114)):=(((RP _ _).alloc (RL _) _).alloc (by simp) _).alloc (by simp;omega) _
 have ac:(((w.alloc (.cells #[S z,S D,Iq O,Iq R,Iq wh] 46)).alloc (.cells #[lv,Iq E,mv,.bool J] 50)).alloc (.cells #[Iq 0,Iq 0,Iq 0,Iq 0,Iq 0,Iq 0,Iq 0,Iq 0,Iq 0] 114)).heap[w.heap.size]?=some (.cells #[S z,S D,Iq O,Iq R,Iq wh] 46 (0,0)):=by rw[RV _ _ _ (by simp;omega),RV _ _ _ (by simp)];exact RO w _
 have ad:(((w.alloc (.cells #[S z,S D,Iq O,Iq R,Iq wh] 46)).alloc (.cells #[lv,Iq E,mv,.bool J] 50)).alloc (.cells #[Iq 0,Iq 0,Iq 0,Iq 0,Iq 0,Iq 0,Iq 0,Iq 0,Iq 0] 114)).heap[w.heap.size+1]?=some (.cells #[lv,Iq E,mv,.bool J] 50 (0,0)):=by
  rw[RV _ _ _ (by simp)]
  have e:=RO (w.alloc (.cells #[S z,S D,Iq O,Iq R,Iq wh] 46)) (.cells #[lv,Iq E,mv,.bool J] 50);rw[RW] at e;exact e
 have ae:(((w.alloc (.cells #[S z,S D,Iq O,Iq R,Iq wh] 46)).alloc (.cells #[lv,Iq E,mv,.bool J] 50)).alloc (.cells #[Iq 0,Iq 0,Iq 0,Iq 0,Iq 0,Iq 0,Iq 0,Iq 0,Iq 0] 114)).heap[w.heap.size+1+1]?=some (.cells #[Iq 0,Iq 0,Iq 0,Iq 0,Iq 0,Iq 0,Iq 0,Iq 0,Iq 0] 114 (0,0)):=by
  have e:=RO ((w.alloc (.cells #[S z,S D,Iq O,Iq R,Iq wh] 46)).alloc (.cells #[lv,Iq E,mv,.bool J] 50)) (.cells #[Iq 0,Iq 0,Iq 0,Iq 0,Iq 0,Iq 0,Iq 0,Iq 0,Iq 0] 114);rw[RW,RW] at e;exact e
 have H0:=Hi (And.intro ab (And.intro ac (And.intro ad ae)));have WL:∀(u:LB) (W:World),Bl w W->Calls prog 79 #[.agg #[lv,Iq E,mv,.bool J],S u] W λe w'=>e= .returned (Iq (dX E G u))/\Bl W w':=λu W hb=>E9 u W (h1.below hb)
 have WI:∀(u:LB) (W:World),Bl w W->Calls prog 80 #[.agg #[lv,Iq E,mv,.bool J],S u] W λe w'=>e= .returned (Iq (dW I u))/\Bl W w':=λu W hb=>yt u W (h2.below hb)
 have WK:=λW=>uJ O W
 have WT:=λb W=>gV b W
 have KP:Hid (∀W Z,(Bl w W/\W.cell? ⟨w.heap.size,0,none⟩=some (S z)/\W.cell? ⟨w.heap.size,1,none⟩=some (S D)/\W.cell? ⟨w.heap.size,2,none⟩=some (Iq O)/\W.cell? ⟨w.heap.size,3,none⟩=some (Iq R)/\W.cell? ⟨w.heap.size,4,none⟩=some (Iq wh)/\W.cell? ⟨w.heap.size+1,0,none⟩=some (lv)/\W.cell? ⟨w.heap.size+1,1,none⟩=some (Iq E)/\W.cell? ⟨w.heap.size+1,2,none⟩=some (mv)/\W.cell? ⟨w.heap.size+1,3,none⟩=some (.bool J)/\W.there (w.heap.size+1+1) 0 9)->Bl W Z->(Bl w Z/\Z.cell? ⟨w.heap.size,0,none⟩=some (S z)/\Z.cell? ⟨w.heap.size,1,none⟩=some (S D)/\Z.cell? ⟨w.heap.size,2,none⟩=some (Iq O)/\Z.cell? ⟨w.heap.size,3,none⟩=some (Iq R)/\Z.cell? ⟨w.heap.size,4,none⟩=some (Iq wh)/\Z.cell? ⟨w.heap.size+1,0,none⟩=some (lv)/\Z.cell? ⟨w.heap.size+1,1,none⟩=some (Iq E)/\Z.cell? ⟨w.heap.size+1,2,none⟩=some (mv)/\Z.cell? ⟨w.heap.size+1,3,none⟩=some (.bool J)/\Z.there (w.heap.size+1+1) 0 9)):=λW Z hS hb=>by
  obtain⟨aa,a0,a1,a2,a3,a4,a5,a6,a7,a8,tt⟩:=hS;refine⟨aa.trans (hb.mono aa.size),?_,?_,?_,?_,?_,?_,?_,?_,?_,?_⟩
  all_goals first
   |(rw[hb.cell (RN W _ (by assumption))];assumption)
   |exact lD tt hb
 have KD:Hid (∀W:World,(Bl w W/\Cq W w.heap.size 0 (S z)/\Cq W w.heap.size 1 (S D)/\Cq W w.heap.size 2 (Iq O)/\Cq W w.heap.size 3 (Iq R)/\Cq W w.heap.size 4 (Iq wh)/\Cq W (w.heap.size+1) 0 (lv)/\Cq W (w.heap.size+1) 1 (Iq E)/\Cq W (w.heap.size+1) 2 (mv)/\Cq W (w.heap.size+1) 3 (.bool J)/\W.there (w.heap.size+1+1) 0 9)->(Bl w W.drew/\Cq W.drew w.heap.size 0 (S z)/\Cq W.drew w.heap.size 1 (S D)/\Cq W.drew w.heap.size 2 (Iq O)/\Cq W.drew w.heap.size 3 (Iq R)/\Cq W.drew w.heap.size 4 (Iq wh)/\Cq W.drew (w.heap.size+1) 0 (lv)/\Cq W.drew (w.heap.size+1) 1 (Iq E)/\Cq W.drew (w.heap.size+1) 2 (mv)/\Cq W.drew (w.heap.size+1) 3 (.bool J)/\W.drew.there (w.heap.size+1+1) 0 9)):=λW hS=>by
  obtain⟨aa,a0,a1,a2,a3,a4,a5,a6,a7,a8,tt⟩:=hS;exact⟨aa.drew,a0,a1,a2,a3,a4,a5,a6,a7,a8,tt⟩
 have KS:Hid (∀W vs,(Bl w W/\Cq W w.heap.size 0 (S z)/\Cq W w.heap.size 1 (S D)/\Cq W w.heap.size 2 (Iq O)/\Cq W w.heap.size 3 (Iq R)/\Cq W w.heap.size 4 (Iq wh)/\Cq W (w.heap.size+1) 0 (lv)/\Cq W (w.heap.size+1) 1 (Iq E)/\Cq W (w.heap.size+1) 2 (mv)/\Cq W (w.heap.size+1) 3 (.bool J)/\W.there (w.heap.size+1+1) 0 9)->(Bl w (W.setCells (w.heap.size+1+1) 0 vs)/\(W.setCells (w.heap.size+1+1) 0 vs).cell? ⟨w.heap.size,0,none⟩=some (S z)/\(W.setCells (w.heap.size+1+1) 0 vs).cell? ⟨w.heap.size,1,none⟩=some (S D)/\(W.setCells (w.heap.size+1+1) 0 vs).cell? ⟨w.heap.size,2,none⟩=some (Iq O)/\(W.setCells (w.heap.size+1+1) 0 vs).cell? ⟨w.heap.size,3,none⟩=some (Iq R)/\(W.setCells (w.heap.size+1+1) 0 vs).cell? ⟨w.heap.size,4,none⟩=some (Iq wh)/\(W.setCells (w.heap.size+1+1) 0 vs).cell? ⟨w.heap.size+1,0,none⟩=some (lv)/\(W.setCells (w.heap.size+1+1) 0 vs).cell? ⟨w.heap.size+1,1,none⟩=some (Iq E)/\(W.setCells (w.heap.size+1+1) 0 vs).cell? ⟨w.heap.size+1,2,none⟩=some (mv)/\(W.setCells (w.heap.size+1+1) 0 vs).cell? ⟨w.heap.size+1,3,none⟩=some (.bool J)/\(W.setCells (w.heap.size+1+1) 0 vs).there (w.heap.size+1+1) 0 9)):=λW vs hS=>by
  obtain⟨aa,a0,a1,a2,a3,a4,a5,a6,a7,a8,tt⟩:=hS;refine⟨jn (by omega) _ _ aa,?_,?_,?_,?_,?_,?_,?_,?_,?_,?_⟩
  all_goals first
   |(rw[Ut _ _ _ _ _ (λh=>by exfalso;dsimp only at h;omega)];assumption)
   |exact World.there_setCells tt _ _ _
 have HF:Hid (dM ⟨z,D,O,R,wh⟩ ⟨G,E,I,J⟩=[dX E G z,dX E G D,R,wh,dW I z,dW I D,fJ O,cR (z==D),cR J]):=rfl;go_enter func40,ntmps40;go_wp2_with fail;obtain⟨ab,ac,ad,ae⟩:=H0.out;generalize (((w.alloc (.cells #[S z,S D,Iq O,Iq R,Iq wh] 46)).alloc (.cells #[lv,Iq E,mv,.bool J] 50)).alloc (.cells #[Iq 0,Iq 0,Iq 0,Iq 0,Iq 0,Iq 0,Iq 0,Iq 0,Iq 0] 114))=Y at*;have ai:(Bl w Y/\Y.cell? ⟨w.heap.size,0,none⟩=some (S z)/\Y.cell? ⟨w.heap.size,1,none⟩=some (S D)/\Y.cell? ⟨w.heap.size,2,none⟩=some (Iq O)/\Y.cell? ⟨w.heap.size,3,none⟩=some (Iq R)/\Y.cell? ⟨w.heap.size,4,none⟩=some (Iq wh)/\Y.cell? ⟨w.heap.size+1,0,none⟩=some (lv)/\Y.cell? ⟨w.heap.size+1,1,none⟩=some (Iq E)/\Y.cell? ⟨w.heap.size+1,2,none⟩=some (mv)/\Y.cell? ⟨w.heap.size+1,3,none⟩=some (.bool J)/\Y.there (w.heap.size+1+1) 0 9):=by
  refine⟨ab,?_,?_,?_,?_,?_,?_,?_,?_,?_,?_⟩
  all_goals first|(rw[RM Y w.heap.size _ _ _ _ ac];rfl)|(rw[RM Y (w.heap.size+1) _ _ _ _ ad];rfl)|exact CV ae
 have af:[Value.int .i64 (dX E G z),Value.int .i64 (dX E G D),Value.int .i64 R,Value.int .i64 wh,Value.int .i64 (dW I z),Value.int .i64 (dW I D),Value.int .i64 (fJ O),Value.int .i64 (cR (z==D)),Value.int .i64 (cR J)].length=9:=rfl;have ah:∀v∈[Value.int .i64 (dX E G z),Value.int .i64 (dX E G D),Value.int .i64 R,Value.int .i64 wh,Value.int .i64 (dW I z),Value.int .i64 (dW I D),Value.int .i64 (fJ O),Value.int .i64 (cR (z==D)),Value.int .i64 (cR J)],v.oneCell'=true:=by
  intro v hv;simp only[Sm,SJ,T2] at hv;rcases hv with rfl|rfl|rfl|rfl|rfl|rfl|rfl|rfl|rfl<;>rfl
 have an:Option.map (λx=>x.size) (prog.info? 114)=some 9:=by kernel_rfl
 go_region_held3 (λw'=>(Bl w w'/\Cq w' w.heap.size 0 (S z)/\Cq w' w.heap.size 1 (S D)/\Cq w' w.heap.size 2 (Iq O)/\Cq w' w.heap.size 3 (Iq R)/\Cq w' w.heap.size 4 (Iq wh)/\Cq w' (w.heap.size+1) 0 (lv)/\Cq w' (w.heap.size+1) 1 (Iq E)/\Cq w' (w.heap.size+1) 2 (mv)/\Cq w' (w.heap.size+1) 3 (.bool J)/\w'.there (w.heap.size+1+1) 0 9)) (first|with_reducible exact KD.out _ (by assumption)|with_reducible exact KP.out _ _ (by assumption) (by assumption)|with_reducible exact KS.out _ _ (by assumption)|with_reducible assumption|go_keep)
  (first
   |(go_at_call 79;refine(WL _ _ (by exact UB (by assumption))).mono ?_;rintro e U ⟨rfl,ag⟩)
   |(go_at_call 80;refine(WI _ _ (by exact UB (by assumption))).mono ?_;rintro e U ⟨rfl,ag⟩)
   |(go_at_call 81;refine(WK _).mono ?_;rintro e U ⟨rfl,rfl⟩)
   |(go_at_call 82;refine(WT _ _).mono ?_;rintro e U ⟨rfl,rfl⟩))
 rename_i W1 B1 W2 B2 W3 B3 hHeld;have aj:Y.drew.there (w.heap.size+1+1) 0 9:=λj hj=>ai.2.2.2.2.2.2.2.2.2.2 j hj
 have ht:=lD (lD (lD (lD aj B1) B2) B3) ag;have V:=T5 (w.heap.size+1+1) [Value.int .i64 (dX E G z),Value.int .i64 (dX E G D),Value.int .i64 R,Value.int .i64 wh,Value.int .i64 (dW I z),Value.int .i64 (dW I D),Value.int .i64 (fJ O),Value.int .i64 (cR (z==D)),Value.int .i64 (cR J)] 0 U (λj hj=>by
  exact(ht j (by rw[af] at hj;exact hj)).1)
 have ak:∀j,j<9->(U.setCells (w.heap.size+1+1) 0 [Value.int .i64 (dX E G z),Value.int .i64 (dX E G D),Value.int .i64 R,Value.int .i64 wh,Value.int .i64 (dW I z),Value.int .i64 (dW I D),Value.int .i64 (fJ O),Value.int .i64 (cR (z==D)),Value.int .i64 (cR J)]).frozen? ⟨w.heap.size+1+1,j,none⟩=false:=λj hj=>by
  have:=hHeld.2.2.2.2.2.2.2.2.2.2 j hj;rw[Sw] at this;exact this.2
 have am:=hHeld.1;have r0:=V 0 (by simp)
 have r1:=V 1 (by simp)
 have r2:=V 2 (by simp)
 have r3:=V 3 (by simp)
 have r4:=V 4 (by simp)
 have r5:=V 5 (by simp)
 have r6:=V 6 (by simp)
 have r7:=V 7 (by simp)
 have r8:=V 8 (by simp)
 have HN:=Hi (And.intro am ak);generalize (U.setCells (w.heap.size+1+1) 0 [Value.int .i64 (dX E G z),Value.int .i64 (dX E G D),Value.int .i64 R,Value.int .i64 wh,Value.int .i64 (dW I z),Value.int .i64 (dW I D),Value.int .i64 (fJ O),Value.int .i64 (cR (z==D)),Value.int .i64 (cR J)])=wf at r0 r1 r2 r3 r4 r5 r6 r7 r8 HN⊢;generalize dX E G z=y0 at r0 HF⊢;generalize dX E G D=y1 at r1 HF⊢;generalize dW I z=y4 at r4 HF⊢;generalize dW I D=y5 at r5 HF⊢;generalize fJ O=y6 at r6 HF⊢;generalize cR (z==D)=y7 at r7 HF⊢;generalize cR J=y8 at r8 HF⊢;go_wp2;refine RU (v:= .agg #[Iq y0,Iq y1,Iq R,Iq wh,Iq y4,Iq y5,Iq y6,Iq y7,Iq y8]) (by simp[results,results40,go_sem,r0,r1,r2,r3,r4,r5,r6,r7,r8]) rfl ?_
 exact⟨by rw[HF.out];rfl,HN.out.1⟩
theorem zz.below (h:zz z L xs base v ys w) (D:Bl w w'):zz z L xs base v ys w':=
 ⟨cH h.row D,h.few,h.items.grow D,h.trees,h.parts,h.tokw,h.names,h.types,h.numb,h.many⟩
end
end Go.Proofs.YtfkdailfcmnjlaaGreatDoor
