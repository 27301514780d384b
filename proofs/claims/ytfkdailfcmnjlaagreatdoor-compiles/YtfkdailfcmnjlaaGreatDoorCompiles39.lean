/-
  A part.
-/
import Derived.Test.YtfkdailfcmnjlaaGreatDoorCompiles38
set_option linter.all false
set_option maxHeartbeats 40000000
set_option maxRecDepth 1000000
namespace Go.Proofs.YtfkdailfcmnjlaaGreatDoor
open Go Go.RowKit Tryz
section
attribute [local go_sem ↓] Go.wp_at_zero Go.wp_at_succ
variable {F d w k pl n l u E q lets lt' aQ aM fl D z t b Z lv bl a1 a2 a3 a4 a5 a6 a7 nm i ks wr xs ys x y G w' v gg o j}
structure P8 (n) (lets) (lt lt') (lv lv' fl):Prop where
 ok:wW (cQ n) lets lt lt' lv lv' fl
 hV:kG lt' lv'
 hF:dI fl
 own:∀i,lt.getD i 0≠0->i<lets.length
 few:lets.length<=1000
theorem MV {nm:LB} (O: ¬F w.heap.size) (R:AZ F w u q.length E) (U:∀j,j<q.length->gG F d w (E j) (q.getD j fL)):
 gG F (d+1) (w.alloc (.cells #[Iq (k:Nat),Iq pl,Iq n,S nm,u,Iq l] 229)) w.heap.size ⟨k,n,l,q⟩:=by
 have V:=RO w (.cells #[Iq k,Iq pl,Iq n,S nm,u,Iq l] 229);have D:Bl w (w.alloc (.cells #[Iq k,Iq pl,Iq n,S nm,u,Iq l] 229)):=(RP _ _).alloc (RL _) _;have z:=λj=>RM _ _ j _ _ _ V
 exact⟨pl,nm,u,E,O,⟨z 0,z 1,z 2,z 3,z 4,z 5⟩,R.below D,λj Y=>(U j Y).below D⟩
theorem A5 {lt} (O:P8 n lets lt lt' aQ aM fl) (H:OA n lets lt D d):OA n lets lt D (d+1):=by
 intro F t w rp b lv bl hF hR U q hT;have aR:Hid (gG F (d+1) w b t):=hT;obtain⟨pl,nm,u,kb,aS,au,av,HK⟩:=hT;have aw:t.kids.length<=3:=by
  rcases U.1 with⟨_,A,_⟩|⟨_,_,A⟩|⟨_,_,_,_,A⟩|⟨_,_,_,A⟩<;>rw[A]<;>simp
 have ax:=nw U q;have Y:∀j,j<t.kids.length->t.kids.getD j fL∈t.kids:=λj R=>by rw[RG,RI R];exact R4 _
 have W1:=λ(W:World) (hb:Bl w W)=>yB H (ks:=t.kids) (u:=u) (kb:=kb) (λg hg=>by have:=hF g hg;have:=hb.size;omega) (hR.below hb) (av.below hb) (λj R=>⟨U.2 _ (Y j R),ax _ (Y j R),(HK j R).below hb⟩) aw
 have af:=zv O.ok O.hV O.hF U q;have ay:=IV O.ok O.hV O.hF U q;have aa:(L0 (cQ n) lets d t).k=2->0<=(L0 (cQ n) lets d t).l/\(L0 (cQ n) lets d t).l.toNat<lets.length:=λhk=>by
  have az:t.k=2:=hk;have hs:=oL U (by unfold dy;omega)
  have aT:0<=t.l:=by
   rcases U.1 with⟨_,_,_,h4⟩|⟨G,_⟩|⟨G,_⟩|⟨G,_⟩
   ·exact h4 az
   ·omega
   ·omega
   unfold fh at G;omega
  refine⟨aT,O.own _ ?_⟩;rw[cP,RK hs] at q;unfold ee at q;rwa [RH (by omega),RK az] at q
 have HP:Hid (∀W u' I,Bl w W->AZ F W u' t.kids.length I->(∀j,j<t.kids.length->gG F d W (I j) (kW (cQ n) lets d (t.kids.getD j fL)))->gG F (d+1) (W.alloc (.cells #[Iq t.k,Iq pl,Iq t.n,S nm,u',Iq t.l] 229)) W.heap.size (L0 (cQ n) lets d t)):=λW u' I hb G A=>by
  refine MV (λhx=>by have:=hF _ hx;have:=hb.size;omega) (by rw[SR];exact G) (λj R=>?_)
  rw[SR] at R;have e:(t.kids.map (kW (cQ n) lets d)).getD j fL=kW (cQ n) lets d (t.kids.getD j fL):=by
   simp[RG,Se,RI R]
  rw[e];exact A j R
 have aA:Hid ((iV n 4=false->kW (cQ n) lets (d+1) t=OU (cQ n) lets d t)/\(iV n 4=true->kW (cQ n) lets (d+1) t=iU (OU (cQ n) lets d t))):=⟨λh=>RH (by simp[h,cQ]),λh=>RK h⟩
 have ag:Hid ((iV n 2=false->OU (cQ n) lets d t=L4 (cQ n) lets d t)/\(iV n 2=true->OU (cQ n) lets d t=mN (d+1) (L4 (cQ n) lets d t))):=⟨λh=>RH (by simp[h,cQ]),λh=>RK h⟩
 have ah:Hid ((iV n 1=false->L4 (cQ n) lets d t=L0 (cQ n) lets d t)/\(iV n 1=true->L4 (cQ n) lets d t=oJ lets (L0 (cQ n) lets d t))):=⟨λh=>RH (by simp[h,cQ]),λh=>RK h⟩
 have ai:Hid (hY (d+1) (L4 (cQ n) lets d t)/\cP lt' (d+1) (L4 (cQ n) lets d t)≠0):=⟨af.wf,by rw[af.ty];exact q⟩
 have aN:Hid (hY (d+1) (OU (cQ n) lets d t)):=ay.wf;have aO:=Hi aa;have HR:=Hi hR;have aU:=Hi hF;have aP:=Hi O.few;have E:b<w.heap.size:=RN w _ au.c0;obtain⟨c0,c1,c2,c3,c4,c5⟩:=au;have E0:∀W,Below w.heap.size w W->W.cell? ⟨b,0,none⟩=some (Iq t.k):=λW h=>by rw[h.cell (p:=⟨b,0,none⟩) E];exact c0
 have E1:∀W,Bl w W->W.cell? ⟨b,1,none⟩=some (Iq pl):=λW h=>by rw[h.cell E];exact c1
 have E2:∀W,Bl w W->W.cell? ⟨b,2,none⟩=some (Iq t.n):=λW h=>by rw[h.cell E];exact c2
 have E3:∀W,Bl w W->W.cell? ⟨b,3,none⟩=some (S nm):=λW h=>by rw[h.cell E];exact c3
 have E4:∀W,Bl w W->W.cell? ⟨b,4,none⟩=some u:=λW h=>by rw[h.cell E];exact c4
 have E5:∀W,Bl w W->W.cell? ⟨b,5,none⟩=some (Iq t.l):=λW h=>by rw[h.cell E];exact c5
 have aj:Bl w w:=RP _ _;have KD:Hid (∀W,Bl w W->Bl w W.drew):=λW h=>h.drew
 have KA:Hid (∀W o,Bl w W->Bl w (W.alloc o)):=λW o h=>h.alloc h.size _
 have KB:Hid (∀W W',Bl w W->Bl W W'->Bl w W'):=λW W' h h'=>h.trans (h'.mono h.size)
 generalize t.kids=ks at*;go_enter func128,ntmps128;go_wp2_with fail;go_region_held3 (λW=>Bl w W) (first|assumption|exact KB.out _ _ (by assumption) ak|exact KD.out _ aj|exact KD.out _ (by assumption)|exact KA.out _ _ (by assumption)|exact KD.out _ (KA.out _ _ (by assumption))|go_keep)
  (first
   |(go_at_call 173;refine(W1 _ (by assumption)).mono ?_;rintro e w1 ⟨⟨u',I,rfl,aV,aB⟩,ak⟩;obtain⟨ua,Z,rfl,aC⟩:=aV;have aD:Hid (AZ F w1 (.slice ua ks.length Z) ks.length I):=⟨ua,Z,rfl,aC⟩;have aE:Hid _:=aB;clear aC aB))
 all_goals
  rename_i hHeld;have T0:=HP.out w1 _ I (KB.out _ _ (KD.out _ aj) ak) aD.out aE.out;have am:=HR.out.below hHeld;have aF:Bl w _:=hHeld;generalize w1.alloc (.cells #[Iq t.k,Iq pl,Iq t.n,S nm,.slice ua ks.length Z,Iq t.l] 229)=w2 at*;generalize w1.heap.size=b2 at*;have an:Hid (gG F (d+1) w2 b2 (L0 (cQ n) lets d t)):=T0;have ab:Hid (tF F w2 rp n lv bl D lets):=am;have ac:Hid (Bl w w2):=aF;have D1:=qe 1 am.c0;generalize L0 (cQ n) lets d t=t0 at*;generalize aW:L4 (cQ n) lets d t=t1 at*;generalize aX:OU (cQ n) lets d t=t2 at*;cases G:iV n 1
  all_goals
   rw[G] at D1;go_wp2_with fail;apply D1.mono;rintro e w' ⟨rfl,z⟩;obtain rfl:=z.symm
   first
   |have ad:Hid _:=ah.out.1 G▸an.out
    have J:=Hi ac.out;have V:=Hi ab.out
   |have V1:=FO ab.out an.out aO.out aP.out
    go_wp2_with fail;apply V1.mono;rintro e w3 ⟨⟨b3,rfl,aG⟩,ao⟩;have ad:=Hi (ah.out.2 G▸aG);have J:=Hi (ac.out.trans (ao.mono ac.out.size));have V:=Hi (ab.out.below ao)
   have D2:=qe 2 V.out.c0;cases A:iV n 2
  all_goals
   rw[A] at D2;go_wp2_with fail;apply D2.mono;rintro e w' ⟨rfl,z⟩;obtain rfl:=z.symm
   first
   |have ap:Hid _:=ag.out.1 A▸ad.out
    have ae:=Hi J.out;have aq:=Hi V.out
   |have V2:=MU (λg hg=>by have:=aU.out g hg;have:=J.out.size;omega) ai.out.1 ad.out ai.out.2
    go_wp2_with fail;apply V2.mono;rintro e w4 ⟨⟨b4,rfl,aH⟩,ar⟩;have ap:=Hi (ag.out.2 A▸aH);have ae:=Hi (J.out.trans (ar.mono J.out.size));have aq:=Hi (V.out.below ar)
   have D3:=qe 4 aq.out.c0;cases h4:iV n 4
  all_goals
   rw[h4] at D3;go_wp2_with fail;apply D3.mono;rintro e w' ⟨rfl,z⟩;obtain rfl:=z.symm
   first
   |have aI:Hid _:=aA.out.1 h4▸ap.out
    have aJ:=Hi ae.out
   |have V3:=J4 aN.out ap.out
    go_wp2_with fail;apply V3.mono;rintro e w5 ⟨⟨b5,rfl,aK⟩,aL⟩;have aI:=Hi (aA.out.2 h4▸aK);have aJ:=Hi (ae.out.trans (aL.mono ae.out.size))
   go_wp2_with fail;go_ret;exact⟨⟨_,rfl,aI.out⟩,aJ.out⟩
theorem MW {lt} (A:P8 n lets lt lt' z q fl) (D d):OA n lets lt D d:=by
 induction d with
 |zero=>intro F t w E b lv G _ _ h;exact h.elim
 |succ d ih=>exact A5 A ih
theorem uZ {d D kd wh:Nat} (o1:a1.oneCell'=true) (o2:a2.oneCell'=true) (o3:a3.oneCell'=true) (o4:a4.oneCell'=true) (o5:a5.oneCell'=true) (o6:a6.oneCell'=true) (o7:a7.oneCell'=true)
 (hR:tF F w Z n lv bl D lets) (hT:gG F d w b t):
 Calls prog 129 #[Pq Z,.agg #[Iq kd,a1,a2,a3,a4,a5,a6,a7,Iq wh,Pq b]] w λe w'=>e= .returned (.bool (iV n 1&&(decide (kd=11)&&decide (t.kids=[]))))/\Below w.heap.size w w':=by
 have z:Below w.heap.size w (w.alloc (.cells #[Iq kd,a1,a2,a3,a4,a5,a6,a7,Iq wh,Pq b] 163)):=(RP _ _).alloc (RL _) _;have G:(w.alloc (.cells #[Iq kd,a1,a2,a3,a4,a5,a6,a7,Iq wh,Pq b] 163)).heap[w.heap.size]?=some (.cells #[Iq kd,a1,a2,a3,a4,a5,a6,a7,Iq wh,Pq b] 163 (0,0)):=RO w _;have R:=hT.below z;have U:=hR.below z;generalize V:w.alloc (.cells #[Iq kd,a1,a2,a3,a4,a5,a6,a7,Iq wh,Pq b] 163)=I at*;have J:=Hi V;have c0:=RM I _ 0 _ _ _ G;have c9:=RM I _ 9 _ _ _ G;obtain⟨ua,aa,c4⟩:=uA R;have E:=qe 1 U.c0;have O:=Hi z;have e0:decide (t.kids=[])=((t.kids.length:Int)==0):=by
  cases t.kids with
  |nil=>rfl
  |cons x r=>simp;omega
 have e1:decide (kd=11)=((kd:Int)==11):=by
  by_cases h:kd=11
  ·subst h;rfl
  ·rw[Sc h];symm;simp;omega
 rw[e0,e1];have KD:Hid (∀W:World,Below w.heap.size w W->Below w.heap.size w W.drew):=λW h=>h.drew
 clear V G R U hT hR z e0 e1;generalize t.kids.length=tn at*
 cases Y:iV n 1
 ·rw[Y] at E
  go_enter func129,ntmps129;go_wp2_with fail;rw[J.out];apply E.mono;rintro e w' ⟨rfl,rfl⟩;go_wp2;go_ret;exact⟨rfl,O.out⟩
 ·rw[Y] at E
  cases ab:((kd:Int)==11)
  ·go_enter func129,ntmps129
   go_wp2_with fail;rw[J.out];apply E.mono;rintro e w' ⟨rfl,rfl⟩;go_wp2;go_ret;exact⟨rfl,O.out⟩
  ·cases h0:((tn:Int)==0)
   ·go_enter func129,ntmps129
    go_wp2_with fail;rw[J.out];apply E.mono;rintro e w' ⟨rfl,rfl⟩;go_wp2;go_ret;exact⟨rfl,O.out⟩
   ·go_enter func129,ntmps129
    go_wp2_with fail;rw[J.out];apply E.mono;rintro e w' ⟨rfl,rfl⟩;go_wp2;go_ret;exact⟨rfl,O.out⟩
def tH (w:World) (D:Nat) (nm:List Bool):Prop:=nm.length=10/\ ∀j,j<10->w.cell? ⟨D,j,none⟩=some (.bool (nm.getD j false))/\w.frozen? ⟨D,j,none⟩=false
theorem tH.put (h:tH w z nm) (D:i<10):tH (w.setCell ⟨z,i,none⟩ (.bool true)) z (nm.set i true):=by
 refine⟨by rw[SW];exact h.1,λj E=>?_⟩
 refine⟨?_,by rw[World.frozen?_setCell];exact(h.2 j E).2⟩
 by_cases e:i=j
 ·subst e;rw[cT (by rw[h.1];exact D)]
  exact World.cell?_setCell_same _ _ _ (h.2 i D).1
 rw[getD_set_ne e,TR _ _ _ _ (by intro q;injection q;omega)]
 exact(h.2 j E).1
theorem tH.drew (h:tH w z nm):tH w.drew z nm:=h
def P9 (lt:List Nat) (d:Nat):Prop:= ∀{t:Tr} {w:World} {b z:Nat} {nm:List Bool},hY d t->cP lt d t≠0->gG (λg=>g=z) d w b t->tH w z nm->
 Calls prog 177 #[Pq b,Pq z] w λe w'=>e= .returned (.tuple #[])/\cK (λg=>g=z) w w'/\tH w' z (jk d t nm)
structure QY (d np) (ks:List Tr) (nm) (w wr) (k):Prop where
 only:cK (λg=>g=np) w wr
 at_:tH wr np ((ks.take k).foldl (λa c=>jk d c a) nm)
theorem QY.next (h:QY d z ks nm w wr k) (E:k<ks.length) (G:cK (λg=>g=z) wr D) (I:tH D z (jk d (ks.getD k fL) ((ks.take k).foldl (λa c=>jk d c a) nm))):QY d z ks nm w D (k+1):=by
 refine⟨h.only.trans G (λ_ _ x=>x) (λ_ _ x=>x),?_⟩
 have e:ks.take (k+1)=ks.take k++[ks.getD k fL]:=by
  rw[TG,RI E,RG,RI E];rfl
 rw[e,Tl];exact I
theorem OB {lt} (ai:lt.length=10) (H:P9 lt d):P9 lt (d+1):=by
 intro t w b I nm J z hT V;have HT:Hid (gG (λg=>g=I) (d+1) w b t):=hT
 obtain⟨pl,ao,u,kb,Y,G,aj,HK⟩:=hT;have Z:=nw J z;have E:∀j,j<t.kids.length->t.kids.getD j fL∈t.kids:=λj hj=>by rw[RG,RI hj];exact R4 _
 have ap:t.kids.length<=3:=by
  rcases J.1 with⟨_,O,_⟩|⟨_,_,O⟩|⟨_,_,_,_,O⟩|⟨_,_,_,O⟩<;>rw[O]<;>simp
 have ac:Hid (∀j,j<t.kids.length->hY d (t.kids.getD j fL)/\cP lt d (t.kids.getD j fL)≠0/\gG (λg=>g=I) d w (kb j) (t.kids.getD j fL)):=λj hj=>⟨J.2 _ (E j hj),Z _ (E j hj),HK j hj⟩
 have HN:=Hi V;have c0:=G.c0;have c4:=G.c4;have ak:=Hi c4;have c5:=G.c5;obtain⟨a,cap,rfl,hq⟩:=aj;have HQ:=Hi hq;have aq:=Hi Y;have HE:Hid (jk (d+1) t nm=t.kids.foldl (λa c=>jk d c a) (if t.k=2 then nm.set t.l.toNat true else nm)):=rfl
 by_cases D:t.k=2
 ·have hs:=oL J (by unfold dy;omega)
  have am:0<=t.l:=by
   rcases J.1 with⟨_,_,_,h4⟩|⟨U,_⟩|⟨U,_⟩|⟨U,_⟩
   ·exact h4 D
   ·omega
   ·omega
   unfold fh at U;omega
  have ad:t.l.toNat<10:=by
   rw[cP,RK hs] at z;unfold ee at z;rw[RH (by omega),RK D] at z
   rw[<-ai];by_cases e:t.l.toNat<lt.length
   ·exact e
   exfalso;apply z;rw[RG,R2 (by omega)];rfl
  have e:t.l=t.l.toNat:=by omega
  rw[e] at c5;rw[D] at c0;have ae:Hid (jk (d+1) t nm=nm.set t.l.toNat true):=by
   show jk (d+1) t nm=_;rw[HE.out,RK D,hs];rfl
  have aa:t.kids.length=0:=by rw[hs];rfl
  rw[aa] at c4;generalize t.l.toNat=li at*;obtain⟨n1,n2⟩:=V.2 li ad;have ar:0<=li/\li<10:=by omega
  have au:(w.setCell ⟨I,li,none⟩ (.bool true)).cell? ⟨b,4,none⟩=some (.slice a 0 cap):=by
   rw[World.cell?_setCell_far _ _ _ _ (by intro q;exact Y q.symm)];exact c4
  rw[ae.out];go_enter func177,ntmps177;go_wp2;go_region
  all_goals
   go_wp2;go_loopw [24] (λiv wr=>iv= Iq 0/\Hid (wr=(w.setCell ⟨I,li,none⟩ (.bool true)).drew)) (λ_ _=>0)
   case atStart=>exact⟨rfl,rfl⟩
   case round=>
    obtain⟨rfl,HW⟩:=hrel;go_wp2;go_end0;rw[HW.out];exact⟨rfl,((cK.refl (λg=>g=I) w).setCell (.inl rfl) _).drew,(tH.put HN.out ad).drew⟩
 rw[HE.out,RH D];have i2:(t.k==2)=false:=by simp;omega
 have H0:Hid (QY d I t.kids nm w w 0):=⟨cK.refl _ _,by rw[List.take_zero];exact V⟩
 generalize t.kids=ks at*;generalize t.k=tk at*;go_enter func177,ntmps177;go_wp2;go_loopw [24] (λiv wr=> ∃k,k<=ks.length/\iv= Iq k/\Hid (QY d I ks nm w wr k)) (λiv _=>ks.length - (intOf iv).toNat)
 case atStart=>exact⟨0,R0 _,rfl,H0.out⟩
 case round=>
  obtain⟨k,av,rfl,HX⟩:=hrel;by_cases ab:k<ks.length
  ·have R:=HX.out;obtain⟨g,rfl,af,q⟩:=HQ.out k ab;obtain⟨U,O,h3⟩:=ac.out k ab;have q':wr.cell? ⟨g,k,none⟩=some (Pq (kb k)):=by rw[R1 (w:=w) (a:=⟨g,k,none⟩) (R.only.block g (RN w _ q) af)];exact q
   have aw:0<=k/\k<ks.length:=by omega
   have W1:=H U O (h3.only R.only) R.at_;go_wp2_with fail;apply W1.mono;rintro e w1 ⟨rfl,ag,ah⟩;have an:=Hi (HX.out.next ab ag ah);go_wp2;go_roundw
   case rel=>exact⟨k+1,by omega,by go_num,an.out⟩
   case measure=>simp[intOf];omega
  obtain rfl:k=ks.length:=by omega
  go_wp2;go_end0;have R:=HX.out;refine⟨rfl,R.only,?_⟩;have:=R.at_;rwa [Ti] at this
theorem QZ {lt} (z:lt.length=10) (d):P9 lt d:=by
 induction d with
 |zero=>intro t w b D nm h;exact h.elim
 |succ d ih=>exact OB z ih
abbrev Yt:=Tok×Tok×Nat×Int
def Dx:Yt:=(eN,eN,0,0)
def mV:fQ:=⟨0,0,fL⟩
structure Qp (F) (d) (w) (x:fQ) (y:Yt):Prop where
 kd:cz y.1=x.kind
 wh:y.2.2.2=(x.wh:Int)
 tr:gG F d w y.2.2.1 x.c
def iW (F:Nat->Prop) (d:Nat) (w:World) (xs:List fQ) (ys:List Yt):Prop:=xs.length=ys.length/\ ∀j,j<ys.length->Qp F d w (xs.getD j mV) (ys.getD j Dx)
theorem iW.nil {w:World}:iW F d w [] []:=⟨rfl,λj z=>by simp at z⟩
theorem iW.snoc (h:iW F d w xs ys) (D:Qp F d w x y):iW F d w (xs++[x]) (ys++[y]):=by
 have z:=h.1;refine⟨by simp[z],λj E=>?_⟩
 by_cases e:j<ys.length
 ·rw[kI e,kI (by omega)];exact h.2 j e
 ·have G:j=ys.length:=by simp at E;omega
  subst G;rw[iJ,<-z,iJ];exact D
theorem iW.map (h:iW F d w xs ys) (D:∀b t,gG F d w b t->gG G d w' b t):iW G d w' xs ys:=⟨h.1,λj z=>⟨(h.2 j z).kd,(h.2 j z).wh,D _ _ (h.2 j z).tr⟩⟩
def lF (w:World) (v:Value) (ys:List Yt):Prop:= ∃a cap,v= .slice a ys.length cap/\ ∀k,k<ys.length-> ∃g,a=some ⟨g,0,none⟩/\g<w.heap.size/\ ∀j,j<10->w.cell? ⟨g,k*10+j,none⟩=(ff (ys.getD k Dx))[j]?
theorem lF.of_row {w:World} {base:Nat} {ys:List Yt} (h:w.ownsRow base 163 10 v ys.length (dE ys)):lF w v ys:=by
 obtain⟨a,cap,e,z⟩:=mg h;refine⟨a,cap,e,λk D=>?_⟩
 obtain⟨g,e,⟨cs,E⟩,G⟩:=z k D;exact⟨g,e,cq E,G⟩
theorem lF.below {w w':World} (h:lF w v ys) (z:Below w.heap.size w w'):lF w' v ys:=by
 obtain⟨a,cap,e,E⟩:=h;refine⟨a,cap,e,λk G=>?_⟩
 obtain⟨g,e,I,J⟩:=E k G;exact⟨g,e,by have:=z.size;omega,λj D=>by rw[z.cell (p:=⟨g,k*10+j,none⟩) I];exact J j D⟩
theorem A6 {α:Type} {l:List α} (h:k<l.length) (d:α):l.drop k=l.getD k d::l.drop (k+1):=by
 rw[R5 h,RG,RI h];rfl
theorem Q0 (h:gG F d w b t):b<w.heap.size/\Cq w b 0 (Iq t.k):=by
 cases d with
 |zero=>exact h.elim
 |succ d=>
  obtain⟨_,_,_,_,_,z,_,_⟩:=h;exact⟨RN w _ z.c0,z.c0⟩
structure Kt (F) (d:Nat) (w wr:World) (v:Value) (ks) (ys:List Yt):Prop where
 row:wr.ownsRow w.heap.size 163 10 v ys.length (dE ys)
 bel:Below w.heap.size w wr
 its:iW F d w ks ys
theorem Kt.next {cap} (h:Kt F d w wr v ks ys) (J:Below wr.heap.size wr z) (O:Qp F d w x y)
 (I:D.ownsRow w.heap.size 163 10 (Sq gg (ys.length+1) cap) (ys.length+1) (dE ys++ff y)) (E:(z.alloc o).grownBy D v.ownBlock):Kt F d w D (Sq gg (ys.length+1) cap) (ks++[x]) (ys++[y]):=by
 have G:=h.bel.trans (J.mono h.bel.size);have R:=((cK.refl (λg=>v.ownBlock=some g) z).alloc _).grown E (λk U=> .inl U)
 refine⟨?_,G.trans (R.below G.size (λg _ V=>(h.row.lt g V).1)),h.its.snoc O⟩
 rw[nt,RT];exact I
theorem Kt.grow {v:Value} {ys:List Yt} (h:Kt F d w wr v ks ys) (D:Below wr.heap.size wr z):Kt F d w z v ks ys:=⟨cH h.row D,h.bel.trans (D.mono h.bel.size),h.its⟩
theorem lY {z E:World} {row} (D:(z.alloc o).grownBy E row) (U:b<z.heap.size) (J:row≠some b):E.cell? ⟨b,j,none⟩=z.cell? ⟨b,j,none⟩:=by
 have V:=((cK.refl (λg=>row=some g) z).alloc _).grown D (λk Y=> .inl Y)
 exact R1 (w:=z) (a:=⟨b,j,none⟩) (V.block b U J)
theorem Dy {F:Nat->Prop} (hv:lF w v ys) (hI:iW F d w xs ys) (hl:ys.length<=1001):
 Calls prog 132 #[v] w λe w'=> ∃v' ap,e= .returned v'/\Kt F d w w' v' (jG xs) ap/\ap.length<=ys.length:=by
 obtain⟨a,cap,rfl,hq⟩:=hv;have HQ:=Hi hq;have HI:Hid (iW F d w xs ys):=hI;have H0:Hid (Kt F d w w (.slice none 0 0) [] []/\[]++jG (xs.drop 0)=jG xs):=⟨⟨SC _ _ _ _,RP _ _,iW.nil⟩,rfl⟩;obtain⟨i0,hi,aq,ar,au⟩:=Tz oG;clear hq hI;go_enter func132,ntmps132;go_wp2_with fail;go_loopw [3,9] (λvv iv wr=> ∃(k:Nat) (ks:List fQ) (E:List Yt),k<=ys.length/\iv= Iq k/\E.length<=k/\Hid (Kt F d w wr vv ks E/\ks++jG (xs.drop k)=jG xs)) (λ_ iv _=>ys.length - (intOf iv).toNat)
 case atStart=>exact⟨0,[],[],R0 _,rfl,RL _,H0.out⟩
 case round=>
  obtain⟨k,ks,E,aL,rfl,aF,HX⟩:=hrel;by_cases af:k<ys.length
  ·have hX:=HX.out.1;have hE:=HX.out.2;obtain⟨g,rfl,av,R⟩:=HQ.out k af;have U:=HI.out.2 k af;rw[A6 (by rw[HI.out.1];exact af) mV] at hE
   generalize xs.getD k mV=x at*;generalize ys.getD k Dx=y at*;obtain⟨q,u0,b,wh⟩:=y;have aw:=Hi U;have G:=U.kd;have ax:=U.wh;obtain⟨ag,ah⟩:=Q0 U.tr;simp only[] at G ax ag ah;obtain⟨va,Z,ev⟩:=rC hX.row;obtain rfl:=ev;have V:=hX.bel;have A:∀j,j<10->wr.cell? ⟨g,k*10+j,none⟩=(ff (q,u0,b,wh))[j]?:=λj hj=>by
    rw[V.cell (p:=⟨g,k*10+j,none⟩) av];exact R j hj
   have c0:wr.cell? ⟨g,k*10,none⟩=some (Iq (cz q)):=A 0 (by omega)
   have c1:wr.cell? ⟨g,k*10+1,none⟩=some (Iq q.pl):=A 1 (by omega)
   have c2:wr.cell? ⟨g,k*10+2,none⟩=some (Iq (cY q)):=A 2 (by omega)
   have c3:wr.cell? ⟨g,k*10+3,none⟩=some (S (cG q)):=A 3 (by omega)
   have c4:wr.cell? ⟨g,k*10+4,none⟩=some (Iq (cz u0)):=A 4 (by omega)
   have c5:wr.cell? ⟨g,k*10+5,none⟩=some (Iq u0.pl):=A 5 (by omega)
   have c6:wr.cell? ⟨g,k*10+6,none⟩=some (Iq (cY u0)):=A 6 (by omega)
   have c7:wr.cell? ⟨g,k*10+7,none⟩=some (S (cG u0)):=A 7 (by omega)
   have c8:wr.cell? ⟨g,k*10+8,none⟩=some (Iq wh):=A 8 (by omega)
   have c9:wr.cell? ⟨g,k*10+9,none⟩=some (Pq b):=A 9 (by omega)
   have aM:(0:Int)<=(k:Int)/\(k:Int)<(ys.length:Int):=by omega
   have ai:wr.cell? ⟨b,0,none⟩=some (Iq (x.c.k:Nat)):=by rw[V.cell (p:=⟨b,0,none⟩) ag];exact ah
   have Y:Bl wr (wr.alloc (oF q u0 wh (Pq b))):=(RP _ _).alloc (RL _) _;have aa:(wr.alloc (oF q u0 wh (Pq b))).heap[wr.heap.size]?=some (oF q u0 wh (Pq b)):=RO wr _;have ab:(wr.alloc (oF q u0 wh (Pq b))).cell? ⟨b,0,none⟩=some (Iq (x.c.k:Nat)):=by rw[Y.cell (p:=⟨b,0,none⟩) (by have:=V.size;simp only[];omega)];exact ai
   have aj:=Hi hX;have aN:w.heap.size<=wr.heap.size:=V.size;unfold oF at Y aa ab;have ay:=Hi Y;obtain⟨⟨z0,z1,z2,z3,z4,z5,z6,z7,z8,z9⟩,zf⟩:=dY aa;have az:=Hi (aj.out.grow Y);have aA:wr.heap.size<(wr.alloc (.cells #[Iq (cz q),Iq q.pl,Iq (cY q),S (cG q),Iq (cz u0),Iq u0.pl,Iq (cY u0),S (cG u0),Iq wh,Pq b] 163)).heap.size:=by simp
   have ak:b<(wr.alloc (.cells #[Iq (cz q),Iq q.pl,Iq (cY q),S (cG q),Iq (cz u0),Iq u0.pl,Iq (cY u0),S (cG u0),Iq wh,Pq b] 163)).heap.size:=by simp;omega
   have aB:(Value.slice va E.length Z).ownBlock≠some wr.heap.size:=λe=>by have:=(hX.row.lt _ e).2;omega
   have aC:(Value.slice va E.length Z).ownBlock≠some b:=λe=>by have:=(hX.row.lt _ e).1;omega
   have aK:w.heap.size<=(wr.alloc (.cells #[Iq (cz q),Iq q.pl,Iq (cY q),S (cG q),Iq (cz u0),Iq u0.pl,Iq (cY u0),S (cG u0),Iq wh,Pq b] 163)).heap.size:=by simp;omega
   generalize aD:wr.alloc (.cells #[Iq (cz q),Iq q.pl,Iq (cY q),S (cG q),Iq (cz u0),Iq u0.pl,Iq (cY u0),S (cG u0),Iq wh,Pq b] 163)=w1 at*;have am:=Hi aD;have HE:=Hi hE;have aE:Hid (w1.ownsRow w.heap.size 163 10 (.slice va E.length Z) E.length (dE E)):=az.out.row;clear A R hX V U ah ai Y aa ax HX av ag aD hE;by_cases D:x.kind=11
   ·have aG:((cz q:Int)==11)=true:=by rw[G,D];rfl
    have HJ:Hid ((cz q:Int)=11):=by show _=_;rw[G,D];rfl
    have an:Hid (([Iq 11,Iq q.pl,Iq (cY q),S (cG q),Iq (cz u0),Iq u0.pl,Iq (cY u0),S (cG u0),Iq wh,Pq b]:List Value)=ff (q,u0,b,wh)):=by
     show([Iq 11,Iq q.pl,Iq (cY q),S (cG q),Iq (cz u0),Iq u0.pl,Iq (cY u0),S (cG u0),Iq wh,Pq b]:List Value)=[Iq (cz q),Iq q.pl,Iq (cY q),S (cG q),Iq (cz u0),Iq u0.pl,Iq (cY u0),S (cG u0),Iq wh,Pq b];rw[G,D];rfl
    have O:jG (x::List.drop (k+1) xs)=x::jG (List.drop (k+1) xs):=by rw[jG,RH (λe=>e.1 D),RH (λe=>e.1 D)]
    rw[O] at HE;clear O D G;go_upto_region 5 with fail;rw[am.out];have aH:=HJ.out;go_wp2_with (at_builtin;go_must (refine wpList_append_lies _ (by rfl) _ _ 84 (by rfl) w.heap.size 163 i0 (.agg #[Iq 0,Iq 0,Iq 0,.string ⟨#[]⟩,Iq 0,Iq 0,Iq 0,.string ⟨#[]⟩,Iq 0,.pointer none]) 10 96 underlying84 hi aq ar au (by rfl) (by decide) _ _ _ (by rfl) (aE.out.alloc _) ⟨w1.heap.size,0,none⟩ 1 1 [Iq 11,Iq q.pl,Iq (cY q),S (cG q),Iq (cz u0),Iq u0.pl,Iq (cY u0),S (cG u0),Iq wh,Pq b] (by rfl) (by rfl) (World.news_of_block (RO w1 _)) (λx hx=>by simp at hx;rcases hx with rfl|rfl|rfl|rfl|rfl|rfl|rfl|rfl|rfl|rfl<;>rfl) (by decide) (by unfold maxLen;omega) (by omega) (by simp;omega) _ rfl ?_);intro gg ac w5 I z ao ad;have HN:Hid (Kt F d w w5 (Sq gg (E.length+1) ac) (ks++[x]) (E++[(q,u0,b,wh)])):=aj.out.next ay.out aw.out (by rw[<-an.out];exact I) z;have y9:=(lY z (j:=9) aA aB).trans z9;have yk:=(lY z (j:=0) ak aC).trans ab;clear I z ao ad)
    go_roundw
    case rel=>exact⟨k+1,_,_,by omega,by go_num,by simp;omega,HN.out,by rw[<-HE.out];simp⟩
    case measure=>simp[intOf];omega
   have aG:((cz q:Int)==11)=false:=by rw[G];simp;omega
   have aH: ¬(cz q:Int)=11:=by rw[G];omega
   by_cases J:x.c.k=21
   ·have aI:((x.c.k:Int)==21)=true:=by rw[J];rfl
    have O:jG (x::List.drop (k+1) xs)=jG (List.drop (k+1) xs):=by rw[jG,RK ⟨D,J⟩]
    rw[O] at HE;clear O D G J;go_upto_region 5 with fail;rw[am.out];go_wp2;go_roundw
    case rel=>exact⟨k+1,_,_,by omega,by go_num,by omega,az.out,HE.out⟩
    case measure=>simp[intOf];omega
   have aI:((x.c.k:Int)==21)=false:=by simp;omega
   by_cases ae:x.c.k=20;have aJ:((x.c.k:Int)==20)=true:=by rw[ae];rfl
   have O:jG (x::List.drop (k+1) xs)=[x]:=by rw[jG,RH (λe=>J e.2),RK ⟨D,ae⟩]
   rotate_left;have aJ:((x.c.k:Int)==20)=false:=by simp;omega
   have O:jG (x::List.drop (k+1) xs)=x::jG (List.drop (k+1) xs):=by rw[jG,RH (λe=>J e.2),RH (λe=>ae e.2)]
   rotate_left
   all_goals
    rw[O] at HE;clear O D G J ae;go_upto_region 5 with fail;rw[am.out];have an:Hid (([Iq (cz q),Iq q.pl,Iq (cY q),S (cG q),Iq (cz u0),Iq u0.pl,Iq (cY u0),S (cG u0),Iq wh,Pq b]:List Value)=ff (q,u0,b,wh)):=rfl;go_wp2_with (at_builtin;go_must (refine wpList_append_lies _ (by rfl) _ _ 84 (by rfl) w.heap.size 163 i0 (.agg #[Iq 0,Iq 0,Iq 0,.string ⟨#[]⟩,Iq 0,Iq 0,Iq 0,.string ⟨#[]⟩,Iq 0,.pointer none]) 10 96 underlying84 hi aq ar au (by rfl) (by decide) _ _ _ (by rfl) (aE.out.alloc _) ⟨w1.heap.size,0,none⟩ 1 1 [Iq (cz q),Iq q.pl,Iq (cY q),S (cG q),Iq (cz u0),Iq u0.pl,Iq (cY u0),S (cG u0),Iq wh,Pq b] (by rfl) (by rfl) (World.news_of_block (RO w1 _)) (λx hx=>by simp at hx;rcases hx with rfl|rfl|rfl|rfl|rfl|rfl|rfl|rfl|rfl|rfl<;>rfl) (by decide) (by unfold maxLen;omega) (by omega) (by simp;omega) _ rfl ?_);intro gg ac w5 I z ao ad;have HN:Hid (Kt F d w w5 (Sq gg (E.length+1) ac) (ks++[x]) (E++[(q,u0,b,wh)])):=aj.out.next ay.out aw.out (by rw[<-an.out];exact I) z;have y9:=(lY z (j:=9) aA aB).trans z9;have yk:=(lY z (j:=0) ak aC).trans ab;clear I z ao ad)
   ·go_ret;exact⟨_,_,rfl,by rw[<-HE.out];exact HN.out,by simp;omega⟩
   go_roundw
   case rel=>exact⟨k+1,_,_,by omega,by go_num,by simp;omega,HN.out,by rw[<-HE.out];simp⟩
   case measure=>simp[intOf];omega
  obtain rfl:k=ys.length:=by omega
  have HR:Hid (Kt F d w wr u3 (jG xs) E):=by
   have:=HX.out;rw[R8 (by rw[HI.out.1];exact RL _)] at this
   simp only[jG,TZ] at this;rw[<-this.2];exact this.1
  clear HX;go_wp2;go_ret;exact⟨_,E,rfl,HR.out,aF⟩
end
variable {k jmp d x l a c F p L G f xs base v w}
def kh (jmp:Bool) (d:Nat) (L:List fQ) (l:List L3):List L3:=L.foldl (λl x=>l++iE jmp d x l.length) l
def sh (jmp:Bool) (d:Nat) (L:List fQ) (a:Nat):Nat:=L.foldl (λa x=>max a (iD jmp d x)) a
def uB (L:List fQ) (c:Nat):Nat:=L.foldl (λc x=>if x.kind=11 then x.wh+1 else c) c
theorem qL {α:Type} {L:List α} {x:α} (h:L[k]?=some x):L.take (k+1)=L.take k++[x]:=by
 rw[TG,h];rfl
theorem FP {L:List fQ} {k:Nat} (h:L[k]?=some x):kh jmp d (L.take (k+1)) l=kh jmp d (L.take k) l++iE jmp d x (kh jmp d (L.take k) l).length:=by
 rw[qL h];unfold kh;rw[Tl];rfl
theorem J5 {L:List fQ} {k:Nat} (h:L[k]?=some x):sh jmp d (L.take (k+1)) a=max (sh jmp d (L.take k) a) (iD jmp d x):=by
 rw[qL h];unfold sh;rw[Tl];rfl
theorem J6 {L:List fQ} (h:L[k]?=some x):uB (L.take (k+1)) c=if x.kind=11 then x.wh+1 else uB (L.take k) c:=by
 rw[qL h];unfold uB;rw[Tl];rfl
theorem uC {jmp d}:∀{L l lt},kh jmp d L l++[⟨18,0,0⟩]=l++(kM jmp d L lt l.length).map er
 |[],l,lt=>rfl
 |x::r,l,lt=>by
  have D:=MP jmp d x l.length;by_cases z:x.kind=11
  ·have ih:=uC (jmp:=jmp) (d:=d) (L:=r) (l:=l++iE jmp d x l.length) (lt:=lt.set x.wh (cP lt d x.c));have e:kh jmp d (x::r) l=kh jmp d r (l++iE jmp d x l.length):=rfl;rw[e,ih,kM,RK z,RT,D];unfold iE iS;rw[RK z,RK z];unfold gE;rw[xN jmp d none x.c ⟨[],[]⟩ ⟨[],lt⟩];simp[er,Th]
  have ih:=uC (jmp:=jmp) (d:=d) (L:=r) (l:=l++iE jmp d x l.length) (lt:=lt);have e:kh jmp d (x::r) l=kh jmp d r (l++iE jmp d x l.length):=rfl;rw[e,ih,kM,RH z,RT,D];unfold iE iS;rw[RH z,RH z];rw[xN jmp d (some false) x.c ⟨[],[]⟩ ⟨[],lt⟩];simp[er,Th]
theorem A7 {jmp d}:∀{L a},sh jmp d L a=max a (LR jmp d L)
 |[],a=>by simp[sh,LR]
 |x::r,a=>by
  have e:sh jmp d (x::r) a=sh jmp d r (max a (iD jmp d x)):=rfl;rw[e,A7,LR];unfold iD;omega
theorem xU:∀{L:List fQ} {c},uB L c=kL L c
 |[],c=>rfl
 |x::r,c=>by
  have e:uB (x::r) c=uB r (if x.kind=11 then x.wh+1 else c):=rfl;rw[e,xU,kL]
theorem qg {z:Nat} (h:1<=z/\z<=18):1+dt z=cE z:=by
 have e:z=1\/z=2\/z=3\/z=4\/z=5\/z=6\/z=7\/z=8\/z=9\/z=10\/z=11\/z=12\/z=13\/z=14\/z=15\/z=16\/z=17\/z=18:=by omega
 rcases e with e|e|e|e|e|e|e|e|e|e|e|e|e|e|e|e|e|e<;>rw[e]<;>decide
theorem O5 (h:∀x∈F,1<=x.op/\x.op<=18) (i):tD (F.map er) i=AJ F i:=by
 unfold tD AJ vq;rw[<-List.map_take,TD];congr 2;refine Sh λx z=>?_
 exact qg (h x (Um z))
theorem MX (dep cells) (h:∀x∈F,1<=x.op/\x.op<=18):QX dep cells (F.map er)=mR dep cells F:=by
 unfold QX mR;rw[Tp];congr 1;unfold JZ lL;have e:qF F=(List.range (F.map er).length).map λi=>(((F.map er).getD i gk).op,Dt (F.map er) i ((F.map er).getD i gk)):=by
  apply TF;intro i;rw[Se,SR];by_cases z:i<F.length
  ·have D:F[i]?=some F[i]:=RI z;have E:=h F[i] (R4 z);generalize F[i]=x at*;have G:(F.map er).getD i gk=er x:=by rw[RG,Se,D];rfl
   rw[CF D,TJ z,TH,G];have:Dt (F.map er) i (er x)=CE F i x:=by
    unfold Dt CE;by_cases g:x.op=15\/x.op=16
    ·have I:(er x).op=15\/(er x).op=16:=g;have:1+dt (er x).op=3:=by
      have O:=qg E;have:cE x.op=3:=by rcases g with e|e<;>rw[e]<;>rfl
      rw[this] at O;exact O
     rw[RK g,RK I,O5 h,O5 h,this];rfl
    have I: ¬((er x).op=15\/(er x).op=16):=g;rw[RH g,RH I];rfl
   rw[this];rfl
  rw[R2 (by rw[rT];omega),R2 (by simp;omega)];rfl
 rw[e,List.flatMap_map];have J:∀i,i∈List.range (F.map er).length->JY (F.map er) i ((F.map er).getD i gk)=oO (((F.map er).getD i gk).op,Dt (F.map er) i ((F.map er).getD i gk)):=λi z=>by
  have z:i<F.length:=by simpa using z
  have D:=RI z;have E:=h F[i] (R4 z);generalize F[i]=x at*;have G:(F.map er).getD i gk=er x:=by rw[RG,Se,D];rfl
  rw[G];unfold JY oO;have:=qg E;have R:dt (er x).op=cE (er x).op - 1:=by simp only[er];omega
  rw[R]
 rw[List.flatMap_def,List.flatMap_def,Sh J]
theorem OC (d):∀{t m},hY d t->cX jmp d m t+(if m=none then 2 else 0)<=3*eR d t:=by
 induction d with
 |zero=>intro t m h;exact h.elim
 |succ d ih=>
  intro t m h;have G:=h.2;have ac:cX jmp (d+1) none t+2<=3*eR (d+1) t:=by
   rcases h.1 with⟨D,z,_⟩|⟨D,a,z⟩|⟨D,a,b,c,z⟩|⟨D,a,b,z⟩
   ·have I: ¬t.k=14:=by unfold dy at D;omega
    have J: ¬t.k=19:=by unfold dy at D;omega
    simp only[cX,RH I,RH J,z,Sx];rw[RH (by decide)]
    have:=oK h;omega
   ·have I: ¬t.k=14:=by omega
    have O:t.kid 0=a:=by unfold Tr.kid;rw[z];rfl
    simp only[cX,RH I,RK D,O];have R:=ih (m:=none) (G a (by rw[z];simp))
    rw[vK z];simp at R;omega
   ·have O:t.kid 0=a:=by unfold Tr.kid;rw[z];rfl
    have U:t.kid 1=b:=by unfold Tr.kid;rw[z];rfl
    have e2:t.kid 2=c:=by unfold Tr.kid;rw[z];rfl
    simp only[cX,RK D,O,U,e2];have R:=ih (m:=some false) (G a (by rw[z];simp))
    have E:=ih (m:=none) (G b (by rw[z];simp))
    have h3:=ih (m:=none) (G c (by rw[z];simp))
    simp only[Td,reduceCtorEq,Ui] at R E h3;rw[AI z];omega
   have I: ¬t.k=14:=by unfold fh at D;omega
   have J: ¬t.k=19:=by unfold fh at D;omega
   have hl:t.kids.length=2:=by rw[z];rfl
   have O:t.kid 0=a:=by unfold Tr.kid;rw[z];rfl
   have U:t.kid 1=b:=by unfold Tr.kid;rw[z];rfl
   simp only[cX,RH I,RH J,RK hl,O,U];have R:=ih (m:=none) (G a (by rw[z];simp))
   have E:=ih (m:=none) (G b (by rw[z];simp))
   rw[vL z];simp at R E;omega
  cases m with
  |none=>exact ac
  |some this=>
   simp only[reduceCtorEq,Ui,Us];cases Y:oN jmp t.k with
   |false=>
    have aa:cX jmp (d+1) (some this) t=cX jmp (d+1) none t+(if this then 2 else 1):=by
     simp only[cX,Y];rfl
    rw[aa];have:(if this then 2 else 1)<=2:=by cases this<;>simp
    omega
   |true=>
    simp only[cX,Y,Td];rcases h.1 with⟨D,z,_⟩|⟨D,a,z⟩|⟨D,a,b,c,z⟩|⟨D,a,b,z⟩
    ·have E:t.k=20\/t.k=21:=by
      unfold oN at Y;unfold dy at D;simp at Y;omega
     rw[RK E];have:=oK h;split<;>omega
    ·have E: ¬(t.k=20\/t.k=21):=by omega
     have O:t.kid 0=a:=by unfold Tr.kid;rw[z];rfl
     rw[RH E,RK D,O,vK z];have R:=ih (m:=some (!this)) (G a (by rw[z];simp))
     simp at R;omega
    ·have E: ¬(t.k=20\/t.k=21):=by omega
     have J: ¬t.k=19:=by omega
     have O:t.kid 0=a:=by unfold Tr.kid;rw[z];rfl
     have U:t.kid 1=b:=by unfold Tr.kid;rw[z];rfl
     have e2:t.kid 2=c:=by unfold Tr.kid;rw[z];rfl
     rw[RH E,RH J,RK D,O,U,e2,AI z];have R:=ih (m:=some false) (G a (by rw[z];simp))
     have E:=ih (m:=some this) (G b (by rw[z];simp))
     have h3:=ih (m:=some this) (G c (by rw[z];simp))
     simp only[reduceCtorEq,Ui] at R E h3;omega
    have E: ¬(t.k=20\/t.k=21):=by unfold fh at D;omega
    have J: ¬t.k=19:=by unfold fh at D;omega
    have I: ¬t.k=14:=by unfold fh at D;omega
    have O:t.kid 0=a:=by unfold Tr.kid;rw[z];rfl
    have U:t.kid 1=b:=by unfold Tr.kid;rw[z];rfl
    rw[RH E,RH J,RH I,O,U,vL z];have R:=ih (m:=some (decide (t.k=17))) (G a (by rw[z];simp))
    have E:=ih (m:=some this) (G b (by rw[z];simp))
    simp only[reduceCtorEq,Ui] at R E;omega
theorem MY (h:hY d x.c):iS jmp d x<=3*eR d x.c+1:=by
 unfold iS;have z:=OC (jmp:=jmp) d (m:=if x.kind=11 then none else some false) h;omega
theorem uD {jmp d}:∀{L l},(∀x∈L,hY d x.c)->(kh jmp d L l).length<=l.length+3*gH d L+L.length
 |[],l,_=>by simp[kh,gH]
 |x::r,l,h=>by
  have e:kh jmp d (x::r) l=kh jmp d r (l++iE jmp d x l.length):=rfl;have z:gH d (x::r)=eR d x.c+gH d r:=by simp[gH]
  have ih:=uD (jmp:=jmp) (l:=l++iE jmp d x l.length) (L:=r) (λy D=>h y (by simp[D]))
  rw[RT,MP] at ih;have:=MY (jmp:=jmp) (h x (by simp))
  rw[e,z,R7];omega
theorem J7 (L) (k):gH d (L.take k)<=gH d L:=by
 have h:gH d L=gH d (L.take k)+gH d (L.drop k):=by
  have e:=Te (λl=>(l.map λx=>eR d x.c).sum) (TP k L)
  simp only[Sv,List.sum_append] at e;exact e.symm
 omega
theorem A8 {d}:∀{l lt},pd d lt l-> ∀x∈l,hY d x.c
 |[],_,_=>by simp
 |x::r,lt,h=>by
  obtain⟨E,G,h3⟩:=h;intro y z;simp only[Sm] at z;rcases z with rfl|z
  ·exact E
  rcases h3 with⟨_,_,D⟩|⟨_,_,_,D⟩<;>exact A8 D y z
theorem J8 (hd:d<=24) (hT:pd d eB l) (hS:nX 0 l) (hn:gH d l<=200) (hl:l.length<=30) (eL:o9 p d l=L) (R:kh p.jmp d L []++[⟨18,0,0⟩]=G):
 QX (sh p.jmp d L 0) (uB L 0) G=kY p d l/\G.length<=700/\(∀x∈G,x.op<256/\((x.op=15\/x.op=16)->x.tj<G.length))/\sh p.jmp d L 0<=24/\uB L 0<=10/\pd d eB L/\gH d L<=200/\L.length<=30:=by
 obtain⟨J,_,r3,r4⟩:=Gu (p:=p) lV hT hS;have ab:=(sZ hS).1.sublist (CI (p:=p) (d:=d) (l:=l));unfold kY;rw[eL] at*;have ac:=AK J;have an:eB.length=10:=rfl;have ad:kL L 0<=10:=zu (λx z V=>by have:=ac x z V;omega) (by omega)
 have ae:=(qC ab (λ_ _ _=>R0 _)).2
 rw[xU,A7,Nat.zero_max];generalize kL L 0=C at*;have hz:∀i,(List.replicate C 0).getD i 0=eB.getD i 0:=λi=>by
  rw[gX,RG,Sn];split<;>rfl
 have af:=J.other hz (λx z V=>by rw[SH];exact ae x z V)
 have Y:Sub (kM p.jmp d L (List.replicate C 0) 0) 0 (kM p.jmp d L (List.replicate C 0) 0):=⟨[],[],by simp,rfl⟩
 have E:=qA (jmp:=p.jmp) (dep:=LR p.jmp d L) (cells:=C) (by omega) af (by simp) (RL _) Y
 rw[Sw] at E;have D:=uC (jmp:=p.jmp) (d:=d) (L:=L) (l:=[]) (lt:=List.replicate C 0);rw[R,Tp,Sx] at D;have Z:=uD (jmp:=p.jmp) (l:=[]) (A8 J);have ag:G.length<=700:=by
  rw[<-R,RT];simp only[Sx,R7] at Z⊢;have:=r4;omega
 have I:∀x∈kM p.jmp d L (List.replicate C 0) 0,(1<=x.op/\x.op<=18)/\((x.op=15\/x.op=16)->x.to<(kM p.jmp d L (List.replicate C 0) 0).length):=λx z=>by
  obtain⟨i,hi⟩:=Ug.1 z;have ah:i<_:=(Sf.1 hi).1;have c:=E i x (R0 _) ah hi;refine⟨c.num.ops,λg=>?_⟩
  obtain⟨k',_,_,_,hj⟩:=c.doe;obtain⟨_,y,j2,_⟩:=hj g;exact(Sf.1 j2).1
 have aq:=AE p.jmp d L;refine⟨?_,ag,?_,by omega,ad,J,by omega,by omega⟩
 ·rw[D];exact MX _ _ (λx z=>(I x z).1)
 rw[D];intro x z;obtain⟨y,hy,rfl⟩:=Tc.1 z;obtain⟨q1,q2⟩:=I y hy;exact⟨by simp only[er];omega,λg=>by rw[SR];exact q2 g⟩
theorem O6:∀{g w b t},ph f w b t->hY g t->ph g w b t:=by
 induction f with
 |zero=>intro g w b t h;exact h.elim
 |succ f ih=>
  intro g w b t h z
  cases g with
  |zero=>exact z.elim
  |succ g=>
   obtain⟨pl,nm,u,E,G,I,h3⟩:=h;exact⟨pl,nm,u,E,G,I,λj D=>ih (h3 j D) (lM z D)⟩
theorem iW.cons {F d w xs ys x y} (z:Qp F d w x y) (h:iW F d w xs ys):iW F d w (x::xs) (y::ys):=by
 refine⟨by simp[h.1],λj D=>?_⟩
 cases j with
 |zero=>exact z
 |succ j=>exact h.2 j (by simpa using D)
theorem A9 {bs L ix w}:∀{xs} {ys:List Yt} {l r fr:Nat},ek L xs fr->dB (dK bs L (N1 ix) w) xs ys->yr l r xs ys->(∀x∈qR ix L l r xs,hY 24 x.c)->iW (λg=>w.heap.size<=g) 24 w (qR ix L l r xs) ys
 |[],[],_,_,_,_,_,_,_=>iW.nil
 |[],_::_,_,_,_,_,h,_,_=>h.elim
 |_::_,[],_,_,_,_,h,_,_=>h.elim
 |x::xs,y::ys,l,r,fr,J,G,Z,D=>by
  have ht:=dK.tr _ J.1.fit G.1.1;rw[qR] at D⊢
  by_cases E:x.name=[]
  ·rw[RK E] at D⊢
   have I:=D _ (List.mem_cons_self ..);rcases Z with⟨O,_⟩|⟨_,R,h3⟩
   ·exact absurd E O
   rcases G.1.2 with⟨U,_⟩|⟨_,V,_⟩
   ·exact absurd E U
   exact iW.cons ⟨V,R,(O6 ht I).off⟩ (A9 J.2.2 G.2 h3 (λz Y=>D z (UG _ Y)))
  ·rw[RH E] at D⊢
   have I:=D _ (List.mem_cons_self ..);rcases Z with⟨_,R,h3⟩|⟨O,_⟩
   ·rcases G.1.2 with⟨_,V,_⟩|⟨U,_⟩
    ·exact iW.cons ⟨V,R,(O6 ht I).off⟩ (A9 J.2.2 G.2 h3 (λz Y=>D z (UG _ Y)))
    ·exact absurd U E
   ·exact absurd O E
theorem OD {D:Nat} {ys:List Yt} (h:zz D L xs base v ys w) (E:pX L xs):lF w v ys/\iW (λg=>w.heap.size<=g) 24 w (rX L xs) ys/\QP xs L:=by
 have z:=Mg E h.many;exact⟨lF.of_row h.row,A9 h.trees h.items h.numb (A8 z.ty),z⟩
end Go.Proofs.YtfkdailfcmnjlaaGreatDoor
