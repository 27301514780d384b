/-
  A part.
-/
import Derived.Test.YtfkdailfcmnjlaaGreatDoorAll30
set_option linter.all false
set_option maxHeartbeats 40000000
set_option maxRecDepth 1000000
namespace Go.Proofs.YtfkdailfcmnjlaaGreatDoor
open Go Go.RowKit Tryz
section
attribute [local go_sem ↓] Go.wp_at_zero Go.wp_at_succ
variable {d w u U z lt' t b F q n e D O lv E lets base size v xs ks wr G k I gg o rp bl kb pl l aQ aM fl Z a1 a2 a3 a4 a5 a6 a7 nm i ys x y w' j}
def Ou (d:Nat):Prop:= ∀{t:Tr} {w:World} {b:Nat},gU d t->oJ d w b t->Calls prog 254 #[Pq b] w λe w'=>e= .returned (.bool (fE d t))/\Below w.heap.size w w'
theorem MZ (H:Ou d) {ks:List Tr} (hu:oA w u ks.length U) (hk:∀j,j<ks.length->gU d (ks.getD j fQ)/\oJ d w (U j) (ks.getD j fQ)) (hl:ks.length<=3):
 Calls prog 280 #[u,.func (.func 254) #[] #[]] w λe w'=>(∃r,e= .returned (Iq r)/\decide (0<=r)=ks.any (fE d))/\Bl w w':=by
 obtain⟨a,cap,rfl,hc⟩:=hu;have HC:=Hi hc;have HK:=Hi hk;have H0:Hid (Bl w w):=Qq _ _;go_enter func280,ntmps280;go_wp2;go_loopw [8] (λV wr=> ∃k,k<=ks.length/\V= Iq k/\Hid (Bl w wr/\(ks.take k).any (fE d)=false)) (λV _=>ks.length - (intOf V).toNat)
 case atStart=>exact⟨0,QA _,rfl,H0.out,rfl⟩
 case round=>
  obtain⟨k,aa,rfl,I⟩:=hrel;by_cases z:k<ks.length
  ·obtain⟨O,E⟩:=I.out;obtain⟨g,rfl,c⟩:=HC.out k z;have ab:(0:Int)<=(k:Int)/\(k:Int)<(ks.length:Int):=by omega
   have c':wr.cell? ⟨g,k,none⟩=some (Pq (U k)):=by rw[O.cell (p:=⟨g,k,none⟩) (Qk w _ c)];exact c
   obtain⟨h1,h2⟩:=HK.out k z;have R:=H h1 (h2.below O);have HS:Hid ((ks.take (k+1)).any (fE d)=fE d (ks.getD k fQ)):=by
    show _=_;rw[Sc,Ql z,List.any_append,E,Qi,Ql z];simp
   have HA:Hid (fE d (ks.getD k fQ)=true->ks.any (fE d)=true):=λhh=>by
    rw[TC];exact⟨ks.getD k fQ,by rw[Qi,Ql z];exact QD _,hh⟩
   have G:=Hi O;generalize fE d (ks.getD k fQ)=hg at*;cases hg with
   |true=>
    have Y:=Hi (HA.out rfl);go_wp2_with fail;apply R.mono;rintro e Z ⟨rfl,D⟩;have J:Hid (Bl w Z):=G.out.trans (D.mono G.out.size);go_wp2;go_ret;exact⟨⟨k,rfl,by rw[Y.out];exact QZ (by omega)⟩,J.out⟩
   |false=>
    go_wp2_with fail;apply R.mono;rintro e Z ⟨rfl,D⟩;have J:Hid (Bl w Z):=G.out.trans (D.mono G.out.size);go_wp2;go_roundw
    case rel=>exact⟨k+1,by omega,by go_num,J.out,HS.out⟩
    case measure=>simp[intOf];omega
  obtain rfl:k=ks.length:=by omega
  have G:=Hi I.out.1;have E:=I.out.2;rw[Q4 (Qn _)] at E;have HN:=Hi E;go_wp2;go_ret;exact⟨⟨-1,rfl,by rw[HN.out];decide⟩,G.out⟩
theorem EB (H:Ou d) {ks:List Tr} (D:oA w u ks.length z) (E:∀j,j<ks.length->gU d (ks.getD j fQ)/\oJ d w (z j) (ks.getD j fQ)) (O:ks.length<=3):
 Calls prog 270 #[u,.func (.func 254) #[] #[]] w λe w'=>e= .returned (.bool (ks.any (fE d)))/\Bl w w':=by
 have G:=MZ H D E O;clear D E;go_enter func270,ntmps270;go_wp2_with fail;apply G.mono;rintro e V ⟨⟨r,rfl,I⟩,J⟩;have R:=Hi J;have U:=Hi I;clear G J I;go_wp2;go_ret;exact⟨by show Ending.returned (.bool (decide (0<=r)))=_;rw[U.out],R.out⟩
theorem Lo (d:Nat):Ou d:=by
 induction d with
 |zero=>intro t w b h;exact h.elim
 |succ d ih=>
  intro t w b U hT;obtain⟨pl,nm,u,bl,J,Z,HK⟩:=hT;have V:t.k<=100:=by
   rcases U.1 with⟨O,_⟩|⟨O,_⟩|⟨O,_⟩|⟨O,_⟩
   ·unfold dJ at O;omega
   ·omega
   ·omega
   unfold fW at O;omega
  have ab:t.kids.length<=3:=by
   rcases U.1 with⟨_,D,_⟩|⟨_,_,D⟩|⟨_,_,_,_,D⟩|⟨_,_,_,D⟩<;>rw[D]<;>simp
  have I:=λw=>rk t.k w V
  have Y:=λ(w':World) (hb:Below w.heap.size w w')=>EB ih (Z.below hb) (λj hj=>⟨lz U hj,(HK j hj).below hb⟩) ab
  have c0:=J.c0;have c4:=J.c4;have HE:Hid (fE (d+1) t=(decide (27<=t.k/\t.k<=35)||decide (t.k=2)||t.kids.any (fE d))):=rfl;rw[HE.out];have R:=Qq w.heap.size w;generalize t.kids.any (fE d)=an at*;by_cases E:27<=t.k/\t.k<=35
  ·rw[QZ E] at I⊢;simp only[TE];generalize (if 27<=t.k/\t.k<=35 then t.k - 27 else 0)=fi at*;generalize t.k=k at*;go_enter func254,ntmps254;go_wp2_with (go_at_call 171;refine(I _).mono ?_;rintro e w' ⟨rfl,z⟩;have G:=z.symm;clear z;subst G);go_ret;exact⟨rfl,R⟩
  rw[QM E] at I⊢;simp only[TM];generalize (if 27<=t.k/\t.k<=35 then t.k - 27 else 0)=fi at*;by_cases D:t.k=2
  ·rw[QZ D];simp only[TE];rw[D] at I c0;go_enter func254,ntmps254;go_wp2_with (go_at_call 171;refine(I _).mono ?_;rintro e w' ⟨rfl,z⟩;have G:=z.symm;clear z;subst G);go_ret;exact⟨rfl,R⟩
  rw[QM D];simp only[TM];have i2:((t.k:Int)==2)=false:=by simp;omega
  have W3:=Y w R;generalize t.k=k at*;go_enter func254,ntmps254;go_wp2_with (go_at_call 171;refine(I _).mono ?_;rintro e w' ⟨rfl,z⟩;have G:=z.symm;clear z;subst G);apply W3.mono;rintro e w2 ⟨rfl,aa⟩;have HB:=Hi aa;go_wp2;go_ret;exact⟨rfl,HB.out⟩
theorem Lp {lt}:∀{t:Tr},gU d t->fE d t=false->cR lt d t=cR lt' d t:=by
 induction d with
 |zero=>intro t h;exact h.elim
 |succ d ih=>
  intro t Y D;rw[fE] at D;simp only[S8,SQ] at D;obtain⟨⟨h1,E⟩,h3⟩:=D;have Z:t.kids.map (cR lt d)=t.kids.map (cR lt' d):=QY λc G=>ih (Y.2 c G) (by
   cases e:fE d c with
   |false=>rfl
   |true=>rw[TC.2 ⟨c,G,e⟩] at h3;cases h3)
  have I:dY lt t=dY lt' t:=by unfold dY;rw[Qj E,Qj E]
  simp only[cR];rw[Z,I]
theorem IF {lt} (G:gU d t) (I:oJ d w b t) (Y:cR lt d t≠0):
 Calls prog 228 #[Pq b] w λe w'=>(e= .returned (if fE d t=true then .tuple #[Iq 0,.bool false] else .tuple #[Iq (fT [] jH d t),.bool true]))/\Bl w w':=by
 have E:=Lo d G I;cases J:fE d t with
 |true=>
  rw[J] at E;rw[Qo rfl];go_enter func228,ntmps228;go_wp2_with fail;apply E.mono;rintro e z ⟨rfl,D⟩;have O:=Hi D;go_wp2;go_ret2;exact⟨rfl,O.out⟩
 |false=>
  rw[J] at E;rw[Qj (by decide)]
  have V:cR [] d t≠0:=by rw[Lp G J];exact Y
  have HT:=Hi I;have HW:=Hi G;have Z:Hid (∀z,Bl w z->Calls prog 78 #[Pq z.heap.size,Pq b] (z.alloc (.cells #[Iq 0,Iq 0,Iq 0,Iq 0,Iq 0,Iq 0,Iq 0,Iq 0,Iq 0,.slice none 0 0] 181)) λe w'=>e= .returned (Iq (fT [] jH d t))/\Below (z.alloc (.cells #[Iq 0,Iq 0,Iq 0,Iq 0,Iq 0,Iq 0,Iq 0,Iq 0,Iq 0,.slice none 0 0] 181)).heap.size (z.alloc (.cells #[Iq 0,Iq 0,Iq 0,Iq 0,Iq 0,Iq 0,Iq 0,Iq 0,Iq 0,.slice none 0 0] 181)) w'):=λz D=>by
   have R:=Qp z (.cells #[Iq 0,Iq 0,Iq 0,Iq 0,Iq 0,Iq 0,Iq 0,Iq 0,Iq 0,.slice none 0 0] 181);have aa:Bl z (z.alloc (.cells #[Iq 0,Iq 0,Iq 0,Iq 0,Iq 0,Iq 0,Iq 0,Iq 0,Iq 0,.slice none 0 0] 181)):=(Qq _ _).alloc (Qn _) _;refine yI (λi hi=>by simp at hi) om (by simp) (by simp) ((HT.out.below D).below aa) HW.out V ⟨λi hi=>?_,Qm _ _ 9 _ _ _ R⟩ (λj hj=>by simp at hj)
   rw[Qm _ _ i _ _ _ R];have e9:i=0\/i=1\/i=2\/i=3\/i=4\/i=5\/i=6\/i=7\/i=8:=by omega
   rcases e9 with rfl|rfl|rfl|rfl|rfl|rfl|rfl|rfl|rfl<;>rfl
  generalize fT [] jH d t=ev at*;go_enter func228,ntmps228;go_wp2_with fail;apply E.mono;rintro e z ⟨rfl,D⟩;have W2:=Z.out z D;have O:=Hi D;go_wp2_with fail;apply W2.mono;rintro e w2 ⟨rfl,U⟩;have ab:Hid (Bl w w2):=O.out.trans ((((Qq _ _).alloc (Qn _) _).trans (U.mono (by simp))).mono O.out.size)
  go_wp2;go_ret2;exact⟨rfl,ab.out⟩
theorem pH (h:gB F d w b t):Cq w b 0 (Iq t.k):=by
 cases d with
 |zero=>exact h.elim
 |succ d=>obtain⟨_,_,_,_,_,q,_⟩:=h;exact q.c0
def iT (n:Int) (k:Nat):Bool:=bits .and .i64 n k !=0
def cP (n:Int):mW:=⟨iT n 1,iT n 2,iT n 4,iT n 8⟩
theorem pI (k:Nat) (z:Cq w q 0 (Iq n)):Calls prog 130 #[Pq q,Iq k] w λe w'=>e= .returned (.bool (iT n k))/\w'=w:=by
 go_enter func130,ntmps130;go_wp2;go_ret;exact⟨rfl,rfl⟩
theorem tT (R:gB F (d+1) w b t) (U:t.kids.length=n) (Y:0<n):∃(g cap:Nat) (q:Nat->Nat),w.cell? ⟨b,0,none⟩=some (Iq t.k)/\w.cell? ⟨b,4,none⟩=some (Sq g n cap)/\(∀j,j<n->w.cell? ⟨g,j,none⟩=some (Pq (q j)))/\(∀j,j<n->w.cell? ⟨q j,0,none⟩=some (Iq (t.kid j).k))/\ ∀j,j<n->gB F d w (q j) (t.kid j):=by
 obtain⟨pl,nm,u,q,V,z,E,G⟩:=R;obtain⟨a,cap,rfl,I⟩:=E;obtain⟨g,rfl,_,Z⟩:=I 0 (by omega)
 refine⟨g,cap,q,z.c0,by rw[z.c4,U],λj J=>?_,λj J=>pH (G j (by omega)),λj J=>G j (by omega)⟩
 obtain⟨g',e,_,c⟩:=I j (by omega)
 simp only[QE,RL,SC] at e;rw[e];exact c
theorem uz (s i:Nat) (z:t.kids.length=2) (A:gB F (d+1) w b t):
 Calls prog 229 #[Pq b,Iq s,Iq i] w λe w'=>(∃I,e= .returned (Pq I)/\gB F (d+1) w' I (jC t s i))/\Bl w w':=by
 have HT:Hid (gB F (d+1) w b t):=A;obtain⟨g,cap,q,_,c4,D,E,G⟩:=tT A z (by decide)
 have q0:=D 0 (by decide)
 have q1:=D 1 (by decide)
 have k0:=E 0 (by decide)
 have k1:=E 1 (by decide)
 have J:Hid (gB F (d+1) w (q 0) (t.kid 0)):=(G 0 (by decide)).up (e:=d+1) (by omega)
 have O:Hid (gB F (d+1) w (q 1) (t.kid 1)):=(G 1 (by decide)).up (e:=d+1) (by omega)
 have R:Below w.heap.size w w.drew:=(Qq _ _).drew;have U:=Hi R;have V:jC t s i=if(((t.kid 0).k:Int)==(s:Int))=true\/(((t.kid 1).k:Int)==(i:Int))=true then t.kid 0 else if(((t.kid 1).k:Int)==(s:Int))=true\/(((t.kid 0).k:Int)==(i:Int))=true then t.kid 1 else t:=by simp[jC,Int.ofNat_inj]
 rw[V];have Y:Cq w b 4 (Sq g 2 cap)/\Cq w g 0 (Pq (q 0))/\Cq w g 1 (Pq (q 1)):=⟨c4,q0,q1⟩;clear V A D E G R z;generalize (t.kid 0).k=Z at*;generalize (t.kid 1).k=kb at*;cases i1:((Z:Int)==(s:Int));cases i2:((kb:Int)==(i:Int));cases i3:((kb:Int)==(s:Int));cases i4:((Z:Int)==(i:Int))
 all_goals
  simp only[Ss,Tn,or_true,true_or,RO,Tc];go_enter func229,ntmps229;go_wp2;go_region_held3 (λW=>Cq W b 4 (Sq g 2 cap)/\Cq W g 0 (Pq (q 0))/\Cq W g 1 (Pq (q 1))) (first|assumption|exact Y|go_keep) (fail)
  all_goals
   go_wp2;go_ret;exact⟨⟨_,rfl,gB.below (by first|exact J.out|exact O.out|exact HT.out) U.out⟩,U.out⟩
theorem IG (I:gU (d+1) t) (G:gB F (d+1) w b t):
 Calls prog 176 #[Pq b] w λe w'=>(∃b',e= .returned (Pq b')/\gB F (d+1) w' b' (iM t))/\Bl w w':=by
 have HT:Hid (gB F (d+1) w b t):=G;have kk:=pH G;have V:Bl w w:=Qq _ _;by_cases A:t.k=19
 ·have J:t.kids.length=1:=by
   rcases I.1 with⟨q,_⟩|⟨_,_,h4⟩|⟨q,_⟩|⟨q,_⟩
   ·unfold dJ at q;omega
   ·rw[h4];rfl
   ·omega
   unfold fW at q;omega
  obtain⟨g,cap,bl,_,c4,hq,hk,HK⟩:=tT G J (by decide)
  have q0:=hq 0 (by decide)
  have k0:=hk 0 (by decide)
  have Y:=HK 0 (by decide)
  have U:=lz I (j:=0) (by omega)
  have D:Hid (iM t=if(t.kid 0).k=19 then(t.kid 0).kid 0 else t):=by show iM t=_;unfold iM;rw[Qo A]
  rw[D.out];rw[A] at kk;clear D hq hk HK J I G A;by_cases z:(t.kid 0).k=19
  ·rw[Qo z];rw[z] at k0;cases d with
   |zero=>exact U.elim
   |succ d=>
    have J:(t.kid 0).kids.length=1:=by
     rcases U.1 with⟨q,_⟩|⟨_,_,h4⟩|⟨q,_⟩|⟨q,_⟩
     ·unfold dJ at q;omega
     ·rw[h4];rfl
     ·omega
     unfold fW at q;omega
    obtain⟨g2,ae,af,_,e4,aa,_,ab⟩:=tT Y J (by decide)
    have q2:=aa 0 (by decide)
    have HF:=Hi ((ab 0 (by decide)).up (e:=d+1+1) (by omega))
    clear Y ab aa J U z;go_enter func176,ntmps176;go_wp2;go_ret;exact⟨⟨_,rfl,HF.out⟩,V⟩
  rw[Qj z];have i2:(((t.kid 0).k)==19)=false:=by simp;omega
  clear Y U z;generalize (t.kid 0).k=k2 at*;go_enter func176,ntmps176;go_wp2;go_ret;exact⟨⟨_,rfl,HT.out⟩,V⟩
 have ac:(t.k==19)=false:=by simp;omega
 by_cases E:t.k=18
 ·have O:t.kids.length=2:=by
   rcases I.1 with⟨q,_⟩|⟨q,_⟩|⟨q,_⟩|⟨_,_,_,z⟩
   ·unfold dJ at q;omega
   ·omega
   ·omega
   rw[z];rfl
  have Z:=uz 21 20 O G;have D:Hid (iM t=jC t 21 20):=by show iM t=_;unfold iM;rw[Qj A,Qo E]
  rw[D.out];rw[E] at kk ac;clear D I G A E O;go_enter func176,ntmps176;go_wp2_with fail;apply Z.mono;rintro e w1 ⟨⟨b',rfl,q⟩,z⟩;have H1:=Hi (And.intro q z);clear Z q z;go_wp2;go_ret;exact⟨⟨_,rfl,H1.out.1⟩,H1.out.2⟩
 have ad:(t.k==18)=false:=by simp;omega
 by_cases R:t.k=17
 ·have O:t.kids.length=2:=by
   rcases I.1 with⟨q,_⟩|⟨q,_⟩|⟨q,_⟩|⟨_,_,_,z⟩
   ·unfold dJ at q;omega
   ·omega
   ·omega
   rw[z];rfl
  have Z:=uz 20 21 O G;have D:Hid (iM t=jC t 20 21):=by show iM t=_;unfold iM;rw[Qj A,Qj E,Qo R]
  rw[D.out];rw[R] at kk ac ad;clear D I G A E R O;go_enter func176,ntmps176;go_wp2_with fail;apply Z.mono;rintro e w1 ⟨⟨b',rfl,q⟩,z⟩;have H1:=Hi (And.intro q z);clear Z q z;go_wp2;go_ret;exact⟨⟨_,rfl,H1.out.1⟩,H1.out.2⟩
 have ag:(t.k==17)=false:=by simp;omega
 have D:Hid (iM t=t):=by show iM t=_;unfold iM;rw[Qj A,Qj E,Qj R]
 rw[D.out];clear D I G A E R;generalize t.k=k at*;go_enter func176,ntmps176;go_wp2;go_ret;exact⟨⟨_,rfl,HT.out⟩,V⟩
theorem EC (O:gU (d+1) t) (hk:t.k=14) (R:gB F (d+1) w b t):
 Calls prog 227 #[Pq b] w λe w'=>(∃U,e= .returned (Pq U)/\gB F (d+1) w U (pZ t))/\w'=w:=by
 have E:t.kids.length=3:=by
  rcases O.1 with⟨A,_⟩|⟨A,_⟩|⟨_,_,_,_,h2⟩|⟨A,_⟩
  ·unfold dJ at A;omega
  ·omega
  ·rw[h2];rfl
  unfold fW at A;omega
 have HT:=Hi R;obtain⟨pl,nm,u,bl,ac,G,V,D⟩:=R;obtain⟨a,cap,rfl,I⟩:=V;obtain⟨g,rfl,_,q0⟩:=I 0 (by omega)
 have J:∀j,j<3->Cq w g j (Pq (bl j)):=λj hj=>by
  obtain⟨g',e,_,c⟩:=I j (by omega)
  simp only[QE,RL,SC] at e;rw[e];exact c
 have c4:=G.c4;rw[E] at c4;have Y:=pH (D 0 (by omega))
 have Z:=Hi ((D 1 (by omega)).up (e:=d+1) (by omega))
 have aa:=Hi ((D 2 (by omega)).up (e:=d+1) (by omega))
 have HE:Hid (pZ t=if(t.kid 0).k=20 then t.kid 1 else if(t.kid 0).k=21 then t.kid 2 else t):=rfl;rw[HE.out];by_cases q:(t.kid 0).k=20
 ·rw[Qo q];rw[q] at Y;go_enter func227,ntmps227;go_wp2;go_ret;exact⟨⟨_,rfl,Z.out⟩,rfl⟩
 rw[Qj q];have ab:(((t.kid 0).k)==20)=false:=by simp;omega
 by_cases z:(t.kid 0).k=21
 ·rw[Qo z];rw[z] at Y;go_enter func227,ntmps227;go_wp2;go_ret;exact⟨⟨_,rfl,aa.out⟩,rfl⟩
 rw[Qj z];have ad:(((t.kid 0).k)==21)=false:=by simp;omega
 generalize (t.kid 0).k=kk at*;go_enter func227,ntmps227;go_wp2;go_ret;exact⟨⟨_,rfl,HT.out⟩,rfl⟩
structure sK (F) (w:World) (rp) (n) (lv) (bl) (D) (lets:List Tr):Prop where
 c0:w.cell? ⟨rp,0,none⟩=some (Iq n)
 c1:w.cell? ⟨rp,1,none⟩=some lv
 un:Ac (λ_=>False) w lv lets.length bl
 tr:∀j,j<lets.length->gB F D w (bl j) (lets.getD j fQ)
theorem sK.below {F w w' z n lv G D lets} (h:sK F w z n lv G D lets) (E:Bl w w'):sK F w' z n lv G D lets:=
 ⟨by rw[E.cell (Qk w _ h.c0)];exact h.c0,by rw[E.cell (Qk w _ h.c1)];exact h.c1,h.un.below E,λj I=>(h.tr j I).below E⟩
theorem Lq (h:gB F d w b t) (D:t.kids=[]):gB F (e+1) w b t:=by
 cases d with
 |zero=>exact h.elim
 |succ d=>
  obtain⟨pl,nm,u,E,G,I,J,_⟩:=h;exact⟨pl,nm,u,E,G,I,J,λj z=>by rw[D] at z;simp at z⟩
theorem tU (h:gB F d w b t):∃a cap,Cq w b 4 (.slice a t.kids.length cap):=by
 cases d with
 |zero=>exact h.elim
 |succ d=>
  obtain⟨pl,nm,u,D,_,z,⟨a,cap,rfl,_⟩,_⟩:=h;exact⟨a,cap,z.c4⟩
theorem ED (Y:sK F w O n lv E D lets) (hT:gB F (d+1) w b t) (h2:t.k=2->0<=t.l/\t.l.toNat<lets.length) (ag:lets.length<=1000):
 Calls prog 174 #[Pq O,Pq b] w λe w'=>(∃b',e= .returned (Pq b')/\gB F (d+1) w' b' (oi lets t))/\Bl w w':=by
 have HT:Hid (gB F (d+1) w b t):=hT;have kk:=pH hT;have HD:Hid (Bl w w.drew):=(Qq _ _).drew;have aa:Hid (Bl w w.drew.drew):=(Qq _ _).drew.drew;have HE:Hid (oi lets t=if t.k=2/\(lets.getD t.l.toNat fQ).kids=[] then lets.getD t.l.toNat fQ else t):=rfl;rw[HE.out];by_cases I:t.k=2
 ·obtain⟨ae,ab⟩:=h2 I;obtain⟨_,_,_,_,_,ac,_,_⟩:=hT;have c5:=ac.c5;have e:t.l=t.l.toNat:=by omega
  have c1:=Y.c1;obtain⟨a,cap,ad,hq⟩:=Y.un;obtain⟨g,rfl,_,q⟩:=hq t.l.toNat ab;rw[ad] at c1;have Z:=Y.tr t.l.toNat ab;obtain⟨a2,G,u2⟩:=tU Z;have HL:Hid (∀e,(lets.getD t.l.toNat fQ).kids=[]->gB F (e+1) w (E t.l.toNat) (lets.getD t.l.toNat fQ)):=λe I=>Lq Z I
  generalize lets.getD t.l.toNat fQ=R at*;generalize t.l.toNat=z at*;rw[I] at kk;rw[e] at c5;have ah:0<=z/\z<lets.length:=by omega
  have J:Cq w b 0 (Iq 2)/\Cq w O 1 (Sq g lets.length cap)/\Cq w b 5 (Iq z)/\Cq w g z (Pq (E z))/\Cq w (E z) 4 (.slice a2 R.kids.length G):=⟨kk,c1,c5,q,u2⟩;have V:=J;by_cases U:R.kids=[]
  ·rw[Qo ⟨I,U⟩];have af:=Hi (HL.out d U);have hz:R.kids.length=0:=by rw[U];rfl
   rw[hz] at J V;go_enter func174,ntmps174;go_wp2;go_region_held3 (λW=>Cq W b 0 (Iq 2)/\Cq W O 1 (Sq g lets.length cap)/\Cq W b 5 (Iq z)/\Cq W g z (Pq (E z))/\Cq W (E z) 4 (.slice a2 0 G)) (first|assumption|exact J|exact V|go_keep) (fail)
   all_goals
    go_wp2;go_region_held3 (λW=>Cq W b 0 (Iq 2)/\Cq W O 1 (Sq g lets.length cap)/\Cq W b 5 (Iq z)/\Cq W g z (Pq (E z))/\Cq W (E z) 4 (.slice a2 0 G)) (first|assumption|exact J|exact V|go_keep) (fail)
    all_goals
     go_wp2;go_ret;exact⟨⟨_,rfl,gB.below af.out aa.out⟩,aa.out⟩
  rw[Qj (λh=>U h.2)]
  have i0:(R.kids.length==0)=false:=by
   have:R.kids.length≠0:=λe=>U (Rc e)
   simp;omega
  generalize R.kids.length=tn at*;go_enter func174,ntmps174;go_wp2;go_region_held3 (λW=>Cq W b 0 (Iq 2)/\Cq W O 1 (Sq g lets.length cap)/\Cq W b 5 (Iq (z:Nat))/\Cq W g z (Pq (E z))/\Cq W (E z) 4 (.slice a2 tn G)) (first|assumption|exact J|exact V|go_keep) (fail)
  all_goals
   go_wp2;go_ret;exact⟨⟨_,rfl,gB.below HT.out HD.out⟩,HD.out⟩
 rw[Qj (λh=>I h.1)]
 have i2:((t.k:Int)==2)=false:=by simp;omega
 generalize t.k=k at*;go_enter func174,ntmps174;go_wp2;go_region
 all_goals
  go_wp2;go_ret;exact⟨⟨_,rfl,gB.below HT.out HD.out⟩,HD.out⟩
theorem sL (w:World) (I: ¬F w.heap.size) (k:Nat) (n):gB F (e+1) (w.alloc (.cells #[Iq k,Iq 0,Iq n,.string ⟨#[]⟩,.slice none 0 0,Iq 0] 229)) w.heap.size ⟨k,n,0,[]⟩:=by
 have J:=Qp w (.cells #[Iq k,Iq 0,Iq n,.string ⟨#[]⟩,.slice none 0 0,Iq 0] 229);have z:=λj=>Qm _ _ j _ _ _ J
 exact⟨0,[],.slice none 0 0,λ_=>0,I,⟨z 0,z 1,z 2,z 3,z 4,z 5⟩,⟨none,0,rfl,λj D=>by simp at D⟩,λj D=>by simp at D⟩
theorem Lr {lt} (hF:∀g,F g->g<w.heap.size) (hw:gU (d+1) t) (R:gB F (d+1) w b t) (V:cR lt (d+1) t≠0):
 Calls prog 175 #[Pq b] w λe w'=>(∃b',e= .returned (Pq b')/\gB F (d+1) w' b' (mx (d+1) t))/\Bl w w':=by
 have HT:Hid (gB F (d+1) w b t):=R;have I:=pH R;have ac:Bl w w:=Qq _ _;by_cases J:t.k=14
 ·have G:=EC hw J R;have Y:Hid (mx (d+1) t=pZ t):=by show mx (d+1) t=_;unfold mx;rw[Qo J]
  rw[Y.out];rw[J] at I;go_enter func175,ntmps175;go_wp2_with fail;apply G.mono;rintro e E ⟨⟨b',rfl,U⟩,h2⟩;have h3:=h2.symm;subst h3;have H1:=Hi U;go_wp2_with fail;go_ret;exact⟨⟨_,rfl,H1.out⟩,ac⟩
 have ad:((t.k:Int)==14)=false:=by simp;omega
 have G:=IF hw R.tr V;obtain⟨a,cap,c4⟩:=tU R;have Y:Hid (mx (d+1) t=if fE (d+1) t=true\/t.kids=[] then t else if t.k=6\/t.k=7 then⟨1,fT [] jH (d+1) t,0,[]⟩ else if fT [] jH (d+1) t=1 then⟨20,0,0,[]⟩ else⟨21,0,0,[]⟩):=by show mx (d+1) t=_;unfold mx;rw[Qj J]
 rw[Y.out];have O:(t.kids=[]↔t.kids.length=0):=⟨λe=>by rw[e];rfl,λe=>Rc e⟩
 by_cases Z:fE (d+1) t=true
 ·rw[Qo (Or.inl Z)];rw[Qo Z] at G;generalize t.kids.length=nk at*;generalize t.k=k at*;go_enter func175,ntmps175;go_wp2_with fail;apply G.mono;rintro e E ⟨rfl,z⟩;have D:=Hi z;go_wp2_with fail;go_ret;exact⟨⟨_,rfl,gB.below HT.out D.out⟩,D.out⟩
 rw[Qj Z] at G;by_cases h0:t.kids=[]
 ·rw[Qo (Or.inr h0)];have hz:=O.1 h0;rw[hz] at c4;generalize fT [] jH (d+1) t=ev at*;generalize t.k=k at*;go_enter func175,ntmps175;go_wp2_with fail;apply G.mono;rintro e E ⟨rfl,z⟩;have aa:E.cell? ⟨b,4,none⟩=some (.slice a 0 cap):=by rw[z.cell (p:=⟨b,4,none⟩) (Qk w _ c4)];exact c4
  have D:=Hi z;go_wp2_with fail;go_ret;exact⟨⟨_,rfl,gB.below HT.out D.out⟩,D.out⟩
 rw[Qj (λh=>h.elim Z h0)]
 have i0:((t.kids.length:Int)==0)=false:=by
  have:t.kids.length≠0:=λe=>h0 (O.2 e)
  simp;omega
 generalize t.kids.length=nk at*;generalize fT [] jH (d+1) t=ev at*;generalize t.k=k at*;by_cases h6:k=6\/k=7
 ·rw[Qo h6];rcases h6 with rfl|rfl
  ·go_enter func175,ntmps175;go_wp2_with fail;apply G.mono;rintro e E ⟨rfl,z⟩;have aa:E.cell? ⟨b,4,none⟩=some (.slice a nk cap):=by rw[z.cell (p:=⟨b,4,none⟩) (Qk w _ c4)];exact c4
   have ab:E.cell? ⟨b,0,none⟩=some (Iq ((6:Nat):Int)):=by rw[z.cell (p:=⟨b,0,none⟩) (Qk w _ I)];exact I
   have D:=Hi z;go_wp2_with fail;go_ret;exact⟨⟨_,rfl,sL E (λx=>by have:=hF _ x;have:=D.out.size;omega) 1 ev⟩,D.out.alloc D.out.size _⟩
  go_enter func175,ntmps175;go_wp2_with fail;apply G.mono;rintro e E ⟨rfl,z⟩;have aa:E.cell? ⟨b,4,none⟩=some (.slice a nk cap):=by rw[z.cell (p:=⟨b,4,none⟩) (Qk w _ c4)];exact c4
  have ab:E.cell? ⟨b,0,none⟩=some (Iq ((7:Nat):Int)):=by rw[z.cell (p:=⟨b,0,none⟩) (Qk w _ I)];exact I
  have D:=Hi z;go_wp2_with fail;go_ret;exact⟨⟨_,rfl,sL E (λx=>by have:=hF _ x;have:=D.out.size;omega) 1 ev⟩,D.out.alloc D.out.size _⟩
 rw[Qj h6];have i6:((k:Int)==6)=false:=by simp;omega
 have i7:((k:Int)==7)=false:=by simp;omega
 by_cases U:ev=1
 ·rw[Qo U];go_enter func175,ntmps175;go_wp2_with fail;apply G.mono;rintro e E ⟨rfl,z⟩;have aa:E.cell? ⟨b,4,none⟩=some (.slice a nk cap):=by rw[z.cell (p:=⟨b,4,none⟩) (Qk w _ c4)];exact c4
  have ab:E.cell? ⟨b,0,none⟩=some (Iq k):=by rw[z.cell (p:=⟨b,0,none⟩) (Qk w _ I)];exact I
  have D:=Hi z;go_wp2_with fail;go_ret;exact⟨⟨_,rfl,sL E (λx=>by have:=hF _ x;have:=D.out.size;omega) 20 0⟩,D.out.alloc D.out.size _⟩
 rw[Qj U];have ie:(ev==1)=false:=by simpa using U
 go_enter func175,ntmps175;go_wp2_with fail;apply G.mono;rintro e E ⟨rfl,z⟩;have aa:E.cell? ⟨b,4,none⟩=some (.slice a nk cap):=by rw[z.cell (p:=⟨b,4,none⟩) (Qk w _ c4)];exact c4
 have ab:E.cell? ⟨b,0,none⟩=some (Iq k):=by rw[z.cell (p:=⟨b,0,none⟩) (Qk w _ I)];exact I
 have D:=Hi z;go_wp2_with fail;go_ret;exact⟨⟨_,rfl,sL E (λx=>by have:=hF _ x;have:=D.out.size;omega) 21 0⟩,D.out.alloc D.out.size _⟩
theorem nT {w:World} (h:w.ownsRow base e size v n xs):∃a cap,v= .slice a n cap:=by
 obtain⟨_,h⟩:=h;rcases h with⟨rfl,z⟩|⟨g,cap,D,rfl,_⟩
 ·exact⟨none,0,by rw[z]⟩
 exact⟨_,_,rfl⟩
theorem sK.more {F G w z n lv E D lets} (h:sK F w z n lv E D lets) (I:∀g,g<w.heap.size->G g->F g):sK G w z n lv E D lets:=
 ⟨h.c0,h.c1,h.un,λj J=>(h.tr j J).more I⟩
theorem sK.lt (h:sK F w z n lv E D lets):z<w.heap.size:=Qk w _ h.c0
def M0 (n:Int) (lets:List Tr) (lt:List Nat) (D d:Nat):Prop:= ∀{F:Nat->Prop} {t:Tr} {w:World} {G b:Nat} {lv:Value} {R:Nat->Nat},(∀g,F g->g<w.heap.size)->sK F w G n lv R D lets->gU d t->cR lt d t≠0->gB F d w b t->
 Calls prog 128 #[Pq G,Pq b] w λe w'=>(∃I,e= .returned (Pq I)/\gB F d w' I (kF (cP n) lets d t))/\Below w.heap.size w w'
def jM (z:List Nat):List Value:=z.map λb=> Pq b
structure ON (F:Nat->Prop) (n) (lets) (d) (ks:List Tr) (w wr:World) (v) (bs:List Nat) (k):Prop where
 len:bs.length=k
 row:wr.ownsRow w.heap.size 161 1 v k (jM bs)
 bel:Below w.heap.size w wr
 tr:∀j,j<k->gB (λg=>F g\/v.ownBlock=some g) d wr (bs.getD j 0) (kF (cP n) lets d (ks.getD j fQ))
theorem yU:(prog.info? 161).map (λi=>(i.zero,i.size,i.bytes))=some (some (.pointer none),1,8):=by kernel_rfl
theorem ON.next {cap} (h:ON F n lets d ks w wr v G k) (U:Bl wr D) (ht:gB (λg=>F g\/v.ownBlock=some g) d D I (kF (cP n) lets d (ks.getD k fQ)))
 (J:E.ownsRow w.heap.size 161 1 (Sq gg (k+1) cap) (k+1) (jM G++[Pq I])) (O:(D.alloc o).grownBy E v.ownBlock) (Z:v.ownBlock=some gg\/gg=D.heap.size+1):ON F n lets d ks w E (Sq gg (k+1) cap) (G++[I]) (k+1):=by
 have V:=h.bel.trans (U.mono h.bel.size);have ho:=((cI.refl (λg=>v.ownBlock=some g) D).alloc _).grown O (λk hk=> .inl hk)
 have step:∀{b} {t},gB (λg=>F g\/v.ownBlock=some g) d D b t->gB (λg=>F g\/(Value.slice (some ⟨gg,0,none⟩) (k+1) cap).ownBlock=some g) d E b t:=λ{b t} z=>by
  have h1:gB (λg=>(F g\/v.ownBlock=some g)\/g=gg) d D b t:=z.more (λg hg z=>by
   rcases z with z|z
   ·exact z
   subst z;rcases Z with R|R
   ·exact .inr R
   omega)
  have R:=h1.only (ho.weak (λi _ hi=> .inl (.inr hi)))
  refine R.more (λg _ z=>?_)
  rcases z with z|z
  ·exact .inl (.inl z)
  simp[Value.ownBlock] at z;exact .inr z.symm
 refine⟨by rw[Qt,h.len];rfl,?_,?_,λj hj=>?_⟩
 ·unfold jM at J⊢;rw[QU];exact J
 ·exact V.trans (ho.below V.size (λg _ hg=>(h.row.lt g hg).1))
 by_cases Y:j<k
 ·have e:(G++[I]).getD j 0=G.getD j 0:=by
   rw[Qi,QT (by rw[h.len];exact Y),<-Qi]
  rw[e];exact step ((h.tr j Y).below U)
 obtain rfl:j=k:=by omega
 have e:(G++[I]).getD j 0=I:=by
  rw[Qi,QQ (by rw[h.len];exact Qn _),h.len];simp
 rw[e];exact step ht
theorem xX {lt} (H:M0 n lets lt D d) {ks:List Tr} (hF:∀g,F g->g<w.heap.size) (hR:sK F w rp n lv bl D lets) (hu:Ac F w u ks.length kb) (hk:∀j,j<ks.length->gU d (ks.getD j fQ)/\cR lt d (ks.getD j fQ)≠0/\gB F d w (kb j) (ks.getD j fQ)) (hl:ks.length<=3):
 Calls prog 173 #[.pointer (some ⟨rp,0,none⟩),u] w λe w'=>(∃v G,e= .returned v/\Ac F w' v ks.length G/\ ∀j,j<ks.length->gB F d w' (G j) (kF (cP n) lets d (ks.getD j fQ)))/\Bl w w':=by
 obtain⟨a,cap,rfl,hq⟩:=hu;have HQ:=Hi hq;have HK:=Hi hk;have HR:=Hi hR;have HF:=Hi hF;have H0:Hid (ON F n lets d ks w w (.slice none 0 0) [] 0):=⟨rfl,QX _ _ _ _,Qq _ _,λj Z=>by omega⟩
 obtain⟨i0,hi,hz⟩:=QP.1 yU;simp only[QS] at hz;obtain⟨ah,ai,aj⟩:=hz;go_enter func173,ntmps173;go_wp2;go_loopw [5,10] (λvv iv wr=> ∃k I,k<=ks.length/\iv= .int .i64 k/\Hid (ON F n lets d ks w wr vv I k)) (λ_ iv _=>ks.length - (intOf iv).toNat)
 case atStart=>exact⟨0,[],QA _,rfl,H0.out⟩
 case round=>
  obtain⟨k,I,aq,rfl,HX⟩:=hrel;by_cases aa:k<ks.length
  ·have z:=HX.out;obtain⟨g,rfl,ak,q⟩:=HQ.out k aa;obtain⟨h1,h2,h3⟩:=HK.out k aa;have am:=Qk w _ q;have q':wr.cell? ⟨g,k,none⟩=some (.pointer (some ⟨kb k,0,none⟩)):=by rw[z.bel.cell (p:=⟨g,k,none⟩) am];exact q
   have ar:0<=k/\k<ks.length:=by omega
   have Y:∀v,wr.ownsRow w.heap.size 161 1 v k (jM I)-> ∀g,g<w.heap.size->(F g\/v.ownBlock=some g)->F g:=λv hv g hg E=>by
    rcases E with E|E
    ·exact E
    have:=(hv.lt g E).1;omega
   have W1:=H (λg E=>by
    rcases E with E|E
    ·have:=HF.out g E;have:=z.bel.size;omega
    exact(z.row.lt g E).2) ((HR.out.more (Y _ z.row)).below z.bel) h1 h2 ((h3.more (Y _ z.row)).below z.bel)
   obtain⟨va,J,V⟩:=nT z.row;obtain rfl:=V;have ae:=Hi z.row;have ab:=Hi z;go_wp2_with fail;apply W1.mono;rintro e w1 ⟨⟨b',rfl,ac⟩,O⟩;have an:=Hi ac;have ao:=Hi O;have ap:Hid (w1.ownsRow w.heap.size 161 1 (.slice va k J) k (jM I)):=cD ae.out O;have au:w.heap.size<=w1.heap.size:=by have:=ab.out.bel.size;have:=O.size;omega
   go_wp2_with (at_builtin;go_must (refine wpList_append_lies _ (by rfl) _ _ 227 (by rfl) w.heap.size 161 i0 (.pointer none) 1 8 underlying227 hi ah ai aj (by rfl) (by decide) _ _ _ (by rfl) (ap.out.alloc _) ⟨w1.heap.size,0,none⟩ 1 1 [.pointer (some ⟨b',0,none⟩)] (by rfl) (by rfl) (World.news_of_block (Qp w1 _)) (λx E=>by simp at E;rcases E with rfl;rfl) (by decide) (by unfold maxLen;omega) (by omega) (by simp;omega) _ rfl ?_);intro gg af w5 R U ad ag;have HN:Hid (ON F n lets d ks w w5 (Sq gg (k+1) af) (I++[b']) (k+1)):=ab.out.next ao.out an.out R U (by rcases ad with h|h;exact .inl h;right;rw[h,Qw]);clear R U ad ag)
   go_roundw
   case rel=>exact⟨k+1,_,by omega,by go_num,HN.out⟩
   case measure=>simp[intOf];omega
  obtain rfl:k=ks.length:=by omega
  have z:=HX.out;have HU:Hid (∃G,Ac F wr u5 ks.length G/\ ∀j,j<ks.length->gB F d wr (G j) (kF (cP n) lets d (ks.getD j fQ))):=by
   refine⟨λj=>I.getD j 0,?_,λj Z=>(z.tr j Z).more (λg _ E=> .inl E)⟩
   obtain⟨va,J,V⟩:=nT z.row;subst V;refine⟨va,J,rfl,λj Z=>?_⟩
   obtain⟨g,c2,V,av,_⟩:=World.ownsRow.form z.row (by omega)
   simp only[QK,R8] at V;obtain⟨rfl,rfl⟩:=V;refine⟨g,rfl,λE=>by have:=HF.out g E;omega,?_⟩
   rw[Rs z.row j (by omega)]
   unfold jM;show(I.map λb=>(Value.pointer (some ⟨b,0,none⟩)))[j]?=some (Value.pointer (some ⟨I.getD j 0,0,none⟩))
   rw[QN,Qi,Ql (by rw[z.len];exact Z)]
   rfl
  have HB:=Hi z.bel;go_wp2;go_ret;obtain⟨G,u1,u2⟩:=HU.out;exact⟨⟨_,G,rfl,u1,u2⟩,HB.out⟩
structure Ov (n) (lets) (lt lt') (lv lv' fl):Prop where
 ok:vS (cP n) lets lt lt' lv lv' fl
 hV:lH lt' lv'
 hF:dL fl
 own:∀i,lt.getD i 0≠0->i<lets.length
 few:lets.length<=1000
theorem Ls {nm:LB} (O: ¬F w.heap.size) (R:Ac F w u q.length E) (U:∀j,j<q.length->gB F d w (E j) (q.getD j fQ)):
 gB F (d+1) (w.alloc (.cells #[Iq (k:Nat),Iq pl,Iq n,S nm,u,Iq l] 229)) w.heap.size ⟨k,n,l,q⟩:=by
 have V:=Qp w (.cells #[Iq k,Iq pl,Iq n,S nm,u,Iq l] 229);have D:Bl w (w.alloc (.cells #[Iq k,Iq pl,Iq n,S nm,u,Iq l] 229)):=(Qq _ _).alloc (Qn _) _;have z:=λj=>Qm _ _ j _ _ _ V
 exact⟨pl,nm,u,E,O,⟨z 0,z 1,z 2,z 3,z 4,z 5⟩,R.below D,λj Y=>(U j Y).below D⟩
theorem Ai {lt} (O:Ov n lets lt lt' aQ aM fl) (H:M0 n lets lt D d):M0 n lets lt D (d+1):=by
 intro F t w rp b lv bl hF hR U q hT;have aR:Hid (gB F (d+1) w b t):=hT;obtain⟨pl,nm,u,kb,aS,au,av,HK⟩:=hT;have aw:t.kids.length<=3:=by
  rcases U.1 with⟨_,A,_⟩|⟨_,_,A⟩|⟨_,_,_,_,A⟩|⟨_,_,_,A⟩<;>rw[A]<;>simp
 have ax:=oq U q;have Y:∀j,j<t.kids.length->t.kids.getD j fQ∈t.kids:=λj R=>by rw[Qi,Ql R];exact QD _
 have W1:=λ(W:World) (hb:Bl w W)=>xX H (ks:=t.kids) (u:=u) (kb:=kb) (λg hg=>by have:=hF g hg;have:=hb.size;omega) (hR.below hb) (av.below hb) (λj R=>⟨U.2 _ (Y j R),ax _ (Y j R),(HK j R).below hb⟩) aw
 have af:=yE O.ok O.hV O.hF U q;have ay:=GP O.ok O.hV O.hF U q;have aa:(Kl (cP n) lets d t).k=2->0<=(Kl (cP n) lets d t).l/\(Kl (cP n) lets d t).l.toNat<lets.length:=λhk=>by
  have az:t.k=2:=hk;have hs:=oj U (by unfold dJ;omega)
  have aT:0<=t.l:=by
   rcases U.1 with⟨_,_,_,h4⟩|⟨G,_⟩|⟨G,_⟩|⟨G,_⟩
   ·exact h4 az
   ·omega
   ·omega
   unfold fW at G;omega
  refine⟨aT,O.own _ ?_⟩;rw[cR,Qo hs] at q;unfold dY at q;rwa [Qj (by omega),Qo az] at q
 have HP:Hid (∀W u' I,Bl w W->Ac F W u' t.kids.length I->(∀j,j<t.kids.length->gB F d W (I j) (kF (cP n) lets d (t.kids.getD j fQ)))->gB F (d+1) (W.alloc (.cells #[Iq t.k,Iq pl,Iq t.n,S nm,u',Iq t.l] 229)) W.heap.size (Kl (cP n) lets d t)):=λW u' I hb G A=>by
  refine Ls (λhx=>by have:=hF _ hx;have:=hb.size;omega) (by rw[Ro];exact G) (λj R=>?_)
  rw[Ro] at R;have e:(t.kids.map (kF (cP n) lets d)).getD j fQ=kF (cP n) lets d (t.kids.getD j fQ):=by
   simp[Qi,QN,Ql R]
  rw[e];exact A j R
 have aA:Hid ((iT n 4=false->kF (cP n) lets (d+1) t=Nq (cP n) lets d t)/\(iT n 4=true->kF (cP n) lets (d+1) t=iM (Nq (cP n) lets d t))):=⟨λh=>Qj (by simp[h,cP]),λh=>Qo h⟩
 have ag:Hid ((iT n 2=false->Nq (cP n) lets d t=Km (cP n) lets d t)/\(iT n 2=true->Nq (cP n) lets d t=mx (d+1) (Km (cP n) lets d t))):=⟨λh=>Qj (by simp[h,cP]),λh=>Qo h⟩
 have ah:Hid ((iT n 1=false->Km (cP n) lets d t=Kl (cP n) lets d t)/\(iT n 1=true->Km (cP n) lets d t=oi lets (Kl (cP n) lets d t))):=⟨λh=>Qj (by simp[h,cP]),λh=>Qo h⟩
 have ai:Hid (gU (d+1) (Km (cP n) lets d t)/\cR lt' (d+1) (Km (cP n) lets d t)≠0):=⟨af.wf,by rw[af.ty];exact q⟩
 have aN:Hid (gU (d+1) (Nq (cP n) lets d t)):=ay.wf;have aO:=Hi aa;have HR:=Hi hR;have aU:=Hi hF;have aP:=Hi O.few;have E:b<w.heap.size:=Qk w _ au.c0;obtain⟨c0,c1,c2,c3,c4,c5⟩:=au;have E0:∀W,Below w.heap.size w W->W.cell? ⟨b,0,none⟩=some (Iq t.k):=λW h=>by rw[h.cell (p:=⟨b,0,none⟩) E];exact c0
 have E1:∀W,Bl w W->W.cell? ⟨b,1,none⟩=some (Iq pl):=λW h=>by rw[h.cell E];exact c1
 have E2:∀W,Bl w W->W.cell? ⟨b,2,none⟩=some (Iq t.n):=λW h=>by rw[h.cell E];exact c2
 have E3:∀W,Bl w W->W.cell? ⟨b,3,none⟩=some (S nm):=λW h=>by rw[h.cell E];exact c3
 have E4:∀W,Bl w W->W.cell? ⟨b,4,none⟩=some u:=λW h=>by rw[h.cell E];exact c4
 have E5:∀W,Bl w W->W.cell? ⟨b,5,none⟩=some (Iq t.l):=λW h=>by rw[h.cell E];exact c5
 have aj:Bl w w:=Qq _ _;have KD:Hid (∀W,Bl w W->Bl w W.drew):=λW h=>h.drew
 have KA:Hid (∀W o,Bl w W->Bl w (W.alloc o)):=λW o h=>h.alloc h.size _
 have KB:Hid (∀W W',Bl w W->Bl W W'->Bl w W'):=λW W' h h'=>h.trans (h'.mono h.size)
 generalize t.kids=ks at*;go_enter func128,ntmps128;go_wp2_with fail;go_region_held3 (λW=>Bl w W) (first|assumption|exact KB.out _ _ (by assumption) ak|exact KD.out _ aj|exact KD.out _ (by assumption)|exact KA.out _ _ (by assumption)|exact KD.out _ (KA.out _ _ (by assumption))|go_keep)
  (first
   |(go_at_call 173;refine(W1 _ (by assumption)).mono ?_;rintro e w1 ⟨⟨u',I,rfl,aV,aB⟩,ak⟩;obtain⟨ua,Z,rfl,aC⟩:=aV;have aD:Hid (Ac F w1 (.slice ua ks.length Z) ks.length I):=⟨ua,Z,rfl,aC⟩;have aE:Hid _:=aB;clear aC aB))
 all_goals
  rename_i hHeld;have T0:=HP.out w1 _ I (KB.out _ _ (KD.out _ aj) ak) aD.out aE.out;have am:=HR.out.below hHeld;have aF:Bl w _:=hHeld;generalize w1.alloc (.cells #[Iq t.k,Iq pl,Iq t.n,S nm,.slice ua ks.length Z,Iq t.l] 229)=w2 at*;generalize w1.heap.size=b2 at*;have an:Hid (gB F (d+1) w2 b2 (Kl (cP n) lets d t)):=T0;have ab:Hid (sK F w2 rp n lv bl D lets):=am;have ac:Hid (Bl w w2):=aF;have D1:=pI 1 am.c0;generalize Kl (cP n) lets d t=t0 at*;generalize aW:Km (cP n) lets d t=t1 at*;generalize aX:Nq (cP n) lets d t=t2 at*;cases G:iT n 1
  all_goals
   rw[G] at D1;go_wp2_with fail;apply D1.mono;rintro e w' ⟨rfl,z⟩;obtain rfl:=z.symm
   first
   |have ad:Hid _:=ah.out.1 G▸an.out
    have J:=Hi ac.out;have V:=Hi ab.out
   |have V1:=ED ab.out an.out aO.out aP.out
    go_wp2_with fail;apply V1.mono;rintro e w3 ⟨⟨b3,rfl,aG⟩,ao⟩;have ad:=Hi (ah.out.2 G▸aG);have J:=Hi (ac.out.trans (ao.mono ac.out.size));have V:=Hi (ab.out.below ao)
   have D2:=pI 2 V.out.c0;cases A:iT n 2
  all_goals
   rw[A] at D2;go_wp2_with fail;apply D2.mono;rintro e w' ⟨rfl,z⟩;obtain rfl:=z.symm
   first
   |have ap:Hid _:=ag.out.1 A▸ad.out
    have ae:=Hi J.out;have aq:=Hi V.out
   |have V2:=Lr (λg hg=>by have:=aU.out g hg;have:=J.out.size;omega) ai.out.1 ad.out ai.out.2
    go_wp2_with fail;apply V2.mono;rintro e w4 ⟨⟨b4,rfl,aH⟩,ar⟩;have ap:=Hi (ag.out.2 A▸aH);have ae:=Hi (J.out.trans (ar.mono J.out.size));have aq:=Hi (V.out.below ar)
   have D3:=pI 4 aq.out.c0;cases h4:iT n 4
  all_goals
   rw[h4] at D3;go_wp2_with fail;apply D3.mono;rintro e w' ⟨rfl,z⟩;obtain rfl:=z.symm
   first
   |have aI:Hid _:=aA.out.1 h4▸ap.out
    have aJ:=Hi ae.out
   |have V3:=IG aN.out ap.out
    go_wp2_with fail;apply V3.mono;rintro e w5 ⟨⟨b5,rfl,aK⟩,aL⟩;have aI:=Hi (aA.out.2 h4▸aK);have aJ:=Hi (ae.out.trans (aL.mono ae.out.size))
   go_wp2_with fail;go_ret;exact⟨⟨_,rfl,aI.out⟩,aJ.out⟩
theorem Lt {lt} (A:Ov n lets lt lt' z q fl) (D d:Nat):M0 n lets lt D d:=by
 induction d with
 |zero=>intro F t w E b lv G _ _ h;exact h.elim
 |succ d ih=>exact Ai A ih
theorem uA {d D kd wh:Nat} (o1:a1.oneCell'=true) (o2:a2.oneCell'=true) (o3:a3.oneCell'=true) (o4:a4.oneCell'=true) (o5:a5.oneCell'=true) (o6:a6.oneCell'=true) (o7:a7.oneCell'=true)
 (hR:sK F w Z n lv bl D lets) (hT:gB F d w b t):
 Calls prog 129 #[Pq Z,.agg #[Iq kd,a1,a2,a3,a4,a5,a6,a7,Iq wh,Pq b]] w λe w'=>e= .returned (.bool (iT n 1&&(decide (kd=11)&&decide (t.kids=[]))))/\Below w.heap.size w w':=by
 have z:Below w.heap.size w (w.alloc (.cells #[Iq kd,a1,a2,a3,a4,a5,a6,a7,Iq wh,Pq b] 163)):=(Qq _ _).alloc (Qn _) _;have G:(w.alloc (.cells #[Iq kd,a1,a2,a3,a4,a5,a6,a7,Iq wh,Pq b] 163)).heap[w.heap.size]?=some (.cells #[Iq kd,a1,a2,a3,a4,a5,a6,a7,Iq wh,Pq b] 163 (0,0)):=Qp w _;have R:=hT.below z;have U:=hR.below z;generalize V:w.alloc (.cells #[Iq kd,a1,a2,a3,a4,a5,a6,a7,Iq wh,Pq b] 163)=I at*;have J:=Hi V;have c0:=Qm I _ 0 _ _ _ G;have c9:=Qm I _ 9 _ _ _ G;obtain⟨ua,aa,c4⟩:=tU R;have E:=pI 1 U.c0;have O:=Hi z;have e0:decide (t.kids=[])=((t.kids.length:Int)==0):=by
  cases t.kids with
  |nil=>rfl
  |cons x r=>simp;omega
 have e1:decide (kd=11)=((kd:Int)==11):=by
  by_cases h:kd=11
  ·subst h;rfl
  ·rw[QM h];symm;simp;omega
 rw[e0,e1];have KD:Hid (∀W:World,Below w.heap.size w W->Below w.heap.size w W.drew):=λW h=>h.drew
 clear V G R U hT hR z e0 e1;generalize t.kids.length=tn at*
 cases Y:iT n 1
 ·rw[Y] at E
  go_enter func129,ntmps129;go_wp2_with fail;rw[J.out];apply E.mono;rintro e w' ⟨rfl,rfl⟩;go_wp2;go_ret;exact⟨rfl,O.out⟩
 ·rw[Y] at E
  cases ab:((kd:Int)==11)
  ·go_enter func129,ntmps129
   go_wp2_with fail;rw[J.out];apply E.mono;rintro e w' ⟨rfl,rfl⟩;go_wp2;go_ret;exact⟨rfl,O.out⟩
  ·cases h0:((tn:Int)==0)
   ·go_enter func129,ntmps129
    go_wp2_with fail;rw[J.out];apply E.mono;rintro e w' ⟨rfl,rfl⟩;go_wp2;go_ret;exact⟨rfl,O.out⟩
   ·go_enter func129,ntmps129
    go_wp2_with fail;rw[J.out];apply E.mono;rintro e w' ⟨rfl,rfl⟩;go_wp2;go_ret;exact⟨rfl,O.out⟩
def sM (w:World) (D:Nat) (nm:List Bool):Prop:=nm.length=10/\ ∀j,j<10->w.cell? ⟨D,j,none⟩=some (.bool (nm.getD j false))/\w.frozen? ⟨D,j,none⟩=false
theorem sM.put (h:sM w z nm) (D:i<10):sM (w.setCell ⟨z,i,none⟩ (.bool true)) z (nm.set i true):=by
 refine⟨by rw[Rx];exact h.1,λj E=>?_⟩
 refine⟨?_,by rw[World.frozen?_setCell];exact(h.2 j E).2⟩
 by_cases e:i=j
 ·subst e;rw[cQ (by rw[h.1];exact D)]
  exact World.cell?_setCell_same _ _ _ (h.2 i D).1
 rw[getD_set_ne e,R5 _ _ _ _ (by intro q;injection q;omega)]
 exact(h.2 j E).1
theorem sM.drew (h:sM w z nm):sM w.drew z nm:=h
def Ow (lt:List Nat) (d:Nat):Prop:= ∀{t:Tr} {w:World} {b z:Nat} {nm:List Bool},gU d t->cR lt d t≠0->gB (λg=>g=z) d w b t->sM w z nm->
 Calls prog 177 #[Pq b,Pq z] w λe w'=>e= .returned (.tuple #[])/\cI (λg=>g=z) w w'/\sM w' z (iY d t nm)
structure Pv (d np) (ks:List Tr) (nm) (w wr) (k):Prop where
 only:cI (λg=>g=np) w wr
 at_:sM wr np ((ks.take k).foldl (λa c=>iY d c a) nm)
theorem Pv.next (h:Pv d z ks nm w wr k) (E:k<ks.length) (G:cI (λg=>g=z) wr D) (I:sM D z (iY d (ks.getD k fQ) ((ks.take k).foldl (λa c=>iY d c a) nm))):Pv d z ks nm w D (k+1):=by
 refine⟨h.only.trans G (λ_ _ x=>x) (λ_ _ x=>x),?_⟩
 have e:ks.take (k+1)=ks.take k++[ks.getD k fQ]:=by
  rw[Sc,Ql E,Qi,Ql E];rfl
 rw[e,RH];exact I
theorem M3 {lt} (ai:lt.length=10) (H:Ow lt d):Ow lt (d+1):=by
 intro t w b I nm J z hT V;have HT:Hid (gB (λg=>g=I) (d+1) w b t):=hT
 obtain⟨pl,ao,u,kb,Y,G,aj,HK⟩:=hT;have Z:=oq J z;have E:∀j,j<t.kids.length->t.kids.getD j fQ∈t.kids:=λj hj=>by rw[Qi,Ql hj];exact QD _
 have ap:t.kids.length<=3:=by
  rcases J.1 with⟨_,O,_⟩|⟨_,_,O⟩|⟨_,_,_,_,O⟩|⟨_,_,_,O⟩<;>rw[O]<;>simp
 have ac:Hid (∀j,j<t.kids.length->gU d (t.kids.getD j fQ)/\cR lt d (t.kids.getD j fQ)≠0/\gB (λg=>g=I) d w (kb j) (t.kids.getD j fQ)):=λj hj=>⟨J.2 _ (E j hj),Z _ (E j hj),HK j hj⟩
 have HN:=Hi V;have c0:=G.c0;have c4:=G.c4;have ak:=Hi c4;have c5:=G.c5;obtain⟨a,cap,rfl,hq⟩:=aj;have HQ:=Hi hq;have aq:=Hi Y;have HE:Hid (iY (d+1) t nm=t.kids.foldl (λa c=>iY d c a) (if t.k=2 then nm.set t.l.toNat true else nm)):=rfl
 by_cases D:t.k=2
 ·have hs:=oj J (by unfold dJ;omega)
  have am:0<=t.l:=by
   rcases J.1 with⟨_,_,_,h4⟩|⟨U,_⟩|⟨U,_⟩|⟨U,_⟩
   ·exact h4 D
   ·omega
   ·omega
   unfold fW at U;omega
  have ad:t.l.toNat<10:=by
   rw[cR,Qo hs] at z;unfold dY at z;rw[Qj (by omega),Qo D] at z
   rw[<-ai];by_cases e:t.l.toNat<lt.length
   ·exact e
   exfalso;apply z;rw[Qi,QC (by omega)];rfl
  have e:t.l=t.l.toNat:=by omega
  rw[e] at c5;rw[D] at c0;have ae:Hid (iY (d+1) t nm=nm.set t.l.toNat true):=by
   show iY (d+1) t nm=_;rw[HE.out,Qo D,hs];rfl
  have aa:t.kids.length=0:=by rw[hs];rfl
  rw[aa] at c4;generalize t.l.toNat=li at*;obtain⟨n1,n2⟩:=V.2 li ad;have ar:0<=li/\li<10:=by omega
  have au:(w.setCell ⟨I,li,none⟩ (.bool true)).cell? ⟨b,4,none⟩=some (.slice a 0 cap):=by
   rw[World.cell?_setCell_far _ _ _ _ (by intro q;exact Y q.symm)];exact c4
  rw[ae.out];go_enter func177,ntmps177;go_wp2;go_region
  all_goals
   go_wp2;go_loopw [24] (λiv wr=>iv= Iq 0/\Hid (wr=(w.setCell ⟨I,li,none⟩ (.bool true)).drew)) (λ_ _=>0)
   case atStart=>exact⟨rfl,rfl⟩
   case round=>
    obtain⟨rfl,HW⟩:=hrel;go_wp2;go_end0;rw[HW.out];exact⟨rfl,((cI.refl (λg=>g=I) w).setCell (.inl rfl) _).drew,(sM.put HN.out ad).drew⟩
 rw[HE.out,Qj D];have i2:(t.k==2)=false:=by simp;omega
 have H0:Hid (Pv d I t.kids nm w w 0):=⟨cI.refl _ _,by rw[List.take_zero];exact V⟩
 generalize t.kids=ks at*;generalize t.k=tk at*;go_enter func177,ntmps177;go_wp2;go_loopw [24] (λiv wr=> ∃k,k<=ks.length/\iv= Iq k/\Hid (Pv d I ks nm w wr k)) (λiv _=>ks.length - (intOf iv).toNat)
 case atStart=>exact⟨0,QA _,rfl,H0.out⟩
 case round=>
  obtain⟨k,av,rfl,HX⟩:=hrel;by_cases ab:k<ks.length
  ·have R:=HX.out;obtain⟨g,rfl,af,q⟩:=HQ.out k ab;obtain⟨U,O,h3⟩:=ac.out k ab;have q':wr.cell? ⟨g,k,none⟩=some (Pq (kb k)):=by rw[Qz (w:=w) (a:=⟨g,k,none⟩) (R.only.block g (Qk w _ q) af)];exact q
   have aw:0<=k/\k<ks.length:=by omega
   have W1:=H U O (h3.only R.only) R.at_;go_wp2_with fail;apply W1.mono;rintro e w1 ⟨rfl,ag,ah⟩;have an:=Hi (HX.out.next ab ag ah);go_wp2;go_roundw
   case rel=>exact⟨k+1,by omega,by go_num,an.out⟩
   case measure=>simp[intOf];omega
  obtain rfl:k=ks.length:=by omega
  go_wp2;go_end0;have R:=HX.out;refine⟨rfl,R.only,?_⟩;have:=R.at_;rwa [RP] at this
theorem Pw {lt:List Nat} (z:lt.length=10) (d:Nat):Ow lt d:=by
 induction d with
 |zero=>intro t w b D nm h;exact h.elim
 |succ d ih=>exact M3 z ih
abbrev Yt:=Tok×Tok×Nat×Int
def Cs:Yt:=(ee,ee,0,0)
def mD:fM:=⟨0,0,fQ⟩
structure OO (F) (d) (w) (x:fM) (y:Yt):Prop where
 kd:cy y.1=x.kind
 wh:y.2.2.2=(x.wh:Int)
 tr:gB F d w y.2.2.1 x.c
def iN (F:Nat->Prop) (d:Nat) (w:World) (xs:List fM) (ys:List Yt):Prop:=xs.length=ys.length/\ ∀j,j<ys.length->OO F d w (xs.getD j mD) (ys.getD j Cs)
theorem iN.nil {F:Nat->Prop}:iN F d w [] []:=⟨rfl,λj z=>by simp at z⟩
theorem iN.snoc (h:iN F d w xs ys) (D:OO F d w x y):iN F d w (xs++[x]) (ys++[y]):=by
 have z:=h.1;refine⟨by simp[z],λj E=>?_⟩
 by_cases e:j<ys.length
 ·rw[kh e,kh (by omega)];exact h.2 j e
 ·have G:j=ys.length:=by simp at E;omega
  subst G;rw[iA,<-z,iA];exact D
theorem iN.map (h:iN F d w xs ys) (D:∀b t,gB F d w b t->gB G d w' b t):iN G d w' xs ys:=⟨h.1,λj z=>⟨(h.2 j z).kd,(h.2 j z).wh,D _ _ (h.2 j z).tr⟩⟩
def kW (w:World) (v:Value) (ys:List Yt):Prop:= ∃a cap,v= .slice a ys.length cap/\ ∀k,k<ys.length-> ∃g,a=some ⟨g,0,none⟩/\g<w.heap.size/\ ∀j,j<10->w.cell? ⟨g,k*10+j,none⟩=(eK (ys.getD k Cs))[j]?
theorem kW.of_row {w:World} {base:Nat} {ys:List Yt} (h:w.ownsRow base 163 10 v ys.length (dB ys)):kW w v ys:=by
 obtain⟨a,cap,e,z⟩:=jR h;refine⟨a,cap,e,λk D=>?_⟩
 obtain⟨g,e,⟨cs,E⟩,G⟩:=z k D;exact⟨g,e,be E,G⟩
theorem kW.below {w w':World} (h:kW w v ys) (z:Below w.heap.size w w'):kW w' v ys:=by
 obtain⟨a,cap,e,E⟩:=h;refine⟨a,cap,e,λk G=>?_⟩
 obtain⟨g,e,I,J⟩:=E k G;exact⟨g,e,by have:=z.size;omega,λj D=>by rw[z.cell (p:=⟨g,k*10+j,none⟩) I];exact J j D⟩
theorem Aj {α:Type} {l:List α} (h:k<l.length) (d:α):l.drop k=l.getD k d::l.drop (k+1):=by
 rw[QF h,Qi,Ql h];rfl
theorem Px (h:gB F d w b t):b<w.heap.size/\Cq w b 0 (Iq t.k):=by
 cases d with
 |zero=>exact h.elim
 |succ d=>
  obtain⟨_,_,_,_,_,z,_,_⟩:=h;exact⟨Qk w _ z.c0,z.c0⟩
structure I9 (F) (d:Nat) (w wr:World) (v) (ks) (ys:List Yt):Prop where
 row:wr.ownsRow w.heap.size 163 10 v ys.length (dB ys)
 bel:Below w.heap.size w wr
 its:iN F d w ks ys
theorem I9.next {cap} (h:I9 F d w wr v ks ys) (J:Below wr.heap.size wr z) (O:OO F d w x y)
 (I:D.ownsRow w.heap.size 163 10 (Sq gg (ys.length+1) cap) (ys.length+1) (dB ys++eK y)) (E:(z.alloc o).grownBy D v.ownBlock):I9 F d w D (Sq gg (ys.length+1) cap) (ks++[x]) (ys++[y]):=by
 have G:=h.bel.trans (J.mono h.bel.size);have R:=((cI.refl (λg=>v.ownBlock=some g) z).alloc _).grown E (λk U=> .inl U)
 refine⟨?_,G.trans (R.below G.size (λg _ V=>(h.row.lt g V).1)),h.its.snoc O⟩
 rw[mP,Qt];exact I
theorem I9.grow {v:Value} {ys:List Yt} (h:I9 F d w wr v ks ys) (D:Below wr.heap.size wr z):I9 F d w z v ks ys:=⟨cD h.row D,h.bel.trans (D.mono h.bel.size),h.its⟩
theorem lP {z E:World} {row} (D:(z.alloc o).grownBy E row) (U:b<z.heap.size) (J:row≠some b):E.cell? ⟨b,j,none⟩=z.cell? ⟨b,j,none⟩:=by
 have V:=((cI.refl (λg=>row=some g) z).alloc _).grown D (λk Y=> .inl Y)
 exact Qz (w:=z) (a:=⟨b,j,none⟩) (V.block b U J)
theorem Ct {F:Nat->Prop} (hv:kW w v ys) (hI:iN F d w xs ys) (hl:ys.length<=1001):
 Calls prog 132 #[v] w λe w'=> ∃v' ap,e= .returned v'/\I9 F d w w' v' (jy xs) ap/\ap.length<=ys.length:=by
 obtain⟨a,cap,rfl,hq⟩:=hv;have HQ:=Hi hq;have HI:Hid (iN F d w xs ys):=hI;have H0:Hid (I9 F d w w (.slice none 0 0) [] []/\[]++jy (xs.drop 0)=jy xs):=⟨⟨QX _ _ _ _,Qq _ _,iN.nil⟩,rfl⟩;obtain⟨i0,hi,aq,ar,au⟩:=Ry ox;clear hq hI;go_enter func132,ntmps132;go_wp2_with fail;go_loopw [3,9] (λvv iv wr=> ∃(k:Nat) (ks:List fM) (E:List Yt),k<=ys.length/\iv= Iq k/\E.length<=k/\Hid (I9 F d w wr vv ks E/\ks++jy (xs.drop k)=jy xs)) (λ_ iv _=>ys.length - (intOf iv).toNat)
 case atStart=>exact⟨0,[],[],QA _,rfl,Qn _,H0.out⟩
 case round=>
  obtain⟨k,ks,E,aL,rfl,aF,HX⟩:=hrel;by_cases af:k<ys.length
  ·have hX:=HX.out.1;have hE:=HX.out.2;obtain⟨g,rfl,av,R⟩:=HQ.out k af;have U:=HI.out.2 k af;rw[Aj (by rw[HI.out.1];exact af) mD] at hE
   generalize xs.getD k mD=x at*;generalize ys.getD k Cs=y at*;obtain⟨q,u0,b,wh⟩:=y;have aw:=Hi U;have G:=U.kd;have ax:=U.wh;obtain⟨ag,ah⟩:=Px U.tr;simp only[] at G ax ag ah;obtain⟨va,Z,ev⟩:=nT hX.row;obtain rfl:=ev;have V:=hX.bel;have A:∀j,j<10->wr.cell? ⟨g,k*10+j,none⟩=(eK (q,u0,b,wh))[j]?:=λj hj=>by
    rw[V.cell (p:=⟨g,k*10+j,none⟩) av];exact R j hj
   have c0:wr.cell? ⟨g,k*10,none⟩=some (Iq (cy q)):=A 0 (by omega)
   have c1:wr.cell? ⟨g,k*10+1,none⟩=some (Iq q.pl):=A 1 (by omega)
   have c2:wr.cell? ⟨g,k*10+2,none⟩=some (Iq (cV q)):=A 2 (by omega)
   have c3:wr.cell? ⟨g,k*10+3,none⟩=some (S (cE q)):=A 3 (by omega)
   have c4:wr.cell? ⟨g,k*10+4,none⟩=some (Iq (cy u0)):=A 4 (by omega)
   have c5:wr.cell? ⟨g,k*10+5,none⟩=some (Iq u0.pl):=A 5 (by omega)
   have c6:wr.cell? ⟨g,k*10+6,none⟩=some (Iq (cV u0)):=A 6 (by omega)
   have c7:wr.cell? ⟨g,k*10+7,none⟩=some (S (cE u0)):=A 7 (by omega)
   have c8:wr.cell? ⟨g,k*10+8,none⟩=some (Iq wh):=A 8 (by omega)
   have c9:wr.cell? ⟨g,k*10+9,none⟩=some (Pq b):=A 9 (by omega)
   have aM:(0:Int)<=(k:Int)/\(k:Int)<(ys.length:Int):=by omega
   have ai:wr.cell? ⟨b,0,none⟩=some (Iq (x.c.k:Nat)):=by rw[V.cell (p:=⟨b,0,none⟩) ag];exact ah
   have Y:Bl wr (wr.alloc (fN q u0 wh (Pq b))):=(Qq _ _).alloc (Qn _) _;have aa:(wr.alloc (fN q u0 wh (Pq b))).heap[wr.heap.size]?=some (fN q u0 wh (Pq b)):=Qp wr _;have ab:(wr.alloc (fN q u0 wh (Pq b))).cell? ⟨b,0,none⟩=some (Iq (x.c.k:Nat)):=by rw[Y.cell (p:=⟨b,0,none⟩) (by have:=V.size;simp only[];omega)];exact ai
   have aj:=Hi hX;have aN:w.heap.size<=wr.heap.size:=V.size;unfold fN at Y aa ab;have ay:=Hi Y;obtain⟨⟨z0,z1,z2,z3,z4,z5,z6,z7,z8,z9⟩,zf⟩:=dI aa;have az:=Hi (aj.out.grow Y);have aA:wr.heap.size<(wr.alloc (.cells #[Iq (cy q),Iq q.pl,Iq (cV q),S (cE q),Iq (cy u0),Iq u0.pl,Iq (cV u0),S (cE u0),Iq wh,Pq b] 163)).heap.size:=by simp
   have ak:b<(wr.alloc (.cells #[Iq (cy q),Iq q.pl,Iq (cV q),S (cE q),Iq (cy u0),Iq u0.pl,Iq (cV u0),S (cE u0),Iq wh,Pq b] 163)).heap.size:=by simp;omega
   have aB:(Value.slice va E.length Z).ownBlock≠some wr.heap.size:=λe=>by have:=(hX.row.lt _ e).2;omega
   have aC:(Value.slice va E.length Z).ownBlock≠some b:=λe=>by have:=(hX.row.lt _ e).1;omega
   have aK:w.heap.size<=(wr.alloc (.cells #[Iq (cy q),Iq q.pl,Iq (cV q),S (cE q),Iq (cy u0),Iq u0.pl,Iq (cV u0),S (cE u0),Iq wh,Pq b] 163)).heap.size:=by simp;omega
   generalize aD:wr.alloc (.cells #[Iq (cy q),Iq q.pl,Iq (cV q),S (cE q),Iq (cy u0),Iq u0.pl,Iq (cV u0),S (cE u0),Iq wh,Pq b] 163)=w1 at*;have am:=Hi aD;have HE:=Hi hE;have aE:Hid (w1.ownsRow w.heap.size 163 10 (.slice va E.length Z) E.length (dB E)):=az.out.row;clear A R hX V U ah ai Y aa ax HX av ag aD hE;by_cases D:x.kind=11
   ·have aG:((cy q:Int)==11)=true:=by rw[G,D];rfl
    have HJ:Hid ((cy q:Int)=11):=by show _=_;rw[G,D];rfl
    have an:Hid (([Iq 11,Iq q.pl,Iq (cV q),S (cE q),Iq (cy u0),Iq u0.pl,Iq (cV u0),S (cE u0),Iq wh,Pq b]:List Value)=eK (q,u0,b,wh)):=by
     show([Iq 11,Iq q.pl,Iq (cV q),S (cE q),Iq (cy u0),Iq u0.pl,Iq (cV u0),S (cE u0),Iq wh,Pq b]:List Value)=[Iq (cy q),Iq q.pl,Iq (cV q),S (cE q),Iq (cy u0),Iq u0.pl,Iq (cV u0),S (cE u0),Iq wh,Pq b];rw[G,D];rfl
    have O:jy (x::List.drop (k+1) xs)=x::jy (List.drop (k+1) xs):=by rw[jy,Qj (λe=>e.1 D),Qj (λe=>e.1 D)]
    rw[O] at HE;clear O D G;go_upto_region 5 with fail;rw[am.out];have aH:=HJ.out;go_wp2_with (at_builtin;go_must (refine wpList_append_lies _ (by rfl) _ _ 84 (by rfl) w.heap.size 163 i0 (.agg #[Iq 0,Iq 0,Iq 0,.string ⟨#[]⟩,Iq 0,Iq 0,Iq 0,.string ⟨#[]⟩,Iq 0,.pointer none]) 10 96 underlying84 hi aq ar au (by rfl) (by decide) _ _ _ (by rfl) (aE.out.alloc _) ⟨w1.heap.size,0,none⟩ 1 1 [Iq 11,Iq q.pl,Iq (cV q),S (cE q),Iq (cy u0),Iq u0.pl,Iq (cV u0),S (cE u0),Iq wh,Pq b] (by rfl) (by rfl) (World.news_of_block (Qp w1 _)) (λx hx=>by simp at hx;rcases hx with rfl|rfl|rfl|rfl|rfl|rfl|rfl|rfl|rfl|rfl<;>rfl) (by decide) (by unfold maxLen;omega) (by omega) (by simp;omega) _ rfl ?_);intro gg ac w5 I z ao ad;have HN:Hid (I9 F d w w5 (Sq gg (E.length+1) ac) (ks++[x]) (E++[(q,u0,b,wh)])):=aj.out.next ay.out aw.out (by rw[<-an.out];exact I) z;have y9:=(lP z (j:=9) aA aB).trans z9;have yk:=(lP z (j:=0) ak aC).trans ab;clear I z ao ad)
    go_roundw
    case rel=>exact⟨k+1,_,_,by omega,by go_num,by simp;omega,HN.out,by rw[<-HE.out];simp⟩
    case measure=>simp[intOf];omega
   have aG:((cy q:Int)==11)=false:=by rw[G];simp;omega
   have aH: ¬(cy q:Int)=11:=by rw[G];omega
   by_cases J:x.c.k=21
   ·have aI:((x.c.k:Int)==21)=true:=by rw[J];rfl
    have O:jy (x::List.drop (k+1) xs)=jy (List.drop (k+1) xs):=by rw[jy,Qo ⟨D,J⟩]
    rw[O] at HE;clear O D G J;go_upto_region 5 with fail;rw[am.out];go_wp2;go_roundw
    case rel=>exact⟨k+1,_,_,by omega,by go_num,by omega,az.out,HE.out⟩
    case measure=>simp[intOf];omega
   have aI:((x.c.k:Int)==21)=false:=by simp;omega
   by_cases ae:x.c.k=20;have aJ:((x.c.k:Int)==20)=true:=by rw[ae];rfl
   have O:jy (x::List.drop (k+1) xs)=[x]:=by rw[jy,Qj (λe=>J e.2),Qo ⟨D,ae⟩]
   rotate_left;have aJ:((x.c.k:Int)==20)=false:=by simp;omega
   have O:jy (x::List.drop (k+1) xs)=x::jy (List.drop (k+1) xs):=by rw[jy,Qj (λe=>J e.2),Qj (λe=>ae e.2)]
   rotate_left
   all_goals
    rw[O] at HE;clear O D G J ae;go_upto_region 5 with fail;rw[am.out];have an:Hid (([Iq (cy q),Iq q.pl,Iq (cV q),S (cE q),Iq (cy u0),Iq u0.pl,Iq (cV u0),S (cE u0),Iq wh,Pq b]:List Value)=eK (q,u0,b,wh)):=rfl;go_wp2_with (at_builtin;go_must (refine wpList_append_lies _ (by rfl) _ _ 84 (by rfl) w.heap.size 163 i0 (.agg #[Iq 0,Iq 0,Iq 0,.string ⟨#[]⟩,Iq 0,Iq 0,Iq 0,.string ⟨#[]⟩,Iq 0,.pointer none]) 10 96 underlying84 hi aq ar au (by rfl) (by decide) _ _ _ (by rfl) (aE.out.alloc _) ⟨w1.heap.size,0,none⟩ 1 1 [Iq (cy q),Iq q.pl,Iq (cV q),S (cE q),Iq (cy u0),Iq u0.pl,Iq (cV u0),S (cE u0),Iq wh,Pq b] (by rfl) (by rfl) (World.news_of_block (Qp w1 _)) (λx hx=>by simp at hx;rcases hx with rfl|rfl|rfl|rfl|rfl|rfl|rfl|rfl|rfl|rfl<;>rfl) (by decide) (by unfold maxLen;omega) (by omega) (by simp;omega) _ rfl ?_);intro gg ac w5 I z ao ad;have HN:Hid (I9 F d w w5 (Sq gg (E.length+1) ac) (ks++[x]) (E++[(q,u0,b,wh)])):=aj.out.next ay.out aw.out (by rw[<-an.out];exact I) z;have y9:=(lP z (j:=9) aA aB).trans z9;have yk:=(lP z (j:=0) ak aC).trans ab;clear I z ao ad)
   ·go_ret;exact⟨_,_,rfl,by rw[<-HE.out];exact HN.out,by simp;omega⟩
   go_roundw
   case rel=>exact⟨k+1,_,_,by omega,by go_num,by simp;omega,HN.out,by rw[<-HE.out];simp⟩
   case measure=>simp[intOf];omega
  obtain rfl:k=ys.length:=by omega
  have HR:Hid (I9 F d w wr u3 (jy xs) E):=by
   have:=HX.out;rw[QG (by rw[HI.out.1];exact Qn _)] at this
   simp only[jy,Sd] at this;rw[<-this.2];exact this.1
  clear HX;go_wp2;go_ret;exact⟨_,E,rfl,HR.out,aF⟩
end
variable {w w' C q A F base T v n g xs cs z W i D c gg o x E k jmp d l a p L G}
structure lK where
 b:List UInt8
 ins:List ek
 lp:Nat
 cp:Nat
 gi:Nat
 cap:Nat
 rp:Nat
structure kX (W:World) (c:lK):Prop where
 ld:fD c.b=some c.ins
 lpb:W.heap[c.lp]?=some (.cells #[Pq c.cp] 207 (0,0))
 code:jz W c.cp c.gi c.cap (cr c.b 2) (cr c.b 1) c.ins
 rpb:W.heap[c.rp]?=some (.cells #[S c.b] 130 (0,0))
theorem kX.below {W z c} (h:kX W c) (q:Bl W z):kX z c:=⟨h.ld,(q.block _ (be h.lpb)).trans h.lpb,h.code.below q,(q.block _ (be h.rpb)).trans h.rpb⟩
theorem jz.only {cap cells ins} (h:jz w C q cap cells A ins) (E:cI F w w') (H: ¬F C) (I:0<ins.length-> ¬F q):jz w' C q cap cells A ins:=by
 have D:∀{o:Nat} {v:Value},0<ins.length->w.cell? ⟨q,o,none⟩=some v->w'.cell? ⟨q,o,none⟩=some v:=λ{o v} J e=>by
  rw[Qz (w:=w) (a:=⟨q,o,none⟩) (E.block q (Qk w _ e) (I J))];exact e
 exact⟨(E.block C (be h.blk) H).trans h.blk,λi z=>D (by omega) (h.op i z),λi z=>D (by omega) (h.num i z),λi z=>D (by omega) (h.tos i z),λi z=>D (by omega) (h.pls i z)⟩
theorem kX.only {W z c} (h:kX W c) {F} (q:cI F W z) (A: ¬F c.lp) (C: ¬F c.cp) (h3:0<c.ins.length-> ¬F c.gi) (D: ¬F c.rp):kX z c:=⟨h.ld,(q.block _ (be h.lpb) A).trans h.lpb,h.code.only q C h3,(q.block _ (be h.rpb) D).trans h.rpb⟩
theorem iQ {W:World} (h:W.ownsRow base T 1 v n xs) (C:W.heap[g]?=some (.cells cs A z)) (D:A≠T):v.ownBlock≠some g:=λe=>by
 obtain⟨E,q⟩:=cK h e;rw[C] at q;simp at q;exact D q.2.1
theorem uZ (h:W.ownsRow base T 1 v n (jM q)) (z:0<n) (E:q.length=n) (A:Cq W g 0 (Iq i)):v.ownBlock≠some g:=λe=>by
 obtain⟨C,cap,rfl,_,_⟩:=World.ownsRow.form h z;have D:C=g:=by simpa [Value.ownBlock] using e
 subst D;have:=Rs h 0 (by omega)
 rw[A] at this;unfold jM at this;rw[QN,Ql (by omega)] at this
 simp at this
structure iU (w W:World) (wp:Nat) (cv rv) (cs:List lK):Prop where
 blk:W.heap[wp]?=some (.cells #[cv,rv] 76 (0,0))
 crow:W.ownsRow w.heap.size 81 1 cv cs.length (jM (cs.map lK.lp))
 rrow:W.ownsRow w.heap.size 64 1 rv cs.length (jM (cs.map lK.rp))
 nil:cs.length=0->cv.ownBlock=none/\rv.ownBlock=none
 ok:∀c∈cs,kX W c
 bel:Below w.heap.size w W
 wp0:w.heap.size<=wp
theorem iU.below {w W z A C D cs} (h:iU w W A C D cs) (q:Bl W z):iU w z A C D cs:=
 ⟨(q.block _ (be h.blk)).trans h.blk,cD h.crow q,cD h.rrow q,h.nil,λc E=>(h.ok c E).below q,h.bel.trans (q.mono h.bel.size),h.wp0⟩
def AF (A:Nat) (C D:Value) (g:Nat):Prop:=g=A\/C.ownBlock=some g\/D.ownBlock=some g
theorem iU.off (h:iU w W A C D cs) (I:kX W c): ¬AF A C D c.lp/\ ¬AF A C D c.cp/\(0<c.ins.length-> ¬AF A C D c.gi)/\ ¬AF A C D c.rp:=by
 have J:∀{g} {cs} {E} {z},W.heap[g]?=some (.cells cs E z)->E≠76->E≠81->E≠64-> ¬AF A C D g:=λ{g cs E z} O U V X q=>by
  rcases q with rfl|q|q
  ·have:=h.blk;rw[O] at this;simp at this;exact U this.2.1
  ·exact iQ h.crow O V q
  exact iQ h.rrow O X q
 refine⟨J I.lpb (by decide) (by decide) (by decide),J I.code.blk (by decide) (by decide) (by decide),λY q=>?_,J I.rpb (by decide) (by decide) (by decide)⟩
 have H:=I.code.op 0 Y;rw[Nat.zero_mul] at H;rcases q with e|q|q
 ·rw[e] at H;have R:=Qm W A 0 _ _ _ h.blk;rw[H] at R;obtain⟨a,cap,rfl⟩:=nT h.crow;simp at R
 ·by_cases e:cs.length=0
  ·rw[(h.nil e).1] at q;cases q
  exact uZ h.crow (by omega) (by simp) H q
 by_cases e:cs.length=0
 ·rw[(h.nil e).2] at q;cases q
 exact uZ h.rrow (by omega) (by simp) H q
structure xl (w W:World) (wp:Nat) (cv rv) (cs:List lK) (c:lK):Prop where
 blk:W.heap[wp]?=some (.cells #[cv,rv] 76 (0,0))
 crow:W.ownsRow w.heap.size 81 1 cv (cs.length+1) (jM (cs.map lK.lp)++[Pq c.lp])
 rrow:W.ownsRow w.heap.size 64 1 rv cs.length (jM (cs.map lK.rp))
 nil:cs.length=0->rv.ownBlock=none
 ok:∀x∈cs,kX W x
 okc:kX W c
 bel:Below w.heap.size w W
 wp0:w.heap.size<=wp
theorem tV (l:List lK) (f) (c):jM ((l++[c]).map f)=jM (l.map f)++[Pq (f c)]:=by simp[jM]
theorem iU.half {w W A:World} {cap} (h:iU w W q C D cs) (Y:kX W c)
 (E:A.ownsRow w.heap.size 81 1 (Sq gg (cs.length+1) cap) (cs.length+1) (jM (cs.map lK.lp)++[Pq c.lp])) (J:(W.alloc o).grownBy A C.ownBlock):
 xl w (A.setCell ⟨q,0,none⟩ (Sq gg (cs.length+1) cap)) q (Sq gg (cs.length+1) cap) D cs c:=by
 have H:cI (λg=>C.ownBlock=some g) W A:=((cI.refl (λg=>C.ownBlock=some g) W).alloc _).grown J (λk z=> .inl z)
 have R:C.ownBlock≠some q:=iQ h.crow h.blk (by decide)
 have U:D.ownBlock≠some q:=iQ h.rrow h.blk (by decide)
 have V:∀g,D.ownBlock=some g->C.ownBlock≠some g:=λg Z=>by
  obtain⟨c2,e2⟩:=cK h.rrow Z;exact iQ h.crow e2 (by decide)
 have X:A.heap[q]?=_:=(H.block q (be h.blk) R).trans h.blk;have r5:A.ownsRow w.heap.size 64 1 D cs.length (jM (cs.map lK.rp)):=cM h.rrow (λk z=>H.block k (h.rrow.lt k z).2 (V k z))
 have gw:(Value.slice (some ⟨gg,0,none⟩) (cs.length+1) cap).ownBlock≠some q:=iQ E X (by decide)
 have I:cI (AF q C D) W (A.setCell ⟨q,0,none⟩ (Sq gg (cs.length+1) cap)):=(cI.weak (G:=AF q C D) H (λi _ hi=>Or.inr (Or.inl hi))).setCell (Or.inl (Or.inl rfl)) _
 have keep:∀{x},kX W x->kX (A.setCell ⟨q,0,none⟩ (Sq gg (cs.length+1) cap)) x:=λ{x} O=>by
  obtain⟨q1,q2,q3,q4⟩:=h.off O;exact O.only I q1 q2 q3 q4
 refine⟨by rw[QB A q 0 _ _ _ X];rfl,Rg E gw _,Rg r5 U _,λe=>(h.nil e).2,λx O=>keep (h.ok x O),keep Y,?_,h.wp0⟩
 refine h.bel.trans (I.below h.bel.size (λk _ z=>?_))
 rcases z with rfl|z|z
 ·exact h.wp0
 ·exact(h.crow.lt k z).1
 exact(h.rrow.lt k z).1
theorem xl.off {w W:World} (h:xl w W A C D cs c) (I:kX W x): ¬AF A C D x.lp/\ ¬AF A C D x.cp/\(0<x.ins.length-> ¬AF A C D x.gi)/\ ¬AF A C D x.rp:=by
 have J:∀{g} {cs} {E} {z},W.heap[g]?=some (.cells cs E z)->E≠76->E≠81->E≠64-> ¬AF A C D g:=λ{g cs E z} O V X Y q=>by
  rcases q with rfl|q|q
  ·have:=h.blk;rw[O] at this;simp at this;exact V this.2.1
  ·exact iQ h.crow O X q
  exact iQ h.rrow O Y q
 refine⟨J I.lpb (by decide) (by decide) (by decide),J I.code.blk (by decide) (by decide) (by decide),λZ q=>?_,J I.rpb (by decide) (by decide) (by decide)⟩
 have H:=I.code.op 0 Z;rw[Nat.zero_mul] at H;rcases q with e|q|q
 ·rw[e] at H;have R:=Qm W A 0 _ _ _ h.blk;rw[H] at R;obtain⟨a,cap,rfl⟩:=nT h.crow;simp at R
 ·have e:jM (cs.map lK.lp)++[Pq c.lp]=jM ((cs++[c]).map lK.lp):=(tV cs lK.lp c).symm;have U:=h.crow;rw[e] at U;exact uZ U (by omega) (by simp) H q
 by_cases e:cs.length=0
 ·rw[h.nil e] at q;cases q
 exact uZ h.rrow (by omega) (by simp) H q
theorem xl.full {w W A:World} {cap} (h:xl w W q E C cs c)
 (H:A.ownsRow w.heap.size 64 1 (Sq gg (cs.length+1) cap) (cs.length+1) (jM (cs.map lK.rp)++[Pq c.rp])) (O:(W.alloc o).grownBy A C.ownBlock):
 iU w (A.setCell ⟨q,1,none⟩ (Sq gg (cs.length+1) cap)) q E (Sq gg (cs.length+1) cap) (cs++[c]):=by
 have I:cI (λg=>C.ownBlock=some g) W A:=((cI.refl (λg=>C.ownBlock=some g) W).alloc _).grown O (λk z=> .inl z)
 have R:E.ownBlock≠some q:=iQ h.crow h.blk (by decide)
 have U:C.ownBlock≠some q:=iQ h.rrow h.blk (by decide)
 have V:∀g,E.ownBlock=some g->C.ownBlock≠some g:=λg Y=>by
  obtain⟨c2,Z⟩:=cK h.crow Y;exact iQ h.rrow Z (by decide)
 have X:A.heap[q]?=_:=(I.block q (be h.blk) U).trans h.blk;have r5:A.ownsRow w.heap.size 81 1 E (cs.length+1) (jM (cs.map lK.lp)++[Pq c.lp]):=cM h.crow (λk z=>I.block k (h.crow.lt k z).2 (V k z))
 have gw:(Value.slice (some ⟨gg,0,none⟩) (cs.length+1) cap).ownBlock≠some q:=iQ H X (by decide)
 have J:cI (AF q E C) W (A.setCell ⟨q,1,none⟩ (Sq gg (cs.length+1) cap)):=(cI.weak (G:=AF q E C) I (λi _ hi=>Or.inr (Or.inr hi))).setCell (Or.inl (Or.inl rfl)) _
 have keep:∀{x},kX W x->kX (A.setCell ⟨q,1,none⟩ (Sq gg (cs.length+1) cap)) x:=λ{x} D=>by
  obtain⟨q1,q2,q3,q4⟩:=h.off D;exact D.only J q1 q2 q3 q4
 refine⟨by rw[QB A q 1 _ _ _ X];rfl,?_,?_,λe=>by simp at e,λx D=>?_,?_,h.wp0⟩
 ·rw[tV,Qt];exact Rg r5 R _
 ·rw[tV,Qt];exact Rg H gw _
 ·rcases Rn.1 D with D|D
  ·exact keep (h.ok x D)
  rw[R4.1 D];exact keep h.okc
 refine h.bel.trans (J.below h.bel.size (λk _ z=>?_))
 rcases z with rfl|z|z
 ·exact h.wp0
 ·exact(h.crow.lt k z).1
 exact(h.rrow.lt k z).1
def jU (jmp:Bool) (d:Nat) (L:List fM) (l:List L3):List L3:=L.foldl (λl x=>l++iE jmp d x l.length) l
def rC (jmp:Bool) (d:Nat) (L:List fM) (a:Nat):Nat:=L.foldl (λa x=>max a (iD jmp d x)) a
def tW (L:List fM) (c:Nat):Nat:=L.foldl (λc x=>if x.kind=11 then x.wh+1 else c) c
theorem qq {α:Type} {L:List α} {x:α} (h:L[k]?=some x):L.take (k+1)=L.take k++[x]:=by
 rw[Sc,h];rfl
theorem EE {L:List fM} {k:Nat} (h:L[k]?=some x):jU jmp d (L.take (k+1)) l=jU jmp d (L.take k) l++iE jmp d x (jU jmp d (L.take k) l).length:=by
 rw[qq h];unfold jU;rw[RH];rfl
theorem IJ {L:List fM} {k:Nat} (h:L[k]?=some x):rC jmp d (L.take (k+1)) a=max (rC jmp d (L.take k) a) (iD jmp d x):=by
 rw[qq h];unfold rC;rw[RH];rfl
theorem IK {L:List fM} (h:L[k]?=some x):tW (L.take (k+1)) c=if x.kind=11 then x.wh+1 else tW (L.take k) c:=by
 rw[qq h];unfold tW;rw[RH];rfl
theorem tX {jmp d}:∀{L:List fM} {l lt},jU jmp d L l++[⟨18,0,0⟩]=l++(pw jmp d L lt l.length).map er
 |[],l,lt=>rfl
 |x::r,l,lt=>by
  have D:=Ln jmp d x l.length;by_cases z:x.kind=11
  ·have ih:=tX (jmp:=jmp) (d:=d) (L:=r) (l:=l++iE jmp d x l.length) (lt:=lt.set x.wh (cR lt d x.c));have e:jU jmp d (x::r) l=jU jmp d r (l++iE jmp d x l.length):=rfl;rw[e,ih,pw,Qo z,Qt,D];unfold iE iS;rw[Qo z,Qo z];unfold gE;rw[xb jmp d none x.c ⟨[],[]⟩ ⟨[],lt⟩];simp[er,R0]
  have ih:=tX (jmp:=jmp) (d:=d) (L:=r) (l:=l++iE jmp d x l.length) (lt:=lt);have e:jU jmp d (x::r) l=jU jmp d r (l++iE jmp d x l.length):=rfl;rw[e,ih,pw,Qj z,Qt,D];unfold iE iS;rw[Qj z,Qj z];rw[xb jmp d (some false) x.c ⟨[],[]⟩ ⟨[],lt⟩];simp[er,R0]
theorem Ak {jmp d}:∀{L:List fM} {a},rC jmp d L a=max a (LM jmp d L)
 |[],a=>by simp[rC,LM]
 |x::r,a=>by
  have e:rC jmp d (x::r) a=rC jmp d r (max a (iD jmp d x)):=rfl;rw[e,Ak,LM];unfold iD;omega
theorem xm:∀{L:List fM} {c:Nat},tW L c=ln L c
 |[],c=>rfl
 |x::r,c=>by
  have e:tW (x::r) c=tW r (if x.kind=11 then x.wh+1 else c):=rfl;rw[e,xm,ln]
theorem pJ {z:Nat} (h:1<=z/\z<=18):1+dq z=cG z:=by
 have e:z=1\/z=2\/z=3\/z=4\/z=5\/z=6\/z=7\/z=8\/z=9\/z=10\/z=11\/z=12\/z=13\/z=14\/z=15\/z=16\/z=17\/z=18:=by omega
 rcases e with e|e|e|e|e|e|e|e|e|e|e|e|e|e|e|e|e|e<;>rw[e]<;>decide
theorem NB {F:List mX} (h:∀x∈F,1<=x.op/\x.op<=18) (i:Nat):sG (F.map er) i=PJ F i:=by
 unfold sG PJ Qa;rw[<-List.map_take,R3];congr 2;refine QY λx z=>?_
 exact pJ (h x (SH z))
theorem Lu {F:List mX} (dep cells:Nat) (h:∀x∈F,1<=x.op/\x.op<=18):Pu dep cells (F.map er)=Ki dep cells F:=by
 unfold Pu Ki;rw[RW];congr 1;unfold IB Kd;have e:qF F=(List.range (F.map er).length).map λi=>(((F.map er).getD i fS).op,Cn (F.map er) i ((F.map er).getD i fS)):=by
  apply Sb;intro i;rw[QN,Ro];by_cases z:i<F.length
  ·have D:F[i]?=some F[i]:=Ql z;have E:=h F[i] (QD z);generalize F[i]=x at*;have G:(F.map er).getD i fS=er x:=by rw[Qi,QN,D];rfl
   rw[Pe D,RX z,Sz,G];have:Cn (F.map er) i (er x)=Mo F i x:=by
    unfold Cn Mo;by_cases g:x.op=15\/x.op=16
    ·have I:(er x).op=15\/(er x).op=16:=g;have:1+dq (er x).op=3:=by
      have O:=pJ E;have:cG x.op=3:=by rcases g with e|e<;>rw[e]<;>rfl
      rw[this] at O;exact O
     rw[Qo g,Qo I,NB h,NB h,this];rfl
    have I: ¬((er x).op=15\/(er x).op=16):=g;rw[Qj g,Qj I];rfl
   rw[this];rfl
  rw[QC (by rw[NW];omega),QC (by simp;omega)];rfl
 rw[e,List.flatMap_map];have J:∀i,i∈List.range (F.map er).length->IA (F.map er) i ((F.map er).getD i fS)=NU (((F.map er).getD i fS).op,Cn (F.map er) i ((F.map er).getD i fS)):=λi z=>by
  have z:i<F.length:=by simpa using z
  have D:=Ql z;have E:=h F[i] (QD z);generalize F[i]=x at*;have G:(F.map er).getD i fS=er x:=by rw[Qi,QN,D];rfl
  rw[G];unfold IA NU;have:=pJ E;have R:dq (er x).op=cG (er x).op - 1:=by simp only[er];omega
  rw[R]
 rw[List.flatMap_def,List.flatMap_def,QY J]
theorem M4 {jmp:Bool} (d):∀{t m},gU d t->cZ jmp d m t+(if m=none then 2 else 0)<=3*eP d t:=by
 induction d with
 |zero=>intro t m h;exact h.elim
 |succ d ih=>
  intro t m h;have G:=h.2;have ac:cZ jmp (d+1) none t+2<=3*eP (d+1) t:=by
   rcases h.1 with⟨D,z,_⟩|⟨D,a,z⟩|⟨D,a,b,c,z⟩|⟨D,a,b,z⟩
   ·have I: ¬t.k=14:=by unfold dJ at D;omega
    have J: ¬t.k=19:=by unfold dJ at D;omega
    simp only[cZ,Qj I,Qj J,z,Q7];rw[Qj (by decide)]
    have:=rZ h;omega
   ·have I: ¬t.k=14:=by omega
    have O:t.kid 0=a:=by unfold Tr.kid;rw[z];rfl
    simp only[cZ,Qj I,Qo D,O];have R:=ih (m:=none) (G a (by rw[z];simp))
    rw[Fj z];simp at R;omega
   ·have O:t.kid 0=a:=by unfold Tr.kid;rw[z];rfl
    have U:t.kid 1=b:=by unfold Tr.kid;rw[z];rfl
    have e2:t.kid 2=c:=by unfold Tr.kid;rw[z];rfl
    simp only[cZ,Qo D,O,U,e2];have R:=ih (m:=some false) (G a (by rw[z];simp))
    have E:=ih (m:=none) (G b (by rw[z];simp))
    have h3:=ih (m:=none) (G c (by rw[z];simp))
    simp only[RO,reduceCtorEq,Tc] at R E h3;rw[Kh z];omega
   have I: ¬t.k=14:=by unfold fW at D;omega
   have J: ¬t.k=19:=by unfold fW at D;omega
   have hl:t.kids.length=2:=by rw[z];rfl
   have O:t.kid 0=a:=by unfold Tr.kid;rw[z];rfl
   have U:t.kid 1=b:=by unfold Tr.kid;rw[z];rfl
   simp only[cZ,Qj I,Qj J,Qo hl,O,U];have R:=ih (m:=none) (G a (by rw[z];simp))
   have E:=ih (m:=none) (G b (by rw[z];simp))
   rw[Fk z];simp at R E;omega
  cases m with
  |none=>exact ac
  |some this=>
   simp only[reduceCtorEq,Tc,S2];cases Y:qe jmp t.k with
   |false=>
    have aa:cZ jmp (d+1) (some this) t=cZ jmp (d+1) none t+(if this then 2 else 1):=by
     simp only[cZ,Y];rfl
    rw[aa];have:(if this then 2 else 1)<=2:=by cases this<;>simp
    omega
   |true=>
    simp only[cZ,Y,RO];rcases h.1 with⟨D,z,_⟩|⟨D,a,z⟩|⟨D,a,b,c,z⟩|⟨D,a,b,z⟩
    ·have E:t.k=20\/t.k=21:=by
      unfold qe at Y;unfold dJ at D;simp at Y;omega
     rw[Qo E];have:=rZ h;split<;>omega
    ·have E: ¬(t.k=20\/t.k=21):=by omega
     have O:t.kid 0=a:=by unfold Tr.kid;rw[z];rfl
     rw[Qj E,Qo D,O,Fj z];have R:=ih (m:=some (!this)) (G a (by rw[z];simp))
     simp at R;omega
    ·have E: ¬(t.k=20\/t.k=21):=by omega
     have J: ¬t.k=19:=by omega
     have O:t.kid 0=a:=by unfold Tr.kid;rw[z];rfl
     have U:t.kid 1=b:=by unfold Tr.kid;rw[z];rfl
     have e2:t.kid 2=c:=by unfold Tr.kid;rw[z];rfl
     rw[Qj E,Qj J,Qo D,O,U,e2,Kh z];have R:=ih (m:=some false) (G a (by rw[z];simp))
     have E:=ih (m:=some this) (G b (by rw[z];simp))
     have h3:=ih (m:=some this) (G c (by rw[z];simp))
     simp only[reduceCtorEq,Tc] at R E h3;omega
    have E: ¬(t.k=20\/t.k=21):=by unfold fW at D;omega
    have J: ¬t.k=19:=by unfold fW at D;omega
    have I: ¬t.k=14:=by unfold fW at D;omega
    have O:t.kid 0=a:=by unfold Tr.kid;rw[z];rfl
    have U:t.kid 1=b:=by unfold Tr.kid;rw[z];rfl
    rw[Qj E,Qj J,Qj I,O,U,Fk z];have R:=ih (m:=some (decide (t.k=17))) (G a (by rw[z];simp))
    have E:=ih (m:=some this) (G b (by rw[z];simp))
    simp only[reduceCtorEq,Tc] at R E;omega
theorem Lv (h:gU d x.c):iS jmp d x<=3*eP d x.c+1:=by
 unfold iS;have z:=M4 (jmp:=jmp) d (m:=if x.kind=11 then none else some false) h;omega
theorem tY {jmp d}:∀{L:List fM} {l},(∀x∈L,gU d x.c)->(jU jmp d L l).length<=l.length+3*ig d L+L.length
 |[],l,_=>by simp[jU,ig]
 |x::r,l,h=>by
  have e:jU jmp d (x::r) l=jU jmp d r (l++iE jmp d x l.length):=rfl;have z:ig d (x::r)=eP d x.c+ig d r:=by simp[ig]
  have ih:=tY (jmp:=jmp) (l:=l++iE jmp d x l.length) (L:=r) (λy D=>h y (by simp[D]))
  rw[Qt,Ln] at ih;have:=Lv (jmp:=jmp) (h x (by simp))
  rw[e,z,QH];omega
theorem IL {d:Nat} (L) (k):ig d (L.take k)<=ig d L:=by
 have h:ig d L=ig d (L.take k)+ig d (L.drop k):=by
  have e:=RK (λl=>(l.map λx=>eP d x.c).sum) (Sw k L)
  simp only[QU,List.sum_append] at e;exact e.symm
 omega
theorem Al {d:Nat}:∀{l lt},qc d lt l-> ∀x∈l,gU d x.c
 |[],_,_=>by simp
 |x::r,lt,h=>by
  obtain⟨E,G,h3⟩:=h;intro y z;simp only[Ra] at z;rcases z with rfl|z
  ·exact E
  rcases h3 with⟨_,_,D⟩|⟨_,_,_,D⟩<;>exact Al D y z
theorem IN (hd:d<=24) (hT:qc d eN l) (hS:ot 0 l) (hn:ig d l<=200) (hl:l.length<=30) (eL:po p d l=L) (R:jU p.jmp d L []++[⟨18,0,0⟩]=G):
 Pu (rC p.jmp d L 0) (tW L 0) G=ow p d l/\G.length<=700/\(∀x∈G,x.op<256/\((x.op=15\/x.op=16)->x.tj<G.length))/\rC p.jmp d L 0<=24/\tW L 0<=10/\qc d eN L/\ig d L<=200/\L.length<=30:=by
 obtain⟨J,_,r3,r4⟩:=Mj (p:=p) om hT hS;have ab:=(wq hS).1.sublist (Kk (p:=p) (d:=d) (l:=l));unfold ow;rw[eL] at*;have ac:=Dx J;have an:eN.length=10:=rfl;have ad:ln L 0<=10:=GO (λx z V=>by have:=ac x z V;omega) (by omega)
 have ae:=(tC ab (λ_ _ _=>QA _)).2
 rw[xm,Ak,Nat.zero_max];generalize ln L 0=C at*;have hz:∀i,(List.replicate C 0).getD i 0=eN.getD i 0:=λi=>by
  rw[iZ,Qi,Q8];split<;>rfl
 have af:=J.other hz (λx z V=>by rw[Rl];exact ae x z V)
 have Y:Sub (pw p.jmp d L (List.replicate C 0) 0) 0 (pw p.jmp d L (List.replicate C 0) 0):=⟨[],[],by simp,rfl⟩
 have E:=tA (jmp:=p.jmp) (dep:=LM p.jmp d L) (cells:=C) (by omega) af (by simp) (Qn _) Y
 rw[QO] at E;have D:=tX (jmp:=p.jmp) (d:=d) (L:=L) (l:=[]) (lt:=List.replicate C 0);rw[R,RW,Q7] at D;have Z:=tY (jmp:=p.jmp) (l:=[]) (Al J);have ag:G.length<=700:=by
  rw[<-R,Qt];simp only[Q7,QH] at Z⊢;have:=r4;omega
 have I:∀x∈pw p.jmp d L (List.replicate C 0) 0,(1<=x.op/\x.op<=18)/\((x.op=15\/x.op=16)->x.to<(pw p.jmp d L (List.replicate C 0) 0).length):=λx z=>by
  obtain⟨i,hi⟩:=List.mem_iff_getElem?.1 z;have ah:i<_:=(Rz.1 hi).1;have c:=E i x (QA _) ah hi;refine⟨c.num.ops,λg=>?_⟩
  obtain⟨k',_,_,_,hj⟩:=c.doe;obtain⟨_,y,j2,_⟩:=hj g;exact(Rz.1 j2).1
 have aq:=Dt p.jmp d L;refine⟨?_,ag,?_,by omega,ad,J,by omega,by omega⟩
 ·rw[D];exact Lu _ _ (λx z=>(I x z).1)
 rw[D];intro x z;obtain⟨y,hy,rfl⟩:=RC.1 z;obtain⟨q1,q2⟩:=I y hy;exact⟨by simp only[er];omega,λg=>by rw[Ro];exact q2 g⟩
theorem NC {f:Nat}:∀{g w b t},oJ f w b t->gU g t->oJ g w b t:=by
 induction f with
 |zero=>intro g w b t h;exact h.elim
 |succ f ih=>
  intro g w b t h z
  cases g with
  |zero=>exact z.elim
  |succ g=>
   obtain⟨pl,nm,u,E,G,I,h3⟩:=h;exact⟨pl,nm,u,E,G,I,λj D=>ih (h3 j D) (lz z D)⟩
theorem iN.cons {F d w xs ys x y} (z:OO F d w x y) (h:iN F d w xs ys):iN F d w (x::xs) (y::ys):=by
 refine⟨by simp[h.1],λj D=>?_⟩
 cases j with
 |zero=>exact z
 |succ j=>exact h.2 j (by simpa using D)
theorem Am {bs L ix w}:∀{xs} {ys:List Yt} {l r fr:Nat},fs L xs fr->du (dh bs L (N1 ix) w) xs ys->sh l r xs ys->(∀x∈sw ix L l r xs,gU 24 x.c)->iN (λg=>w.heap.size<=g) 24 w (sw ix L l r xs) ys
 |[],[],_,_,_,_,_,_,_=>iN.nil
 |[],_::_,_,_,_,_,h,_,_=>h.elim
 |_::_,[],_,_,_,_,h,_,_=>h.elim
 |x::xs,y::ys,l,r,fr,J,G,Z,D=>by
  have ht:=dh.tr _ J.1.fit G.1.1;rw[sw] at D⊢
  by_cases E:x.name=[]
  ·rw[Qo E] at D⊢
   have I:=D _ (Tq ..);rcases Z with⟨O,_⟩|⟨_,R,h3⟩
   ·exact absurd E O
   rcases G.1.2 with⟨U,_⟩|⟨_,V,_⟩
   ·exact absurd E U
   exact iN.cons ⟨V,R,(NC ht I).off⟩ (Am J.2.2 G.2 h3 (λz Y=>D z (S7 _ Y)))
  ·rw[Qj E] at D⊢
   have I:=D _ (Tq ..);rcases Z with⟨_,R,h3⟩|⟨O,_⟩
   ·rcases G.1.2 with⟨_,V,_⟩|⟨U,_⟩
    ·exact iN.cons ⟨V,R,(NC ht I).off⟩ (Am J.2.2 G.2 h3 (λz Y=>D z (S7 _ Y)))
    ·exact absurd U E
   ·exact absurd O E
theorem M5 {D:Nat} {ys:List Yt} (h:wF D L xs base v ys w) (E:lr L xs):kW w v ys/\iN (λg=>w.heap.size<=g) 24 w (wM L xs) ys/\Pj xs L:=by
 have z:=Pk E h.many;exact⟨kW.of_row h.row,Am h.trees h.items h.numb (Al z.ty),z⟩
end Go.Proofs.YtfkdailfcmnjlaaGreatDoor
