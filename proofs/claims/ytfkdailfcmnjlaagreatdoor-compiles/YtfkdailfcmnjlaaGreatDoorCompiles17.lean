/-
  A part.
-/
import Derived.Test.YtfkdailfcmnjlaaGreatDoorCompiles16
set_option linter.all false
set_option maxHeartbeats 40000000
set_option maxRecDepth 1000000
namespace Go.Proofs.YtfkdailfcmnjlaaGreatDoor
open Go Go.RowKit Tryz
variable {ts k f i L x r rb gl cl s w}
theorem Is {ts:List Tok} (hW:∀t∈ts,ik t) (j:Nat):ik (cr ts j)\/cr ts j=iF:=by
 by_cases h:cr ts j=iF
 ·exact .inr h
 exact .inl (hW _ (px h).2)
theorem qt (hW:∀t∈ts,ik t) (j:Nat) {x:LB} (z:x∈cZ.drop 3) (D:kn x=k):eE (cr ts j) x=decide (cz (cr ts j)=k):=by
 rcases Is hW j with h|h
 ·rw[Ts,sJ h z,D];simp
 have:=nQ x z;rw[h,tL,show cz iF=0 from by decide,<-D]
 unfold kn;symm;rw[Uw];omega
theorem jK {t:Tok}:cz t=2↔t.k=111:=by
 unfold cz;constructor
 ·intro h;by_cases D:t.k=110
  ·rw[RK D] at h;simp at h
  rw[RH D] at h;by_cases E:t.k=111
  ·exact E
  rw[RH E] at h;by_cases h3:t.k=101
  ·rw[RK h3] at h;simp at h
  rw[RH h3] at h;exfalso;have G:∀x,(du cZ x).toNat≠2:=by
   intro x;by_cases I:x=[]
   ·subst I;decide
   have z:∀r,du ([]::r) x=if du r x<0 then -1 else du r x+1:=λr=>by
    rw[du,RH (by simpa using I)]
   have e:cZ=[]::[]::[]::cZ.drop 3:=by decide
   rw[e,z,z,z];have:=jC (cZ.drop 3) x;split
   ·decide
   omega
  exact G _ h
 intro h;rw[RH (by omega),RK h]
theorem mH (ts:List Tok) (k j:Nat):kT ts [k] j=decide (cz (cr ts j)=k):=by
 unfold kT;exact fO _ _
def Ar (x:dk) (t u:Tok):Prop:=
 (x.name≠[]/\cz t=11/\t.pl=x.pl/\cz u=2/\u.pl=x.named/\cG u=x.name/\cY u=0)\/
 (x.name=[]/\cz t=(if x.allow then 12 else 13)/\t.pl=x.pl/\u=eN)
def EG (rb gl cl:Nat) (ts:List Tok) (s:Q) (w:World) (r:vP) (e:Ending) (w':World):Prop:=
 ∃t u b,e= .returned (Nb t u b)/\PF rb w w'/\((r.ok=true/\RR rb gl cl ts {s with i:=r.i} w'/\dm r.L rb w' r.it.top b/\Ar r.it t u)\/(r.ok=false/\RR rb gl cl ts (gd ts {s with i:=r.i}) w'))
theorem kU (h:fB f ts i L x=some r):
 ∃a:Rd,P f 6 ts i L 0=some a/\((a.ok=true/\eE (cr ts a.i) [59]=true/\r=⟨true,a.i+1,a.L,{x with top:=a.top,parts:=a.L.length}⟩)\/((a.ok&&eE (cr ts a.i) [59])=false/\r.ok=false/\r.i=a.i)):=by
 unfold fB at h;cases E:P f 6 ts i L 0 with
 |none=>rw[E] at h;simp at h
 |some a=>
  rw[E] at h;simp only at h;refine⟨a,rfl,?_⟩;by_cases z:a.ok=true
  ·rw[RK z] at h;by_cases D:eE (cr ts a.i) [59]=true
   ·rw[RK D] at h;simp at h;exact .inl ⟨z,D,h.symm⟩
   rw[RH D] at h;simp[dJ] at h;subst h;exact .inr ⟨by rw[z];simpa using D,rfl,rfl⟩
  rw[RH z] at h;simp[dJ] at h;subst h;exact .inr ⟨by simp at z;rw[z];rfl,rfl,rfl⟩
theorem It (Z:fF f 152 6 rb gl cl ts) (hW:∀t∈ts,ik t) (hN:∀t∈ts,t.k=111->t.text≠[]) (h:RR rb gl cl ts s w) (D:s.bad=false) {r:vP} (z:gI f ts s.i L=some r):
 Calls prog 104 #[Pq rb] w (EG rb gl cl ts s w r):=by
 unfold gI at z;have aa:=qt hW s.i (x:=vO) (by decide) (k:=11) (by decide)
 have J:=qt hW s.i (x:=gB) (by decide) (k:=12) (by decide)
 have V:=qt hW s.i (x:=nF) (by decide) (k:=13) (by decide)
 have O:∀{ok3:Bool} {j3:Nat} {a:Rd} {t u:Tok} {x:dk} {E R:Bool} {j4 j5:Nat},ok3=true->j4=(if ok3 then a.i else j3)->E=(ok3&&a.ok)->R=(E&&kT ts [5] j4)->j5=rr R j4->Ar {x with top:=a.top,parts:=a.L.length} t u->
  ((a.ok=true/\eE (cr ts a.i) [59]=true/\r=⟨true,a.i+1,a.L,{x with top:=a.top,parts:=a.L.length}⟩)\/((a.ok&&eE (cr ts a.i) [59])=false/\r.ok=false/\r.i=a.i))->
  ∀e w',(∃b,e= .returned (Nb t u b)/\PF rb w w'/\RR rb gl cl ts (Ch ts s R j5) w'/\(E=true->dm a.L rb w' a.top b))->EG rb gl cl ts s w r e w':=by
  intro ok3 j3 a t u x E R j4 j5 e3 e6 e7 U e9 hO hr e w' ⟨b,he,hF,hR,hC⟩;subst e3;have e6:j4=a.i:=e6;rw[TC] at e7;subst e6;have hs:=qt hW a.i (x:=[59]) (by decide) (k:=5) (by decide)
  rw[mH,<-hs,e7] at U;refine⟨t,u,b,he,hF,?_⟩;rcases hr with⟨ok,hw,rfl⟩|⟨no,ag,ri⟩
  ·rw[ok,hw] at U;have U:=U;subst U;subst e9;exact .inl ⟨rfl,hR,hC (by rw[e7];exact ok),hO⟩
  rw[no] at U;subst U;subst e9;exact .inr ⟨ag,by rw[ri];exact hR⟩
 have fails:∀{t u:Tok} {j:Nat} {a:Rd} {E:Bool},r=⟨false,j,[],dQ⟩-> ∀e w',(∃b,e= .returned (Nb t u b)/\PF rb w w'/\RR rb gl cl ts (Ch ts s false j) w'/\(E=true->dm a.L rb w' a.top b))->EG rb gl cl ts s w r e w':=by
  intro t u j a E e e' w' ⟨b,he,hF,hR,_⟩;subst e;exact⟨t,u,b,he,hF,.inr ⟨rfl,hR⟩⟩
 by_cases hl:eE (cr ts s.i) vO=true
 ·rw[RK hl] at z;have hk:cz (cr ts s.i)=11:=by rw[aa] at hl;simpa using hl
  by_cases I:(cr ts (s.i+1)).k=111
  ·rw[RK I] at z;have k2:kT ts [2] (s.i+1)=true:=by rw[mH];simpa using jK.2 I
   have s8:=qt hW (s.i+2) (x:=[61]) (by decide) (k:=8) (by decide)
   have eu:gJ ts true (s.i+1) [2]=cr ts (s.i+1):=by unfold gJ;rw[k2];rfl
   have ah:=hN _ (px (ts:=ts) (i:=s.i+1) λe=>by rw[e] at I;simp[iF] at I).2 I
   by_cases h8:eE (cr ts (s.i+2)) [61]=true
   ·rw[RK h8] at z;obtain⟨a,hP,hr⟩:=kU z;have k8:kT ts [8] (s.i+2)=true:=by rw[mH,<-s8];exact h8
    apply(ud Z h D hk (ok2:=true) (ok3:=true) (j2:=s.i+2) (j3:=s.i+3) k2.symm rfl (by rw[k8];rfl) rfl (λ_=>hP) rfl rfl rfl rfl).mono
    refine O (ok3:=true) (j3:=s.i+3) rfl rfl rfl rfl rfl ?_ hr;rw[eu];refine .inl ⟨ah,hk,rfl,jK.2 I,rfl,?_,?_⟩
    ·unfold cG;rw[RK I]
    unfold cY;rw[RH (by omega)]
   rw[RH h8] at z;have k8:kT ts [8] (s.i+2)=false:=by rw[mH,<-s8];simpa using h8
   simp[dJ] at z;apply(ud Z h D hk (ok2:=true) (ok3:=false) (j2:=s.i+2) (j3:=s.i+2) k2.symm rfl (by rw[k8];rfl) rfl (L:=L) (a:=⟨false,0,[],0⟩) (λe=>by simp at e) rfl rfl rfl rfl).mono
   exact fails z.symm
  rw[RH I] at z;have k2:kT ts [2] (s.i+1)=false:=by rw[mH];simpa using λe=>I (jK.1 e)
  simp[dJ] at z;apply(ud Z h D hk (ok2:=false) (ok3:=false) (j2:=s.i+1) (j3:=s.i+1) k2.symm rfl rfl rfl (L:=L) (a:=⟨false,0,[],0⟩) (λe=>by simp at e) rfl rfl rfl rfl).mono
  exact fails z.symm
 rw[RH hl] at z;have ab:cz (cr ts s.i)≠11:=by rw[aa] at hl;simpa using hl
 have ac:cz (gJ ts true s.i [11,12,13])≠11:=by
  unfold gJ;split
  ·exact ab
  decide
 have s3:kT ts [11,12,13] s.i=(eE (cr ts s.i) gB||eE (cr ts s.i) nF):=by
  rw[J,V,Ts];unfold kT;rw[Sd];simp[ab]
 by_cases G:(eE (cr ts s.i) gB||eE (cr ts s.i) nF)=true
 ·rw[RK G] at z;rw[G] at s3;have af:=qt hW (s.i+1) (x:=lT) (by decide) (k:=14) (by decide)
  have et:gJ ts true s.i [11,12,13]=cr ts s.i:=by unfold gJ;rw[s3];rfl
  by_cases hi:eE (cr ts (s.i+1)) lT=true
  ·rw[RK hi] at z;obtain⟨a,hP,hr⟩:=kU z;have ad:kT ts [14] (s.i+1)=true:=by rw[mH,<-af];exact hi
   apply(ue Z h D ac (ok2:=true) (ok3:=true) (j2:=s.i+1) (j3:=s.i+2) s3.symm rfl (by rw[ad];rfl) rfl (λ_=>hP) rfl rfl rfl rfl).mono
   refine O (ok3:=true) (j3:=s.i+2) rfl rfl rfl rfl rfl ?_ hr;rw[et];refine .inr ⟨rfl,?_,rfl,rfl⟩;simp only;by_cases Y:eE (cr ts s.i) gB=true
   ·rw[RK (by simpa using (ji Y).1)]
    rw[J] at Y;simpa using Y
   have ae:eE (cr ts s.i) nF=true:=by
    simp at G;rcases G with G|G
    ·exact absurd G Y
    exact G
   rw[RH (by rw[(ji ae).1];decide)]
   rw[V] at ae;simpa using ae
  rw[RH hi] at z;have ad:kT ts [14] (s.i+1)=false:=by rw[mH,<-af];simpa using hi
  simp[dJ] at z;apply(ue Z h D ac (ok2:=true) (ok3:=false) (j2:=s.i+1) (j3:=s.i+1) s3.symm rfl (by rw[ad];rfl) rfl (L:=L) (a:=⟨false,0,[],0⟩) (λe=>by simp at e) rfl rfl rfl rfl).mono
  exact fails z.symm
 rw[RH G] at z;have ai:kT ts [11,12,13] s.i=false:=by rw[s3];simpa using G
 simp[dJ] at z;apply(ue Z h D ac (ok2:=false) (ok3:=false) (j2:=s.i) (j3:=s.i) ai.symm rfl rfl rfl (L:=L) (a:=⟨false,0,[],0⟩) (λe=>by simp at e) rfl rfl rfl rfl).mono
 exact fails z.symm
section
attribute [local go_sem ↓] Go.wp_at_zero Go.wp_at_succ
variable {F base v n xs w'}
theorem oG:(prog.info? 163).map (λi=>(i.zero,i.size,i.bytes))=some (some (.agg #[Iq 0,Iq 0,Iq 0,.string ⟨#[]⟩,Iq 0,Iq 0,Iq 0,.string ⟨#[]⟩,Iq 0,.pointer none]),10,96):=by kernel_rfl
def ff (y:Tok×Tok×Nat×Int):List Value:=[Iq (cz y.1),Iq y.1.pl,Iq (cY y.1),S (cG y.1),Iq (cz y.2.1),Iq y.2.1.pl,Iq (cY y.2.1),S (cG y.2.1),Iq y.2.2.2,Pq y.2.2.1]
def dE (ys:List (Tok×Tok×Nat×Int)):List Value:=ys.flatMap ff
theorem EH (ys:List (Tok×Tok×Nat×Int)):(dE ys).length=ys.length*10:=by
 induction ys with
 |nil=>rfl
 |cons t ts ih=>simp[dE,ff] at ih⊢;omega
theorem nt (ys:List (Tok×Tok×Nat×Int)) (y:Tok×Tok×Nat×Int):dE (ys++[y])=dE ys++ff y:=by simp[dE]
def dB (C:Nat->Nat->Prop):List dk->List (Tok×Tok×Nat×Int)->Prop
 |[],[]=>True
 |x::xs,y::ys=>(C x.top y.2.2.1/\Ar x y.1 y.2.1)/\dB C xs ys
 |_,_=>False
theorem dB.mono {C z:Nat->Nat->Prop} (D:∀i b,C i b->z i b):∀{xs ys},dB C xs ys->dB z xs ys
 |[],[],_=>trivial
 |_::_,_::_,h=>⟨⟨D _ _ h.1.1,h.1.2⟩,dB.mono D h.2⟩
theorem dB.snoc {C x y} (z:C x.top y.2.2.1) (D:Ar x y.1 y.2.1):∀{xs ys},dB C xs ys->dB C (xs++[x]) (ys++[y])
 |[],[],_=>⟨⟨z,D⟩,trivial⟩
 |_::_,_::_,h=>⟨h.1,dB.snoc z D h.2⟩
theorem dB.len {C:Nat->Nat->Prop}:∀{xs ys},dB C xs ys->ys.length=xs.length
 |[],[],_=>rfl
 |_::_,_::_,h=>by simp[dB.len h.2]
theorem LA (h:gI F ts i L=some r) (z:r.ok=true):i<r.i/\ ∃new,r.L=L++new:=by
 have tail:∀(j:Nat) (x:dk),i<j->fB F ts j L x=some r->i<r.i/\ ∃new,r.L=L++new:=by
  intro j x O J;obtain⟨a,G,E⟩:=kU J;rcases E with⟨D,R,rfl⟩|⟨_,I,_⟩
  ·have U:=(vR F 6 ts j L 0 a G D (by omega)).1
   exact⟨by simp;omega,Bq G D (by omega)⟩
  ·rw[I] at z;simp at z
 unfold gI at h
 split at h
 ·split at h
  ·split at h
   ·exact tail _ _ (by omega) h
   ·simp[dJ] at h;subst h;simp at z
  ·simp[dJ] at h;subst h;simp at z
 ·split at h
  ·split at h
   ·exact tail _ _ (by omega) h
   ·simp[dJ] at h;subst h;simp at z
  ·simp[dJ] at h;subst h;simp at z
theorem Cj {t:Tok} (h:ik t):cz t=0↔t.k=101:=by
 rcases h.cases with h|h|h|⟨h,z⟩
 ·unfold cz;rw[RK h];omega
 ·unfold cz;rw[RH (by omega),RK h];omega
 ·unfold cz;rw[RH (by omega),RH (by omega),RK h];simp[h]
 ·rw[fe h];have:=nQ _ z;unfold kn;omega
theorem RR.grown {rb gl cl ts s w w' row} (h:RR rb gl cl ts s w) (z:w.grownBy w' row) (D:row≠some rb) (E:row≠some gl):RR rb gl cl ts s w':=
 h.move (z.block _ h.glt E.symm) (by rw[z.block _ h.rlt D.symm];exact h.rd) h.lt
theorem uf {w:World} (h:w.ownsRow base 163 10 v n xs) (z:v.ownBlock=some k):∃cs,w.heap[k]?=some (.cells cs 163 (0,0)):=by
 rcases h.2 with⟨rfl,_⟩|⟨g,cap,G,rfl,V,R,_⟩
 ·simp[Value.ownBlock] at z
 ·simp[Value.ownBlock] at z;subst z;exact⟨G,R⟩
theorem RR.apart (h:RR rb gl cl ts s w) (D:w.ownsRow base 163 10 v n xs):v.ownBlock≠some rb/\v.ownBlock≠some gl:=by
 constructor
 ·intro e
  obtain⟨cs,z⟩:=uf D e;rw[h.rd] at z;simp[mB] at z
 ·intro e
  obtain⟨cs,z⟩:=uf D e;obtain⟨G,E⟩:=h.wl;rw[E] at z;simp at z
theorem dm.grown {L lt w w' i b} (h:dm L lt w i b) {base v n xs} (G:w.ownsRow base 163 10 v n xs) (I:w.grownBy w' v.ownBlock):dm L lt w' i b:=
 h.keep λk cs ty D E=>I.block k (cq D) λe=>by
  obtain⟨J,z⟩:=uf G e.symm;rw[D] at z;simp only[R6,Ty] at z;rw[z.2.1] at E;exact absurd E (by decide)
theorem EI (E:RR rb gl cl ts s w) (h:w.ownsRow base 163 10 v n xs) (G:PF rb w w'):w'.ownsRow base 163 10 v n xs:=by
 have I:=(E.apart h).1;obtain⟨J,z⟩:=h;refine⟨J,?_⟩;rcases z with z|⟨g,cap,D,rfl,b,c,d⟩
 ·exact .inl z
 ·refine .inr ⟨g,cap,D,rfl,b,?_,d⟩
  rw[G.block g (cq c) (λe=>I (by rw[e];rfl))];exact c
end
section
attribute [local go_sem ↓] Go.wp_at_zero Go.wp_at_succ
variable {bs : Nat}
theorem wR (k:Nat) (w:World) (D:k<=100):Calls prog 154 #[Iq k] w λe w'=>e= .returned (Iq (rk k))/\w'=w:=by
 have z:Hid (rk k=if k=1\/(27<=k/\k<=30) then 1 else if k=20\/k=21\/k=34\/k=35 then 2 else if(22<=k/\k<=26)\/(31<=k/\k<=33) then 3 else 0):=rfl
 generalize rk k=r at*;go_enter func154,ntmps154
 go_wp2
 all_goals go_ret
 all_goals refine⟨dh ?_,rfl⟩
 all_goals rw[z.out]
 all_goals clear z
 all_goals (repeat' split)
 all_goals first
  |rfl
  |(exfalso;omega)
  |(exfalso;simp at*;omega)
theorem ug (D:List Nat) (g o cap z E:Nat) (w) (hl:D.length<=100) (hb:z<=100)
 (V:∀j,j<D.length->Cq w g (o+j) (Iq (D.getD j 0))/\D.getD j 0<=100):
 Calls prog 218 #[.slice (some ⟨g,o,none⟩) D.length cap,Iq z,Iq E] w λe w'=>e= .returned (Iq (iI D z E))/\w'=w:=by
 have Y:=Hi V;clear V;go_enter func218,ntmps218
 go_wp2
 go_loop [11] (λi=> ∃k:Nat,k<=D.length/\i= Iq k/\Hid (∀q,q<k->D.getD q 0=z)) (λi=>D.length - (intOf i).toNat)
 case atStart=>exact⟨0,R0 _,rfl,λq hq=>by omega⟩
 case round=>
  obtain⟨k,hk,rfl,Z⟩:=hrel
  by_cases G:k<D.length
  ·obtain⟨J,O⟩:=Y.out k G
   have I:Hid (D.getD k 0∈D):=by rw[RG,RI G];exact R4 G
   clear Y;generalize R:D.getD k 0=x at J I O;have HX:=Hi R;clear R
   by_cases U:x=z
   ·subst U
    go_wp2
    refine⟨⟨k+1,by omega,by go_num,λq hq=>?_⟩,by simp[intOf];omega⟩
    by_cases e:q=k
    ·rw[e];exact HX.out
    ·exact Z.out q (by omega)
   ·have aa: ¬((x:Int)=(z:Int)):=by omega
    have ab:((x:Int)==(z:Int))=false:=by simpa using aa
    have HV:=Hi U;clear U
    go_wp2
    go_ret;refine⟨dh ?_,rfl⟩;unfold iI;rw[RH (λe=>HV.out (by simpa using TL.1 e x I.out))];rfl
  ·go_wp2
   go_ret;refine⟨dh ?_,rfl⟩;unfold iI;rw[RK];rw[TL];intro x R;obtain⟨j,hj,rfl⟩:=Tt.1 R;have:=Z.out j (by omega)
   rw[RG,RI hj] at this
   simpa using this
theorem Ck (ks:List Nat) (v:Nat) (b cap) (w) (hl:ks.length<=100)
 (I:∀j,j<ks.length->Cq w b j (Iq (ks.getD j 0))):
 Calls prog 217 #[Sq b ks.length cap,Iq v] w λe w'=>(∃r,e= .returned (Iq r)/\ -1<=r/\r<=1000/\(decide (0<=r)=ks.contains v))/\w'=w:=by
 have Y:=Hi I;clear I;go_enter func217,ntmps217
 go_wp2
 go_loop [8] (λi=> ∃k:Nat,k<=ks.length/\i= Iq k/\Hid (∀q,q<k->ks.getD q 0≠v)) (λi=>ks.length - (intOf i).toNat)
 case atStart=>exact⟨0,R0 _,rfl,λq Z=>by omega⟩
 case round=>
  obtain⟨k,hk,rfl,J⟩:=hrel
  by_cases z:k<ks.length
  ·have E:=Y.out k z
   have D:Hid (ks.getD k 0∈ks):=by rw[RG,RI z];exact R4 z
   generalize O:ks.getD k 0=x at E D;have HX:=Hi O;clear O
   by_cases G:v=x
   ·subst G
    go_wp2
    go_ret;refine⟨⟨k,rfl,by omega,by omega,?_⟩,rfl⟩
    simp[D.out]
   ·have R: ¬((v:Int)=(x:Int)):=by omega
    have aa:((v:Int)==(x:Int))=false:=by simpa using R
    have HV:=Hi G;clear G
    go_wp2
    refine⟨⟨k+1,by omega,by go_num,λq Z=>?_⟩,by simp[intOf];omega⟩
    by_cases e:q=k
    ·rw[e,HX.out];exact λe=>HV.out e.symm
    ·exact J.out q (by omega)
  ·go_wp2
   go_ret;refine⟨⟨-1,rfl,by omega,by omega,?_⟩,rfl⟩
   have U:v∉ks:=λe=>by
    obtain⟨j,hj,V⟩:=Tt.1 e;exact J.out j (by omega) (by rw[RG,RI hj];exact V)
   simp[U]
theorem wS (ks:List Nat) (v:Nat) (b cap) (w) (E:ks.length<=100)
 (z:∀j,j<ks.length->Cq w b j (Iq (ks.getD j 0))):
 Calls prog 155 #[Sq b ks.length cap,Iq v] w λe w'=>e= .returned (.bool (ks.contains v))/\w'=w:=by
 have D:=Ck ks v b cap w E z;clear z;go_enter func155,ntmps155;go_wp2_with fail;apply D.mono;rintro e w' ⟨⟨r,rfl,I,J,h3⟩,rfl⟩;have G:=Hi h3;clear D h3;go_wp2;go_ret;exact⟨iN G.out,rfl⟩
end
section
attribute [local go_sem ↓] Go.wp_at_zero Go.wp_at_succ
variable {bs : Nat}
theorem As (k:Nat) (q) (g) (w) (hl:q.length<=3) (J:0<q.length)
 (E:k=6\/k=7\/k=9\/k=10\/k=17\/k=18\/k=19\/k=8\/k=14) (R:k=8->True) (D:k=14->q.length=3)
 (A:∀j,j<q.length->Cq w g j (Iq (q.getD j 0))/\q.getD j 0<=100):
 Calls prog 156 #[Iq k,.slice (some ⟨g,0,none⟩) q.length q.length] w λe w'=>e= .returned (Iq (jh k q))/\Below w.heap.size w w':=by
 by_cases Z:k=8\/k=14
 rotate_left
 ·have z:=λx y G=>ug q g 0 q.length x y w (by omega) G (by simpa using A)
  clear A R D;rcases(by omega:k=6\/k=7\/k=9\/k=10\/k=17\/k=18\/k=19) with rfl|rfl|rfl|rfl|rfl|rfl|rfl
  all_goals
   go_enter func156,ntmps156;go_wp2_with fail;refine(z _ _ (by decide)).mono ?_
   rintro e w' ⟨rfl,rfl⟩;clear z;go_wp2_with fail;go_ret;exact⟨dh rfl,RP _ _⟩
 clear E;rcases Z with E|E
 ·subst E
  obtain⟨U,O⟩:=A 0 J;have z:=ug q g 0 q.length (q.getD 0 0) 2 w (by omega) O (by simpa using A)
  have I:Hid (jh 8 q=iI q (q.getD 0 0) 2):=rfl;clear A R D;generalize jh 8 q=r at*;generalize q.getD 0 0=u0 at*;go_enter func156,ntmps156;go_wp2_with fail;refine z.mono ?_;rintro e w' ⟨rfl,rfl⟩;clear z;go_wp2_with fail;go_ret;exact⟨dh (by rw[I.out]),RP _ _⟩
 ·subst E
  have h3:=D rfl;obtain⟨U,O⟩:=A 0 J;obtain⟨V,Y⟩:=A 1 (by omega)
  have z:=ug (q.drop 1) g 1 (q.length - 1) (q.getD 1 0) (q.getD 1 0) w.drew (by simp;omega) Y (λj hj=>by
   have:=A (1+j) (by simp at hj;omega)
   rw[show(q.drop 1).getD j 0=q.getD (1+j) 0 from by simp[RG,Nat.add_comm]]
   exact this)
  rw[show(q.drop 1).length=q.length - 1 from by simp] at z
  have I:Hid (jh 14 q=if q.getD 0 0=2 then iI (q.drop 1) (q.getD 1 0) (q.getD 1 0) else 0):=rfl
  clear A R D;generalize jh 14 q=r at*;generalize q.getD 0 0=u0 at*;generalize q.getD 1 0=u1 at*;generalize q.drop 1=ur at*;rw[h3] at z;rw[h3]
  by_cases G:u0=2
  ·subst G
   go_enter func156,ntmps156;go_wp2_with fail
   go_region_held3 (λw'=>Cq w' g 1 (Iq u1)) (first|exact V|go_keep) ((refine z.mono ?_;rintro e w' ⟨rfl,rfl⟩))
   go_wp2_with fail;go_ret;exact⟨dh (by rw[I.out];simp),(RP _ _).drew⟩
  ·have aa:((u0:Int)==(2:Int))=false:=by
    have: ¬((u0:Int)=2):=by omega
    simpa using this
   have H2:Hid _:=G;clear G z;go_enter func156,ntmps156;go_wp2_with fail;go_ret;exact⟨dh (by rw[I.out,RH H2.out];rfl),RP _ _⟩
end
section
attribute [local go_sem ↓] Go.wp_at_zero Go.wp_at_succ
variable {t u base v ys e size g n xs j F R}
def qP:Nat->Nat->List (Tok×Tok×Nat×Int)->List (Tok×Tok×Nat×Int)
 |_,_,[]=>[]
 |l,r,y::ys=>if cz y.1=11 then(y.1,y.2.1,y.2.2.1,(l:Int))::qP (l+1) r ys else(y.1,y.2.1,y.2.2.1,((r+1:Nat):Int))::qP l (r+1) ys
def yr:Nat->Nat->List dk->List (Tok×Tok×Nat×Int)->Prop
 |_,_,[],[]=>True
 |l,r,x::xs,y::ys=>(x.name≠[]/\y.2.2.2=(l:Int)/\yr (l+1) r xs ys)\/(x.name=[]/\y.2.2.2=((r+1:Nat):Int)/\yr l (r+1) xs ys)
 |_,_,_,_=>False
theorem sO:∀(l r:Nat) (ys:List (Tok×Tok×Nat×Int)),(qP l r ys).length=ys.length
 |_,_,[]=>rfl
 |l,r,y::ys=>by
  rw[qP];split
  ·simp[sO (l+1) r ys]
  simp[sO l (r+1) ys]
theorem Cl (h:Ar x t u):(x.name≠[]/\cz t=11)\/(x.name=[]/\cz t≠11):=by
 rcases h with h|h
 ·exact .inl ⟨h.1,h.2.1⟩
 exact .inr ⟨h.1,by rw[h.2.1];split<;>decide⟩
theorem At {C:Nat->Nat->Prop}:∀{xs ys} l r,dB C xs ys->yr l r xs (qP l r ys)/\dB C xs (qP l r ys)
 |[],[],_,_,_=>⟨trivial,trivial⟩
 |x::xs,y::ys,l,r,h=>by
  obtain⟨⟨J,z⟩,h3⟩:=h;rw[qP];rcases Cl z with⟨D,E⟩|⟨D,E⟩
  ·rw[RK E];obtain⟨G,I⟩:=At (l+1) r h3;exact⟨.inl ⟨D,rfl,G⟩,⟨J,z⟩,I⟩
  rw[RH E];obtain⟨G,I⟩:=At l (r+1) h3;exact⟨.inr ⟨D,rfl,G⟩,⟨J,z⟩,I⟩
theorem mg {w:World} (h:w.ownsRow base 163 10 v ys.length (dE ys)):∃a cap,v= .slice a ys.length cap/\ ∀k,k<ys.length-> ∃g,a=some ⟨g,0,none⟩/\(∃cs,w.heap[g]?=some (.cells cs 163 (0,0)))/\ ∀j,j<10->w.cell? ⟨g,k*10+j,none⟩=(ff (ys.getD k (eN,eN,0,0)))[j]?:=by
 obtain⟨V,h⟩:=h;rcases h with⟨rfl,J⟩|⟨g,cap,D,rfl,Y,E,Z,h2,h3,O⟩
 ·exact⟨none,0,by rw[J],λk z=>by omega⟩
 refine⟨_,cap,rfl,λk z=>⟨g,rfl,⟨D,E⟩,λj hj=>?_⟩⟩
 rw[RM w g (k*10+j) _ _ _ E];have R:D[k*10+j]?=(D.toList.take (ys.length*10))[k*10+j]?:=by
  rw[Tm (by omega)];simp
 rw[R,O];have:∀ys k,k<ys.length->(dE ys)[k*10+j]?=(ff (ys.getD k (eN,eN,0,0)))[j]?:=by
  intro ys;induction ys with
  |nil=>intro k z;simp at z
  |cons y ys ih=>
   intro k z;have G:dE (y::ys)=ff y++dE ys:=rfl;have U:(ff y).length=10:=rfl;cases k with
   |zero=>rw[G,Si (by omega)];simp
   |succ k=>
    rw[G,Sg (by omega),U,show(k+1)*10+j - 10=k*10+j from by omega,ih k (by simpa using z)]
    rfl
 exact this ys k z
theorem Cm {w:World} {cap} (h:w.ownsRow base e size (Sq g n cap) n xs) (U:j<n*size) (u:Value):(w.setCell ⟨g,j,none⟩ u).ownsRow base e size (Sq g n cap) n (xs.set j u):=by
 obtain⟨D,h⟩:=h;refine⟨by simpa using D,?_⟩
 rcases h with⟨h,_⟩|⟨V,E,z,h,G,I,h3,J,O,R⟩
 ·simp at h
 simp only[Sb,R6,Tx,Uj,TV] at h;obtain⟨rfl,rfl⟩:=h;refine .inr ⟨g,cap,z.setIfInBounds j u,rfl,G,R3 w g j _ _ u I,h3,J,by simpa using O,?_⟩
 rw[<-R];simp[Vl]
theorem Iu {w w':World} (h:w.grownBy w' (some g)) (j) (u):w.grownBy (w'.setCell ⟨g,j,none⟩ u) (some g):=
 ⟨h.os,h.tape,h.output,by simpa using h.size,λk D z=>(RQ _ _ _ _ (by simpa using z)).trans (h.block k D z)⟩
theorem EJ (d) (y) (r) (n):(dE (d++y::r)).set (d.length*10+8) (Iq n)=dE (d++(y.1,y.2.1,y.2.2.1,n)::r):=by
 have e:∀a b,dE (a++b)=dE a++dE b:=λa b=>by simp[dE]
 rw[e,e,<-EH d,Uf _ _ (by omega)]
 congr 1;rw[show(dE d).length+8 - (dE d).length=8 by omega]
 simp[dE,ff]
theorem Iv (G:w.ownsRow base 163 10 v ys.length (dE ys)) (hy:ys.length<=1001):
 Calls prog 105 #[v] w λe w'=>e= .returned (.tuple #[])/\w'.ownsRow base 163 10 v ys.length (dE (qP 0 0 ys))/\w.grownBy w' v.ownBlock:=by
 have ad:∃a cap,v= .slice a ys.length cap:=by
  rcases G.2 with⟨rfl,h0⟩|⟨g,cap,ae,rfl,_⟩
  ·exact⟨none,0,by rw[h0]⟩
  exact⟨_,cap,rfl⟩
 obtain⟨a,cap,rfl⟩:=ad;have ai:=hy;generalize hn:ys.length=n at*;have HN:=Hi hn;have HW:Hid (w.ownsRow base 163 10 (.slice a n cap) n (dE ys)):=G;have af:Hid (qP 0 0 ys=qP 0 0 ys):=rfl;generalize ab:qP 0 0 ys=nf at*;have HF:=Hi ab;go_enter func105,ntmps105;go_wp2;go_loopw [2,3,7] (λlv rv kv wr=> ∃k l r d rest,k<=n/\l<=k/\r<=k/\kv= Iq k/\lv= Iq l/\rv= Iq r/\Hid (d.length=k/\k+rest.length=n/\nf=d++qP l r rest/\wr.ownsRow base 163 10 (.slice a n cap) n (dE (d++rest))/\w.grownBy wr (Value.slice a n cap).ownBlock)) (λ_ _ kv _=>n - (intOf kv).toNat)
 case atStart=>exact⟨0,0,0,[],ys,R0 _,R0 _,R0 _,rfl,rfl,rfl,rfl,by rw[Sw];exact HN.out,HF.out.symm,HW.out,World.grownBy.refl _ _⟩
 case round=>
  obtain⟨k,l,r,d,rest,hk,hl,hr,rfl,rfl,rfl,Z⟩:=hrel;by_cases aj:k<n
  ·obtain⟨O,I,h3,R,U⟩:=Z.out;cases rest with
   |nil=>simp at I;omega
   |cons y q=>
    have J:=R;rcases R.2 with⟨_,h0⟩|⟨g,ac,ae,e,hb,hg,_⟩
    ·omega
    simp only[Sb,TV] at e;obtain⟨rfl,rfl⟩:=e;have z:∀j,j<10->wr.cell? ⟨g,k*10+j,none⟩=(ff y)[j]?:=λj hj=>by
     have aa:wr.ownsRow base 163 10 (Sq g (d++y::q).length cap) (d++y::q).length (dE (d++y::q)):=by
      have e:(d++y::q).length=n:=by simp at I⊢;omega
      rw[e];exact J
     obtain⟨a',ac,e,V⟩:=mg aa;obtain⟨g',e',_,V⟩:=V k (by simp;omega)
     simp only[Sb,TV] at e;rw[<-e.1] at e';simp at e';rw[<-e'] at V;have e3:(d++y::q).getD k (eN,eN,0,0)=y:=by
      rw[RG,Sg (by omega),O];simp
     rw[e3] at V;exact V j hj
    have c0:Cq wr g (k*10) (Iq (cz y.1)):=z 0 (by omega)
    have c8:=z 8 (by omega)
    have ak:∀j,wr.frozen? ⟨g,j,none⟩=false:=λj=>by simp[World.frozen?,hg]
    have Y:=λ(m:Int)=>Cm J (j:=k*10+8) (by omega) (Iq m)
    have D:=λm=>EJ d y q m
    rw[O] at D;have HS:Hid (∀m,(wr.setCell ⟨g,k*10+8,none⟩ (Iq m)).ownsRow base 163 10 (Sq g n cap) n (dE (d++(y.1,y.2.1,y.2.2.1,m)::q))/\w.grownBy (wr.setCell ⟨g,k*10+8,none⟩ (Iq m)) (Value.slice (some ⟨g,0,none⟩) n cap).ownBlock):=λm=>⟨by rw[<-D m];exact Y m,Iu U _ _⟩
    have H3:=Hi h3;have H1:=Hi O;have H2:=Hi I;by_cases E:cz y.1=11
    ·rw[E] at c0;go_wp2;go_roundw
     case rel=>
      refine⟨k+1,l+1,r,d++[(y.1,y.2.1,y.2.2.1,(l:Int))],q,by omega,by omega,by omega,by simp,by simp,rfl,by simp[H1.out],by have:=H2.out;simp at this;omega,?_,?_,(HS.out l).2⟩
      ·rw[H3.out,qP,RK E];simp
      have:=(HS.out l).1;simpa using this
     case measure=>simp[intOf];omega
    have ag:((cz y.1)==11)=false:=by
     have: ¬((cz y.1)=11):=by omega
     simpa using this
    have HK:=Hi E;generalize cz y.1=kd at c0 ag;go_wp2;go_roundw
    case rel=>
     refine⟨k+1,l,r+1,d++[(y.1,y.2.1,y.2.2.1,((r+1:Nat):Int))],q,by omega,by omega,by omega,by simp,rfl,by simp,by simp[H1.out],by have:=H2.out;simp at this;omega,?_,?_,?_⟩
     ·rw[H3.out,qP,RH HK.out];simp
     ·have:=(HS.out (r+1)).1;simpa using this
     have:=(HS.out (r+1)).2;simpa using this
    case measure=>simp[intOf];omega
  have ah:k=n:=by omega
  subst ah;obtain⟨O,I,h3,R,U⟩:=Z.out;have hr:rest=[]:=by cases rest with
   |nil=>rfl
   |cons y q=>simp at I
  subst hr;have HE:Hid (wr.ownsRow base 163 10 (.slice a k cap) k (dE nf)/\w.grownBy wr (Value.slice a k cap).ownBlock):=⟨by rw[h3];exact R,U⟩
  go_wp2;go_end0;exact⟨rfl,HE.out⟩
def sP (ts:List Tok) (R:mW) (w:World) (e:Ending) (w':World):Prop:=
 Below w.heap.size w w'/\((R.ok=false/\e= .returned (.tuple #[.slice none 0 0,Iq (cr ts R.i).pl,.bool false]))\/(R.ok=true/\ ∃v ys,e= .returned (.tuple #[v,Iq 0,.bool true])/\ys.length<=1001/\w'.ownsRow w.heap.size 163 10 v ys.length (dE ys)/\dB (dm R.L w.heap.size w') R.xs ys/\yr 0 0 R.xs ys))
def Rx (F rb gl cl:Nat) (ts:List Tok) (R:mW) (D:Nat) (v:Value) (wr:World):Prop:=
 (∃(i:Nat) (L:List Pt) (xs:List dk) (g:Nat) (ys:List (Tok×Tok×Nat×Int)),RR rb gl cl ts ⟨i,false,0⟩ wr/\dx F ts g i L xs=some R/\ys.length<=i/\wr.ownsRow D 163 10 v ys.length (dE ys)/\dB (dm L rb wr) xs ys)\/
 (R.ok=false/\RR rb gl cl ts (gd ts ⟨R.i,false,0⟩) wr)
theorem Iw {ts:List Tok} {w:World} (hW:∀t∈ts,ik t) (hN:∀t∈ts,t.k=111->t.text≠[]) (hn:0<ts.length) (aq:ts.length<=1001) (ao:cz (cr ts (ts.length - 1))=0)
 (wl:∃cs,w.heap[gl]?=some (.cells cs 160 (0,0)))
 (wc:∀i,i<ts.length->Cq w gl (i*4) (Iq (cz (cr ts i)))/\Cq w gl (i*4+1) (Iq (cr ts i).pl)/\Cq w gl (i*4+2) (Iq (cY (cr ts i)))/\Cq w gl (i*4+3) (S (cG (cr ts i))))
 (hR:dx F ts g 0 [] []=some R):
 Calls prog 56 #[Sq gl ts.length cl] w (sP ts R w):=by
 obtain⟨i0,hi,ar,au,av⟩:=Tz oG;have aj:=cq wl.choose_spec;have Y:Below w.heap.size w (w.alloc (mB gl ts.length cl ⟨0,false,0⟩)):=(RP _ _).alloc (RL _) _;have h0:RR w.heap.size gl cl ts ⟨0,false,0⟩ (w.alloc (mB gl ts.length cl ⟨0,false,0⟩)):=by
  refine⟨RO w _,?_,λi hi=>?_,hn,aq,ao⟩
  ·rw[Y.block _ aj];exact wl
  have e:∀j,(w.alloc (mB gl ts.length cl ⟨0,false,0⟩)).cell? ⟨gl,j,none⟩=w.cell? ⟨gl,j,none⟩:=λj=>R1 (w:=w) (Y.block _ aj)
  rw[e,e,e,e];exact wc i hi
 have aa:Rx F w.heap.size gl cl ts R w.heap.size (.slice none 0 0) (w.alloc (mB gl ts.length cl ⟨0,false,0⟩)):=
  .inl ⟨0,[],[],g,[],h0,hR,by simp,SC _ _ _ _,trivial⟩
 have aw:=Hi (QJ (rb:=w.heap.size) (gl:=gl) (cl:=cl) hW F).1;have HW:=Hi hW;have HN:=Hi hN;unfold mB at Y aa;go_enter func56,ntmps56;go_wp2;generalize w.alloc (.cells #[Sq gl ts.length cl,Iq (0:Nat),.bool false,Iq (0:Nat)] 213 (0,0))=wz at Y aa;generalize Z:w.heap.size=rb at*;go_loopw [6] (λv wr=>Rx F rb gl cl ts R rb v wr/\Below rb w wr) (λ_ wr=>ts.length - NC rb wr)
 case atStart=>exact⟨aa,Y⟩
 case round=>
  obtain⟨ax,z⟩:=hrel;rcases ax with⟨i,L,xs,g',ys,E,hp,aG,O,ab⟩|⟨ay,E⟩
  ·have ht:=HW.out _ (jt E.lt);simp only[] at ht;have J:=jf E;simp only[] at J;by_cases U:cz (cr ts i)=0
   ·have az:=kR hp ((Cj ht).1 U);subst az;rw[U] at J;obtain⟨⟨r0,r1,r2,r3⟩,rf⟩:=E.drew.cells;have D:wr.drew.ownsRow rb 163 10 u6 ys.length (dE ys):=O;have ad:ys.length<=1001:=by have:=E.lt;have:=E.nb;simp only[] at*;omega
    have WC:=Iv D ad;have HA:Hid (∀w',w'.ownsRow rb 163 10 u6 ys.length (dE (qP 0 0 ys))->wr.drew.grownBy w' u6.ownBlock->sP ts ⟨true,i,L,xs⟩ w (.returned (.tuple #[u6,Iq 0,.bool true])) w'):=λw' ho V=>by
     have aA:∀q,u6.ownBlock=some q->rb<=q:=λq hq=>by
      rcases D.2 with⟨e,_⟩|⟨g,c,aH,e,hb,_⟩
      ·rw[e] at hq;simp[Value.ownBlock] at hq
      rw[e] at hq;simp[Value.ownBlock] at hq;omega
     have hB:Bl w w':=⟨V.os.trans z.drew.os,V.tape.trans z.drew.tape,V.output.trans z.drew.output,SF z.drew.size V.size,λq hq=>by
      rw[Z] at hq;rw[V.block q (by have:=z.drew.size;omega) (λe=>by have:=aA q e.symm;omega)]
      exact z.drew.block q hq⟩
     obtain⟨n1,n2⟩:=At 0 0 ab;refine⟨hB,.inr ⟨rfl,u6,qP 0 0 ys,rfl,by rw[sO];exact ad,?_,?_,n1⟩⟩
     ·rw[Z,sO];exact ho
     rw[Z];exact n2.mono λi b h=>(h.keep λk _ _ _ _=>rfl:dm L rb wr.drew i b).grown D V
    go_wp2_with fail;apply J.mono;rintro e w' ⟨rfl,rfl⟩;go_wp2_with fail;apply WC.mono;rintro e w' ⟨rfl,ho,V⟩;have aB:Hid (sP ts ⟨true,i,L,xs⟩ w (.returned (.tuple #[u6,Iq 0,.bool true])) w'):=HA.out w' ho V;go_wp2;refine RU (v:= .tuple #[u6,Iq 0,.bool true]) (by simp[results,results56,go_sem]) rfl ?_
    exact aB.out
   obtain⟨r,g2,ae,ac⟩:=rG hp λe=>U ((Cj ht).2 e)
   have ah:=E.more (by simpa using U)
   have aI:((cz (cr ts i):Int)==(0:Int))=false:=by
    have: ¬((cz (cr ts i):Int)=0):=by omega
    simpa using this
   have ak:=It aw.out HW.out HN.out E.drew rfl ae;have D:=O;have aC:=E.lt;simp only[] at aC ah;have HR:=Hi E;have am:=Hi ac;have HT:=Hi ab;have HI:=Hi ae;generalize cz (cr ts i)=kd at*;go_wp2_with fail;apply J.mono;rintro e w' ⟨rfl,rfl⟩;go_wp2_with fail;apply ak.mono;rintro e w1 ⟨t,u,b,rfl,F1,hL⟩;have I:=EI HR.out.drew D F1;have af:Below rb w w1:=⟨F1.os.trans z.drew.os,F1.tape.trans z.drew.tape,F1.output.trans z.drew.output,SF z.drew.size F1.size,λk U=>(F1.block k (by have:=z.drew.size;omega) (by omega)).trans (z.drew.block k U)⟩
   have aK:=af.size;have HL:=Hi hL;have aD:=Hi F1;unfold Nb;go_wp2_with (
    at_builtin;go_must (refine wpList_append_lies _ (by rfl) _ _ 84 (by rfl) rb 163 i0 (.agg #[Iq 0,Iq 0,Iq 0,.string ⟨#[]⟩,Iq 0,Iq 0,Iq 0,.string ⟨#[]⟩,Iq 0,.pointer none]) 10 96 underlying84 hi ar au av (by rfl) (by decide) _ _ _ (by rfl) (I.alloc _) ⟨w1.heap.size,0,none⟩ 1 1 (ff (t,u,b,0)) (by rfl) (by rfl) (World.news_of_block (RO w1 _)) (λx hx=>by simp[ff] at hx;rcases hx with rfl|rfl|rfl|rfl|rfl|rfl|rfl|rfl|rfl|rfl<;>rfl) (by decide) (by unfold maxLen;omega) (by omega) (by simp;omega) _ rfl ?_)
    intro g3 cap w3 ai G aL aF)
   have ag:Below rb w w3:=by subst Z;exact gU af I G
   rcases HL.out with⟨ok,h1,hc,aE⟩|⟨ok,h1⟩
   ·have ha:=h1.apart I;have h3:=(h1.alloc _).grown G ha.1 ha.2;obtain⟨aM,ap⟩:=LA HI.out ok;refine⟨⟨.inl ⟨r.i,r.L,xs++[r.it],g2,ys++[(t,u,b,0)],h3,?_,by simp;omega,?_,?_⟩,ag⟩,?_⟩
    ·rcases am.out with⟨_,hp⟩|⟨no,_⟩
     ·exact hp
     rw[ok] at no;simp at no
    ·rw[nt];simpa using ai
    ·refine dB.snoc (((hc.grow ((RP _ _).alloc (RL _) _)).grown (I.alloc _) G)) aE (HT.out.mono λi b h=>?_)
     exact(qs ((h.pf HR.out (PF.refl rb wr).drew).pf HR.out.drew aD.out) ap).grow ((RP _ _).alloc (RL _) _)|>.grown (I.alloc _) G
    rw[ns h3,ns HR.out];have:=h3.lt;simp only[] at*;omega
   have ha:=h1.apart I;have h3:=(h1.alloc _).grown G ha.1 ha.2;refine⟨⟨.inr ?_,ag⟩,?_⟩
   ·rcases am.out with⟨an,_⟩|⟨_,rfl⟩
    ·rw[ok] at an;simp at an
    exact⟨rfl,h3⟩
   rw[ns h3,ns HR.out];simp only[gd];omega
  have J:=jf E;have U:cz (cr ts (gd ts ⟨R.i,false,0⟩).i)=0:=by rw[show(gd ts ⟨R.i,false,0⟩).i=ts.length - 1 from rfl];exact E.fin
  rw[U] at J;obtain⟨⟨r0,r1,r2,r3⟩,rf⟩:=E.drew.cells;have HA:Hid (sP ts R w (.returned (.tuple #[.slice none 0 0,Iq (cr ts R.i).pl,.bool false])) wr.drew.drew):=
   ⟨by rw[Z];exact z.drew.drew,.inl ⟨ay,rfl⟩⟩
  simp only[gd] at r0 r1 r2 r3;rw[RH (by simp)] at r3
  generalize (cr ts R.i).pl=pp at*;go_wp2_with fail;apply J.mono;rintro e w' ⟨rfl,rfl⟩;go_wp2_with fail;go_region_held (λw'=>w'.cell? ⟨rb,3,none⟩=some (Iq pp)) (go_keep) (fail)
  go_wp2;refine RU (v:= .tuple #[.slice none 0 0,Iq pp,.bool false]) (by simp[results,results56,go_sem]) rfl ?_
  exact HA.out
end
section
attribute [local go_sem ↓] Go.wp_at_zero Go.wp_at_succ
variable {bs : Nat}
variable {N b w' t u n g}
structure dK (bs) (L:List Pt) (N:Tok->Int->Prop) (w) (i b):Prop where
 lay::
 out:∀C:Nat->Nat->Prop,(∀(i b:Nat) (u:Value) (n:Int) (bl:Nat->Nat),i<L.length->bs<=b->N (L.getD i cD).tok n->w.heap[b]?=some (gY (L.getD i cD).tok u n)->jr w u (L.getD i cD).subs.length bl->(∀j,j<(L.getD i cD).subs.length->C ((L.getD i cD).subs.getD j 0) (bl j))->C i b)->C i b
theorem dK.mk {L N w} (i b) (u) (n) (bl) (hi:i<L.length) (hlo:bs<=b) (hn:N (L.getD i cD).tok n) (hb:w.heap[b]?=some (gY (L.getD i cD).tok u n))
 (hu:jr w u (L.getD i cD).subs.length bl) (hs:∀j,j<(L.getD i cD).subs.length->dK bs L N w ((L.getD i cD).subs.getD j 0) (bl j)):dK bs L N w i b:=
 ⟨λC hC=>hC i b u n bl hi hlo hn hb hu λj hj=>(hs j hj).out C hC⟩
theorem dK.ind (M:Nat->Nat->Prop)
 (hM:∀i b u n bl,i<L.length->bs<=b->N (L.getD i cD).tok n->w.heap[b]?=some (gY (L.getD i cD).tok u n)->jr w u (L.getD i cD).subs.length bl->(∀j,j<(L.getD i cD).subs.length->dK bs L N w ((L.getD i cD).subs.getD j 0) (bl j))->(∀j,j<(L.getD i cD).subs.length->M ((L.getD i cD).subs.getD j 0) (bl j))->M i b)
 (h:dK bs L N w i b):M i b:=
 (h.out (λi b=>dK bs L N w i b/\M i b) λi b u n bl hi hlo hn hb hu hs=>⟨.mk i b u n bl hi hlo hn hb hu λj hj=>(hs j hj).1,hM i b u n bl hi hlo hn hb hu (λj hj=>(hs j hj).1) λj hj=>(hs j hj).2⟩).2
theorem dK.inv (h:dK bs L N w i b):∃(u:Value) (n:Int) (bl:Nat->Nat),i<L.length/\bs<=b/\N (L.getD i cD).tok n/\w.heap[b]?=some (gY (L.getD i cD).tok u n)/\jr w u (L.getD i cD).subs.length bl/\ ∀j,j<(L.getD i cD).subs.length->dK bs L N w ((L.getD i cD).subs.getD j 0) (bl j):=
 h.ind (λi b=> ∃u n bl,i<L.length/\bs<=b/\N (L.getD i cD).tok n/\w.heap[b]?=some (gY (L.getD i cD).tok u n)/\jr w u (L.getD i cD).subs.length bl/\ ∀j,j<(L.getD i cD).subs.length->dK bs L N w ((L.getD i cD).subs.getD j 0) (bl j)) λ_ _ u n bl hi hlo hn hb hu hs _=>⟨u,n,bl,hi,hlo,hn,hb,hu,hs⟩
theorem dm.toS {i b:Nat} (h:dm L bs w i b) (hN:∀k,k<L.length->N (L.getD k cD).tok 0):dK bs L N w i b:=
 h.ind (λi b=>dK bs L N w i b) λi b u bl hi hlo hb hu _ _ ih=> .mk i b u 0 bl hi hlo (hN i hi) hb hu ih
theorem dK.keep (h:dK bs L N w i b)
 (hk:∀(k:Nat) cs ty,w.heap[k]?=some (Obj.cells cs ty (0,0))->ty=229\/ty=161->w'.heap[k]?=w.heap[k]?):dK bs L N w' i b:=by
 refine h.ind (λi b=>dK bs L N w' i b) ?_
 intro i b u n bl hi hlo hn hb hu hs ih;refine .mk i b u n bl hi hlo hn ?_ ?_ ih
 ·rw[hk b _ _ hb (.inl rfl)];exact hb
 rcases hu with hu|⟨h0,g,h1,h2⟩
 ·exact .inl hu
 exact .inr ⟨h0,g,h1,by rw[hk g _ _ h2 (.inr rfl)];exact h2⟩
theorem dK.grow (h:dK bs L N w i b) (hb:Bl w w'):dK bs L N w' i b:=
 h.keep λk _ _ hk _=>hb.block k (cq hk)
theorem kz (h:w.heap[b]?=some (gY t u n)):(Cq w b 0 (Iq (cz t))/\Cq w b 1 (Iq t.pl)/\Cq w b 2 (Iq (cY t))/\Cq w b 3 (S (cG t))/\Cq w b 4 u/\Cq w b 5 (Iq n))/\ ∀j,w.frozen? ⟨b,j,none⟩=false:=by
 have z:=λj=>RM w b j _ _ _ h
 exact⟨⟨z 0,z 1,z 2,z 3,z 4,z 5⟩,λj=>by simp[World.frozen?,h,gY]⟩
theorem mI {w:World} {z:Nat->Nat} (h:w.heap[g]?=some (.cells ((List.range n).map λj=>Value.pointer (some ⟨z j,0,none⟩)).toArray 161 (0,0))) (j:Nat) (D:j<n):w.cell? ⟨g,j,none⟩=some (.pointer (some ⟨z j,0,none⟩)):=by
 rw[RM w g j _ _ _ h];simp[D]
theorem jr.slice {w u n z} (h:jr w u n z):∃a,u= .slice a n n/\ ∀j,j<n-> ∃g,a=some ⟨g,0,none⟩/\w.heap[g]?=some (.cells ((List.range n).map λj=>Value.pointer (some ⟨z j,0,none⟩)).toArray 161 (0,0)):=by
 rcases h with⟨rfl,rfl⟩|⟨I,g,rfl,E⟩
 ·exact⟨none,rfl,λj J=>by omega⟩
 exact⟨_,rfl,λj _=>⟨g,rfl,E⟩⟩
theorem EK (F:Nat->Nat) (l:List Nat) (k) (z:k<l.length):kN F (l.take (k+1))=kN F (l.take k)+F (l.getD k 0):=by
 induction l generalizing k with
 |nil=>simp at z
 |cons x l ih=>
  cases k with
  |zero=>simp[kN]
  |succ k=>simp only[Tj,kN,R9];rw[ih k (by simpa using z)];omega
theorem Cn (F:Nat->Nat) (l) (k):kN F (l.take k)<=kN F l:=by
 induction l generalizing k with
 |nil=>simp[kN]
 |cons x l ih=>
  cases k with
  |zero=>simp[kN]
  |succ k=>simp only[Tj,kN];have:=ih k;omega
theorem Ix {N:Tok->Int->Prop} (hL:L.length<=5000) (f:Nat):∀{lo i b w},dN f L lo i->dK bs L N w i b->
 Calls prog 106 #[.pointer (some ⟨b,0,none⟩)] w λe w'=>e= .returned (.int .i64 (cnt f L i))/\Bl w w':=by
 induction f with
 |zero=>intro lo i b w h;exact h.elim
 |succ f ih=>
  intro lo i b w hT hC;have hcnt:=hT.cnt;have hle:=hT.le;have hlt:=hT.lt;obtain⟨u,n,bl,hi,hlo,hn,hb,hu,hs⟩:=hC.inv;obtain⟨⟨c0,c1,c2,c3,c4,c5⟩,cf⟩:=kz hb;rw[cnt] at hcnt;obtain⟨a,rfl,ha⟩:=hu.slice;have hn3:(L.getD i cD).subs.length<=3:=by
   rcases hT.2.1 with⟨_,h1⟩|⟨_,h1⟩|⟨_,h1⟩|⟨m,_,_,h1⟩
   ·rw[h1];simp
   all_goals omega
  have hsub:=iH _ hT.2.2;have HS:=Hi hs;have HT:=Hi hsub;have HA:=Hi ha;clear hs hb hu hT hsub ha hn;generalize hjs:(L.getD i cD).subs=js at*;have HJS:=Hi hjs;clear hjs;go_enter func106,ntmps106;go_wp2;go_loopw [3,11] (λnv kv wr=> ∃k,k<=js.length/\kv= .int .i64 k/\nv= .int .i64 (1+kN (cnt f L) (js.take k))/\Bl w wr) (λ_ kv _=>js.length - (intOf kv).toNat)
  case atStart=>exact⟨0,R0 _,rfl,rfl,RP _ _⟩
  case round=>
   obtain⟨k,hk,rfl,rfl,hbw⟩:=hrel;have hsl:=Cn (cnt f L) js k;by_cases hlt:k<js.length
   ·obtain⟨g,rfl,hg⟩:=HA.out k hlt;have hg':=(hbw.block g (cq hg)).trans hg;have hcell:=mI hg' k hlt;have htk:=EK (cnt f L) js k hlt;have hsl2:=Cn (cnt f L) js (k+1);obtain⟨lo',hT'⟩:=HT.out (js.getD k 0) (by rw[RG,RI hlt];exact R4 hlt)
    have HI:=ih hT' ((HS.out k hlt).grow hbw);clear hg hg' hT';rw[htk] at hsl2;have HTK:=Hi htk;clear htk;generalize kN (cnt f L) (js.take k)=A at*;generalize cnt f L (js.getD k 0)=X at*;go_wp2_with fail;apply HI.mono;rintro e w1 ⟨rfl,hb1⟩;clear HI;go_wp2;go_roundw
    case rel=>
     refine⟨k+1,by omega,by simp,?_,hbw.trans (hb1.mono hbw.size)⟩
     rw[HTK.out];simp;omega
    case measure=>simp[intOf];omega
   have hke:k=js.length:=by omega
   subst hke;rw[Ti] at*;go_wp2;go_ret;exact⟨by rw[cnt,HJS.out];rfl,hbw⟩
end
section
attribute [local go_sem ↓] Go.wp_at_zero Go.wp_at_succ
variable {bs : Nat}
theorem EL {N:Tok->Int->Prop} (f:Nat) (hf:f<=5001):∀{V i b w},dN f L V i->dK bs L N w i b->
 Calls prog 108 #[Pq b] w λe w'=>e= .returned (Iq (dep f L i))/\Below w.heap.size w w':=by
 induction f with
 |zero=>intro V i b w h;exact h.elim
 |succ f ih=>
  intro V i b w E hC;have ih:= @ih (by omega)
  obtain⟨u,n,bl,hi,ah,hn,hb,hu,hs⟩:=hC.inv;obtain⟨⟨c0,c1,c2,c3,c4,c5⟩,cf⟩:=kz hb;obtain⟨a,rfl,ha⟩:=hu.slice;have ai:(L.getD i cD).subs.length<=3:=by
   rcases E.2.1 with⟨_,J⟩|⟨_,J⟩|⟨_,J⟩|⟨m,_,_,J⟩
   ·rw[J];simp
   all_goals omega
  have G:=iH _ E.2.2;have HS:=Hi hs;have HT:=Hi G;have HA:=Hi ha;generalize O:(L.getD i cD).subs=js at*;have aa:=Hi O;go_enter func108,ntmps108;go_wp2
  go_loopw [3,11] (λnv Y wr=> ∃k,k<=js.length/\Y= Iq k/\nv= Iq (gO (dep f L) (js.take k):Nat)/\Below w.heap.size w wr) (λ_ Y _=>js.length - (intOf Y).toNat)
  case atStart=>exact⟨0,R0 _,rfl,by simp[gO],RP _ _⟩
  case round=>
   obtain⟨k,hk,rfl,rfl,D⟩:=hrel;have aj:=oq (dep f L) (f+1) (lZ f L) (js.take k)
   by_cases z:k<js.length
   ·obtain⟨g,rfl,Z⟩:=HA.out k z
    have R:=(D.block g (cq Z)).trans Z;have ae:=mI R k z;have I:=si (dep f L) js k z;obtain⟨ak,U⟩:=HT.out (js.getD k 0) (by rw[RG,RI z];exact R4 z)
    have HI:=ih U ((HS.out k z).grow D);have am:=lZ f L (js.getD k 0);rw[show js[k]=js.getD k 0 from by rw[RG,RI z];rfl] at I
    have ab:=Hi I;generalize gO (dep f L) (js.take k)=A at*;generalize dep f L (js.getD k 0)=X at*;go_wp2_with fail;apply HI.mono;rintro e w1 ⟨rfl,ac⟩;go_wp2
    go_roundw
    case rel=>
     refine⟨k+1,by omega,by simp,?_,D.trans (ac.mono D.size)⟩
     rw[ab.out];simp;omega
    case measure=>simp[intOf];omega
   ·have ad:k=js.length:=by omega
    subst ad;rw[Ti] at*;go_wp2;go_ret;refine⟨?_,D⟩;rw[dep,aa.out];exact Te (λn:Int=>Ending.returned (Value.int .i64 n)) (show(1:Int)+(gO (dep f L) js:Nat)=((gO (dep f L) js+1:Nat):Int) by omega)
end
section
attribute [local go_sem ↓] Go.wp_at_zero Go.wp_at_succ
variable {bs : Nat}
variable {lets N xs ys base v}
def Iy:Option Nat->Value
 |some p=> .tuple #[Iq p,.bool false]
 |none=> .tuple #[Iq 0,.bool true]
theorem EN {lt} (z:lt=lets+(if x.name==[] then 0 else 1)):eK L (x::r) lets i=if 10<lt\/20<i+1 - lt\/200<x.parts\/20<dep (x.top+1) L x.top then some x.pl else eK L r lt (i+1):=by
 rw[eK,<-z]
theorem fK {α:Type} {l:List α} (h:k<l.length) (d:α):l.drop k=l.getD k d::l.drop (k+1):=by
 rw[R5 h,RG,RI h];rfl
theorem EO (t u) (n) (b) (w):
 Calls prog 107 #[Ri t u n b] w λe w'=>e= .returned (.bool (if cz t=11 then decide (10<=n) else decide (20<n)))/\Bl w w':=by
 unfold Ri;have D:Hid (Bl w (w.alloc (.cells #[Iq (cz t),Iq t.pl,Iq (cY t),S (cG t),Iq (cz u),Iq u.pl,Iq (cY u),S (cG u),Iq n,Pq b] 163 (0,0)))):=(RP w.heap.size w).alloc (RL _) _;by_cases z:cz t=11
 ·have E:Hid ((if cz t=11 then decide (10<=n) else decide (20<n))=decide (10<=n)):=by show _=_;rw[RK z]
  generalize (if cz t=11 then decide (10<=n) else decide (20<n))=r at*;rw[z] at D⊢;generalize t.pl=G at*;generalize cY t=I at*;generalize cG t=J at*;generalize cz u=O at*;generalize u.pl=R at*;generalize cY u=U at*;generalize cG u=V at*;go_enter func107,ntmps107;go_wp2;go_ret;exact⟨by rw[E.out];rfl,D.out⟩
 have E:Hid ((if cz t=11 then decide (10<=n) else decide (20<n))=decide (20<n)):=by show _=_;rw[RH z]
 generalize (if cz t=11 then decide (10<=n) else decide (20<n))=r at*;have Y:((cz t)==11)=false:=by
  have: ¬((cz t)=11):=by omega
  simpa using this
 generalize cz t=Z at*;generalize t.pl=G at*;generalize cY t=I at*;generalize cG t=J at*;generalize cz u=O at*;generalize u.pl=R at*;generalize cY u=U at*;generalize cG u=V at*;go_enter func107,ntmps107;go_wp2;go_ret;exact⟨by rw[E.out];rfl,D.out⟩
theorem NG (hL:L.length<=5000) (ak:w.ownsRow base 163 10 v ys.length (dE ys)) (hy:ys.length<=1001)
 (am:dB (dK bs L N w) xs ys) (aw:ek L xs 0) (ax:yr 0 0 xs ys):
 Calls prog 57 #[v] w λe w'=>e= .returned (Iy (eK L xs 0 0))/\Bl w w':=by
 obtain⟨a,cap,rfl,ag⟩:=mg ak;have ab:=Hi am.len;have HC:=Hi ag;have HT:=Hi am;have aH:=Hi aw;have aI:=Hi ax;clear ak ag am aw ax;go_enter func57,ntmps57;go_wp2;go_loopw [4,9] (λpv kv wr=> ∃k lets fr,k<=ys.length/\kv= Iq k/\pv= Iq (fr:Nat)/\lets<=k/\fr<=L.length/\Hid (eK L xs 0 0=eK L (xs.drop k) lets k)/\Hid (ek L (xs.drop k) fr)/\Hid (dB (dK bs L N w) (xs.drop k) (ys.drop k))/\Hid (lets<=10/\k - lets<=20)/\Hid (yr lets (k - lets) (xs.drop k) (ys.drop k))/\Below w.heap.size w wr) (λ_ kv _=>ys.length - (intOf kv).toNat)
 case atStart=>exact⟨0,0,0,R0 _,rfl,rfl,RL _,R0 _,rfl,aH.out,HT.out,⟨by omega,by omega⟩,aI.out,RP _ _⟩
 case round=>
  obtain⟨k,lets,fr,hk,rfl,rfl,aX,aY,HM,aD,aE,ay,an,G⟩:=hrel;by_cases ah:k<ys.length
  ·have Z:=aD.out;have D:=aE.out;have J:=an.out;rw[fK (show k<xs.length by rw[<-ab.out];exact ah) dQ] at Z D J
   rw[fK (show k<xs.length by rw[<-ab.out];exact ah) dQ] at HM
   rw[fK ah (eN,eN,0,0)] at D J;obtain⟨g,rfl,aJ,aa⟩:=HC.out k ah;have aK:=cq aJ.choose_spec;generalize xs.getD k dQ=x at*;generalize ys.getD k (eN,eN,0,0)=y at*;obtain⟨⟨ai,hO⟩,D⟩:=D;obtain⟨az,aZ,Z⟩:=Z;obtain⟨E,u0,b,wh⟩:=y;simp only[] at ai hO;unfold yr at J;simp only[] at J;have z:∀j,j<10->wr.cell? ⟨g,k*10+j,none⟩=(ff (E,u0,b,wh))[j]?:=λj hj=>by
    rw[G.cell (p:=⟨g,k*10+j,none⟩) aK];exact aa j hj
   have c0:=z 0 (by omega)
   have c1:=z 1 (by omega)
   have c2:=z 2 (by omega)
   have c3:=z 3 (by omega)
   have c4:=z 4 (by omega)
   have c5:=z 5 (by omega)
   have c6:=z 6 (by omega)
   have c7:=z 7 (by omega)
   have c8:=z 8 (by omega)
   have c9:=z 9 (by omega)
   simp[ff] at c0 c1 c2 c3 c4 c5 c6 c7 c8 c9;have O:=az.fit;have aL:=O.cnt;have a0:=O.le;have a8:=O.lt;have W1:=Ix (N:=N) hL (x.top+1) O (ai.grow (G.alloc G.size (.cells #[Iq (cz E),Iq E.pl,Iq (cY E),S (cG E),Iq (cz u0),Iq u0.pl,Iq (cY u0),S (cG u0),Iq wh,Pq b] 163 (0,0))));rw[aL] at W1;have WB:=λW=>EO E u0 wh b W
   unfold Ri at WB;obtain⟨lt,ac,ao,R⟩:∃lt,(lt=lets+(if x.name==[] then 0 else 1))/\((if cz E=11 then decide (10<=wh) else decide (20<wh))=decide (10<lt\/20<k+1 - lt))/\yr lt (k+1 - lt) (xs.drop (k+1)) (ys.drop (k+1)):=by
    have a9:=ay.out;have aA:=Cl hO;rcases J with⟨hn,hw,R⟩|⟨hn,hw,R⟩
    ·have ad:cz E=11:=by rcases aA with h|h;exact h.2;exact absurd h.1 hn
     refine⟨lets+1,by rw[RH (by simpa using hn)],?_,by rw[show k+1 - (lets+1)=k - lets by omega];exact R⟩
     rw[RK ad,hw];exact UD.2 (by omega)
    have ad:cz E≠11:=by rcases aA with h|h;exact absurd hn h.1;exact h.2
    refine⟨lets,by simp[hn],?_,by rw[show k+1 - lets=k - lets+1 by omega];exact R⟩
    rw[RH ad,hw];exact UD.2 (by omega)
   have aW:lt<=k+1:=by rw[ac];split<;>omega
   rw[ao] at WB;have aj:=Hi (EN (L:=L) (x:=x) (r:=xs.drop (k+1)) (lets:=lets) (i:=k) (lt:=lt) ac);have aN:=Hi R;have aO:=Hi O;have aP:=Hi ai;have aF:=Hi Z;have aG:=Hi D;have aB:E.pl=x.pl:=by unfold Ar at hO;rcases hO with hO|hO<;>exact hO.2.2.1
   have ae:=Hi aB;clear aB az O ai Z D z aa J ac ao R hO an ay;generalize cz E=kd at*;generalize E.pl=p0 at*;generalize cY E=m2 at*;generalize cG E=s3 at*;generalize cz u0=m4 at*;generalize u0.pl=m5 at*;generalize cY u0=m6 at*;generalize cG u0=s7 at*;go_wp2_with fail;apply W1.mono;rintro e w1 ⟨rfl,ap⟩;clear W1;have aq:=(ap.block _ (by simp)).trans (RO wr _)
   have ar:=(G.alloc G.size _).trans (ap.mono (by have:=G.size;simp;omega))
   obtain⟨⟨z0,z1,z2,z3,z4,z5,z6,z7,z8,z9⟩,zf⟩:=dY aq;have U:=Hi aq;have V:=Hi ar;clear aq ap c0 c1 c2 c3 c4 c5 c6 c7 c8 c9 ar;generalize aQ:dep (x.top+1) L x.top=dd at*;generalize wr.heap.size=bi at*;by_cases hA:10<lt\/20<k+1 - lt
   ·rw[Sr hA] at WB;go_wp2_with fail;apply(WB _).mono;rintro e w2 ⟨rfl,I⟩;have hz:=(dY (w:=w2) (b:=bi) (x0:= Iq kd) (x1:= Iq p0) (x2:= Iq m2) (x3:=S s3) (x4:= Iq m4) (x5:= Iq m5) (x6:= Iq m6) (x7:=S s7) (x8:= Iq wh) (x9:= Pq b) (by rw[I.block _ (cq U.out)];exact U.out))
    clear WB z0 z1 z2 z3 z4 z5 z6 z7 z8 z9 zf;obtain⟨⟨z0,z1,z2,z3,z4,z5,z6,z7,z8,z9⟩,zf⟩:=hz;have Y:=Hi (V.out.trans (I.mono V.out.size));clear I U V;go_wp2;refine RU (v:= .tuple #[Iq p0,.bool false]) (by simp[results,results57,go_sem]) rfl ⟨?_,Y.out⟩
    rw[HM.out,aj.out,RK (by omega),ae.out];rfl
   rw[Sc hA] at WB;go_wp2_with fail;apply(WB _).mono;rintro e w2 ⟨rfl,I⟩;have D:w2.heap[bi]?=some (.cells #[Iq kd,Iq p0,Iq m2,S s3,Iq m4,Iq m5,Iq m6,S s7,Iq wh,Pq b] 163 (0,0)):=by rw[I.block _ (cq U.out)];exact U.out
   clear WB z0 z1 z2 z3 z4 z5 z6 z7 z8 z9 zf;obtain⟨⟨z0,z1,z2,z3,z4,z5,z6,z7,z8,z9⟩,zf⟩:=dY D;have af:=V.out.trans (I.mono V.out.size);have W2:=EL (N:=N) (x.top+1) (by omega) aO.out (aP.out.grow af)
   rw[aQ] at W2;have Y:=Hi af;have au:=Hi D;clear I U V af D;by_cases hC:200<x.parts
   ·clear W2;go_wp2;refine RU (v:= .tuple #[Iq p0,.bool false]) (by simp[results,results57,go_sem]) rfl ⟨?_,Y.out⟩
    rw[HM.out,aj.out,RK (by omega),ae.out];rfl
   go_wp2_with fail;apply W2.mono;rintro e w3 ⟨rfl,av⟩;clear W2;have hz:=(dY (w:=w3) (b:=bi) (x0:= Iq kd) (x1:= Iq p0) (x2:= Iq m2) (x3:=S s3) (x4:= Iq m4) (x5:= Iq m5) (x6:= Iq m6) (x7:=S s7) (x8:= Iq wh) (x9:= Pq b) (by rw[av.block _ (cq au.out)];exact au.out))
   clear z0 z1 z2 z3 z4 z5 z6 z7 z8 z9 zf;obtain⟨⟨z0,z1,z2,z3,z4,z5,z6,z7,z8,z9⟩,zf⟩:=hz;have aC:=Hi (Y.out.trans (av.mono Y.out.size));clear av au Y;by_cases hD:20<dd
   ·go_wp2;refine RU (v:= .tuple #[Iq p0,.bool false]) (by simp[results,results57,go_sem]) rfl ⟨?_,aC.out⟩
    rw[HM.out,aj.out,RK (by omega),ae.out];rfl
   go_wp2;go_roundw
   case rel=>
    refine⟨k+1,lt,x.parts,by omega,by simp,by simp;omega,by omega,by omega,?_,aF.out,aG.out,⟨by omega,by omega⟩,aN.out,aC.out⟩
    show _=_;rw[HM.out,aj.out,RH (by omega)]
   case measure=>simp[intOf];omega
  have aR:k=ys.length:=by omega
  subst aR;have hm:eK L xs 0 0=none:=by
   have:=HM.out;rw[R8 (by rw[ab.out];exact RL _)] at this
   exact this
  have aS:=Hi hm;clear hm;go_wp2;refine RU (v:= .tuple #[Iq 0,.bool true]) (by simp[results,results57,go_sem]) rfl ⟨?_,G⟩
  rw[aS.out];rfl
end
section
attribute [local go_sem ↓] Go.wp_at_zero Go.wp_at_succ
variable {bs : Nat}
def pO (w:World) (a:Option Addr) (l:List (List UInt8)):Prop:= ∀j,j<l.length-> ∃g,a=some ⟨g,0,none⟩/\(∃cs,w.heap[g]?=some (.cells cs 9 (0,0)))/\w.cell? ⟨g,j,none⟩=some (S (l.getD j []))
theorem sQ (l:List (List UInt8)) (s) (a) (cap) (w) (hl:l.length<=2000) (G:pO w a l):
 Calls prog 153 #[.slice a l.length cap,S s] w λe w'=>e= .returned (Iq (du l s))/\w'=w:=by
 have I:=Hi G;go_enter func153,ntmps153
 go_wp2
 go_loop [8] (λi=> ∃k:Nat,k<=l.length/\i= Iq k/\Hid (du l s=(if du (l.drop k) s<0 then -1 else du (l.drop k) s+k))) (λi=>l.length - (intOf i).toNat)
 case atStart=>
  refine⟨0,R0 _,rfl,?_⟩;have:=jC l s
  show _=_
  simp;omega
 case round=>
  obtain⟨k,hk,rfl,H⟩:=hrel
  by_cases z:k<l.length
  ·obtain⟨g,rfl,_,U⟩:=I.out k z
   have J:=Hi (Bk l s k z);have O:Hid (l[k]=l.getD k []):=by show _=_;rw[RG,RI z];rfl
   generalize l.getD k []=x at*
   by_cases D:s=x
   ·subst D
    go_wp2
    go_ret;refine⟨dh ?_,rfl⟩;rw[H.out,J.out,O.out];simp
   ·have Z:(s==x)=false:=by simpa using D
    have V:=Hi D
    go_wp2
    refine⟨⟨k+1,by omega,by go_num,?_⟩,by simp[intOf];omega⟩
    show _=_
    have R: ¬(x==s)=true:=λe=>V.out (Uh.1 e).symm
    rw[H.out,J.out,O.out,RH R]
    by_cases E:du (l.drop (k+1)) s<0
    ·rw[RK E,RK E];rfl
    ·rw[RH E,RH E,RH (by omega)];omega
  ·go_wp2
   go_ret;refine⟨dh ?_,rfl⟩;rw[H.out,R8 (by omega)]
   simp[du]
theorem vm (l:List (List UInt8)) (s) (a) (cap) (w) (G:l.length<=2000) (D:pO w a l):
 Calls prog 109 #[.slice a l.length cap,S s] w λe w'=>e= .returned (.bool (decide (0<=du l s)))/\w'=w:=by
 have E:=sQ l s a cap w G D;have J:=jC l s;have z:=Am l s;have I:du l s<=2000:=by
  rcases z with h|h
  ·omega
  ·rw[h];simp[du]
 generalize du l s=r at*;go_enter func109,ntmps109;go_wp2_with fail;apply E.mono;rintro e w' ⟨rfl,rfl⟩;go_wp2;go_ret;exact⟨rfl,rfl⟩
end
section
attribute [local go_sem ↓] Go.wp_at_zero Go.wp_at_succ
variable {bs : Nat}
variable {u E n O w' cs ty fr N b a t lo}
structure RF (SS:Nat->Nat->List UInt8->Int->Prop) (w w':World):Prop where
 os:w'.os=w.os
 tape:w'.tape=w.tape
 output:w'.output=w.output
 size:w.heap.size<=w'.heap.size
 block:∀k,k<w.heap.size->w'.heap[k]?=w.heap[k]?\/ ∃t u n n',w.heap[k]?=some (gY t u n)/\w'.heap[k]?=some (gY t u n')/\SS k (cz t) (cG t) n'
theorem EP {t z:Tok} (h:gY t u n=gY z E O):cz t=cz z/\cG t=cG z/\ ∀m,gY t u m=gY z E m:=by
 have D:=h;unfold gY at D;simp only[Ty] at D;obtain⟨R,_⟩:=D;have G:=Te Array.toList R;simp only[TX,Value.int.injEq,TV] at G;obtain⟨I,U,h3,V,Y,h6,_⟩:=G;have J:cG t=cG z:=by simpa [S] using V
 have Z:cz t=cz z:=by exact Int.ofNat.inj I
 refine⟨Z,J,λm=>?_⟩
 unfold gY;rw[I,U,h3,J,Y]
theorem RF.refl (SS:Nat->Nat->LB->Int->Prop) (w:World):RF SS w w:=⟨rfl,rfl,rfl,RL _,λ_ _=> .inl rfl⟩
theorem RF.trans {SS:Nat->Nat->LB->Int->Prop} {w J O} (h:RF SS w J) (k:RF SS J O):RF SS w O:=by
 refine⟨k.os.trans h.os,k.tape.trans h.tape,k.output.trans h.output,SF h.size k.size,λj D=>?_⟩
 rcases k.block j (SL D h.size) with e|⟨t,u,n,z,E,R,U⟩
 ·rcases h.block j D with f|⟨t,u,n,z,G,I,V⟩
  ·exact .inl (e.trans f)
  exact .inr ⟨t,u,n,z,G,e.trans I,V⟩
 rcases h.block j D with f|⟨Z,u',m,m',G,I,V⟩
 ·exact .inr ⟨t,u,n,z,f.symm.trans E,R,U⟩
 rw[I] at E;have Y:=(EP (SK E)).2.2 m;exact .inr ⟨t,u,m,z,by rw[G,Y],R,U⟩
theorem RF.mono {SS z:Nat->Nat->LB->Int->Prop} (D:∀q k o n,SS q k o n->z q k o n) (h:RF SS w w'):RF z w w':=
 ⟨h.os,h.tape,h.output,h.size,λk E=>(h.block k E).imp id λ⟨t,u,n,G,a,b,c⟩=>⟨t,u,n,G,a,b,D _ _ _ _ c⟩⟩
theorem RF.of_below {SS:Nat->Nat->LB->Int->Prop} (h:Bl w w'):RF SS w w':=⟨h.os,h.tape,h.output,h.size,λk z=> .inl (h.block k z)⟩
theorem RF.drew {SS:Nat->Nat->LB->Int->Prop} (h:RF SS w w'):RF SS w w'.drew:=⟨h.os,h.tape,h.output,h.size,h.block⟩
theorem RF.other {SS:Nat->Nat->LB->Int->Prop} (h:RF SS w w') {k:Nat} (D:w.heap[k]?=some (.cells cs ty fr)) (E:ty≠229):w'.heap[k]?=w.heap[k]?:=by
 rcases h.block k (cq D) with e|⟨t,u,n,G,z,_⟩
 ·exact e
 rw[D] at z;simp only[gY,R6,Ty] at z;exact absurd z.2.1 E
theorem dK.rf {SS:Nat->Nat->LB->Int->Prop} (h:dK bs L N w i b) (hf:RF SS w w') (hN:∀q t n,SS q (cz t) (cG t) n->N t n):dK bs L N w' i b:=by
 refine h.ind (λi b=>dK bs L N w' i b) ?_
 intro i b u n bl hi hlo hn hb hu hs ih;have hu':jr w' u (L.getD i cD).subs.length bl:=by
  rcases hu with hu|⟨h0,g,h1,h2⟩
  ·exact .inl hu
  exact .inr ⟨h0,g,h1,by rw[hf.other h2 (by decide)];exact h2⟩
 rcases hf.block b (cq hb) with e|⟨t,u',m,m',e1,e2,e3⟩
 ·exact .mk i b u n bl hi hlo hn (e.trans hb) hu' ih
 rw[hb] at e1;obtain⟨k1,k2,k3⟩:=EP (SK e1);refine .mk i b u m' bl hi hlo (hN _ _ _ (by rw[k1,k2];exact e3)) ?_ hu' ih
 rw[e2,k3]
theorem pO.rf {SS:Nat->Nat->LB->Int->Prop} {l:List LB} (h:pO w a l) (D:RF SS w w'):pO w' a l:=by
 intro j E;obtain⟨g,G,⟨cs,z⟩,h3⟩:=h j E;have e:=D.other z (by decide)
 exact⟨g,G,⟨cs,by rw[e];exact z⟩,by rw[R1 e];exact h3⟩
def SB (z:Nat) (q _k:Nat) (_o:List UInt8) (_n:Int):Prop:=z<=q
theorem RF.below (h:RF (SB bs) w w') {B:Nat} (hB:B<=bs) (hw:B<=w.heap.size):Below B w w':=⟨h.os,h.tape,h.output,h.size,λk hk=>by
 rcases h.block k (by omega) with e|⟨_,_,_,_,_,_,e⟩
 ·exact e
 have:bs<=k:=e;omega⟩
def N0 (ix:List UInt8->Int) (t:Tok) (n:Int):Prop:=n=0\/(cz t=2/\n=ix (cG t))
def N1 (ix:List UInt8->Int) (t:Tok) (n:Int):Prop:=n=if cz t=2 then ix (cG t) else 0
def SX (z:Nat) (ix:List UInt8->Int) (q k:Nat) (o:List UInt8) (n:Int):Prop:=z<=q/\k=2/\n=ix o
theorem OR {ix:LB->Int} (q) (t) (n) (h:SX bs ix q (cz t) (cG t) n):N0 ix t n:= .inr h.2
theorem Gs {ix:LB->Int} (q) (t) (n) (h:SX bs ix q (cz t) (cG t) n):N1 ix t n:=by unfold N1;rw[RK h.2.1];exact h.2.2
def Au (D:Nat) (L:List Pt) (ix:List UInt8->Int) (w:World) (i b:Nat) (o:Option Nat) (e:Ending) (w':World):Prop:=
 (∃p,o=some p/\e= .returned (.tuple #[Iq p,.bool false])/\RF (SB D) w w')\/
 (o=none/\ ∃p:Nat,e= .returned (.tuple #[Iq p,.bool true])/\RF (SX D ix) w w'/\dK D L (N1 ix) w' i b)
theorem LC {w:World} (h:w.heap[b]?=some (gY t u n)) (m:Int):(w.setCell ⟨b,5,none⟩ (Iq m)).heap[b]?=some (gY t u m):=by
 unfold gY at h⊢;rw[R3 w b 5 _ _ _ h];rfl
theorem RF.note {SS:Nat->Nat->LB->Int->Prop} (h:w.heap[b]?=some (gY t u n)) (m) (z:SS b (cz t) (cG t) m):RF SS w (w.setCell ⟨b,5,none⟩ (Iq m)):=by
 refine⟨rfl,rfl,rfl,by simp,λk D=>?_⟩
 by_cases e:k=b
 ·subst e;exact .inr ⟨t,u,n,m,h,LC h m,z⟩
 exact .inl (RQ _ _ _ _ (by simpa using e))
theorem Av {G:List LB} {ix:LB->Int} (hG:G.length<=2000) (hix:∀s,0<=du G s->ix s=du G s) (f) {cap} (hT:dN (f+1) L lo i) (hC:dK bs L (N0 ix) w i b) (hS:pO w a G) (ho:(L.getD i cD).tok.k=111):
 Calls prog 110 #[Pq b,.slice a G.length cap] w (Au bs L ix w i b (km (λt=>decide (du G (cG t)<0)) (f+1) L i)):=by
 have hsub:=rH hT.2.1 ho;obtain⟨u,n,bl,hi,hlo,hn,hb,hu,hs⟩:=hC.inv;obtain⟨⟨c0,c1,c2,c3,c4,c5⟩,cf⟩:=kz hb;have hr:km (λt=>decide (du G (cG t)<0)) (f+1) L i=if du G (cG (L.getD i cD).tok)<0 then some (L.getD i cD).tok.pl else none:=by
  rw[km,RK ho];simp
 have HR:=Hi hr;have hk2:=jK.2 ho;rw[hk2] at c0;generalize km (λt=>decide (du G (cG t)<0)) (f+1) L i=o at*
 have HI:=sQ G (cG (L.getD i cD).tok) a cap w hG hS;have hfail:=λh:du G (cG (L.getD i cD).tok)<0=>RF.note (SS:=SB bs) hb (du G (cG (L.getD i cD).tok)) hlo
 have hgood:=λh:0<=du G (cG (L.getD i cD).tok)=>RF.note (SS:=SX bs ix) hb (du G (cG (L.getD i cD).tok)) ⟨hlo,hk2,(hix _ h).symm⟩
 have hcd:=LC hb (du G (cG (L.getD i cD).tok));have hnew:0<=du G (cG (L.getD i cD).tok)->dK bs L (N1 ix) (w.setCell ⟨b,5,none⟩ (Iq (du G (cG (L.getD i cD).tok)))) i b:=λh0=>
  .mk i b u _ bl hi hlo (by unfold N1;rw[RK hk2];exact(hix _ h0).symm) hcd (by rw[hsub] at hu⊢;rcases hu with hu|hu;exact .inl hu;simp at hu) (by rw[hsub];intro j hj;simp at hj)
 have HF:=Hi hfail;have HGo:=Hi hgood;have HN:=Hi hnew;have hge:=jC G (cG (L.getD i cD).tok);obtain⟨⟨d0,d1,d2,d3,d4,d5⟩,df⟩:=kz hcd;have HCD:=Hi hcd;clear hr hfail hgood hnew hs hu hn hb hS hix hsub hT hcd;have hle2:du G (cG (L.getD i cD).tok)<=2000:=by
  rcases Am G (cG (L.getD i cD).tok) with h|h
  ·omega
  rw[h];simp[du]
 generalize du G (cG (L.getD i cD).tok)=r at*;generalize (L.getD i cD).tok.pl=p at*;generalize cG (L.getD i cD).tok=nm at*;go_enter func110,ntmps110;go_wp2_with fail;apply HI.mono;rintro e w' ⟨rfl,rfl⟩;clear HI;go_wp2;clear c0 c1 c2 c3 c4 c5 cf d0 d2 d3 d4;have HA:Hid (Au bs L ix w' i b o (.returned (.tuple #[Iq p,.bool (decide (0<=r))])) (w'.setCell ⟨b,5,none⟩ (Iq r)).drew):=by
  by_cases h0:r<0
  ·have e:o=some p:=by rw[HR.out,RK h0]
   refine .inl ⟨p,e,?_,(HF.out h0).drew⟩;rw[Sc (by omega)]
  have e:o=none:=by rw[HR.out,RH h0]
  refine .inr ⟨e,p,?_,(HGo.out (by omega)).drew,(HN.out (by omega)).keep λ_ _ _ _ _=>rfl⟩
  rw[Sr (by omega)]
 clear HR HF HGo HN HCD;generalize w'.setCell ⟨b,5,none⟩ (Iq r)=w2 at*;go_region_held (λw''=>w''.cell? ⟨b,1,none⟩=some (Iq p)/\w''.cell? ⟨b,5,none⟩=some (Iq r)) (go_keep) (fail)
 go_wp2;refine RU (v:= .tuple #[Iq p,.bool (decide (0<=r))]) (by simp[results,results110,go_sem]) rfl ?_
 exact HA.out
end
end Go.Proofs.YtfkdailfcmnjlaaGreatDoor
