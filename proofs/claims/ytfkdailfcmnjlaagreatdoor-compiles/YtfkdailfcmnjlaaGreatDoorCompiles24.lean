/-
  A part.
-/
import Derived.Test.YtfkdailfcmnjlaaGreatDoorCompiles21
import Derived.Test.YtfkdailfcmnjlaaGreatDoorCompiles23
set_option linter.all false
set_option maxHeartbeats 40000000
set_option maxRecDepth 1000000
namespace Go.Proofs.YtfkdailfcmnjlaaGreatDoor
open Go Go.RowKit Tryz
variable {t xs vals fl}
def eW:List dk->List Int->List Int
 |x::r,t::ts=>if x.name=[] then eW r ts else t::eW r ts
 |_,_=>[]
theorem AL (xs : List dk) (x : dk) (t : Int) :∀ vals , vals.length = xs.length -> eW (xs ++ [x]) (vals ++ [t]) = if x.name = [] then eW xs vals else eW xs vals ++ [t] := by
  induction xs with
  | nil => intro vals h; obtain rfl : vals = [] := by simpa using h
           simp [eW]
  | cons y r ih =>
    intro vals h
    cases vals with
    | nil => simp at h
    | cons u vals =>
      have := ih vals (by simpa using h)
      simp only [T7, eW, this]
      split <;> split <;> simp
theorem uQ (xs):∀vals,vals.length=xs.length->(eW xs vals).length=(fN xs).length:=by
 induction xs with
 |nil=>intro vals h;simp[eW,fN]
 |cons y r ih=>
  intro vals h
  cases vals with
  |nil=>simp at h
  |cons u vals=>
   have:=ih vals (by simpa using h)
   rw[eW,fN];split<;>simp[this]
theorem Fe (s) (I:s≠[]) (xs):∀vals,vals.length<=xs.length->0<=cW xs s vals.length->(eW (xs.take vals.length) vals).getD (du (fN (xs.take vals.length)) s).toNat 0=vals.getD (cW xs s vals.length).toNat 0:=by
 induction xs with
 |nil=>intro vals h z;simp[cW] at z
 |cons x r ih=>
  intro vals h z
  cases vals with
  |nil=>simp[cW] at z
  |cons u vals=>
   rw[R7] at*;rw[cW] at z⊢;rw[Tj,eW,fN]
   by_cases G:x.name=[]
   ·have D: ¬(x.name==s)=true:=by rw[G];simpa using I
    rw[RH D] at z⊢;rw[RK G,RK G]
    by_cases E:cW r s vals.length<0
    ·rw[RK E] at z;omega
    ·rw[RH E]
     rw[ih vals (by simpa using h) (by omega),show(cW r s vals.length+1).toNat=(cW r s vals.length).toNat+1 from by omega,R9]
   ·rw[RH G,RH G,du]
    by_cases D:(x.name==s)=true
    ·rw[RK D,RK D];rfl
    ·rw[RH D] at z⊢
     rw[RH D]
     by_cases E:cW r s vals.length<0
     ·rw[RK E] at z;omega
     ·have J: ¬du (fN (r.take vals.length)) s<0:=λh=>E ((tM s I r _).1 h)
      rw[RH E,RH J,show(cW r s vals.length+1).toNat=(cW r s vals.length).toNat+1 from by omega,show(du (fN (r.take vals.length)) s+1).toNat=(du (fN (r.take vals.length)) s).toNat+1 from by omega,R9,R9]
      exact ih vals (by simpa using h) (by omega)
theorem Ff:∀x∈cZ.drop 20,(27<=kn x->du dz x=(kn x - 27:Nat))/\(kn x<27->du dz x<0)/\(22<=kn x->kn x<=26->du dw x=(kn x - 22:Nat))/\(kn x<22->du dw x<0)/\((x==mn)=decide (kn x=20))/\20<=kn x/\kn x<=35:=by decide
def OV (fl:List Int) (k:Nat):Int:=if 27<=k then fl.getD (k - 27) 0 else if 22<=k then((k - 22:Nat):Int) else cR (decide (k=20))
theorem xo (h:ik t) (G:dP t=true) (I:t.k≠110) (E:t.k≠111):t.text∈cZ.drop 20/\cz t=kn t.text/\20<=cz t/\cz t<=35:=by
 rw[tV h] at G;have J:20<=cz t/\cz t<=35:=by
  unfold oC at G;simp only[Uv,TA,U1] at G;rcases G with(D|D)|D
  ·exfalso
   rcases h.cases with z|z|z|⟨z,O⟩
   ·exact I z
   ·exact E z
   ·unfold cz at D;rw[RH I,RH E,RK z] at D;simp at D
   ·rw[fe z] at D;have:=nQ _ O;unfold kn at D;omega
  ·exact absurd (jK.1 D) E
  ·exact D
 rcases h.cases with z|z|z|⟨z,O⟩
 ·exact absurd z I
 ·exact absurd z E
 ·exfalso;unfold cz at J;rw[RH I,RH E,RK z] at J;omega
 ·have U:=fe z
  refine⟨?_,U,J⟩;have R:∀x∈cZ.drop 3,20<=kn x->x∈cZ.drop 20:=by decide
  exact R _ O (by omega)
theorem I0 (h:ik t) (I:dP t=true) (E:t.k≠110) (G:t.k≠111):nU xs vals fl t=OV fl (cz t):=by
 obtain⟨J,O,_⟩:=xo h I E G;obtain⟨a1,a2,a3,a4,a5,a6,a7⟩:=Ff _ J;unfold nU OV;rw[RH E,RH G,O]
 by_cases z:27<=kn t.text
 ·have e:=a1 z
  rw[RK (by omega),RK z,e,Tf]
 ·have e:=a2 (by omega)
  rw[RH (by omega),RH z]
  by_cases D:22<=kn t.text
  ·have e:=a3 D (by omega)
   rw[RK (by omega),RK D,e]
  ·have e:=a4 (by omega)
   rw[RH (by omega),RH D,a5]
section
attribute [local go_sem ↓] Go.wp_at_zero Go.wp_at_succ
variable {bs : Nat}
variable {z v w w' a l}
structure uR (w:World) (tb) (fl:List Int) (v):Prop where
 fields:∀i,i<9->w.cell? ⟨tb,i,none⟩=some (Iq (fl.getD i 0))
 lets:w.cell? ⟨tb,9,none⟩=some v
theorem uR.lt {w:World} (h:uR w z fl v):z<w.heap.size:=RN w _ h.lets
theorem uR.below (h:uR w z fl v) (D:Below w.heap.size w w'):uR w' z fl v:=
 ⟨λi E=>by rw[D.cell (p:=⟨z,i,none⟩) h.lt];exact h.fields i E,by rw[D.cell (p:=⟨z,9,none⟩) h.lt];exact h.lets⟩
def zA (w:World) (a:Option Addr) (l:List Int):Prop:= ∀j,j<l.length-> ∃g,a=some ⟨g,0,none⟩/\w.cell? ⟨g,j,none⟩=some (Iq (l.getD j 0))
theorem zA.below {w w':World} (h:zA w a l) (z:Below w.heap.size w w'):zA w' a l:=λj D=>by
 obtain⟨g,e,c⟩:=h j D;exact⟨g,e,by rw[z.cell (p:=⟨g,j,none⟩) (RN w _ c)];exact c⟩
theorem rV (k:Nat) (w) (I:k<=100):Calls prog 171 #[Iq k] w λe w'=>e= .returned (.tuple #[Iq (if 27<=k/\k<=35 then k - 27 else 0:Nat),.bool (decide (27<=k/\k<=35))])/\w'=w:=by
 have D:∀W,Calls prog 226 #[Iq k,Iq 27,Iq 35] W λe w'=>e= .returned (.tuple #[Iq (if 27<=k/\k<=35 then k - 27 else 0:Nat),.bool (decide (27<=k/\k<=35))])/\w'=W:=λW=>by
  by_cases h:27<=k/\k<=35
  ·have E:=h.1
   have z:Hid ((if 27<=k/\k<=35 then k - 27 else 0:Nat)=k - 27/\decide (27<=k/\k<=35)=true):=⟨by rw[RK h],Sr h⟩
   generalize (if 27<=k/\k<=35 then k - 27 else 0:Nat)=r at*
   generalize decide (27<=k/\k<=35)=q at*;go_enter func226,ntmps226
   go_wp2
   refine RU (v:= .tuple #[Iq ((k:Int) - 27),.bool true]) (by simp[results,results226,go_sem]) rfl ⟨?_,rfl⟩
   rw[z.out.1,z.out.2,show((k - 27:Nat):Int)=(k:Int) - 27 by omega]
  ·have z:Hid ((if 27<=k/\k<=35 then k - 27 else 0:Nat)=0/\decide (27<=k/\k<=35)=false):=⟨by rw[RH h],Sc h⟩
   generalize (if 27<=k/\k<=35 then k - 27 else 0:Nat)=r at*
   generalize decide (27<=k/\k<=35)=q at*
   by_cases E:k<27
   ·clear h
    go_enter func226,ntmps226
    go_wp2
    refine RU (v:= .tuple #[Iq 0,.bool false]) (by simp[results,results226,go_sem]) rfl ⟨?_,rfl⟩
    rw[z.out.1,z.out.2];rfl
   ·have G:35<k:=by omega
    go_enter func226,ntmps226
    go_wp2
    refine RU (v:= .tuple #[Iq 0,.bool false]) (by simp[results,results226,go_sem]) rfl ⟨?_,rfl⟩
    rw[z.out.1,z.out.2];rfl
 generalize (if 27<=k/\k<=35 then k - 27 else 0:Nat)=r at*
 generalize decide (27<=k/\k<=35)=q at*;go_enter func171,ntmps171;go_wp2_with fail;apply(D _).mono;rintro e J ⟨rfl,rfl⟩;go_wp2;refine RU (v:= .tuple #[Iq r,.bool q]) (by simp[results,results171,go_sem]) rfl ⟨rfl,rfl⟩
theorem zB (k:Nat) (w) (I:k<=100):Calls prog 172 #[Iq k] w λe w'=>e= .returned (.tuple #[Iq (if 22<=k/\k<=26 then k - 22 else 0:Nat),.bool (decide (22<=k/\k<=26))])/\w'=w:=by
 have D:∀W,Calls prog 226 #[Iq k,Iq 22,Iq 26] W λe w'=>e= .returned (.tuple #[Iq (if 22<=k/\k<=26 then k - 22 else 0:Nat),.bool (decide (22<=k/\k<=26))])/\w'=W:=λW=>by
  by_cases h:22<=k/\k<=26
  ·have E:=h.1
   have z:Hid ((if 22<=k/\k<=26 then k - 22 else 0:Nat)=k - 22/\decide (22<=k/\k<=26)=true):=⟨by rw[RK h],Sr h⟩
   generalize (if 22<=k/\k<=26 then k - 22 else 0:Nat)=r at*
   generalize decide (22<=k/\k<=26)=q at*;go_enter func226,ntmps226
   go_wp2
   refine RU (v:= .tuple #[Iq ((k:Int) - 22),.bool true]) (by simp[results,results226,go_sem]) rfl ⟨?_,rfl⟩
   rw[z.out.1,z.out.2,show((k - 22:Nat):Int)=(k:Int) - 22 by omega]
  ·have z:Hid ((if 22<=k/\k<=26 then k - 22 else 0:Nat)=0/\decide (22<=k/\k<=26)=false):=⟨by rw[RH h],Sc h⟩
   generalize (if 22<=k/\k<=26 then k - 22 else 0:Nat)=r at*
   generalize decide (22<=k/\k<=26)=q at*
   by_cases E:k<22
   ·clear h
    go_enter func226,ntmps226
    go_wp2
    refine RU (v:= .tuple #[Iq 0,.bool false]) (by simp[results,results226,go_sem]) rfl ⟨?_,rfl⟩
    rw[z.out.1,z.out.2];rfl
   ·have G:26<k:=by omega
    go_enter func226,ntmps226
    go_wp2
    refine RU (v:= .tuple #[Iq 0,.bool false]) (by simp[results,results226,go_sem]) rfl ⟨?_,rfl⟩
    rw[z.out.1,z.out.2];rfl
 generalize (if 22<=k/\k<=26 then k - 22 else 0:Nat)=r at*
 generalize decide (22<=k/\k<=26)=q at*;go_enter func172,ntmps172;go_wp2_with fail;apply(D _).mono;rintro e J ⟨rfl,rfl⟩;go_wp2;refine RU (v:= .tuple #[Iq r,.bool q]) (by simp[results,results172,go_sem]) rfl ⟨rfl,rfl⟩
end
section
attribute [local go_sem ↓] Go.wp_at_zero Go.wp_at_succ
variable {b k pl n l u w w' z d tb a lv U g E G I J O Y Z b2 R v1 v2 V}
structure mS (w:World) (b) (k:Nat) (pl) (n) (nm) (u) (l):Prop where
 c0:w.cell? ⟨b,0,none⟩=some (Iq k)
 c1:w.cell? ⟨b,1,none⟩=some (Iq pl)
 c2:w.cell? ⟨b,2,none⟩=some (Iq n)
 c3:w.cell? ⟨b,3,none⟩=some (S nm)
 c4:w.cell? ⟨b,4,none⟩=some u
 c5:w.cell? ⟨b,5,none⟩=some (Iq l)
theorem mS.below {w w':World} {nm:LB} (h:mS w b k pl n nm u l) (z:Bl w w'):mS w' b k pl n nm u l:=by
 have D:=RN w _ h.c0;have e:∀j,w'.cell? ⟨b,j,none⟩=w.cell? ⟨b,j,none⟩:=λj=>z.cell D
 exact⟨(e 0).trans h.c0,(e 1).trans h.c1,(e 2).trans h.c2,(e 3).trans h.c3,(e 4).trans h.c4,(e 5).trans h.c5⟩
def oR (w:World) (u:Value) (n:Nat) (D:Nat->Nat):Prop:= ∃a cap,u= .slice a n cap/\ ∀j,j<n-> ∃g,a=some ⟨g,0,none⟩/\w.cell? ⟨g,j,none⟩=some (Pq (D j))
theorem oR.below (h:oR w u n z) (D:Bl w w'):oR w' u n z:=by
 obtain⟨a,cap,e,h⟩:=h;refine⟨a,cap,e,λj E=>?_⟩
 obtain⟨g,e,c⟩:=h j E;exact⟨g,e,by rw[D.cell (RN w _ c)];exact c⟩
def ph:Nat->World->Nat->Tr->Prop
 |0,_,_,_=>False
 |d+1,w,b,t=> ∃(pl:Int) (nm:List UInt8) (u:Value) (z:Nat->Nat),mS w b t.k pl t.n nm u t.l/\oR w u t.kids.length z/\ ∀j,j<t.kids.length->ph d w (z j) (t.kid j)
theorem ph.below {d}:∀{w w' b t},ph d w b t->Bl w w'->ph d w' b t:=by
 induction d with
 |zero=>intro w w' b t h;exact h.elim
 |succ d ih=>
  intro w w' b t h z;obtain⟨pl,nm,u,D,E,G,h3⟩:=h;exact⟨pl,nm,u,D,E.below z,G.below z,λj I=>ih (h3 j I) z⟩
theorem ph.up:∀{w b t},ph d w b t-> ∀{e},d<=e->ph e w b t:=by
 induction d with
 |zero=>intro w b t h;exact h.elim
 |succ d ih=>
  intro w b t h e I;obtain⟨e,rfl⟩:∃q,e=q+1:=⟨e - 1,by omega⟩
  obtain⟨pl,nm,u,z,D,E,h3⟩:=h;exact⟨pl,nm,u,z,D,E,λj G=>ih (h3 j G) (by omega)⟩
theorem yu {w:World} {cap} {nm:LB} (O:dy k) (hc:mS w b k pl n nm u l) (hT:uR w tb fl (.slice a lv.length cap)) (E:zA w a lv) (aa:lv.length<=2000) (G:k=2->0<=l/\l.toNat<lv.length):
 Calls prog 127 #[Pq tb,Pq b] w λe w'=>e= .returned (Iq (if k=1 then n else if k=2 then lv.getD l.toNat 0 else kP fl k))/\Bl w w':=by
 have J:=RP w.heap.size w;obtain⟨c0,c1,c2,c3,c4,c5⟩:=hc;obtain⟨I,tl⟩:=hT;by_cases k1:k=1
 ·subst k1;rw[RK rfl];clear I G E;go_enter func127,ntmps127;go_wp2;go_ret;exact⟨rfl,J⟩
 rw[RH k1];by_cases k2:k=2
 ·subst k2;rw[RK rfl];obtain⟨h0,h3⟩:=G rfl;obtain⟨g,rfl,hg⟩:=E l.toNat h3;have e:l=l.toNat:=by omega
  have h4:l<lv.length:=by omega
  generalize lv.getD l.toNat 0=r at*;generalize l.toNat=q at*;subst e;clear I G E;go_enter func127,ntmps127;go_wp2;go_region_held (λw'=>w'.cell? ⟨tb,9,none⟩=some (Sq g lv.length cap)/\w'.cell? ⟨b,5,none⟩=some (Iq q)/\w'.cell? ⟨g,q,none⟩=some (Iq r)) (go_keep) (fail)
  go_wp2;go_ret;exact⟨rfl,J.drew⟩
 rw[RH k2];have ab:20<=k/\k<=35:=by unfold dy at O;omega
 have WF:=rV k w (by omega)
 have z:=zB k w (by omega)
 have ac:(k==1)=false:=by
  have: ¬(k=1):=by omega
  simpa using this
 have ad:((k:Int)==(2:Int))=false:=by
  have: ¬((k:Int)=2):=by omega
  simpa using this
 by_cases R:27<=k
 ·have hf:=I (k - 27) (by omega)
  have D:Hid (kP fl k=fl.getD (k - 27) 0):=by show _=_;unfold kP;rw[RK R]
  rw[RK (by omega),Sr (by omega)] at WF
  have ae:k - 27<9:=by omega
  generalize fl.getD (k - 27) 0=r at*;generalize kP fl k=q at*;generalize k - 27=m at*;clear z I E G O;go_enter func127,ntmps127;go_wp2_with fail;apply WF.mono;rintro e w1 ⟨rfl,rfl⟩;clear WF;go_wp2;go_ret;exact⟨by rw[D.out];rfl,J⟩
 rw[RH (by omega),Sc (by omega)] at WF
 by_cases Y:22<=k
 ·have D:Hid (kP fl k=((k - 22:Nat):Int)):=by show _=_;unfold kP;rw[RH R,RK Y]
  rw[RK (by omega),Sr (by omega)] at z
  generalize kP fl k=q at*;generalize k - 22=m at*;clear I E G O;go_enter func127,ntmps127;go_wp2_with fail;apply WF.mono;rintro e w1 ⟨rfl,rfl⟩;clear WF;go_wp2_with fail;apply z.mono;rintro e w2 ⟨rfl,rfl⟩;clear z;go_wp2;go_ret;exact⟨by rw[D.out];rfl,J⟩
 rw[RH (by omega),Sc (by omega)] at z
 have D:Hid (kP fl k=cR (decide (k=20))):=by show _=_;unfold kP;rw[RH R,RH Y]
 generalize kP fl k=q at*;by_cases Z:k=20
 ·subst Z;have U:=λW=>gV true W
  have V:Hid (q=cR true):=by show _=_;rw[D.out];rfl
  clear D;generalize cR true=r at*;clear I E G O;go_enter func127,ntmps127;go_wp2_with fail;apply WF.mono;rintro e w1 ⟨rfl,rfl⟩;clear WF;go_wp2_with fail;apply z.mono;rintro e w2 ⟨rfl,rfl⟩;clear z;go_wp2_with fail;apply(U _).mono;rintro e w3 ⟨rfl,rfl⟩;clear U;go_wp2;go_ret;exact⟨by rw[V.out];rfl,J⟩
 have af:((k:Int)==(20:Int))=false:=by
  have: ¬((k:Int)=20):=by omega
  simpa using this
 have U:=λW=>gV false W
 have V:Hid (q=cR false):=by show _=_;rw[D.out,Sc Z]
 clear D;generalize cR false=r at*;clear I E G O;go_enter func127,ntmps127;go_wp2_with fail;apply WF.mono;rintro e w1 ⟨rfl,rfl⟩;clear WF;go_wp2_with fail;apply z.mono;rintro e w2 ⟨rfl,rfl⟩;clear z;go_wp2_with fail;apply(U _).mono;rintro e w3 ⟨rfl,rfl⟩;clear U;go_wp2;go_ret;exact⟨by rw[V.out];rfl,J⟩
theorem yv (E:fh k) (z:dL a) (D:dL b) (w):Calls prog 126 #[Iq k,Iq a,Iq b] w λe w'=>e= .returned (Iq (sS k a b))/\w'=w:=by
 rcases E with rfl|rfl|rfl|rfl|rfl|rfl|rfl
 ·have h:=iL (x:=[43]) (by decide) z D w
  rw[show kn [43]=6 from by decide] at h;exact h
 ·have h:=iL (x:=[45]) (by decide) z D w
  rw[show kn [45]=7 from by decide] at h;exact h
 ·have h:=iL (x:=[61]) (by decide) z D w
  rw[show kn [61]=8 from by decide] at h;exact h
 ·have h:=iL (x:=[60,61]) (by decide) z D w
  rw[show kn [60,61]=9 from by decide] at h;exact h
 ·have h:=iL (x:=[60]) (by decide) z D w
  rw[show kn [60]=10 from by decide] at h;exact h
 ·have h:=iL (x:=[111,114]) (by decide) z D w
  rw[show kn [111,114]=17 from by decide] at h;exact h
 have h:=iL (x:=[97,110,100]) (by decide) z D w
 rw[show kn [97,110,100]=18 from by decide] at h;exact h
theorem I3 {cap} (O:fh k) (c0:Cq w b 0 (Iq k)) (c4:Cq w b 4 (Sq g 2 cap)) (V:Cq w g 0 (Pq E)) (Y:Cq w g 1 (Pq G)) (h0:dL I) (h1:dL J)
 (W1:∀z,Bl w z->Calls prog 78 #[Pq U,Pq E] z λe w'=>e= .returned (Iq I)/\Bl z w')
 (W2:∀z,Bl w z->Calls prog 78 #[Pq U,Pq G] z λe w'=>e= .returned (Iq J)/\Bl z w'):
 Calls prog 78 #[Pq U,Pq b] w λe w'=>e= .returned (Iq (sS k I J))/\Bl w w':=by
 have W3:=λW=>yv O h0 h1 W
 have n3:(k==19)=false:=by
  have: ¬(k=19):=by unfold fh at O;omega
  simpa using this
 have n4:(k==(14:Int))=false:=by
  have: ¬((k:Int)=14):=by unfold fh at O;omega
  simpa using this
 have Z:Hid (∀w',Below w.heap.size w w'->(w'.cell? ⟨b,4,none⟩=some (Sq g 2 cap)/\w'.cell? ⟨g,0,none⟩=some (Pq E)/\w'.cell? ⟨g,1,none⟩=some (Pq G)/\w'.cell? ⟨b,0,none⟩=some (Iq k))):=λw' h=>by
  rw[h.cell (p:=⟨b,4,none⟩) (RN w _ c4),h.cell (p:=⟨g,0,none⟩) (RN w _ V),h.cell (p:=⟨g,1,none⟩) (RN w _ Y),h.cell (p:=⟨b,0,none⟩) (RN w _ c0)];exact⟨c4,V,Y,c0⟩
 generalize sS k I J=q at*;go_enter func78,ntmps78;go_wp2;go_region_held3 (λw'=>w'.cell? ⟨b,4,none⟩=some (Sq g 2 cap)/\w'.cell? ⟨g,0,none⟩=some (Pq E)/\w'.cell? ⟨g,1,none⟩=some (Pq G)/\w'.cell? ⟨b,0,none⟩=some (Iq k)) (first|exact Z.out _ R|exact Z.out _ D|go_keep) ((first|(go_at_call 126;refine(W3 _).mono ?_;rintro e w6 ⟨rfl,aa⟩;subst aa)|(go_at_call 78;refine(W2 _ D).mono ?_;rintro e w7 ⟨rfl,ab⟩;have R:=D.trans (ab.mono D.size))|(go_at_call 78;refine(W1 _ (RP _ _).drew).mono ?_;rintro e w5 ⟨rfl,ac⟩;have D:Bl w w5:=(RP _ _).drew.trans ac)))
 all_goals rename_i hHeld
 all_goals clear hHeld
 all_goals go_wp2_with fail
 all_goals go_ret
 all_goals exact⟨rfl,R⟩
theorem I4 {cap} (c0:Cq w b 0 (Iq 19)) (c4:Cq w b 4 (Sq g 1 cap)) (U:Cq w g 0 (Pq G)) (I:z=0\/z=1)
 (J:∀D,Bl w D->Calls prog 78 #[Pq E,Pq G] D λe w'=>e= .returned (Iq z)/\Bl D w'):
 Calls prog 78 #[Pq E,Pq b] w λe w'=>e= .returned (Iq (1 - z))/\Bl w w':=by
 have O:=λW=>BW I W
 generalize 1 - z=q at*;go_enter func78,ntmps78;go_wp2_with fail;apply(J _ (RP _ _)).mono;rintro e D ⟨rfl,R⟩;go_wp2_with fail;apply(O _).mono;rintro e V ⟨rfl,rfl⟩;go_wp2;go_ret;exact⟨rfl,R⟩
theorem L5 {cap} (c0:Cq w b 0 (Iq 14)) (c4:Cq w b 4 (Sq g 3 cap)) (E:Cq w g 0 (Pq Y)) (G:Cq w g 1 (Pq Z)) (I:Cq w g 2 (Pq b2))
 (U:∀z,Bl w z->Calls prog 78 #[Pq O,Pq Y] z λe w'=>e= .returned (Iq R)/\Bl z w')
 (W2:∀z,Bl w z->Calls prog 78 #[Pq O,Pq Z] z λe w'=>e= .returned (Iq v1)/\Bl z w')
 (W3:∀z,Bl w z->Calls prog 78 #[Pq O,Pq b2] z λe w'=>e= .returned (Iq v2)/\Bl z w'):
 Calls prog 78 #[Pq O,Pq b] w λe w'=>e= .returned (Iq (if R=1 then v1 else v2))/\Bl w w':=by
 have KF:Hid (∀w',Below w.heap.size w w'->(w'.cell? ⟨b,4,none⟩=some (Sq g 3 cap)/\w'.cell? ⟨g,0,none⟩=some (Pq Y)/\w'.cell? ⟨g,1,none⟩=some (Pq Z)/\w'.cell? ⟨g,2,none⟩=some (Pq b2))):=λw' h=>by
  rw[h.cell (p:=⟨b,4,none⟩) (RN w _ c4),h.cell (p:=⟨g,0,none⟩) (RN w _ E),h.cell (p:=⟨g,1,none⟩) (RN w _ G),h.cell (p:=⟨g,2,none⟩) (RN w _ I)];exact⟨c4,E,G,I⟩
 by_cases V:R=1
 ·subst V;rw[RK rfl];go_enter func78,ntmps78;go_wp2_with fail;apply(U _ (RP _ _)).mono;rintro e z ⟨rfl,D⟩;obtain⟨c4,E,G,I⟩:=KF.out z D;go_wp2_with fail;apply(W2 _ D).mono;rintro e w2 ⟨rfl,J⟩;have HB:=Hi (D.trans (J.mono D.size));go_wp2;go_ret;exact⟨rfl,HB.out⟩
 rw[RH V];have aa:(R==1)=false:=by simpa using V
 go_enter func78,ntmps78;go_wp2_with fail;apply(U _ (RP _ _)).mono;rintro e z ⟨rfl,D⟩;obtain⟨c4,E,G,I⟩:=KF.out z D;go_wp2_with fail;apply(W3 _ D).mono;rintro e w2 ⟨rfl,J⟩;have HB:=Hi (D.trans (J.mono D.size));go_wp2;go_ret;exact⟨rfl,HB.out⟩
theorem Fg {cap} {nm:LB} (z:dy k) (G:mS w b k pl n nm (.slice V 0 Y) l) (I:uR w E fl (.slice a lv.length cap)) (J:zA w a lv) (O:lv.length<=2000) (R:k=2->0<=l/\l.toNat<lv.length):
 Calls prog 78 #[Pq E,Pq b] w λe w'=>e= .returned (Iq (if k=1 then n else if k=2 then lv.getD l.toNat 0 else kP fl k))/\Bl w w':=by
 have U:=yu z G I J O R;have n3:(k==19)=false:=by
  have: ¬(k=19):=by unfold dy at z;omega
  simpa using this
 have n4:(k==14)=false:=by
  have: ¬(k=14):=by unfold dy at z;omega
  simpa using this
 obtain⟨c0,c1,c2,c3,c4,c5⟩:=G;generalize (if k=1 then n else if k=2 then lv.getD l.toNat 0 else kP fl k)=q at*;go_enter func78,ntmps78;go_wp2_with fail;apply U.mono;rintro e w1 ⟨rfl,D⟩;have Z:=Hi D;go_wp2;go_ret;exact⟨rfl,Z.out⟩
theorem I5 {lt:List Nat} (hV:kG lt lv) (hF:dI fl) (ah:lt.length<=lv.length) (ab:lv.length<=2000):∀{t w V b cap a},ph d w b t->hY d t->cP lt d t≠0->uR w V fl (.slice a lv.length cap)->zA w a lv->
 Calls prog 78 #[Pq V,Pq b] w λe w'=>e= .returned (Iq (eP lv fl d t))/\Bl w w':=by
 induction d with
 |zero=>intro t w V b cap a h;exact h.elim
 |succ d ih=>
  intro t w V b cap a h hw E hT hL;obtain⟨pl,nm,u,bl,G,I,hk⟩:=h;obtain⟨au,cu,rfl,I⟩:=I;have aa:=nw hw E;have U:∀j,j<t.kids.length->(t.kid j∈t.kids):=λj J=>by unfold Tr.kid;rw[RG,RI J];exact R4 J
  have W:∀j J,∀Y,Bl w Y->Calls prog 78 #[Pq V,Pq (bl j)] Y λe w'=>e= .returned (Iq (eP lv fl d (t.kid j)))/\Bl Y w':=λj J Y hb=>
   ih ((hk j J).below hb) (hw.2 _ (U j J)) (aa _ (U j J)) (hT.below hb) (hL.below hb)
  have Z:∀j J,pT (cP lt d (t.kid j)) (eP lv fl d (t.kid j)):=λj J=>kH hV hF (hw.2 _ (U j J)) (aa _ (U j J))
  rw[eP];rcases hw.1 with⟨O,D,hn,hl⟩|⟨O,x,D⟩|⟨O,x,y,z,D⟩|⟨O,x,y,D⟩
  ·rw[D] at G⊢;have h2:t.k=2->0<=t.l/\t.l.toNat<lv.length:=λh2=>by
    refine⟨hl h2,?_⟩;rw[cP,RK D] at E;unfold ee at E;rw[RH (by omega),RK h2] at E
    have:t.l.toNat<lt.length:=by
     by_cases e:t.l.toNat<lt.length
     ·exact e
     exfalso;apply E;rw[RG,R2 (by omega)];rfl
    omega
   exact Fg O G hT hL ab h2
  ·have R:t.kids.length=1:=by rw[D];rfl
   rw[R] at G I;obtain⟨g,rfl,d0⟩:=I 0 (by omega)
   have e0:t.kid 0=x:=by unfold Tr.kid;rw[D];rfl
   have c0:=G.c0;rw[O] at c0;have ac:eP lv fl d (t.kid 0)=0\/eP lv fl d (t.kid 0)=1:=by
    have h:=Z 0 (by omega)
    refine h.2 ?_;rw[cP,D,RH (by simp)] at E
    simp only[Sa,SA,ef] at E;rw[e0];by_cases e:cP lt d x=2
    ·exact e
    rw[RH e] at E;exact absurd rfl E
   have h:=I4 c0 G.c4 d0 ac (W 0 (by omega))
   rw[e0] at h;rw[D];exact h
  ·have R:t.kids.length=3:=by rw[D];rfl
   rw[R] at G I;obtain⟨g,rfl,d0⟩:=I 0 (by omega)
   obtain⟨g1,e1,d1⟩:=I 1 (by omega)
   obtain⟨g2,e2,d2⟩:=I 2 (by omega)
   simp at e1 e2;rw[<-e1] at d1;rw[<-e2] at d2;have q0:t.kid 0=x:=by unfold Tr.kid;rw[D];rfl
   have q1:t.kid 1=y:=by unfold Tr.kid;rw[D];rfl
   have q2:t.kid 2=z:=by unfold Tr.kid;rw[D];rfl
   have c0:=G.c0;rw[O] at c0;have h:=L5 c0 G.c4 d0 d1 d2 (W 0 (by omega)) (W 1 (by omega)) (W 2 (by omega))
   rw[q0,q1,q2] at h;rw[D];exact h
  have R:t.kids.length=2:=by rw[D];rfl
  rw[R] at G I;obtain⟨g,rfl,d0⟩:=I 0 (by omega)
  obtain⟨g1,e1,d1⟩:=I 1 (by omega)
  simp at e1;rw[<-e1] at d1;have q0:t.kid 0=x:=by unfold Tr.kid;rw[D];rfl
  have q1:t.kid 1=y:=by unfold Tr.kid;rw[D];rfl
  have h:=I3 O G.c0 G.c4 d0 d1 (Z 0 (by omega)).1 (Z 1 (by omega)).1 (W 0 (by omega)) (W 1 (by omega))
  rw[q0,q1] at h;rw[D];exact h
end
variable {w n z J L k x}
def gy (ix:List UInt8->Int) (L:List Pt):Nat->Nat->Tr
 |0,_=>fL
 |f+1,i=>⟨cz (L.getD i cD).tok,cY (L.getD i cD).tok,if cz (L.getD i cD).tok=2 then ix (cG (L.getD i cD).tok) else 0,(L.getD i cD).subs.map (gy ix L f)⟩
theorem I6 {u:Value} (h:jr w u n z):oR w u n z:=by
 obtain⟨a,e,h⟩:=h.slice;refine⟨a,n,e,λj D=>?_⟩
 obtain⟨g,e,E⟩:=h j D;exact⟨g,e,mI E j D⟩
theorem kid_map (ix:LB->Int) (L) (f) (l:List Nat) (j) (h:j<l.length) (k) (n a):Tr.kid ⟨k,n,a,l.map (gy ix L f)⟩ j=gy ix L f (l.getD j 0):=by
 unfold Tr.kid;simp[RG,h]
theorem dK.tr {ix:LB->Int} (f):∀{D i b},dN f L D i->dK J L (N1 ix) w i b->ph f w b (gy ix L f i):=by
 induction f with
 |zero=>intro D i b h;exact h.elim
 |succ f ih=>
  intro D i b O R;obtain⟨u,n,U,hi,aa,G,V,Y,Z⟩:=R.inv;obtain⟨⟨c0,c1,c2,c3,c4,c5⟩,_⟩:=kz V;have E:=iH _ O.2.2;unfold N1 at G;rw[gy];refine⟨_,_,u,U,⟨c0,c1,c2,c3,c4,by rw[<-G];exact c5⟩,by simpa using I6 Y,λj hj=>?_⟩
  have z:j<(L.getD i cD).subs.length:=by simpa using hj
  rw[kid_map _ _ _ _ _ z];obtain⟨ab,I⟩:=E _ (NT z);exact ih I (Z j z)
theorem I7 (J:0∉z) (h:(k=19/\z.length=1)\/(k=14/\z.length=3)\/(fh k/\z.length=2)):ef k z=jh k z:=by
 rcases h with⟨rfl,E⟩|⟨rfl,E⟩|⟨I,E⟩
 ·match z,E with
  |[a],_=>simp[ef,jh,iI]
 ·match z,E with
  |[a,b,c],_=>
   simp only[ef,jh,iI,SU,R9,List.drop_succ_cons,Un,Vj,List.all_nil];by_cases G:a=2
   ·by_cases D:b=c
    ·simp[G,D]
    simp[G,D,SY D]
   simp[G]
 match z,E with
 |[a,b],_=>
  simp at J;unfold fh at I;rcases I with rfl|rfl|rfl|rfl|rfl|rfl|rfl
  ·simp[ef,jh,iI]
  ·simp[ef,jh,iI]
  ·simp only[ef,jh,iI,SU,Vj,List.all_nil];by_cases D:a=b
   ·subst D;simp;omega
   simp[D,SY D]
  ·simp[ef,jh,iI]
  ·simp[ef,jh,iI]
  ·simp[ef,jh,iI]
  simp[ef,jh,iI]
theorem I8 (lt) (n l) (h:20<=k/\k<=35):ee lt ⟨k,n,l,[]⟩=rk k:=by
 unfold ee rk jw;simp only[];(repeat' split)<;>omega
theorem I9:∀x∈([[43],[45],[60],[60,61],[61],[111,114],[97,110,100]]:List LB),kn x=6\/kn x=7\/kn x=8\/kn x=9\/kn x=10\/kn x=17\/kn x=18:=by decide
theorem L6 (h:x∈([[43],[45],[60],[60,61],[61],[111,114],[97,110,100]]:List LB)) (a b):sS (kn x) a b=oA x a b:=by
 simp only[Sm,SJ,T2] at h;rcases h with rfl|rfl|rfl|rfl|rfl|rfl|rfl
 ·rw[show kn [43]=6 from by decide];rfl
 ·rw[show kn [45]=7 from by decide];rfl
 ·rw[show kn [60]=10 from by decide];rfl
 ·rw[show kn [60,61]=9 from by decide];rfl
 ·rw[show kn [61]=8 from by decide];rfl
 ·rw[show kn [111,114]=17 from by decide];rfl
 rw[show kn [97,110,100]=18 from by decide];rfl
structure NU (xs) (its) (vals fl) (L) (f i):Prop where
 wf:hY f (gy (du (fN xs)) L f i)
 ty:cP (eM (xs.take its.length) its) f (gy (du (fN xs)) L f i)=eF (dr xs its L f i)
 ev:eP (eW (xs.take vals.length) vals) fl f (gy (du (fN xs)) L f i)=gR xs vals fl L f i
theorem OW {its:LB} (hW:∀k,k<L.length->ik (L.getD k cD).tok) (ai:∀c∈its,lK c) (ak:its.length<=xs.length) (am:vals.length=its.length) (hN:∀k,k<L.length->(L.getD k cD).tok.k=110->dG (L.getD k cD).tok.text<=9223372036854775807) (f):
 ∀{lo i},dN f L lo i->nS xs its.length L lo (i+1)->dr xs its L f i≠0->NU xs its vals fl L f i:=by
 induction f with
 |zero=>intro lo i h;exact h.elim
 |succ f ih=>
  intro lo i hT hG U;have aj:=gW _ hT.2.2;have E:∀j∈(L.getD i cD).subs,dr xs its L f j≠0/\lK (dr xs its L f j)/\NU xs its vals fl L f j:=λj D=>by
   obtain⟨an,h1,h2,h3⟩:=aj j D;have ae:nS xs its.length L an (j+1):=λq a b=>hG q (by omega) (by omega)
   have O:dr xs its L f j≠0:=λe=>by
    rw[dr] at U;rw[RK (by rw[Sd,<-e];exact Tk D)] at U
    exact U rfl
   refine⟨O,?_,ih h3 ae O⟩;rcases qp hW ai f h3 ae with h|h
   ·exact absurd h O
   exact h
  have ao:((L.getD i cD).subs.map (gy (du (fN xs)) L f)).map (cP (eM (xs.take its.length) its) f)=(L.getD i cD).subs.map λj=>eF (dr xs its L f j):=by
   rw[TD];exact Sh λj D=>(E j D).2.2.ty
  have ap:((L.getD i cD).subs.map (gy (du (fN xs)) L f)).map (eP (eW (xs.take vals.length) vals) fl f)=(L.getD i cD).subs.map (gR xs vals fl L f):=by
   rw[TD];exact Sh λj D=>(E j D).2.2.ev
  have aq:((L.getD i cD).subs.map (dr xs its L f)).contains 0=false:=by
   rw[Tv];intro e;rw[Sd,Tc] at e;obtain⟨j,D,e⟩:=e;exact(E j D).1 e
  have Y:dr xs its L (f+1) i=UInt8.ofNat (eT xs its (L.getD i cD).tok ((L.getD i cD).subs.map (dr xs its L f))):=by
   rw[dr,RH (by rw[aq];simp)]
  have af:∀c∈(L.getD i cD).subs.map (gy (du (fN xs)) L f),hY f c:=λc hc=>by
   obtain⟨j,D,rfl⟩:=Tc.1 hc;exact(E j D).2.2.wf
  have hz:0∉(L.getD i cD).subs.map λj=>eF (dr xs its L f j):=λe=>by
   obtain⟨j,D,e⟩:=Tc.1 e;exact(E j D).1 ((mC (.inr (E j D).2.1)).1 e)
  rw[show dr xs its L (f+1) i=_ from Y] at U;have over:∀I,((cz (L.getD i cD).tok=19/\(L.getD i cD).subs.length=1)\/(cz (L.getD i cD).tok=14/\(L.getD i cD).subs.length=3)\/(fh (cz (L.getD i cD).tok)/\(L.getD i cD).subs.length=2))->(∀l,l.length=(L.getD i cD).subs.length->Cv (cz (L.getD i cD).tok) (gS (eW (xs.take vals.length) vals) fl (gy (du (fN xs)) L (f+1) i)) l=wT (L.getD i cD).tok.text (nU xs vals fl (L.getD i cD).tok) l)->NU xs its vals fl L (f+1) i:=λI z au=>by
   refine⟨⟨?_,af⟩,?_,?_⟩
   ·rw[gy];rcases z with⟨h1,h2⟩|⟨h1,h2⟩|⟨h1,h2⟩
    ·exact .inr (.inl ⟨h1,by obtain⟨a,e⟩:=Tu.1 h2;exact⟨_,by rw[e];rfl⟩⟩)
    ·exact .inr (.inr (.inl ⟨h1,by obtain⟨a,b,c,e⟩:=tW h2;exact⟨_,_,_,by rw[e];rfl⟩⟩))
    exact .inr (.inr (.inr ⟨h1,by obtain⟨a,b,e⟩:=Aj h2;exact⟨_,_,by rw[e];rfl⟩⟩))
   ·rw[Y,(Al hT.2.1 I λj D=>(E j D).2.1).1,gy,cP]
    simp only[UK];rw[RH I,ao];exact I7 hz (by simpa using z)
   have e:=au ((L.getD i cD).subs.map (gR xs vals fl L f)) (by simp)
   rw[gR,<-e,eP]
   conv=>lhs;rw[gy]
   simp only[ap];rfl
  rcases hT.2.1 with⟨ha,hs⟩|⟨hw,G⟩|⟨hw,G⟩|⟨m,_,D,G⟩
  ·
    have ab:=hW i hT.1;rw[hs] at U;have ac:(gy (du (fN xs)) L (f+1) i).kids=[]:=by rw[gy];show List.map _ _=[];rw[hs];rfl
    have Z:dy (cz (L.getD i cD).tok)->(cz (L.getD i cD).tok=1->dL (cY (L.getD i cD).tok))->(cz (L.getD i cD).tok=2->0<=du (fN xs) (cG (L.getD i cD).tok))->
     ee (eM (xs.take its.length) its) (gy (du (fN xs)) L (f+1) i)=eF (UInt8.ofNat (eT xs its (L.getD i cD).tok []))->gS (eW (xs.take vals.length) vals) fl (gy (du (fN xs)) L (f+1) i)=nU xs vals fl (L.getD i cD).tok->NU xs its vals fl L (f+1) i:=λk1 k2 k3 k4 k5=>by
     refine⟨⟨.inl ⟨k1,ac,k2,λe=>?_⟩,af⟩,?_,?_⟩
     ·rw[gy] at e⊢;simp only[] at e⊢;rw[RK e];exact k3 e
     ·rw[Y,hs,SA,<-k4,cP,RK ac]
     rw[gR,hs,eP];rw[ac];exact k5
    by_cases I:(L.getD i cD).tok.k=110
    ·have z:cz (L.getD i cD).tok=1:=by unfold cz;rw[RK I]
     have hm:=hN i hT.1 I;refine Z (.inl z) (λ_=>?_) (λe=>by omega) ?_ ?_
     ·unfold cY dL;rw[RK I];omega
     ·have e:eT xs its (L.getD i cD).tok []=110:=by unfold eT;rw[RK I]
      rw[e,gy];unfold ee;simp only[];rw[RK z];rfl
     rw[gy];unfold gS nU cY;simp only[];rw[RK z,RK I,RK I]
    by_cases V:(L.getD i cD).tok.k=111
    ·have z:cz (L.getD i cD).tok=2:=jK.2 V;obtain⟨O,h0⟩:=hG i hT.le (by omega) V
     have av: ¬du (fN (xs.take its.length)) (L.getD i cD).tok.text<0:=λh=>by have:=(tM _ O xs its.length).1 h;omega
     have ad:=vU its.length (xs:=xs) (s:=(L.getD i cD).tok.text) (by omega)
     have aa:cG (L.getD i cD).tok=(L.getD i cD).tok.text:=by unfold cG;rw[RK V]
     refine Z (.inr (.inl z)) (λe=>by omega) (λ_=>by rw[aa,ad];omega) ?_ ?_
     ·have e:eT xs its (L.getD i cD).tok []=(its.getD (cW xs (L.getD i cD).tok.text its.length).toNat 0).toNat:=by
       unfold eT;rw[RH (by omega),RK V]
      rw[e,TW,gy];unfold ee;simp only[];rw[RH (by omega),RK z,RK z,aa,ad]
      exact yF _ O xs its ak h0
     rw[gy];unfold gS nU;simp only[];rw[RH (by omega),RK z,RK z,RH I,RK V,aa,ad]
     rw[<-am] at h0⊢;exact Fe _ O xs vals (by omega) h0
    obtain⟨hm,z,ag,ah⟩:=xo ab ha I V;refine Z (.inr (.inr ⟨ag,ah⟩)) (λe=>by omega) (λe=>by omega) ?_ ?_
    ·rw[(Ak xs its ab ha V).1,gy,hs];exact I8 _ _ _ ⟨ag,ah⟩
    rw[I0 ab ha I V,gy];unfold gS;simp only[];rw[RH (by omega),RH (by omega)];rfl
  ·obtain⟨e,z⟩:=ji hw;have R:cz (L.getD i cD).tok=19:=by rw[fe z,e];decide
   refine over (by intro h;rw[h] at G;simp at G) (.inl ⟨R,G⟩) λl J=>?_
   rw[G] at J;obtain⟨a,rfl⟩:=Tu.1 J;rfl
  ·obtain⟨e,z⟩:=ji hw;have R:cz (L.getD i cD).tok=14:=by rw[fe z,e];decide
   refine over (by intro h;rw[h] at G;simp at G) (.inr (.inl ⟨R,G⟩)) λl J=>?_
   rw[G] at J;obtain⟨a,b,c,rfl⟩:∃a b c,l=[a,b,c]:=by
    match l,J with
    |[a,b,c],_=>exact⟨a,b,c,rfl⟩
   rfl
  obtain⟨e,z⟩:=oD D;have R:=fe z;refine over (by intro h;rw[h] at G;simp at G) (.inr (.inr ⟨by rw[R];exact I9 _ e,G⟩)) λl J=>?_
  rw[G] at J;obtain⟨a,b,rfl⟩:∃a b,l=[a,b]:=by
   match l,J with
   |[a,b],_=>exact⟨a,b,rfl⟩
  show sS _ _ _=oA _ _ _;rw[R];exact L6 e a b
end Go.Proofs.YtfkdailfcmnjlaaGreatDoor
