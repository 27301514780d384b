/-
  A part.
-/
import Derived.Test.YtfkdailfcmnjlaaGreatDoorAll14
import Derived.Test.YtfkdailfcmnjlaaGreatDoorAll17
set_option linter.all false
set_option maxHeartbeats 40000000
set_option maxRecDepth 1000000
namespace Go.Proofs.YtfkdailfcmnjlaaGreatDoor
open Go Go.RowKit Tryz
variable {t xs vals fl}
def dF:List dw->List Int->List Int
 |x::r,t::ts=>if x.name=[] then dF r ts else t::dF r ts
 |_,_=>[]
theorem sq (xs : List dw) (x : dw) (t : Int) :∀ vals , vals.length = xs.length -> dF (xs ++ [x]) (vals ++ [t]) = if x.name = [] then dF xs vals else dF xs vals ++ [t] := by
  induction xs with
  | nil => intro vals h; obtain rfl : vals = [] := by simpa using h
           simp [dF]
  | cons y r ih =>
    intro vals h
    cases vals with
    | nil => simp at h
    | cons u vals =>
      have := ih vals (by simpa using h)
      simp only [SI, dF, this]
      split <;> split <;> simp
theorem pA (xs):∀vals,vals.length=xs.length->(dF xs vals).length=(fI xs).length:=by
 induction xs with
 |nil=>intro vals h;simp[dF,fI]
 |cons y r ih=>
  intro vals h
  cases vals with
  |nil=>simp at h
  |cons u vals=>
   have:=ih vals (by simpa using h)
   rw[dF,fI];split<;>simp[this]
theorem DW (s) (I:s≠[]) (xs):∀vals,vals.length<=xs.length->0<=cX xs s vals.length->(dF (xs.take vals.length) vals).getD (dx (fI (xs.take vals.length)) s).toNat 0=vals.getD (cX xs s vals.length).toNat 0:=by
 induction xs with
 |nil=>intro vals h z;simp[cX] at z
 |cons x r ih=>
  intro vals h z
  cases vals with
  |nil=>simp[cX] at z
  |cons u vals=>
   rw[QH] at*;rw[cX] at z⊢;rw[RA,dF,fI]
   by_cases G:x.name=[]
   ·have D: ¬(x.name==s)=true:=by rw[G];simpa using I
    rw[Qj D] at z⊢;rw[Qo G,Qo G]
    by_cases E:cX r s vals.length<0
    ·rw[Qo E] at z;omega
    ·rw[Qj E]
     rw[ih vals (by simpa using h) (by omega),show(cX r s vals.length+1).toNat=(cX r s vals.length).toNat+1 from by omega,QI]
   ·rw[Qj G,Qj G,dx]
    by_cases D:(x.name==s)=true
    ·rw[Qo D,Qo D];rfl
    ·rw[Qj D] at z⊢
     rw[Qj D]
     by_cases E:cX r s vals.length<0
     ·rw[Qo E] at z;omega
     ·have J: ¬dx (fI (r.take vals.length)) s<0:=λh=>E ((sP s I r _).1 h)
      rw[Qj E,Qj J,show(cX r s vals.length+1).toNat=(cX r s vals.length).toNat+1 from by omega,show(dx (fI (r.take vals.length)) s+1).toNat=(dx (fI (r.take vals.length)) s).toNat+1 from by omega,QI,QI]
      exact ih vals (by simpa using h) (by omega)
theorem DX:∀x∈cU.drop 20,(27<=kn x->dx dC x=(kn x - 27:Nat))/\(kn x<27->dx dC x<0)/\(22<=kn x->kn x<=26->dx dy x=(kn x - 22:Nat))/\(kn x<22->dx dy x<0)/\((x==mG)=decide (kn x=20))/\20<=kn x/\kn x<=35:=by decide
def Ns (fl:List Int) (k:Nat):Int:=if 27<=k then fl.getD (k - 27) 0 else if 22<=k then((k - 22:Nat):Int) else cT (decide (k=20))
theorem wG (h:hY t) (G:eH t=true) (I:t.k≠110) (E:t.k≠111):t.text∈cU.drop 20/\cy t=kn t.text/\20<=cy t/\cy t<=35:=by
 rw[pT h] at G;have J:20<=cy t/\cy t<=35:=by
  unfold mL at G;simp only[SO,SK,SY] at G;rcases G with(D|D)|D
  ·exfalso
   rcases h.cases with z|z|z|⟨z,O⟩
   ·exact I z
   ·exact E z
   ·unfold cy at D;rw[Qj I,Qj E,Qo z] at D;simp at D
   ·rw[dU z] at D;have:=lT _ O;unfold kn at D;omega
  ·exact absurd (iK.1 D) E
  ·exact D
 rcases h.cases with z|z|z|⟨z,O⟩
 ·exact absurd z I
 ·exact absurd z E
 ·exfalso;unfold cy at J;rw[Qj I,Qj E,Qo z] at J;omega
 ·have U:=dU z
  refine⟨?_,U,J⟩;have R:∀x∈cU.drop 3,20<=kn x->x∈cU.drop 20:=by decide
  exact R _ O (by omega)
theorem G2 (h:hY t) (I:eH t=true) (E:t.k≠110) (G:t.k≠111):nH xs vals fl t=Ns fl (cy t):=by
 obtain⟨J,O,_⟩:=wG h I E G;obtain⟨a1,a2,a3,a4,a5,a6,a7⟩:=DX _ J;unfold nH Ns;rw[Qj E,Qj G,O]
 by_cases z:27<=kn t.text
 ·have e:=a1 z
  rw[Qo (by omega),Qo z,e,Rr]
 ·have e:=a2 (by omega)
  rw[Qj (by omega),Qj z]
  by_cases D:22<=kn t.text
  ·have e:=a3 D (by omega)
   rw[Qo (by omega),Qo D,e]
  ·have e:=a4 (by omega)
   rw[Qj (by omega),Qj D,a5]
section
attribute [local go_sem ↓] Go.wp_at_zero Go.wp_at_succ
variable {bs : Nat}
variable {z v w w' a l}
structure qO (w:World) (tb) (fl:List Int) (v):Prop where
 fields:∀i,i<9->w.cell? ⟨tb,i,none⟩=some (Iq (fl.getD i 0))
 lets:w.cell? ⟨tb,9,none⟩=some v
theorem qO.lt {w:World} (h:qO w z fl v):z<w.heap.size:=Qk w _ h.lets
theorem qO.below (h:qO w z fl v) (D:Below w.heap.size w w'):qO w' z fl v:=
 ⟨λi E=>by rw[D.cell (p:=⟨z,i,none⟩) h.lt];exact h.fields i E,by rw[D.cell (p:=⟨z,9,none⟩) h.lt];exact h.lets⟩
def wH (w:World) (a:Option Addr) (l:List Int):Prop:= ∀j,j<l.length-> ∃g,a=some ⟨g,0,none⟩/\w.cell? ⟨g,j,none⟩=some (Iq (l.getD j 0))
theorem wH.below {w w':World} (h:wH w a l) (z:Below w.heap.size w w'):wH w' a l:=λj D=>by
 obtain⟨g,e,c⟩:=h j D;exact⟨g,e,by rw[z.cell (p:=⟨g,j,none⟩) (Qk w _ c)];exact c⟩
theorem rk (k:Nat) (w) (I:k<=100):Calls prog 171 #[Iq k] w λe w'=>e= .returned (.tuple #[Iq (if 27<=k/\k<=35 then k - 27 else 0:Nat),.bool (decide (27<=k/\k<=35))])/\w'=w:=by
 have D:∀W,Calls prog 226 #[Iq k,Iq 27,Iq 35] W λe w'=>e= .returned (.tuple #[Iq (if 27<=k/\k<=35 then k - 27 else 0:Nat),.bool (decide (27<=k/\k<=35))])/\w'=W:=λW=>by
  by_cases h:27<=k/\k<=35
  ·have E:=h.1
   have z:Hid ((if 27<=k/\k<=35 then k - 27 else 0:Nat)=k - 27/\decide (27<=k/\k<=35)=true):=⟨by rw[Qo h],QZ h⟩
   generalize (if 27<=k/\k<=35 then k - 27 else 0:Nat)=r at*
   generalize decide (27<=k/\k<=35)=q at*;go_enter func226,ntmps226
   go_wp2
   refine Qs (v:= .tuple #[Iq ((k:Int) - 27),.bool true]) (by simp[results,results226,go_sem]) rfl ⟨?_,rfl⟩
   rw[z.out.1,z.out.2,show((k - 27:Nat):Int)=(k:Int) - 27 by omega]
  ·have z:Hid ((if 27<=k/\k<=35 then k - 27 else 0:Nat)=0/\decide (27<=k/\k<=35)=false):=⟨by rw[Qj h],QM h⟩
   generalize (if 27<=k/\k<=35 then k - 27 else 0:Nat)=r at*
   generalize decide (27<=k/\k<=35)=q at*
   by_cases E:k<27
   ·clear h
    go_enter func226,ntmps226
    go_wp2
    refine Qs (v:= .tuple #[Iq 0,.bool false]) (by simp[results,results226,go_sem]) rfl ⟨?_,rfl⟩
    rw[z.out.1,z.out.2];rfl
   ·have G:35<k:=by omega
    go_enter func226,ntmps226
    go_wp2
    refine Qs (v:= .tuple #[Iq 0,.bool false]) (by simp[results,results226,go_sem]) rfl ⟨?_,rfl⟩
    rw[z.out.1,z.out.2];rfl
 generalize (if 27<=k/\k<=35 then k - 27 else 0:Nat)=r at*
 generalize decide (27<=k/\k<=35)=q at*;go_enter func171,ntmps171;go_wp2_with fail;apply(D _).mono;rintro e J ⟨rfl,rfl⟩;go_wp2;refine Qs (v:= .tuple #[Iq r,.bool q]) (by simp[results,results171,go_sem]) rfl ⟨rfl,rfl⟩
theorem yH (k:Nat) (w) (I:k<=100):Calls prog 172 #[Iq k] w λe w'=>e= .returned (.tuple #[Iq (if 22<=k/\k<=26 then k - 22 else 0:Nat),.bool (decide (22<=k/\k<=26))])/\w'=w:=by
 have D:∀W,Calls prog 226 #[Iq k,Iq 22,Iq 26] W λe w'=>e= .returned (.tuple #[Iq (if 22<=k/\k<=26 then k - 22 else 0:Nat),.bool (decide (22<=k/\k<=26))])/\w'=W:=λW=>by
  by_cases h:22<=k/\k<=26
  ·have E:=h.1
   have z:Hid ((if 22<=k/\k<=26 then k - 22 else 0:Nat)=k - 22/\decide (22<=k/\k<=26)=true):=⟨by rw[Qo h],QZ h⟩
   generalize (if 22<=k/\k<=26 then k - 22 else 0:Nat)=r at*
   generalize decide (22<=k/\k<=26)=q at*;go_enter func226,ntmps226
   go_wp2
   refine Qs (v:= .tuple #[Iq ((k:Int) - 22),.bool true]) (by simp[results,results226,go_sem]) rfl ⟨?_,rfl⟩
   rw[z.out.1,z.out.2,show((k - 22:Nat):Int)=(k:Int) - 22 by omega]
  ·have z:Hid ((if 22<=k/\k<=26 then k - 22 else 0:Nat)=0/\decide (22<=k/\k<=26)=false):=⟨by rw[Qj h],QM h⟩
   generalize (if 22<=k/\k<=26 then k - 22 else 0:Nat)=r at*
   generalize decide (22<=k/\k<=26)=q at*
   by_cases E:k<22
   ·clear h
    go_enter func226,ntmps226
    go_wp2
    refine Qs (v:= .tuple #[Iq 0,.bool false]) (by simp[results,results226,go_sem]) rfl ⟨?_,rfl⟩
    rw[z.out.1,z.out.2];rfl
   ·have G:26<k:=by omega
    go_enter func226,ntmps226
    go_wp2
    refine Qs (v:= .tuple #[Iq 0,.bool false]) (by simp[results,results226,go_sem]) rfl ⟨?_,rfl⟩
    rw[z.out.1,z.out.2];rfl
 generalize (if 22<=k/\k<=26 then k - 22 else 0:Nat)=r at*
 generalize decide (22<=k/\k<=26)=q at*;go_enter func172,ntmps172;go_wp2_with fail;apply(D _).mono;rintro e J ⟨rfl,rfl⟩;go_wp2;refine Qs (v:= .tuple #[Iq r,.bool q]) (by simp[results,results172,go_sem]) rfl ⟨rfl,rfl⟩
end
section
attribute [local go_sem ↓] Go.wp_at_zero Go.wp_at_succ
variable {b k pl n l u w w' z d tb a lv U g E G I J O Y Z b2 R v1 v2 V}
structure mA (w:World) (b) (k:Nat) (pl) (n) (nm) (u) (l):Prop where
 c0:w.cell? ⟨b,0,none⟩=some (Iq k)
 c1:w.cell? ⟨b,1,none⟩=some (Iq pl)
 c2:w.cell? ⟨b,2,none⟩=some (Iq n)
 c3:w.cell? ⟨b,3,none⟩=some (S nm)
 c4:w.cell? ⟨b,4,none⟩=some u
 c5:w.cell? ⟨b,5,none⟩=some (Iq l)
theorem mA.below {w w':World} {nm:LB} (h:mA w b k pl n nm u l) (z:Bl w w'):mA w' b k pl n nm u l:=by
 have D:=Qk w _ h.c0;have e:∀j,w'.cell? ⟨b,j,none⟩=w.cell? ⟨b,j,none⟩:=λj=>z.cell D
 exact⟨(e 0).trans h.c0,(e 1).trans h.c1,(e 2).trans h.c2,(e 3).trans h.c3,(e 4).trans h.c4,(e 5).trans h.c5⟩
def oA (w:World) (u:Value) (n:Nat) (D:Nat->Nat):Prop:= ∃a cap,u= .slice a n cap/\ ∀j,j<n-> ∃g,a=some ⟨g,0,none⟩/\w.cell? ⟨g,j,none⟩=some (Pq (D j))
theorem oA.below (h:oA w u n z) (D:Bl w w'):oA w' u n z:=by
 obtain⟨a,cap,e,h⟩:=h;refine⟨a,cap,e,λj E=>?_⟩
 obtain⟨g,e,c⟩:=h j E;exact⟨g,e,by rw[D.cell (Qk w _ c)];exact c⟩
def oJ:Nat->World->Nat->Tr->Prop
 |0,_,_,_=>False
 |d+1,w,b,t=> ∃(pl:Int) (nm:List UInt8) (u:Value) (z:Nat->Nat),mA w b t.k pl t.n nm u t.l/\oA w u t.kids.length z/\ ∀j,j<t.kids.length->oJ d w (z j) (t.kid j)
theorem oJ.below {d}:∀{w w' b t},oJ d w b t->Bl w w'->oJ d w' b t:=by
 induction d with
 |zero=>intro w w' b t h;exact h.elim
 |succ d ih=>
  intro w w' b t h z;obtain⟨pl,nm,u,D,E,G,h3⟩:=h;exact⟨pl,nm,u,D,E.below z,G.below z,λj I=>ih (h3 j I) z⟩
theorem oJ.up:∀{w b t},oJ d w b t-> ∀{e},d<=e->oJ e w b t:=by
 induction d with
 |zero=>intro w b t h;exact h.elim
 |succ d ih=>
  intro w b t h e I;obtain⟨e,rfl⟩:∃q,e=q+1:=⟨e - 1,by omega⟩
  obtain⟨pl,nm,u,z,D,E,h3⟩:=h;exact⟨pl,nm,u,z,D,E,λj G=>ih (h3 j G) (by omega)⟩
theorem xP {w:World} {cap} {nm:LB} (O:dJ k) (hc:mA w b k pl n nm u l) (hT:qO w tb fl (.slice a lv.length cap)) (E:wH w a lv) (aa:lv.length<=2000) (G:k=2->0<=l/\l.toNat<lv.length):
 Calls prog 127 #[Pq tb,Pq b] w λe w'=>e= .returned (Iq (if k=1 then n else if k=2 then lv.getD l.toNat 0 else kT fl k))/\Bl w w':=by
 have J:=Qq w.heap.size w;obtain⟨c0,c1,c2,c3,c4,c5⟩:=hc;obtain⟨I,tl⟩:=hT;by_cases k1:k=1
 ·subst k1;rw[Qo rfl];clear I G E;go_enter func127,ntmps127;go_wp2;go_ret;exact⟨rfl,J⟩
 rw[Qj k1];by_cases k2:k=2
 ·subst k2;rw[Qo rfl];obtain⟨h0,h3⟩:=G rfl;obtain⟨g,rfl,hg⟩:=E l.toNat h3;have e:l=l.toNat:=by omega
  have h4:l<lv.length:=by omega
  generalize lv.getD l.toNat 0=r at*;generalize l.toNat=q at*;subst e;clear I G E;go_enter func127,ntmps127;go_wp2;go_region_held (λw'=>w'.cell? ⟨tb,9,none⟩=some (Sq g lv.length cap)/\w'.cell? ⟨b,5,none⟩=some (Iq q)/\w'.cell? ⟨g,q,none⟩=some (Iq r)) (go_keep) (fail)
  go_wp2;go_ret;exact⟨rfl,J.drew⟩
 rw[Qj k2];have ab:20<=k/\k<=35:=by unfold dJ at O;omega
 have WF:=rk k w (by omega)
 have z:=yH k w (by omega)
 have ac:(k==1)=false:=by
  have: ¬(k=1):=by omega
  simpa using this
 have ad:((k:Int)==(2:Int))=false:=by
  have: ¬((k:Int)=2):=by omega
  simpa using this
 by_cases R:27<=k
 ·have hf:=I (k - 27) (by omega)
  have D:Hid (kT fl k=fl.getD (k - 27) 0):=by show _=_;unfold kT;rw[Qo R]
  rw[Qo (by omega),QZ (by omega)] at WF
  have ae:k - 27<9:=by omega
  generalize fl.getD (k - 27) 0=r at*;generalize kT fl k=q at*;generalize k - 27=m at*;clear z I E G O;go_enter func127,ntmps127;go_wp2_with fail;apply WF.mono;rintro e w1 ⟨rfl,rfl⟩;clear WF;go_wp2;go_ret;exact⟨by rw[D.out];rfl,J⟩
 rw[Qj (by omega),QM (by omega)] at WF
 by_cases Y:22<=k
 ·have D:Hid (kT fl k=((k - 22:Nat):Int)):=by show _=_;unfold kT;rw[Qj R,Qo Y]
  rw[Qo (by omega),QZ (by omega)] at z
  generalize kT fl k=q at*;generalize k - 22=m at*;clear I E G O;go_enter func127,ntmps127;go_wp2_with fail;apply WF.mono;rintro e w1 ⟨rfl,rfl⟩;clear WF;go_wp2_with fail;apply z.mono;rintro e w2 ⟨rfl,rfl⟩;clear z;go_wp2;go_ret;exact⟨by rw[D.out];rfl,J⟩
 rw[Qj (by omega),QM (by omega)] at z
 have D:Hid (kT fl k=cT (decide (k=20))):=by show _=_;unfold kT;rw[Qj R,Qj Y]
 generalize kT fl k=q at*;by_cases Z:k=20
 ·subst Z;have U:=λW=>gQ true W
  have V:Hid (q=cT true):=by show _=_;rw[D.out];rfl
  clear D;generalize cT true=r at*;clear I E G O;go_enter func127,ntmps127;go_wp2_with fail;apply WF.mono;rintro e w1 ⟨rfl,rfl⟩;clear WF;go_wp2_with fail;apply z.mono;rintro e w2 ⟨rfl,rfl⟩;clear z;go_wp2_with fail;apply(U _).mono;rintro e w3 ⟨rfl,rfl⟩;clear U;go_wp2;go_ret;exact⟨by rw[V.out];rfl,J⟩
 have af:((k:Int)==(20:Int))=false:=by
  have: ¬((k:Int)=20):=by omega
  simpa using this
 have U:=λW=>gQ false W
 have V:Hid (q=cT false):=by show _=_;rw[D.out,QM Z]
 clear D;generalize cT false=r at*;clear I E G O;go_enter func127,ntmps127;go_wp2_with fail;apply WF.mono;rintro e w1 ⟨rfl,rfl⟩;clear WF;go_wp2_with fail;apply z.mono;rintro e w2 ⟨rfl,rfl⟩;clear z;go_wp2_with fail;apply(U _).mono;rintro e w3 ⟨rfl,rfl⟩;clear U;go_wp2;go_ret;exact⟨by rw[V.out];rfl,J⟩
theorem xQ (E:fW k) (z:dn a) (D:dn b) (w):Calls prog 126 #[Iq k,Iq a,Iq b] w λe w'=>e= .returned (Iq (vR k a b))/\w'=w:=by
 rcases E with rfl|rfl|rfl|rfl|rfl|rfl|rfl
 ·have h:=iz (x:=[43]) (by decide) z D w
  rw[show kn [43]=6 from by decide] at h;exact h
 ·have h:=iz (x:=[45]) (by decide) z D w
  rw[show kn [45]=7 from by decide] at h;exact h
 ·have h:=iz (x:=[61]) (by decide) z D w
  rw[show kn [61]=8 from by decide] at h;exact h
 ·have h:=iz (x:=[60,61]) (by decide) z D w
  rw[show kn [60,61]=9 from by decide] at h;exact h
 ·have h:=iz (x:=[60]) (by decide) z D w
  rw[show kn [60]=10 from by decide] at h;exact h
 ·have h:=iz (x:=[111,114]) (by decide) z D w
  rw[show kn [111,114]=17 from by decide] at h;exact h
 have h:=iz (x:=[97,110,100]) (by decide) z D w
 rw[show kn [97,110,100]=18 from by decide] at h;exact h
theorem G3 {cap} (O:fW k) (c0:Cq w b 0 (Iq k)) (c4:Cq w b 4 (Sq g 2 cap)) (V:Cq w g 0 (Pq E)) (Y:Cq w g 1 (Pq G)) (h0:dn I) (h1:dn J)
 (W1:∀z,Bl w z->Calls prog 78 #[Pq U,Pq E] z λe w'=>e= .returned (Iq I)/\Bl z w')
 (W2:∀z,Bl w z->Calls prog 78 #[Pq U,Pq G] z λe w'=>e= .returned (Iq J)/\Bl z w'):
 Calls prog 78 #[Pq U,Pq b] w λe w'=>e= .returned (Iq (vR k I J))/\Bl w w':=by
 have W3:=λW=>xQ O h0 h1 W
 have n3:(k==19)=false:=by
  have: ¬(k=19):=by unfold fW at O;omega
  simpa using this
 have n4:(k==(14:Int))=false:=by
  have: ¬((k:Int)=14):=by unfold fW at O;omega
  simpa using this
 have Z:Hid (∀w',Below w.heap.size w w'->(w'.cell? ⟨b,4,none⟩=some (Sq g 2 cap)/\w'.cell? ⟨g,0,none⟩=some (Pq E)/\w'.cell? ⟨g,1,none⟩=some (Pq G)/\w'.cell? ⟨b,0,none⟩=some (Iq k))):=λw' h=>by
  rw[h.cell (p:=⟨b,4,none⟩) (Qk w _ c4),h.cell (p:=⟨g,0,none⟩) (Qk w _ V),h.cell (p:=⟨g,1,none⟩) (Qk w _ Y),h.cell (p:=⟨b,0,none⟩) (Qk w _ c0)];exact⟨c4,V,Y,c0⟩
 generalize vR k I J=q at*;go_enter func78,ntmps78;go_wp2;go_region_held3 (λw'=>w'.cell? ⟨b,4,none⟩=some (Sq g 2 cap)/\w'.cell? ⟨g,0,none⟩=some (Pq E)/\w'.cell? ⟨g,1,none⟩=some (Pq G)/\w'.cell? ⟨b,0,none⟩=some (Iq k)) (first|exact Z.out _ R|exact Z.out _ D|go_keep) ((first|(go_at_call 126;refine(W3 _).mono ?_;rintro e w6 ⟨rfl,aa⟩;subst aa)|(go_at_call 78;refine(W2 _ D).mono ?_;rintro e w7 ⟨rfl,ab⟩;have R:=D.trans (ab.mono D.size))|(go_at_call 78;refine(W1 _ (Qq _ _).drew).mono ?_;rintro e w5 ⟨rfl,ac⟩;have D:Bl w w5:=(Qq _ _).drew.trans ac)))
 all_goals rename_i hHeld
 all_goals clear hHeld
 all_goals go_wp2_with fail
 all_goals go_ret
 all_goals exact⟨rfl,R⟩
theorem G4 {cap} (c0:Cq w b 0 (Iq 19)) (c4:Cq w b 4 (Sq g 1 cap)) (U:Cq w g 0 (Pq G)) (I:z=0\/z=1)
 (J:∀D,Bl w D->Calls prog 78 #[Pq E,Pq G] D λe w'=>e= .returned (Iq z)/\Bl D w'):
 Calls prog 78 #[Pq E,Pq b] w λe w'=>e= .returned (Iq (1 - z))/\Bl w w':=by
 have O:=λW=>A1 I W
 generalize 1 - z=q at*;go_enter func78,ntmps78;go_wp2_with fail;apply(J _ (Qq _ _)).mono;rintro e D ⟨rfl,R⟩;go_wp2_with fail;apply(O _).mono;rintro e V ⟨rfl,rfl⟩;go_wp2;go_ret;exact⟨rfl,R⟩
theorem Kw {cap} (c0:Cq w b 0 (Iq 14)) (c4:Cq w b 4 (Sq g 3 cap)) (E:Cq w g 0 (Pq Y)) (G:Cq w g 1 (Pq Z)) (I:Cq w g 2 (Pq b2))
 (U:∀z,Bl w z->Calls prog 78 #[Pq O,Pq Y] z λe w'=>e= .returned (Iq R)/\Bl z w')
 (W2:∀z,Bl w z->Calls prog 78 #[Pq O,Pq Z] z λe w'=>e= .returned (Iq v1)/\Bl z w')
 (W3:∀z,Bl w z->Calls prog 78 #[Pq O,Pq b2] z λe w'=>e= .returned (Iq v2)/\Bl z w'):
 Calls prog 78 #[Pq O,Pq b] w λe w'=>e= .returned (Iq (if R=1 then v1 else v2))/\Bl w w':=by
 have KF:Hid (∀w',Below w.heap.size w w'->(w'.cell? ⟨b,4,none⟩=some (Sq g 3 cap)/\w'.cell? ⟨g,0,none⟩=some (Pq Y)/\w'.cell? ⟨g,1,none⟩=some (Pq Z)/\w'.cell? ⟨g,2,none⟩=some (Pq b2))):=λw' h=>by
  rw[h.cell (p:=⟨b,4,none⟩) (Qk w _ c4),h.cell (p:=⟨g,0,none⟩) (Qk w _ E),h.cell (p:=⟨g,1,none⟩) (Qk w _ G),h.cell (p:=⟨g,2,none⟩) (Qk w _ I)];exact⟨c4,E,G,I⟩
 by_cases V:R=1
 ·subst V;rw[Qo rfl];go_enter func78,ntmps78;go_wp2_with fail;apply(U _ (Qq _ _)).mono;rintro e z ⟨rfl,D⟩;obtain⟨c4,E,G,I⟩:=KF.out z D;go_wp2_with fail;apply(W2 _ D).mono;rintro e w2 ⟨rfl,J⟩;have HB:=Hi (D.trans (J.mono D.size));go_wp2;go_ret;exact⟨rfl,HB.out⟩
 rw[Qj V];have aa:(R==1)=false:=by simpa using V
 go_enter func78,ntmps78;go_wp2_with fail;apply(U _ (Qq _ _)).mono;rintro e z ⟨rfl,D⟩;obtain⟨c4,E,G,I⟩:=KF.out z D;go_wp2_with fail;apply(W3 _ D).mono;rintro e w2 ⟨rfl,J⟩;have HB:=Hi (D.trans (J.mono D.size));go_wp2;go_ret;exact⟨rfl,HB.out⟩
theorem DY {cap} {nm:LB} (z:dJ k) (G:mA w b k pl n nm (.slice V 0 Y) l) (I:qO w E fl (.slice a lv.length cap)) (J:wH w a lv) (O:lv.length<=2000) (R:k=2->0<=l/\l.toNat<lv.length):
 Calls prog 78 #[Pq E,Pq b] w λe w'=>e= .returned (Iq (if k=1 then n else if k=2 then lv.getD l.toNat 0 else kT fl k))/\Bl w w':=by
 have U:=xP z G I J O R;have n3:(k==19)=false:=by
  have: ¬(k=19):=by unfold dJ at z;omega
  simpa using this
 have n4:(k==14)=false:=by
  have: ¬(k=14):=by unfold dJ at z;omega
  simpa using this
 obtain⟨c0,c1,c2,c3,c4,c5⟩:=G;generalize (if k=1 then n else if k=2 then lv.getD l.toNat 0 else kT fl k)=q at*;go_enter func78,ntmps78;go_wp2_with fail;apply U.mono;rintro e w1 ⟨rfl,D⟩;have Z:=Hi D;go_wp2;go_ret;exact⟨rfl,Z.out⟩
theorem yI {lt:List Nat} (hV:lH lt lv) (hF:dL fl) (ah:lt.length<=lv.length) (ab:lv.length<=2000):∀{t w V b cap a},oJ d w b t->gU d t->cR lt d t≠0->qO w V fl (.slice a lv.length cap)->wH w a lv->
 Calls prog 78 #[Pq V,Pq b] w λe w'=>e= .returned (Iq (fT lv fl d t))/\Bl w w':=by
 induction d with
 |zero=>intro t w V b cap a h;exact h.elim
 |succ d ih=>
  intro t w V b cap a h hw E hT hL;obtain⟨pl,nm,u,bl,G,I,hk⟩:=h;obtain⟨au,cu,rfl,I⟩:=I;have aa:=oq hw E;have U:∀j,j<t.kids.length->(t.kid j∈t.kids):=λj J=>by unfold Tr.kid;rw[Qi,Ql J];exact QD J
  have W:∀j J,∀Y,Bl w Y->Calls prog 78 #[Pq V,Pq (bl j)] Y λe w'=>e= .returned (Iq (fT lv fl d (t.kid j)))/\Bl Y w':=λj J Y hb=>
   ih ((hk j J).below hb) (hw.2 _ (U j J)) (aa _ (U j J)) (hT.below hb) (hL.below hb)
  have Z:∀j J,pj (cR lt d (t.kid j)) (fT lv fl d (t.kid j)):=λj J=>tm hV hF (hw.2 _ (U j J)) (aa _ (U j J))
  rw[fT];rcases hw.1 with⟨O,D,hn,hl⟩|⟨O,x,D⟩|⟨O,x,y,z,D⟩|⟨O,x,y,D⟩
  ·rw[D] at G⊢;have h2:t.k=2->0<=t.l/\t.l.toNat<lv.length:=λh2=>by
    refine⟨hl h2,?_⟩;rw[cR,Qo D] at E;unfold dY at E;rw[Qj (by omega),Qo h2] at E
    have:t.l.toNat<lt.length:=by
     by_cases e:t.l.toNat<lt.length
     ·exact e
     exfalso;apply E;rw[Qi,QC (by omega)];rfl
    omega
   exact DY O G hT hL ab h2
  ·have R:t.kids.length=1:=by rw[D];rfl
   rw[R] at G I;obtain⟨g,rfl,d0⟩:=I 0 (by omega)
   have e0:t.kid 0=x:=by unfold Tr.kid;rw[D];rfl
   have c0:=G.c0;rw[O] at c0;have ac:fT lv fl d (t.kid 0)=0\/fT lv fl d (t.kid 0)=1:=by
    have h:=Z 0 (by omega)
    refine h.2 ?_;rw[cR,D,Qj (by simp)] at E
    simp only[QL,Q9,eD] at E;rw[e0];by_cases e:cR lt d x=2
    ·exact e
    rw[Qj e] at E;exact absurd rfl E
   have h:=G4 c0 G.c4 d0 ac (W 0 (by omega))
   rw[e0] at h;rw[D];exact h
  ·have R:t.kids.length=3:=by rw[D];rfl
   rw[R] at G I;obtain⟨g,rfl,d0⟩:=I 0 (by omega)
   obtain⟨g1,e1,d1⟩:=I 1 (by omega)
   obtain⟨g2,e2,d2⟩:=I 2 (by omega)
   simp at e1 e2;rw[<-e1] at d1;rw[<-e2] at d2;have q0:t.kid 0=x:=by unfold Tr.kid;rw[D];rfl
   have q1:t.kid 1=y:=by unfold Tr.kid;rw[D];rfl
   have q2:t.kid 2=z:=by unfold Tr.kid;rw[D];rfl
   have c0:=G.c0;rw[O] at c0;have h:=Kw c0 G.c4 d0 d1 d2 (W 0 (by omega)) (W 1 (by omega)) (W 2 (by omega))
   rw[q0,q1,q2] at h;rw[D];exact h
  have R:t.kids.length=2:=by rw[D];rfl
  rw[R] at G I;obtain⟨g,rfl,d0⟩:=I 0 (by omega)
  obtain⟨g1,e1,d1⟩:=I 1 (by omega)
  simp at e1;rw[<-e1] at d1;have q0:t.kid 0=x:=by unfold Tr.kid;rw[D];rfl
  have q1:t.kid 1=y:=by unfold Tr.kid;rw[D];rfl
  have h:=G3 O G.c0 G.c4 d0 d1 (Z 0 (by omega)).1 (Z 1 (by omega)).1 (W 0 (by omega)) (W 1 (by omega))
  rw[q0,q1] at h;rw[D];exact h
end
variable {w n z J L k x}
def gM (ix:List UInt8->Int) (L:List Pt):Nat->Nat->Tr
 |0,_=>fQ
 |f+1,i=>⟨cy (L.getD i cz).tok,cV (L.getD i cz).tok,if cy (L.getD i cz).tok=2 then ix (cE (L.getD i cz).tok) else 0,(L.getD i cz).subs.map (gM ix L f)⟩
theorem G5 {u:Value} (h:jo w u n z):oA w u n z:=by
 obtain⟨a,e,h⟩:=h.slice;refine⟨a,n,e,λj D=>?_⟩
 obtain⟨g,e,E⟩:=h j D;exact⟨g,e,gy E j D⟩
theorem kid_map (ix:LB->Int) (L) (f) (l:List Nat) (j) (h:j<l.length) (k) (n a):Tr.kid ⟨k,n,a,l.map (gM ix L f)⟩ j=gM ix L f (l.getD j 0):=by
 unfold Tr.kid;simp[Qi,h]
theorem dh.tr {ix:LB->Int} (f):∀{D i b},dN f L D i->dh J L (N1 ix) w i b->oJ f w b (gM ix L f i):=by
 induction f with
 |zero=>intro D i b h;exact h.elim
 |succ f ih=>
  intro D i b O R;obtain⟨u,n,U,hi,aa,G,V,Y,Z⟩:=R.inv;obtain⟨⟨c0,c1,c2,c3,c4,c5⟩,_⟩:=gx V;have E:=ku _ O.2.2;unfold N1 at G;rw[gM];refine⟨_,_,u,U,⟨c0,c1,c2,c3,c4,by rw[<-G];exact c5⟩,by simpa using G5 Y,λj hj=>?_⟩
  have z:j<(L.getD i cz).subs.length:=by simpa using hj
  rw[kid_map _ _ _ _ _ z];obtain⟨ab,I⟩:=E _ (mQ z);exact ih I (Z j z)
theorem G6 (J:0∉z) (h:(k=19/\z.length=1)\/(k=14/\z.length=3)\/(fW k/\z.length=2)):eD k z=iW k z:=by
 rcases h with⟨rfl,E⟩|⟨rfl,E⟩|⟨I,E⟩
 ·match z,E with
  |[a],_=>simp[eD,iW,iw]
 ·match z,E with
  |[a,b,c],_=>
   simp only[eD,iW,iw,Rp,QI,List.drop_succ_cons,S0,List.all_cons,List.all_nil];by_cases G:a=2
   ·by_cases D:b=c
    ·simp[G,D]
    simp[G,D,Rt D]
   simp[G]
 match z,E with
 |[a,b],_=>
  simp at J;unfold fW at I;rcases I with rfl|rfl|rfl|rfl|rfl|rfl|rfl
  ·simp[eD,iW,iw]
  ·simp[eD,iW,iw]
  ·simp only[eD,iW,iw,Rp,List.all_cons,List.all_nil];by_cases D:a=b
   ·subst D;simp;omega
   simp[D,Rt D]
  ·simp[eD,iW,iw]
  ·simp[eD,iW,iw]
  ·simp[eD,iW,iw]
  simp[eD,iW,iw]
theorem G7 (lt) (n l) (h:20<=k/\k<=35):dY lt ⟨k,n,l,[]⟩=qI k:=by
 unfold dY qI fL;simp only[];(repeat' split)<;>omega
theorem G8:∀x∈([[43],[45],[60],[60,61],[61],[111,114],[97,110,100]]:List LB),kn x=6\/kn x=7\/kn x=8\/kn x=9\/kn x=10\/kn x=17\/kn x=18:=by decide
theorem Kx (h:x∈([[43],[45],[60],[60,61],[61],[111,114],[97,110,100]]:List LB)) (a b):vR (kn x) a b=od x a b:=by
 simp only[Ra,RQ,Tn] at h;rcases h with rfl|rfl|rfl|rfl|rfl|rfl|rfl
 ·rw[show kn [43]=6 from by decide];rfl
 ·rw[show kn [45]=7 from by decide];rfl
 ·rw[show kn [60]=10 from by decide];rfl
 ·rw[show kn [60,61]=9 from by decide];rfl
 ·rw[show kn [61]=8 from by decide];rfl
 ·rw[show kn [111,114]=17 from by decide];rfl
 rw[show kn [97,110,100]=18 from by decide];rfl
structure Mr (xs) (its) (vals fl) (L) (f i):Prop where
 wf:gU f (gM (dx (fI xs)) L f i)
 ty:cR (eG (xs.take its.length) its) f (gM (dx (fI xs)) L f i)=eA (dk xs its L f i)
 ev:fT (dF (xs.take vals.length) vals) fl f (gM (dx (fI xs)) L f i)=fP xs vals fl L f i
theorem Nt {its:LB} (hW:∀k,k<L.length->hY (L.getD k cz).tok) (ai:∀c∈its,lf c) (ak:its.length<=xs.length) (am:vals.length=its.length) (hN:∀k,k<L.length->(L.getD k cz).tok.k=110->dW (L.getD k cz).tok.text<=9223372036854775807) (f):
 ∀{lo i},dN f L lo i->nF xs its.length L lo (i+1)->dk xs its L f i≠0->Mr xs its vals fl L f i:=by
 induction f with
 |zero=>intro lo i h;exact h.elim
 |succ f ih=>
  intro lo i hT hG U;have aj:=fY _ hT.2.2;have E:∀j∈(L.getD i cz).subs,dk xs its L f j≠0/\lf (dk xs its L f j)/\Mr xs its vals fl L f j:=λj D=>by
   obtain⟨an,h1,h2,h3⟩:=aj j D;have ae:nF xs its.length L an (j+1):=λq a b=>hG q (by omega) (by omega)
   have O:dk xs its L f j≠0:=λe=>by
    rw[dk] at U;rw[Qo (by rw[QJ,<-e];exact RB D)] at U
    exact U rfl
   refine⟨O,?_,ih h3 ae O⟩;rcases pU hW ai f h3 ae with h|h
   ·exact absurd h O
   exact h
  have ao:((L.getD i cz).subs.map (gM (dx (fI xs)) L f)).map (cR (eG (xs.take its.length) its) f)=(L.getD i cz).subs.map λj=>eA (dk xs its L f j):=by
   rw[R3];exact QY λj D=>(E j D).2.2.ty
  have ap:((L.getD i cz).subs.map (gM (dx (fI xs)) L f)).map (fT (dF (xs.take vals.length) vals) fl f)=(L.getD i cz).subs.map (fP xs vals fl L f):=by
   rw[R3];exact QY λj D=>(E j D).2.2.ev
  have aq:((L.getD i cz).subs.map (dk xs its L f)).contains 0=false:=by
   rw[RU];intro e;rw[QJ,RC] at e;obtain⟨j,D,e⟩:=e;exact(E j D).1 e
  have Y:dk xs its L (f+1) i=UInt8.ofNat (eX xs its (L.getD i cz).tok ((L.getD i cz).subs.map (dk xs its L f))):=by
   rw[dk,Qj (by rw[aq];simp)]
  have af:∀c∈(L.getD i cz).subs.map (gM (dx (fI xs)) L f),gU f c:=λc hc=>by
   obtain⟨j,D,rfl⟩:=RC.1 hc;exact(E j D).2.2.wf
  have hz:0∉(L.getD i cz).subs.map λj=>eA (dk xs its L f j):=λe=>by
   obtain⟨j,D,e⟩:=RC.1 e;exact(E j D).1 ((mh (.inr (E j D).2.1)).1 e)
  rw[show dk xs its L (f+1) i=_ from Y] at U;have over:∀I,((cy (L.getD i cz).tok=19/\(L.getD i cz).subs.length=1)\/(cy (L.getD i cz).tok=14/\(L.getD i cz).subs.length=3)\/(fW (cy (L.getD i cz).tok)/\(L.getD i cz).subs.length=2))->(∀l,l.length=(L.getD i cz).subs.length->Bo (cy (L.getD i cz).tok) (iq (dF (xs.take vals.length) vals) fl (gM (dx (fI xs)) L (f+1) i)) l=vM (L.getD i cz).tok.text (nH xs vals fl (L.getD i cz).tok) l)->Mr xs its vals fl L (f+1) i:=λI z au=>by
   refine⟨⟨?_,af⟩,?_,?_⟩
   ·rw[gM];rcases z with⟨h1,h2⟩|⟨h1,h2⟩|⟨h1,h2⟩
    ·exact .inr (.inl ⟨h1,by obtain⟨a,e⟩:=Sr.1 h2;exact⟨_,by rw[e];rfl⟩⟩)
    ·exact .inr (.inr (.inl ⟨h1,by obtain⟨a,b,c,e⟩:=sX h2;exact⟨_,_,_,by rw[e];rfl⟩⟩))
    exact .inr (.inr (.inr ⟨h1,by obtain⟨a,b,e⟩:=zu h2;exact⟨_,_,by rw[e];rfl⟩⟩))
   ·rw[Y,(zw hT.2.1 I λj D=>(E j D).2.1).1,gM,cR]
    simp only[Te];rw[Qj I,ao];exact G6 hz (by simpa using z)
   have e:=au ((L.getD i cz).subs.map (fP xs vals fl L f)) (by simp)
   rw[fP,<-e,fT]
   conv=>lhs;rw[gM]
   simp only[ap];rfl
  rcases hT.2.1 with⟨ha,hs⟩|⟨hw,G⟩|⟨hw,G⟩|⟨m,_,D,G⟩
  ·
    have ab:=hW i hT.1;rw[hs] at U;have ac:(gM (dx (fI xs)) L (f+1) i).kids=[]:=by rw[gM];show List.map _ _=[];rw[hs];rfl
    have Z:dJ (cy (L.getD i cz).tok)->(cy (L.getD i cz).tok=1->dn (cV (L.getD i cz).tok))->(cy (L.getD i cz).tok=2->0<=dx (fI xs) (cE (L.getD i cz).tok))->
     dY (eG (xs.take its.length) its) (gM (dx (fI xs)) L (f+1) i)=eA (UInt8.ofNat (eX xs its (L.getD i cz).tok []))->iq (dF (xs.take vals.length) vals) fl (gM (dx (fI xs)) L (f+1) i)=nH xs vals fl (L.getD i cz).tok->Mr xs its vals fl L (f+1) i:=λk1 k2 k3 k4 k5=>by
     refine⟨⟨.inl ⟨k1,ac,k2,λe=>?_⟩,af⟩,?_,?_⟩
     ·rw[gM] at e⊢;simp only[] at e⊢;rw[Qo e];exact k3 e
     ·rw[Y,hs,Q9,<-k4,cR,Qo ac]
     rw[fP,hs,fT];rw[ac];exact k5
    by_cases I:(L.getD i cz).tok.k=110
    ·have z:cy (L.getD i cz).tok=1:=by unfold cy;rw[Qo I]
     have hm:=hN i hT.1 I;refine Z (.inl z) (λ_=>?_) (λe=>by omega) ?_ ?_
     ·unfold cV dn;rw[Qo I];omega
     ·have e:eX xs its (L.getD i cz).tok []=110:=by unfold eX;rw[Qo I]
      rw[e,gM];unfold dY;simp only[];rw[Qo z];rfl
     rw[gM];unfold iq nH cV;simp only[];rw[Qo z,Qo I,Qo I]
    by_cases V:(L.getD i cz).tok.k=111
    ·have z:cy (L.getD i cz).tok=2:=iK.2 V;obtain⟨O,h0⟩:=hG i hT.le (by omega) V
     have av: ¬dx (fI (xs.take its.length)) (L.getD i cz).tok.text<0:=λh=>by have:=(sP _ O xs its.length).1 h;omega
     have ad:=vh its.length (xs:=xs) (s:=(L.getD i cz).tok.text) (by omega)
     have aa:cE (L.getD i cz).tok=(L.getD i cz).tok.text:=by unfold cE;rw[Qo V]
     refine Z (.inr (.inl z)) (λe=>by omega) (λ_=>by rw[aa,ad];omega) ?_ ?_
     ·have e:eX xs its (L.getD i cz).tok []=(its.getD (cX xs (L.getD i cz).tok.text its.length).toNat 0).toNat:=by
       unfold eX;rw[Qj (by omega),Qo V]
      rw[e,Sa,gM];unfold dY;simp only[];rw[Qj (by omega),Qo z,Qo z,aa,ad]
      exact yb _ O xs its ak h0
     rw[gM];unfold iq nH;simp only[];rw[Qj (by omega),Qo z,Qo z,Qj I,Qo V,aa,ad]
     rw[<-am] at h0⊢;exact DW _ O xs vals (by omega) h0
    obtain⟨hm,z,ag,ah⟩:=wG ab ha I V;refine Z (.inr (.inr ⟨ag,ah⟩)) (λe=>by omega) (λe=>by omega) ?_ ?_
    ·rw[(zv xs its ab ha V).1,gM,hs];exact G7 _ _ _ ⟨ag,ah⟩
    rw[G2 ab ha I V,gM];unfold iq;simp only[];rw[Qj (by omega),Qj (by omega)];rfl
  ·obtain⟨e,z⟩:=gX hw;have R:cy (L.getD i cz).tok=19:=by rw[dU z,e];decide
   refine over (by intro h;rw[h] at G;simp at G) (.inl ⟨R,G⟩) λl J=>?_
   rw[G] at J;obtain⟨a,rfl⟩:=Sr.1 J;rfl
  ·obtain⟨e,z⟩:=gX hw;have R:cy (L.getD i cz).tok=14:=by rw[dU z,e];decide
   refine over (by intro h;rw[h] at G;simp at G) (.inr (.inl ⟨R,G⟩)) λl J=>?_
   rw[G] at J;obtain⟨a,b,c,rfl⟩:∃a b c,l=[a,b,c]:=by
    match l,J with
    |[a,b,c],_=>exact⟨a,b,c,rfl⟩
   rfl
  obtain⟨e,z⟩:=mi D;have R:=dU z;refine over (by intro h;rw[h] at G;simp at G) (.inr (.inr ⟨by rw[R];exact G8 _ e,G⟩)) λl J=>?_
  rw[G] at J;obtain⟨a,b,rfl⟩:∃a b,l=[a,b]:=by
   match l,J with
   |[a,b],_=>exact⟨a,b,rfl⟩
  show vR _ _ _=od _ _ _;rw[R];exact Kx e a b
end Go.Proofs.YtfkdailfcmnjlaaGreatDoor
