/-
  A part.
-/
import Derived.Test.YtfkdailfcmnjlaaGreatDoorCompiles02
import Derived.Test.YtfkdailfcmnjlaaGreatDoorCompiles13
import Derived.Test.YtfkdailfcmnjlaaGreatDoorCompiles24
import Derived.Test.YtfkdailfcmnjlaaGreatDoorCompiles26
import Derived.Test.YtfkdailfcmnjlaaGreatDoorCompiles27
set_option linter.all false
set_option maxHeartbeats 40000000
set_option maxRecDepth 1000000
namespace Go.Proofs.YtfkdailfcmnjlaaGreatDoor
open Go Go.RowKit Tryz
variable {F ts i L r B g a n c ps}
theorem Jb (h:gI F ts i L=some r) (z:r.ok=true):r.it.name=[]\/ ∃t∈ts,r.it.name=t.text:=by
 have tail:∀j x,fB F ts j L x=some r->r.it.name=x.name:=by
  intro j x I;obtain⟨a,R,D⟩:=kU I;rcases D with⟨O,U,rfl⟩|⟨_,E,_⟩
  ·rfl
  rw[E] at z;simp at z
 unfold gI at h;split at h
 ·split at h
  ·rename_i G;split at h
   ·have J:=(px λe=>by rw[e] at G;exact absurd G (by decide)).2
    exact .inr ⟨_,J,tail _ _ h⟩
   simp[dJ] at h;subst h;simp at z
  simp[dJ] at h;subst h;simp at z
 split at h
 ·split at h
  ·exact .inl (tail _ _ h)
  simp[dJ] at h;subst h;simp at z
 simp[dJ] at h;subst h;simp at z
theorem CO (g):∀i L xs R,(∀x∈xs,x.name=[]\/ ∃t∈ts,x.name=t.text)->dx F ts g i L xs=some R->R.ok=true-> ∀x∈R.xs,x.name=[]\/ ∃t∈ts,x.name=t.text:=by
 induction g with
 |zero=>intro i L xs R _ h;rw[dx] at h;simp at h
 |succ g ih=>
  intro i L xs R G h I;by_cases J:(cr ts i).k=101
  ·have:=kR h J;subst this;exact G
  rw[dx,RH J] at h;cases E:gI F ts i L with
  |none=>rw[E] at h;simp at h
  |some r=>
   rw[E] at h;simp only at h;by_cases D:r.ok=true
   ·rw[RK D] at h;refine ih r.i r.L (xs++[r.it]) R (λx z=>?_) h I
    rcases SV.1 z with z|z
    ·exact G x z
    rw[TQ] at z;subst z;exact Jb E D
   rw[RH D] at h;simp at h;subst h;simp at I
structure AM (L) (xs):Prop where
 parts:oQ L
 trees:ek L xs 0
 names:∀x∈xs,x.name.length<=1000
theorem uS (l:LB) (z:(cF l).1.1=0):AM (cF l).2.1 (cF l).2.2:=by
 unfold cF at*;by_cases V:1000<l.length
 ·rw[RK V] at z;simp at z
 rw[RH V] at z⊢;cases D:(jQ (l.length+1) l 0).2 with
 |some p=>rw[D] at z;simp at z
 |none=>
  rw[D] at z;simp only[] at z⊢;have E:jQ (l.length+1) l 0=((jQ (l.length+1) l 0).1,none):=by rw[<-D]
  obtain⟨r1,r2,O,Z,r5⟩:=tS l (by omega) (l.length+1) 0 _ (R0 _) (by omega) E
  obtain⟨J,aa⟩:=n9 l (l.length+1) 0 _ (R0 _) (by omega) E
  generalize (jQ (l.length+1) l 0).1=ts at*;obtain⟨R,I⟩:=j6 (RL _) Z (ts.length+1) 0 [] [] (by omega)
  have e:lQ ts=R:=by unfold lQ;rw[I];rfl
  rw[e] at z⊢;have U:R.ok=true:=by
   cases G:R.ok with
   |true=>rfl
   |false=>unfold da at z;rw[RK G] at z;simp at z
  obtain⟨k1,k2,k3⟩:=oa J (by omega) I U
  obtain⟨_,Y,_,_⟩:=pP J.sorted _ 0 [] [] R rfl ⟨by simp,by simp,by simp⟩ (by simp) (by omega) I U
  have k5:=CO _ 0 [] [] R (by simp) I U
  refine⟨⟨k3,λk G=>(O _ (Y.2.2 k G)).1,λk G hn=>((O _ (Y.2.2 k G)).2 hn).2,k2.few⟩,k1,λx D=>?_⟩
  rcases k5 x D with h|⟨t,ht,h⟩
  ·rw[h];simp
  rw[h];exact(O t ht).1
theorem qD (ps:List eC) (k):(ps.map cL).getD k cD=cL (ps.getD k cU):=by
 rw[RG,RG,Se];cases ps[k]?<;>rfl
theorem Fi {cap} (hL : oQ (ps.map cL)) (hn :∀ p ∈ ps, p.n = iM p.tok) (f : Nat) :∀ {lo k  w }, dN f (ps.map cL) lo k -> fm B g cap ps w ->
    Calls prog 35 #[.agg #[.slice a n c, Sq g ps.length cap], Iq k] w λe w' => e = .returned (S (je f (ps.map cL) k)) /\ Bl w w' := by
  induction f with
  | zero => intro lo k w h; exact h.elim
  | succ f ih =>
    intro lo k w hT hP;have hlt := hT.lt;have hltp : k < ps.length := by simpa using hlt
    have hsub := gW _ hT.2.2;have hsh := hT.2.1;have hnum := hL.num k hlt;have hsho := hL.short k hlt;rw [qD] at hsub hsh hnum hsho;have hpm : ps.getD k cU ∈ ps := by rw [RG, RI hltp]; exact R4 hltp
    have hnn := hn _ hpm;have hps : ps.length <= 5000 := by simpa using hL.few
    have hlen :∀ j ∈ (ps.getD k cU).subs, (je f (ps.map cL) j).length <= 100000000 := λj hj => by
      obtain ⟨lo', h1, h2, h3⟩ := hsub j hj;have h6 := dN.plain_len hL.short h3;have : 1100 * (j + 1 - lo') <= 1100 * 5000 := Ur _ (by omega)
      omega
    have h := BZ (a := a) (n := n) (c := c) (L := ps.map cL) f (λj => if j ∈ (ps.getD k cU).subs then je f (ps.map cL) j else [])
      (λj => by split; exact hlen j (by assumption); simp) k w hP hltp hsho
      (by rcases hsh with ⟨_, h⟩ | ⟨_, h⟩ | ⟨_, h⟩ | ⟨_, _, _, h⟩
          · have : (ps.getD k cU).subs = [] := h
            rw [this]; simp
          all_goals (have : (ps.getD k cU).subs.length = _ := h; omega))
      (λj hj => by obtain ⟨lo', h1, h2, h3⟩ := hsub j hj; omega)
      (λhk => ⟨by rw [hnn]; unfold iM; rw [RK hk], hnum hk⟩)
      (λj hj w1 h1 => by
        obtain ⟨lo', _, _, h3⟩ := hsub j hj;have := ih h3 h1;rw [RK hj]; exact this)
    have em : (ps.getD k cU).subs.map (λj => if j ∈ (ps.getD k cU).subs then je f (ps.map cL) j else []) = (ps.getD k cU).subs.map (je f (ps.map cL)) :=
      Sh λj hj => RK hj
    rw [em] at h;rw [je, qD];exact h
section
attribute [local go_sem ↓] Go.wp_at_zero Go.wp_at_succ
variable {base q z vals gi gf xs bv fl w w' e}
def jN (l:List Int):List Value:=l.map λv=>Value.int .i64 v
structure uT (B gi c g cap gf) (xs) (ps) (bv) (vals fl:List Int) (w):Prop where
 items:gm B (.slice (some ⟨gi,0,none⟩) xs.length c) xs w
 parts:fm B g cap ps w
 row:w.ownsRow B 2 1 bv vals.length (jN vals)
 len:vals.length<=xs.length
 fields:∀i,i<9->w.cell? ⟨gf,i,none⟩=some (Iq (fl.getD i 0))
theorem uT.below {B A c g cap z xs ps D vals fl w w'} (h:uT B A c g cap z xs ps D vals fl w) (q:Bl w w'):uT B A c g cap z xs ps D vals fl w':=
 ⟨h.items.below q,h.parts.below q,cH h.row q,h.len,λi E=>by rw[q.cell (RN w _ (h.fields i E))];exact h.fields i E⟩
theorem Px {w:World} (h:w.ownsRow base 2 1 (.slice q vals.length z) vals.length (jN vals)) (l) (A:l<vals.length):
 ∃g,q=some ⟨g,0,none⟩/\w.cell? ⟨g,l,none⟩=some (Iq (vals.getD l 0)):=by
 rcases h.2 with⟨_,G⟩|⟨g,cap,E,e,_⟩
 ·omega
 cases e;refine⟨g,rfl,?_⟩;have D:(⟨g,0,none⟩:Addr).add l=⟨g,l,none⟩:=by unfold Addr.add;split<;>simp_all
 rw[<-D];exact h.cells (g:=g) rfl l _ (by simp[jN,A])
theorem Fj {cap} (T)
 (k) (w:World) (h:uT B gi c g cap gf xs ps bv vals fl w) (hk:k<ps.length) (hT:∀j∈(ps.getD k cU).subs,dL (T j)) (ai:∀a,(ps.getD k cU).subs=[a]->T a=0\/T a=1) (aj:(ps.getD k cU).subs.length<=3) (ar:∀j∈(ps.getD k cU).subs,j<=5000)
 (au:(ps.getD k cU).tok.k=110->(ps.getD k cU).n=dG (ps.getD k cU).tok.text) (ak:(ps.getD k cU).tok.k=111->(ps.getD k cU).subs=[]->0<=cW xs (ps.getD k cU).tok.text vals.length)
 (ih:∀j∈(ps.getD k cU).subs,∀w1,uT B gi c g cap gf xs ps bv vals fl w1->Calls prog 42 #[.agg #[Sq gi xs.length c,Sq g ps.length cap],Iq j,bv,Sq gf 9 9] w1 λe w'=>e= .returned (Iq (T j))/\Bl w1 w'):
 Calls prog 42 #[.agg #[Sq gi xs.length c,Sq g ps.length cap],Iq k,bv,Sq gf 9 9] w λe w'=>e= .returned (Iq (wT (ps.getD k cU).tok.text (nU xs vals fl (ps.getD k cU).tok) ((ps.getD k cU).subs.map T)))/\Bl w w':=by
 obtain⟨k0,k1,k2,k3,k4⟩:=h.parts.cells k hk;have b1:0<=k:=by omega
 have b2:k<ps.length:=by omega
 have lg:=RN w _ k0;simp only at lg;obtain⟨sa,av,aw⟩:=h.parts.sv hk;have aR:(Value.slice sa (ps.getD k cU).subs.length (ps.getD k cU).subs.length).oneCell'=true:=rfl;have IH:=Hi ih;have HN:=Hi au;have ad:=Hi ak;have af:=Hi ar;have ab:=Hi ai;have HT:=Hi hT;have HH:Hid (uT B gi c g cap gf xs ps bv vals fl w):=h;have aG:=h.len;obtain⟨va,vc,rfl⟩:∃a c,bv= .slice a vals.length c:=by
  rcases h.row.2 with⟨e,hn⟩|⟨gg,cc,aV,e,_⟩
  ·exact⟨none,0,by rw[hn];exact e⟩
  exact⟨_,_,e⟩
 clear ih au ar h ak ai hT;generalize ps.getD k cU=D at*;rw[av] at k3;have U:=Hi aw;clear aw av;generalize D.subs=sl at*;generalize hr:(wT D.tok.text (nU xs vals fl D.tok) (sl.map T))=r;have HR:=Hi hr;clear hr;match sl,aj with
 |[],_=>
  clear U IH af ab HT;have ax:Hid (r=nU xs vals fl D.tok):=by show _=_;rw[<-HR.out];rfl
  have aD:Hid (D.tok.k=111->0<=cW xs D.tok.text vals.length):=λh=>ad.out h rfl
  clear HR ad;simp only[Sx] at*;go_enter func42,ntmps42;go_wp2_with fail;go_name_world wr hw;have q:=PM.new hw;clear hw k0 k1 k2 k3 k4;obtain⟨-,-,-,x1,-,-⟩:=q.see;go_region_held3 (λw'=>w'.cell? ⟨w.heap.size+1,1,none⟩=some (S D.tok.text))
   (first|go_keep|exact(q.next am).see.2.2.2.1)
   (first
    |(go_at_call 88;refine(oy _).mono ?_;rintro e w1 ⟨x1,rfl,J,am,aH,aI⟩)
    |(go_at_call 87;refine(iT dz _ x1 _ (by decide) J).mono ?_;rintro e w1 ⟨rfl,rfl⟩))
  rename_i hHeld;have G:=q.next am;clear hHeld q am J aH aI;obtain⟨-,-,-,x1,-,-⟩:=G.see;go_wp2_with fail;go_region_held3 (λw'=>w'.cell? ⟨w.heap.size+1,1,none⟩=some (S D.tok.text))
   (first|go_keep|exact(G.next an).see.2.2.2.1)
   (first
    |(go_at_call 89;refine(ni _).mono ?_;rintro e w5 ⟨x5,rfl,ay,an,aJ,aK⟩)
    |(go_at_call 87;refine(iT dw _ x5 _ (by decide) ay).mono ?_;rintro e w5 ⟨rfl,rfl⟩))
  rename_i hHeld;have q:=G.next an;clear hHeld G an ay aJ aK x1;have Y:=q.bel;obtain⟨q0,q1,p0,p1,-,p4⟩:=q.see;have aS:=Y.size;have i1:=jC dw D.tok.text;have i2:=jC dz D.tok.text;have i3:=wE dz D.tok.text;have i4:=wE dw D.tok.text;have az:=(HH.out.below Y).fields;clear q;have ao:=ax.out;unfold nU at ao;generalize q:du dw D.tok.text=m at*;generalize hF:du dz D.tok.text=n at*;have V:=Hi ao;have aL:=Hi az;clear ao q hF az ax;by_cases O:D.tok.k=110
  ·have aE:((D.tok.k:Int)==110)=true:=by simp;omega
   have E:Hid (r=D.n):=by show _=_;rw[V.out,RK O,HN.out O]
   clear V O;go_wp2_with fail;go_ret;exact⟨by rw[E.out];rfl,Y⟩
  have aE:((D.tok.k:Int)==110)=false:=by simp;omega
  by_cases Z:D.tok.k=111
  ·have aF:((D.tok.k:Int)==111)=true:=by simp;omega
   have aA:=aD.out Z;have E:Hid (r=vals.getD (cW xs D.tok.text vals.length).toNat 0):=by show _=_;rw[V.out,RH O,RK Z]
   have aM:=sk xs D.tok.text vals.length;have ae:=HH.out.below Y;have WL:=sE ae.items (some ⟨g,0,none⟩) ps.length cap D.tok.text vals.length aG;have aB:=Hi ae;clear V O Z ae;go_wp2_with fail;apply WL.mono;rintro e w6 ⟨rfl,ap⟩;clear WL;have ag:=aB.out.below ap;have aN:Below w.heap.size w w6:=Y.trans (ap.mono Y.size);obtain⟨gb,rfl,aC⟩:=Px ag.row (cW xs D.tok.text vals.length).toNat (by omega)
   obtain⟨l,hl⟩:∃l:Nat,cW xs D.tok.text vals.length=l:=⟨_,(TI aA).symm⟩;rw[hl] at aC E aA aM⊢;simp only[Tf] at aC E;generalize vals.getD l 0=vl at*;clear hl q0 q1 p0 p1 p4 ag ap aB;go_wp2_with fail;go_ret;exact⟨by rw[E.out];rfl,aN⟩
  have aF:(D.tok.k==111)=false:=by simp;omega
  by_cases hn:0<=n
  ·have E:Hid (r=fl.getD n.toNat 0):=by show _=_;rw[V.out,RH O,RH Z,RK hn]
   obtain⟨l,rfl⟩:∃l:Nat,n=l:=⟨n.toNat,(TI hn).symm⟩;have aO:l<9:=by have:(dz.length:Int)=9:=rfl;omega
   have aW:=aL.out l aO;simp only[Tf] at E;generalize fl.getD l 0=vl at*;clear V O Z;have c1:l<9:=by omega
   go_wp2_with fail;go_ret;exact⟨by rw[E.out];rfl,Y⟩
  by_cases hm:0<=m
  ·have E:Hid (r=m):=by show _=_;rw[V.out,RH O,RH Z,RH hn,RK hm]
   have aP:n<0:=by omega
   clear V O Z hn;go_wp2_with fail;go_ret;exact⟨by rw[E.out];rfl,Y⟩
  have aP:n<0:=by omega
  have aY:m<0:=by omega
  have E:Hid (r=cR (D.tok.text==mn)):=by show _=_;rw[V.out,RH O,RH Z,RH hn,RH hm]
  have WT:=λW=>tU (D.tok.text==[116,114,117,101]) W
  have e9:(D.tok.text==mn)=(D.tok.text==[116,114,117,101]):=rfl;rw[e9] at E;clear V O Z hn hm e9;generalize cR (D.tok.text==[116,114,117,101])=tr at*;go_wp2_with fail;apply(WT _).mono;rintro e w6 ⟨rfl,rfl⟩;clear WT;go_wp2_with fail;go_ret;exact⟨by rw[E.out];rfl,Y⟩
 |[y],_=>
  obtain⟨sb,rfl,I⟩:=U.out 0 (by simp)
  have aa:Hid (r=1 - T y):=HR.out.symm;have hy:=ab.out y rfl;have Wy:=IH.out y (by simp)
  simp only[SU] at I;clear U HR IH af ab HN ad HT;simp only[R7,Sx,Sw] at*;go_enter func42,ntmps42;go_wp2_with fail;go_name_world wr hw;have q:=PM.new hw;clear hw k0 k1 k2 k3 k4;obtain⟨p0,p1,x3,s0⟩:=q.sub I;have R:=Wy wr.drew (HH.out.below q.bel.drew);go_region_held3 (OQ w.heap.size gi xs.length c g ps.length cap (Sq sb 1 1) ⟨sb,0,none⟩ (Iq y)) (first|exact(q.next A).sub I|exact q.sub I) ((go_at_call 42;refine R.mono ?_;rintro e w1 ⟨rfl,A⟩))
  rename_i hHeld;have HB:=Hi (q.next A).bel;clear hHeld q p0 p1 x3 s0 R A;generalize T y=ty at*;have w3:IntKind.i64.wrap (1 - ty)=1 - ty:=wrap64 (by unfold dL;omega)
  clear hy;go_wp2_with fail;go_ret;exact⟨by rw[aa.out];rfl,HB.out⟩
 |[y,z],_=>
  obtain⟨sb,rfl,I⟩:=U.out 0 (by simp)
  obtain⟨_,⟨⟩,J⟩:=U.out 1 (by simp)
  have aa:Hid (r=oA D.tok.text (T y) (T z)):=HR.out.symm;have hy:=HT.out y (by simp)
  have hz:=HT.out z (by simp)
  have Wy:=IH.out y (by simp)
  have Wz:=IH.out z (by simp)
  simp only[SU,R9] at I J;clear U HR IH af ab HN ad HT;simp only[R7,Sx,Sw,Nat.reduceAdd] at*;go_enter func42,ntmps42;go_wp2_with fail;go_name_world wr hw;have q:=PM.new hw;clear hw k0 k1 k2 k3 k4;obtain⟨p0,p1,x3,s0⟩:=q.sub I;have R:=Wy wr.drew (HH.out.below q.bel.drew);go_region_held3 (OQ w.heap.size gi xs.length c g ps.length cap (Sq sb 2 2) ⟨sb,0,none⟩ (Iq y)) (first|exact(q.next A).sub I|exact q.sub I) ((go_at_call 42;refine R.mono ?_;rintro e w1 ⟨rfl,A⟩))
  rename_i hHeld;have G:=q.next A;clear hHeld q p0 p1 x3 s0 R A;go_wp2_with fail;obtain⟨p0,p1,x3,s0⟩:=G.sub J;have R:=Wz w1.drew (HH.out.below G.bel.drew);go_region_held3 (OQ w.heap.size gi xs.length c g ps.length cap (Sq sb 2 2) ⟨sb,1,none⟩ (Iq z)) (first|exact(G.next A).sub J|exact G.sub J) ((go_at_call 42;refine R.mono ?_;rintro e w2 ⟨rfl,A⟩))
  rename_i hHeld;have q:=G.next A;obtain⟨-,-,-,x1,-⟩:=q.see;have HB:=Hi q.bel;have WT:=λW=>Af D.tok.text hy hz W
  clear hHeld q G p0 p1 x3 s0 R A hy hz;generalize T y=ty at*;generalize T z=tz at*;generalize oA D.tok.text ty tz=tr at*;go_wp2_with fail;apply(WT _).mono;rintro e w3 ⟨rfl,rfl⟩;clear WT;go_wp2_with fail;go_ret;exact⟨by rw[aa.out];rfl,HB.out⟩
 |[y,z,u],_=>
  obtain⟨sb,rfl,I⟩:=U.out 0 (by simp)
  obtain⟨_,⟨⟩,J⟩:=U.out 1 (by simp)
  obtain⟨_,⟨⟩,ah⟩:=U.out 2 (by simp)
  have aa:Hid (r=if T y=1 then T z else T u):=HR.out.symm;have Wy:=IH.out y (by simp)
  have Wz:=IH.out z (by simp)
  have Wu:=IH.out u (by simp)
  simp only[SU,R9] at I J ah;clear U HR IH af ab HN ad HT;simp only[R7,Sx,Sw,Nat.reduceAdd] at*;go_enter func42,ntmps42;go_wp2_with fail;go_name_world wr hw;have q:=PM.new hw;clear hw k0 k1 k2 k3 k4;obtain⟨p0,p1,x3,s0⟩:=q.sub I;have R:=Wy wr.drew (HH.out.below q.bel.drew);go_region_held3 (OQ w.heap.size gi xs.length c g ps.length cap (Sq sb 3 3) ⟨sb,0,none⟩ (Iq y)) (first|exact(q.next A).sub I|exact q.sub I) ((go_at_call 42;refine R.mono ?_;rintro e w1 ⟨rfl,A⟩))
  rename_i hHeld;have G:=q.next A;clear hHeld q p0 p1 x3 s0 R A;by_cases ac:T y=1
  ·have aq:Hid (r=T z):=aa.out.trans (RK ac);have aQ:(T y==1)=true:=by simpa using ac
   clear aa ac;generalize T y=ty at*;go_wp2_with fail;obtain⟨p0,p1,x3,s0⟩:=G.sub J;have R:=Wz w1.drew (HH.out.below G.bel.drew);go_region_held3 (OQ w.heap.size gi xs.length c g ps.length cap (Sq sb 3 3) ⟨sb,1,none⟩ (Iq z)) (first|exact(G.next A).sub J|exact G.sub J) ((go_at_call 42;refine R.mono ?_;rintro e w2 ⟨rfl,A⟩))
   rename_i hHeld;have HB:=Hi (G.next A).bel;clear hHeld G p0 p1 x3 s0 R A;go_wp2_with fail;go_ret;exact⟨by rw[aq.out];rfl,HB.out⟩
  have aq:Hid (r=T u):=aa.out.trans (RH ac);have aQ:(T y==1)=false:=by simpa using ac
  clear aa ac;generalize T y=ty at*;go_wp2_with fail;obtain⟨p0,p1,x3,s0⟩:=G.sub ah;have R:=Wu w1.drew (HH.out.below G.bel.drew);go_region_held3 (OQ w.heap.size gi xs.length c g ps.length cap (Sq sb 3 3) ⟨sb,2,none⟩ (Iq u)) (first|exact(G.next A).sub ah|exact G.sub ah) ((go_at_call 42;refine R.mono ?_;rintro e w2 ⟨rfl,A⟩))
  rename_i hHeld;have HB:=Hi (G.next A).bel;clear hHeld G p0 p1 x3 s0 R A;go_wp2_with fail;go_ret;exact⟨by rw[aq.out];rfl,HB.out⟩
 |_::_::_::_::_,aj=>simp at aj
def fU (l:List UInt8):List UInt8:=if(cF l).1.1=0 then ox (cF l).2.1 (cF l).2.2 else[]
def QM (B:Nat) (r:List UInt8) (z pv:Value) (w:World):Prop:=
 (∃a c J O R,z= .slice a 0 c/\pv= .slice J O R/\r=[])\/
 ∃U c g cap ps xs,z= .slice (some ⟨U,0,none⟩) xs.length c/\pv= .slice (some ⟨g,0,none⟩) ps.length cap/\gm B z xs w/\fm B g cap ps w/\(∀p∈ps,p.n=iM p.tok)/\AM (ps.map cL) xs/\r=ox (ps.map cL) xs
theorem Py (l:LB) (h:lq (cF l).1.1 (cF l).1.2 (cF l).2.1 (cF l).2.2 w e w'):
 Bl w w'/\ ∃G pv,e= .returned (.tuple #[.agg #[G,pv],Iq (cF l).1.1,Iq (cF l).1.2])/\QM w.heap.size (fU l) G pv w':=by
 obtain⟨hb,G,pv,rfl,⟨a,b,c,rfl⟩,⟨Y,Z,c',rfl⟩,h1,h2⟩:=h;refine⟨hb,_,_,rfl,?_⟩;by_cases z:(cF l).1.1=0
 ·have I:=uS l z;have ht:fU l=ox (cF l).2.1 (cF l).2.2:=by unfold fU;rw[RK z]
  obtain⟨J,ps,A,O,R,U,aa⟩:=h2 z;rw[ht];generalize (cF l).2.2=xs at*;rw[<-aa] at I⊢;cases q:xs with
  |nil=>
   subst q;refine .inl ⟨a,c,Y,Z,c',?_,rfl,rfl⟩;rcases J.form with⟨e,_⟩|⟨gi,c1,e⟩
   ·simp only[Sb] at e;rw[e.2.1]
   simp only[Sb] at e;rw[e.2.1];rfl
  |cons x r=>
   refine .inr ?_;rw[<-q];have ab:xs.length≠0:=by rw[q];simp
   have E:=I.trees;rw[q] at E;have V:=E.1.fit.lt;rcases J.form with⟨_,e⟩|⟨gi,c1,e⟩
   ·exact absurd e ab
   rcases A.2 with⟨_,D⟩|⟨g,cap,ac,D,_⟩
   ·rw[SR] at V;omega
   exact⟨gi,c1,g,cap,ps,xs,e,D,J,⟨D▸A,O,R⟩,U,I,rfl⟩
 obtain⟨e1,D⟩:=h1 z;refine .inl ⟨none,0,Y,Z,c',e1,rfl,?_⟩;unfold fU;rw[RH z]
theorem L7:∀{fr},ek L xs fr-> ∀j (q:j<xs.length),∃z,jc L z xs[j].top:=by
 induction xs with
 |nil=>intro fr _ j q;simp at q
 |cons x r ih=>
  intro fr h j q;cases j with
  |zero=>exact⟨fr,h.1⟩
  |succ j=>exact ih h.2.2 j (by simpa using q)
abbrev Qm (x:dk):Obj:= .cells #[S x.name,.bool x.allow,.int .i64 x.top,.int .i64 x.pl,.int .i64 x.named,.int .i64 x.parts] 95
theorem Jc (l:LB) (w) (Z:l.length<=maxLen):Calls prog 15 #[S l] w λe w'=>e= .returned (.tuple #[S (fU l),Iq (cF l).1.1,Iq (cF l).1.2])/\Bl w w':=by
 have ae:=(sH l w Z).mono λe w' h=>Py l h
 clear Z;generalize (cF l).1.1=n at*;generalize (cF l).1.2=k at*;generalize fU l=r at*;go_enter func15,ntmps15;go_wp2_with fail;apply ae.mono;rintro e G ⟨A,iv,pv,rfl,hA⟩;clear ae;rcases hA with⟨a,c,a',b',c',rfl,rfl,hr⟩|⟨D,c,g,cap,ps,xs,rfl,rfl,hI,hP,aa,hk,hr⟩
 ·have HR:Hid _:=hr;have HB:=Hi (A.alloc A.size (.cells #[.slice a 0 c,.slice a' b' c'] 90));clear hr A;go_wp2;go_loop [8,9] (λt i=>t=S []/\i= Iq 0) (λ_ _=>0)
  case atStart=>exact⟨rfl,rfl⟩
  case round=>
   obtain⟨rfl,rfl⟩:=hrel;go_wp2;refine RU (v:= .tuple #[S [],Iq n,Iq k]) (by simp[results,results15,go_sem]) rfl ?_
   exact⟨by rw[HR.out],HB.out⟩
 have HR:Hid _:=hr;have E:=A.alloc A.size (.cells #[Sq D xs.length c,Sq g ps.length cap] 90);have q:(G.alloc (.cells #[Sq D xs.length c,Sq g ps.length cap] 90)).heap[G.heap.size]?=some (.cells #[Sq D xs.length c,Sq g ps.length cap] 90 (0,0)):=RO G _;have hf:=hI.few;have aB:=hP.few;have af:=hI.below ((RP _ _).alloc (RL _) (.cells #[Sq D xs.length c,Sq g ps.length cap] 90));have ag:=hP.below ((RP _ _).alloc (RL _) (.cells #[Sq D xs.length c,Sq g ps.length cap] 90));have H0:=Hi (And.intro E (And.intro q (And.intro af ag)));have an:=Hi aa;have HK:=Hi hk;clear hr A hI hP aa hk E q af ag;go_wp2;generalize G.alloc (.cells #[Sq D xs.length c,Sq g ps.length cap] 90)=wz at*;go_loopw [8,9] (λtv jv wr=> ∃j t,j<=xs.length/\jv= Iq j/\tv=S t/\t.length<=6000000*j/\Hid (t=ox (ps.map cL) (xs.take j))/\Bl w wr/\wr.heap[G.heap.size]?=some (.cells #[Sq D xs.length c,Sq g ps.length cap] 90 (0,0))/\Hid (gm w.heap.size (Sq D xs.length c) xs wr)/\Hid (fm w.heap.size g cap ps wr)) (λ_ jv _=>xs.length - (intOf jv).toNat)
 case atStart=>exact⟨0,[],R0 _,rfl,rfl,by simp,rfl,H0.out.1,H0.out.2.1,H0.out.2.2.1,H0.out.2.2.2⟩
 case round=>
  obtain⟨j,t,hj,rfl,rfl,ao,HT,R,q,HI,HP⟩:=hrel;have q0:=RM wr G.heap.size 0 _ _ _ q;have q1:=RM wr G.heap.size 1 _ _ _ q;have ap:=cq q;simp only[RY,RZ,RX] at q0 q1;by_cases J:j<xs.length
  ·obtain⟨c0,c1,c2,c3,c4,c5⟩:=HI.out.cells j J;have Z:=R4 J;have ah:=Hi (Fh (L:=ps.map cL) J);have ai:xs.getD j dQ=xs[j]:=by rw[RG,RI J];rfl
   rw[ai] at ah;have aC:=HK.out.names _ Z;obtain⟨lo,aj⟩:=L7 HK.out.trees j J;have U:=aj.fit;have ak:=dN.plain_len HK.out.parts.short U;have aq:=U.lt;rw[SR] at aq;have aA:(je (xs[j].top+1) (ps.map cL) xs[j].top).length<=5500000:=SF ak (SF (Ur _ (show xs[j].top+1 - lo<=5000 by omega)) (by decide))
   have b1:0<=j:=by omega
   have b2:j<xs.length:=by omega
   have lg:=RN wr _ c0;simp only at lg;have E:Bl wr (wr.alloc (Qm xs[j])):=(RP _ _).alloc (RL _) _;have ab:Hid (Bl w (wr.alloc (Qm xs[j]))):=R.trans (E.mono R.size);have ac:Hid ((wr.alloc (Qm xs[j])).heap[G.heap.size]?=some (.cells #[Sq D xs.length c,Sq g ps.length cap] 90 (0,0))):=by show _=_;rw[RV _ _ _ ap];exact q
   have am:=Hi (HI.out.below E);have ad:=Hi (HP.out.below E);have ar:Hid ((wr.alloc (Qm xs[j])).heap[wr.heap.size]?=some (Qm xs[j])):=RO wr _;have W1:=λW (h:fm w.heap.size g cap ps W)=>Fi (a:=some ⟨D,0,none⟩) (n:=xs.length) (c:=c) HK.out.parts an.out (xs[j].top+1) (w:=W) U h
   have au:Hid (yH (ps.map cL) xs[j]=Bt xs[j]++je (xs[j].top+1) (ps.map cL) xs[j].top++[59,10]):=rfl;have V:Hid (Bt xs[j]=if xs[j].name=[] then(if xs[j].allow then qk else tN) else oZ++xs[j].name++ye):=rfl;clear Z HI HP ak aj U q E ai;unfold Qm at*;generalize yH (ps.map cL) xs[j]=il at*;generalize Bt xs[j]=Y at*;generalize je (xs[j].top+1) (ps.map cL) xs[j].top=pl at*;generalize xs[j]=x at*;obtain⟨nm,al,tp,xp,xn,xq⟩:=x;simp only[] at*;by_cases z:nm=[];have e1:(nm==[])=true:=by simpa using z
   cases al;have I:Hid (Y=tN):=by show _=_;rw[V.out,RK z];rfl
   rotate_left;have I:Hid (Y=qk):=by show _=_;rw[V.out,RK z];rfl
   rotate_left;have e1:(nm==[])=false:=by simpa using z
   have I:Hid (Y=oZ++nm++ye):=by show _=_;rw[V.out,RH z]
   all_goals
    clear z V;go_wp2_with fail;apply(W1 _ ad.out).mono;rintro e w2 ⟨rfl,O⟩;clear W1 c0 c1 c2 c3 c4 c5 q0 q1;have av:=ab.out.trans (O.mono ab.out.size);have aw:=(O.block _ (cq ac.out)).trans ac.out;have ax:=Hi (am.out.below O);have ay:=Hi (ad.out.below O);clear O am ad ab ac ar;go_wp2;go_roundw
    case rel=>
     refine⟨j+1,t++Y++pl++[59,10],by omega,by simp,?_,by rw[I.out];simp[oZ,ye,qk,tN];omega,?_,av,aw,ax.out,ay.out⟩
     ·exact Te Value.string (by
       rw[<-fI (t++Y++pl) [59,10],<-fI (t++Y) pl,I.out]
       first
        |(rw[<-fI t qk];rfl)
        |(rw[<-fI t tN];rfl)
        |(rw[show t++(oZ++nm++ye)=t++oZ++nm++ye by simp,<-fI (t++oZ++nm) ye,<-fI (t++oZ) nm,<-fI t oZ];rfl))
     show _=_;rw[ah.out,au.out,HT.out];simp
    case measure=>simp[intOf];omega
  have az:j=xs.length:=by omega
  subst az;have HE:Hid (t=r):=by
   have:=HT.out;rw[Ti] at this;show _=_;rw[this,HR.out]
  have HB:=Hi R;clear R q ao HI HP;go_wp2;refine RU (v:= .tuple #[S t,Iq n,Iq k]) (by simp[results,results15,go_sem]) rfl ?_
  exact⟨by rw[HE.out],HB.out⟩
theorem AN (ts) (R) (h:(da ts R).1=0):(da ts R).2=0:=by
 unfold da at*
 repeat' split at h
 all_goals simp_all
theorem zC (l:List UInt8) (h:(cF l).1.1=0):(cF l).1.2=0:=by
 unfold cF at*
 by_cases z:1000<l.length
 ·rw[RK z] at h;simp at h
 ·rw[RH z] at h⊢
  cases D:(jQ (l.length+1) l 0).2 with
  |some p=>rw[D] at h;simp at h
  |none=>
   rw[D] at h;exact AN _ _ h
end
variable {gi gf xs bv its vals fl j d t x}
theorem Jd {cap} (hV:mJ its vals) (hF:gh fl) (hL:oQ (ps.map cL)) (hn:∀p∈ps,p.n=iM p.tok) (f):∀{R k w},dN f (ps.map cL) R k->nS xs its.length (ps.map cL) R (k+1)->dr xs its (ps.map cL) f k≠0->uT B gi c g cap gf xs ps bv vals fl w->
 Calls prog 42 #[.agg #[Sq gi xs.length c,Sq g ps.length cap],Iq k,bv,Sq gf 9 9] w λe w'=>e= .returned (Iq (gR xs vals fl (ps.map cL) f k))/\Below w.heap.size w w':=by
 induction f with
 |zero=>intro R k w h;exact h.elim
 |succ f ih=>
  intro R k w I U J hP;have aa:=I.lt;have E:k<ps.length:=by simpa using aa
  have z:=gW _ I.2.2;have V:=I.2.1;have O:=λa ea=>IA (a:=a) hV hF hL.num I U J ea
  have ab:ps.getD k cU∈ps:=by rw[RG,RI E];exact R4 E
  have ac:=hn _ ab;have ad:ps.length<=5000:=by simpa using hL.few
  have Y:=U k I.le (by omega)
  have G:∀j∈((ps.map cL).getD k cD).subs,dr xs its (ps.map cL) f j≠0:=λj D e=>by
   rw[dr,RK] at J
   ·exact absurd rfl J
   ·rw[Sd,<-e];exact Tk D
  rw[qD] at z V O Y G;rw[gR,qD];refine Fj (λj=>gR xs vals fl (ps.map cL) f j) k w hP E (λj D=>?_) (λa ea=>O a ea) ?_ (λj D=>by obtain⟨Z,h1,h2,h3⟩:=z j D;omega) (λhk=>by rw[ac];unfold iM;rw[RK hk]) (λhk _=>by rw[hV.len];exact(Y hk).2) (λj D w1 h1=>?_)
  ·obtain⟨Z,h1,h2,h3⟩:=z j D
   exact(pQ hV hF hL.num f h3 (λq a b=>U q (by omega) (by omega)) (G j D)).1
  ·rcases V with⟨_,h⟩|⟨_,h⟩|⟨_,h⟩|⟨_,_,_,h⟩
   ·have:(ps.getD k cU).subs=[]:=h
    rw[this];simp
   all_goals (have:(ps.getD k cU).subs.length=_:=h;omega)
  ·obtain⟨Z,ae,h2,h3⟩:=z j D
   exact ih h3 (λq a b=>U q (by omega) (by omega)) (G j D) h1
def jO (xs:List dk) (fl:List Int) (L:List Pt):List dk->List Int->Nat->Option (Bool×Nat)
 |[],_,_=>none
 |x::r,vals,n=>
  if x.name=[] then(if gR xs vals fl L (x.top+1) x.top=1 then some (x.allow,n+1) else jO xs fl L r (vals++[gR xs vals fl L (x.top+1) x.top]) (n+1))
  else jO xs fl L r (vals++[gR xs vals fl L (x.top+1) x.top]) n
def nB (l:List UInt8) (fl:List Int):Bool×Nat:=if(cF l).1.1=0 then(jO (cF l).2.2 fl (cF l).2.1 (cF l).2.2 [] 0).getD (false,0) else(false,0)
structure pX (L) (xs):Prop where
 print:AM L xs
 parts:iq L
 names:dq xs L xs 0 0=none
 types:dF xs L xs []=none
theorem CP (l:LB) (z:(cF l).1.1=0):iq (cF l).2.1/\dq (cF l).2.2 (cF l).2.1 (cF l).2.2 0 0=none/\dF (cF l).2.2 (cF l).2.1 (cF l).2.2 []=none:=by
 unfold cF at*;by_cases G:1000<l.length
 ·rw[RK G] at z;simp at z
 rw[RH G] at z⊢;cases E:(jQ (l.length+1) l 0).2 with
 |some p=>rw[E] at z;simp at z
 |none=>
  rw[E] at z;simp only[] at z⊢;have D:jQ (l.length+1) l 0=((jQ (l.length+1) l 0).1,none):=by rw[<-E]
  obtain⟨r1,r2,r3,Y,r5⟩:=tS l (by omega) (l.length+1) 0 _ (R0 _) (by omega) D
  obtain⟨I,aa⟩:=n9 l (l.length+1) 0 _ (R0 _) (by omega) D
  generalize (jQ (l.length+1) l 0).1=ts at*;obtain⟨R,J⟩:=j6 (RL _) Y (ts.length+1) 0 [] [] (by omega)
  have e:lQ ts=R:=by unfold lQ;rw[J];rfl
  rw[e] at z⊢;have O:R.ok=true:=by
   cases Z:R.ok with
   |true=>rfl
   |false=>unfold da at z;rw[RK Z] at z;simp at z
  refine⟨(oa I (by omega) J O).2.1,?_⟩
  unfold da at z;rw[RH (by rw[O];simp)] at z
  cases U:eK R.L R.xs 0 0 with
  |some p=>rw[U] at z;simp at z
  |none=>
   rw[U] at z;simp only[] at z;cases V:dq R.xs R.L R.xs 0 0 with
   |some p=>rw[V] at z;simp at z
   |none=>
    rw[V] at z;simp only[] at z;cases ht:dF R.xs R.L R.xs [] with
    |some p=>rw[ht] at z;simp at z
    |none=>exact⟨rfl,rfl⟩
theorem oS (l:LB) (z:(cF l).1.1=0):pX (cF l).2.1 (cF l).2.2:=by
 obtain⟨a,b,c⟩:=CP l z;exact⟨uS l z,a,b,c⟩
def rW (xs:List dk) (L:List Pt) (j:Nat) (vals:List Int):Prop:=
 ∃its fr,mJ its vals/\its.length=j/\ek L (xs.drop j) fr/\dq xs L (xs.drop j) fr j=none/\dF xs L (xs.drop j) its=none
theorem pX.start (h:pX L xs):rW xs L 0 []:=
 ⟨[],0,⟨rfl,λi z=>by simp at z⟩,rfl,h.print.trees,h.names,h.types⟩
theorem rW.item (J:iq L) (h:rW xs L j vals) (O:j<xs.length):
 ∃its E,mJ its vals/\its.length=j/\dN (xs[j].top+1) L E xs[j].top/\nS xs its.length L E (xs[j].top+1)/\dr xs its L (xs[j].top+1) xs[j].top≠0:=by
 obtain⟨its,fr,R,G,z,I,D⟩:=h;rw[R5 O] at z I D;refine⟨its,fr,R,G,z.1.fit,?_,λe=>?_⟩
 ·rw[G];exact(kf J z.1 z.2.1 I).1
 rw[dF,RK (.inl (by rw[e];rfl))] at D;simp at D
theorem rW.next (R:iq L) (U:oQ L) (V:gh fl) (h:rW xs L j vals) (Y:j<xs.length):
 rW xs L (j+1) (vals++[gR xs vals fl L (xs[j].top+1) xs[j].top]):=by
 obtain⟨its,fr,G,I,D,J,z⟩:=h;rw[R5 Y] at D J z;obtain⟨Z,O⟩:=kf R D.1 D.2.1 J;rw[dF] at z;by_cases E:(dr xs its L (xs[j].top+1) xs[j].top).toNat=0\/(xs[j].name=[]/\(dr xs its L (xs[j].top+1) xs[j].top).toNat≠116)
 ·rw[RK E] at z;simp at z
 rw[RH E] at z;refine⟨its++[dr xs its L (xs[j].top+1) xs[j].top],xs[j].parts,G.snoc ?_,by simp[I],D.2.2,O,z⟩
 refine pQ G V U.num _ D.1.fit (by rw[I];exact Z) λe=>E (.inl (by rw[e];rfl))
theorem Je (e) (s) (J:dL e.need) (O:dL e.when_) (h3:dL s.dflt) (I:∀x∈s.levels,dL x.2):gh (dM e s):=by
 have D:∀z u,(∀x∈z,dL x.2)->dL (dX s.dflt z u):=λz u=>by
  induction z with
  |nil=>intro _;exact h3
  |cons x r ih=>
   intro h;rw[dX];split
   ·exact h x (by simp)
   exact ih λy R=>h y (by simp[R])
 have E:∀n,dL (fJ n):=λn=>by unfold fJ dL;split<;>omega
 have G:∀z u,dL (dW z u):=λz u=>by
  induction z with
  |nil=>unfold dW dL;omega
  |cons x r ih=>rw[dW];split;exact E _;exact ih
 refine⟨rfl,λi V=>?_⟩
 have U:i=0\/i=1\/i=2\/i=3\/i=4\/i=5\/i=6\/i=7\/i=8:=by omega
 rcases U with rfl|rfl|rfl|rfl|rfl|rfl|rfl|rfl|rfl
 ·exact⟨D _ _ I,λe=>absurd e (by decide)⟩
 ·exact⟨D _ _ I,λe=>absurd e (by decide)⟩
 ·exact⟨J,λe=>absurd e (by decide)⟩
 ·exact⟨O,λe=>absurd e (by decide)⟩
 ·exact⟨G _ _,λe=>absurd e (by decide)⟩
 ·exact⟨G _ _,λe=>absurd e (by decide)⟩
 ·exact⟨E _,λe=>absurd e (by decide)⟩
 ·exact ju _ _
 exact ju _ _
theorem CQ {l:LB} {pol:List (qY×List (Nat×LB))} (hl:l.length<=1000) (hx:LX l (vg pol)) (hp:∀p∈pol,jD d 6 p.2 p.1.sy/\(p.1.name≠[]->p.1.allow=false)):
 ek (cF l).2.1 (cF l).2.2 0/\nh d (cF l).2.1 (cF l).2.2 (pol.map Prod.fst) 0/\(Ql d (pol.map Prod.fst)->(cF l).1=(0,0)):=by
 obtain⟨ts,D,h2⟩:=Pc l (l.length+1) 0 _ (hx _ (by simp))
 unfold cF;rw[RH (by omega),D]
 simp only[];obtain⟨r1,r2,r3,r4,r5⟩:=tS l (by omega) (l.length+1) 0 _ (R0 _) (by omega) D
 obtain⟨G,ad⟩:=n9 l (l.length+1) 0 _ (R0 _) (by omega) D
 obtain⟨R,E⟩:=j6 (RL _) r4 (ts.length+1) 0 [] [] (by omega)
 have e:lQ ts=R:=by unfold lQ;rw[E];rfl
 rw[e];obtain⟨m1,m2⟩:=Pd h2;obtain⟨I,new,ae,q1,J,O⟩:=G6 pol _ 0 [] [] R hp m1 m2 E;obtain⟨U,k2,k3⟩:=oa G (by omega) E I
 rw[Tp] at J;subst J;exact⟨U,O,λh=>(sw I k2 U O).1.2 h⟩
def qQ (L:List Pt):Nat->Nat->Sy
 |0,_=>Ky
 |f+1,i=>⟨(L.getD i cD).tok.k,(L.getD i cD).tok.text,(L.getD i cD).subs.map (qQ L f)⟩
def Pz (t:Tok):Prop:=ik t/\(t.k=110->dG t.text<=9223372036854775807)/\(t.k=111->t.text≠[]/\(∀c∈t.text,ig c=true)/\ml t.text=false/\t.text.length<=8)
theorem NV:∀x∈cZ.drop 11,dP ⟨107,x,0⟩=true->x∈vY:=by decide
theorem PA:∀x∈cZ.drop 11,∀n∈[0,1,3,4],eX n ⟨107,x,0⟩=true->(107,x)∈qX:=by decide
theorem PB:∀x∈(cZ.drop 3).take 8,∀n∈[0,1,3,4],eX n ⟨115,x,0⟩=true->(115,x)∈qX:=by decide
theorem PC:∀x∈(cZ.drop 3).take 8,x≠iw/\x≠lT:=by decide
theorem L8 (t:Tok):dP t=dP ⟨t.k,t.text,0⟩:=rfl
theorem L9 (n) (t):eX n t=eX n ⟨t.k,t.text,0⟩:=rfl
theorem CR {x:LB} (hW:ik t) (h:eE t x=true) (D:x=iw\/x=lT):t.k=107/\t.text=x:=by
 unfold eE at h;simp only[TA,Uv,Uh] at h;obtain⟨G,z⟩:=h;refine⟨?_,z⟩;rcases hW with h|h|h|⟨h,_⟩|⟨h,E⟩
 ·omega
 ·omega
 ·omega
 ·exact h
 exfalso;have:=PC _ E;rw[z] at this;rcases D with rfl|rfl
 ·exact this.1 rfl
 exact this.2 rfl
theorem NW (hG:∀k,k<L.length->Pz (L.getD k cD).tok) (f):∀{D i},dN f L D i->mX f L i (qQ L f i)/\Nl f (qQ L f i)/\cS f (qQ L f i)=i+1 - D:=by
 have aa:∀f {D i},dN f L D i->cS f (qQ L f i)=cnt f L i:=by
  intro f;induction f with
  |zero=>intro D i h;exact h.elim
  |succ f ih=>
   intro D i h;have E:=iH _ h.2.2;rw[qQ,cS,cnt];have:∀js,(∀j∈js,cS f (qQ L f j)=cnt f L j)->((js.map (qQ L f)).map (cS f)).sum=kN (cnt f L) js:=by
    intro js;induction js with
    |nil=>intro _;rfl
    |cons j js ab=>
     intro z;have:=ab λq hq=>z q (by simp[hq])
     simp only[Sa,Uk,kN];rw[z j (by simp),this]
   simp only[];rw[this _ λj z=>?_]
   obtain⟨U,J⟩:=E j z;exact ih J
 have V:∀f {D i},dN f L D i->mX f L i (qQ L f i)/\Nl f (qQ L f i):=by
  intro f;induction f with
  |zero=>intro D i h;exact h.elim
  |succ f ih=>
   intro D i h;have E:=iH _ h.2.2;obtain⟨R,hn,ho⟩:=hG i h.1;rw[qQ];refine⟨⟨h.1,⟨rfl,by split<;>rfl⟩,by simp,λj z=>?_⟩,?_,λc hc=>?_⟩
   ·have Y:j<(L.getD i cD).subs.length:=by simpa using z
    have e:((L.getD i cD).subs.map (qQ L f)).getD j Ky=qQ L f ((L.getD i cD).subs.getD j 0):=by
     generalize (L.getD i cD).subs=q at*;simp[RG,Se,RI Y]
    show mX f L _ (((L.getD i cD).subs.map (qQ L f)).getD j Ky);rw[e];obtain⟨U,J⟩:=E ((L.getD i cD).subs.getD j 0) (by
     generalize (L.getD i cD).subs=q at*;rw[RG,RI Y];exact R4 _)
    exact(ih J).1
   ·show(_\/_\/_\/_);rcases h.2.1 with⟨G,hs⟩|⟨hx,O⟩|⟨hx,O⟩|⟨n,hc,z,O⟩
    ·left;refine⟨by rw[hs];rfl,?_⟩
     by_cases h1:(L.getD i cD).tok.k=110
     ·exact .inl ⟨h1,hn h1⟩
     by_cases h2:(L.getD i cD).tok.k=111
     ·exact .inr (.inl ⟨h2,ho h2⟩)
     right;right;rw[L8] at G;rcases R with h|h|h|⟨h,I⟩|⟨h,I⟩
     ·exact absurd h h1
     ·exact absurd h h2
     ·rw[h] at G;simp[dP] at G
     ·rw[h] at G;exact⟨h,NV _ I G⟩
     rw[h] at G;simp[dP] at G
    ·obtain⟨e1,e2⟩:=CR R hx (.inl rfl);exact .inr (.inl ⟨e1,e2,by simpa using O⟩)
    ·obtain⟨e1,e2⟩:=CR R hx (.inr rfl);exact .inr (.inr (.inl ⟨e1,e2,by simpa using O⟩))
    right;right;right;refine⟨?_,by simpa using O⟩
    have Z:n∈[0,1,3,4]:=by unfold di at hc;simp;omega
    rw[L9] at z;rcases R with h|h|h|⟨h,I⟩|⟨h,I⟩
    ·rw[h] at z;simp[eX] at z
    ·rw[h] at z;simp[eX] at z
    ·rw[h] at z;simp[eX] at z
    ·rw[h] at z⊢;exact PA _ I n Z z
    rw[h] at z⊢;exact PB _ I n Z z
   obtain⟨j,z,rfl⟩:=Tc.1 hc;obtain⟨U,J⟩:=E j z;exact(ih J).2
 intro D i h;exact⟨(V f h).1,(V f h).2,by rw[aa f h];exact h.cnt⟩
theorem NX (l:LB) (f):∀a ts,jQ f l a=(ts,none)-> ∀t∈ts,t.k=111->t.text≠[]/\(∀c∈t.text,ig c=true)/\ml t.text=false/\t.text.length<=8:=by
 induction f with
 |zero=>intro a ts h;simp[jQ] at h;subst h;simp
 |succ f ih=>
  intro a ts h;rw[jQ] at h;split at h
  ·simp at h;subst h;simp
  rw[uH] at h;cases z:mx (l.drop (de jB l a)) with
  |none=>rw[z] at h;simp at h
  |some w=>
   rw[z] at h;simp only[TH] at h;simp only[Sj] at h;obtain⟨rfl,Z⟩:=h;have J:=ih _ _ (Prod.ext rfl Z);intro t E D;rcases Sm.1 E with rfl|E
   ·generalize l.drop (de jB l a)=s at z;unfold mx at z;simp only[] at D⊢;split at z
    ·split at z
     ·cases z
     simp at z;rw[<-z] at D;simp at D
    split at z
    ·rename_i O;split at z
     ·simp at z;rw[<-z] at D;simp at D
     rename_i R;split at z
     ·rename_i G;simp at z;subst z;refine⟨O,λc hc=>?_,by simpa using R,G⟩
      have:=UW (l:=s) (p:=ig);exact TL.1 this c hc
     cases z
    split at z
    ·cases z
    split at z
    ·split at z
     ·simp at z;rw[<-z] at D;simp at D
     simp at z;rw[<-z] at D;simp at D
    split at z
    ·simp at z;rw[<-z] at D;simp at D
    cases z
   exact J t E D
theorem GH (h:fB F ts i L x=some r) (z:r.ok=true):r.it.name=x.name/\r.it.allow=x.allow:=by
 unfold fB at h;split at h
 ·cases h
 split at h
 ·split at h
  ·simp at h;subst h;exact⟨rfl,rfl⟩
  simp[dJ] at h;subst h;simp at z
 simp[dJ] at h;subst h;simp at z
theorem Ma (h:gI F ts i L=some r) (z:r.ok=true):r.it.name=[]\/((∃t∈ts,t.k=111/\r.it.name=t.text)/\r.it.allow=false):=by
 unfold gI at h;split at h
 ·split at h
  ·rename_i D;split at h
   ·obtain⟨E,G⟩:=GH h z;have I:=(px λe=>by rw[e] at D;exact absurd D (by decide)).2
    exact .inr ⟨⟨_,I,D,E⟩,G⟩
   simp[dJ] at h;subst h;simp at z
  simp[dJ] at h;subst h;simp at z
 split at h
 ·split at h
  ·exact .inl (GH h z).1
  simp[dJ] at h;subst h;simp at z
 simp[dJ] at h;subst h;simp at z
theorem Jf (g):∀i L xs R,(∀x∈xs,x.name=[]\/((∃t∈ts,t.k=111/\x.name=t.text)/\x.allow=false))->dx F ts g i L xs=some R->R.ok=true-> ∀x∈R.xs,x.name=[]\/((∃t∈ts,t.k=111/\x.name=t.text)/\x.allow=false):=by
 induction g with
 |zero=>intro i L xs R _ h;rw[dx] at h;simp at h
 |succ g ih=>
  intro i L xs R G h I;by_cases J:(cr ts i).k=101
  ·have:=kR h J;subst this;exact G
  rw[dx,RH J] at h;cases E:gI F ts i L with
  |none=>rw[E] at h;simp at h
  |some r=>
   rw[E] at h;simp only at h;by_cases D:r.ok=true
   ·rw[RK D] at h;refine ih r.i r.L (xs++[r.it]) R (λx z=>?_) h I
    rcases SV.1 z with z|z
    ·exact G x z
    rw[TQ] at z;subst z;exact Ma E D
   rw[RH D] at h;simp at h;subst h;simp at I
theorem PD (G:∀k,k<L.length->Pz (L.getD k cD).tok) (U:L.length<=d):∀{fr},ek L xs fr->nh d L xs (xs.map λx=>⟨x.name,x.allow,qQ L d x.top⟩) fr/\ ∀x∈xs,Nl d (qQ L d x.top):=by
 induction xs with
 |nil=>intro fr h;exact⟨h.symm,by simp⟩
 |cons x xs ih=>
  intro fr h;have z:=h.1.fit;have E:=z.upto (g:=d) (by have:=z.lt;omega)
  obtain⟨I,J,h3⟩:=NW G d E;obtain⟨O,R⟩:=ih h.2.2;refine⟨⟨rfl,rfl,I,h.2.1,by have:=z.le;rw[h3,<-h.2.1];omega,O⟩,λy D=>?_⟩
  rcases Sm.1 D with rfl|D
  ·exact J
  exact R y D
theorem zD (l:LB) (z:(cF l).1.1=0):∃d pol,ek (cF l).2.1 (cF l).2.2 0/\nh d (cF l).2.1 (cF l).2.2 pol 0/\Ql d pol/\ ∀s∈pol,Nl d s.sy/\D5 s:=by
 unfold cF at*;by_cases h1:1000<l.length
 ·rw[RK h1] at z;simp at z
 rw[RH h1] at z⊢;cases G:(jQ (l.length+1) l 0).2 with
 |some p=>rw[G] at z;simp at z
 |none=>
  rw[G] at z;simp only[] at z⊢;have D:jQ (l.length+1) l 0=((jQ (l.length+1) l 0).1,none):=by rw[<-G]
  obtain⟨r1,r2,r3,r4,r5⟩:=tS l (by omega) (l.length+1) 0 _ (R0 _) (by omega) D
  obtain⟨U,ae⟩:=n9 l (l.length+1) 0 _ (R0 _) (by omega) D
  have I:=NX l _ 0 _ D;generalize (jQ (l.length+1) l 0).1=ts at*;obtain⟨R,J⟩:=j6 (RL _) r4 (ts.length+1) 0 [] [] (by omega)
  have e:lQ ts=R:=by unfold lQ;rw[J];rfl
  rw[e] at z⊢;have O:R.ok=true:=by
   cases E:R.ok with
   |true=>rfl
   |false=>unfold da at z;rw[RK E] at z;simp at z
  obtain⟨Y,k2,k3⟩:=oa U (by omega) J O
  obtain⟨_,k4,_,_⟩:=pP U.sorted _ 0 [] [] R rfl ⟨by simp,by simp,by simp⟩ (by simp) (by omega) J O
  have k5:=Jf _ 0 [] [] R (by simp) J O
  have hG:∀k,k<R.L.length->Pz (R.L.getD k cD).tok:=λk E=>⟨k3 k E,λhn=>((r3 _ (k4.2.2 k E)).2 hn).2,λho=>I _ (k4.2.2 k E) ho⟩
  obtain⟨q1,q2⟩:=PD hG (RL _) Y;refine⟨R.L.length,_,Y,q1,(sw O k2 Y q1).2 z,λs hs=>?_⟩
  obtain⟨x,G,rfl⟩:=Tc.1 hs;refine⟨q2 x G,?_⟩;rcases k5 x G with h|⟨⟨t,ht,E,h⟩,ha⟩
  ·exact .inl h
  obtain⟨o1,o2,o3,o4⟩:=I t ht E;exact .inr ⟨by rw[h];exact o2,by rw[h];exact o3,by rw[h];exact o4,ha⟩
theorem Mb {l:LB} {pol:List (qY×List (Nat×LB))} (V:l.length<=1000) (Y:LX l (vg pol)) (Z:∀p∈pol,jD d 6 p.2 p.1.sy/\(p.1.name≠[]->p.1.allow=false)) (ok:Ql d (pol.map Prod.fst)):(cF l).1=(0,0)/\fU l=lG d (pol.map Prod.fst):=by
 obtain⟨h1,h2,h3⟩:=CQ V Y Z;have D:=h3 ok;refine⟨D,?_⟩;unfold fU;rw[RK (by rw[D]),rK h1 h2]
theorem xt {pol:List qY} (h:∀s∈pol,Nl d s.sy/\D5 s):∀p∈pol.map (λs=>(s,iz d s.sy)),jD d 6 p.2 p.1.sy/\(p.1.name≠[]->p.1.allow=false):=by
 intro p I;obtain⟨s,J,rfl⟩:=Tc.1 I;obtain⟨O,R⟩:=h s J;obtain⟨U,V⟩:=KJ d O;refine⟨U.out V (RL 6),λY=>?_⟩
 rcases R with h|⟨_,_,_,h⟩
 ·exact absurd h Y
 exact h
theorem AO {pol:List qY} (W:Sy->List (Nat×LB)):(pol.map λs=>(s,W s.sy)).map Prod.fst=pol:=by
 rw[TD];exact List.map_id pol
theorem xu (l:LB) (z:(cF l).1.1=0) (D:(fU l).length<=1000):(cF (fU l)).1=(0,0)/\fU (fU l)=fU l:=by
 obtain⟨d,pol,I,J,h3,E⟩:=zD l z;have e:fU l=lG d pol:=by unfold fU;rw[RK z,rK I J]
 rw[e] at D⊢;have:=Mb D (yN pol E) (xt E) (by rw[AO];exact h3)
 rw[AO] at this;exact this
section
attribute [local go_sem ↓] Go.wp_at_zero Go.wp_at_succ
variable {w w' e b x0 x1 x2 lv}
theorem Mc:(prog.info? 2).map (λi=>(i.zero,i.size,i.bytes))=some (some (Iq 0),1,8):=by kernel_rfl
def GI (B:Nat) (n:Nat) (fl:List Int) (r:Bool×Nat) (D pv:Value) (w:World):Prop:=
 (∃a c R U V,D= .slice a 0 c/\pv= .slice R U V/\r=(false,0))\/
 n=0/\ ∃Y c g cap ps xs,D= .slice (some ⟨Y,0,none⟩) xs.length c/\pv= .slice (some ⟨g,0,none⟩) ps.length cap/\gm B D xs w/\fm B g cap ps w/\(∀p∈ps,p.n=iM p.tok)/\pX (ps.map cL) xs/\r=(jO xs fl (ps.map cL) xs [] 0).getD (false,0)
theorem Md (l:LB) (fl) (h:lq (cF l).1.1 (cF l).1.2 (cF l).2.1 (cF l).2.2 w e w'):
 Bl w w'/\ ∃J pv,e= .returned (.tuple #[.agg #[J,pv],Iq (cF l).1.1,Iq (cF l).1.2])/\GI w.heap.size (cF l).1.1 fl (nB l fl) J pv w':=by
 obtain⟨hb,J,pv,rfl,⟨a,b,c,rfl⟩,⟨a',b',c',rfl⟩,h1,h2⟩:=h;refine⟨hb,_,_,rfl,?_⟩;by_cases D:(cF l).1.1=0
 ·have O:=oS l D;have ht:nB l fl=(jO (cF l).2.2 fl (cF l).2.1 (cF l).2.2 [] 0).getD (false,0):=by unfold nB;rw[RK D]
  obtain⟨R,ps,E,U,V,Y,aa⟩:=h2 D;rw[ht];generalize (cF l).2.2=xs at*;rw[<-aa] at O⊢;cases z:xs with
  |nil=>
   subst z;refine .inl ⟨a,c,a',b',c',?_,rfl,rfl⟩;rcases R.form with⟨e,_⟩|⟨gi,c1,e⟩
   ·simp only[Sb] at e;rw[e.2.1]
   simp only[Sb] at e;rw[e.2.1];rfl
  |cons x r=>
   refine .inr ⟨D,?_⟩;rw[<-z];have ab:xs.length≠0:=by rw[z];simp
   have I:=O.print.trees;rw[z] at I;have Z:=I.1.fit.lt;rcases R.form with⟨_,e⟩|⟨gi,c1,e⟩
   ·exact absurd e ab
   rcases E.2 with⟨_,G⟩|⟨g,cap,ac,G,_⟩
   ·rw[SR] at Z;omega
   exact⟨gi,c1,g,cap,ps,xs,e,G,R,⟨G▸E,U,V⟩,Y,O,rfl⟩
 obtain⟨e1,G⟩:=h1 D;refine .inl ⟨none,0,a',b',c',e1,rfl,?_⟩;unfold nB;rw[RH D]
def QN (r:Bool×Nat):Value:= .agg #[.bool r.1,Iq r.2,Iq 0]
theorem jz (h:w.heap[b]?=some (.cells #[x0,x1,x2] 40 (0,0))):(Cq w b 0 x0/\Cq w b 1 x1/\Cq w b 2 x2)/\ ∀j,w.frozen? ⟨b,j,none⟩=false:=by
 have z:=λj=>RM w b j _ _ _ h
 exact⟨⟨z 0,z 1,z 2⟩,λj=>by simp[World.frozen?,h]⟩
theorem Me {mv} (l:LB) (e) (s) (w) (hm:l.length<=maxLen) (h1:dD lv s.levels w) (h2:dD mv s.members w) (hw:dL e.wants) (hF:gh (dM e s)):
 Calls prog 19 #[S l,zx e,lW lv mv s] w λen w'=>en= .returned (.tuple #[QN (nB l (dM e s)),Iq (cF l).1.1])/\Bl w w':=by
 have aU:=λW=>(sH l W hm).mono λe' w' h=>Md l (dM e s) h
 have aV:=λW (hb:Bl w W)=>xk e s W (h1.below hb) (h2.below hb) hw
 generalize dM e s=fl at*;generalize (cF l).1.1=n at*;generalize (cF l).1.2=k at*;generalize nB l fl=r at*;unfold zx lW at*;obtain⟨sn,tg,wa,nd,wh⟩:=e;obtain⟨ls,df,ms,op⟩:=s;simp only[] at*;have ai:Bl w (((w.alloc (.cells #[S sn,S tg,Iq wa,Iq nd,Iq wh] 46)).alloc (.cells #[lv,Iq df,mv,.bool op] 50)).alloc (.cells #[.bool false,Iq 0,Iq 0] 40)):=(((RP _ _).alloc (RL _) _).alloc (by simp) _).alloc (by simp;omega) _
 have aj:(((w.alloc (.cells #[S sn,S tg,Iq wa,Iq nd,Iq wh] 46)).alloc (.cells #[lv,Iq df,mv,.bool op] 50)).alloc (.cells #[.bool false,Iq 0,Iq 0] 40)).heap[w.heap.size]?=some (.cells #[S sn,S tg,Iq wa,Iq nd,Iq wh] 46 (0,0)):=by rw[RV _ _ _ (by simp;omega),RV _ _ _ (by simp)];exact RO w _
 have ak:(((w.alloc (.cells #[S sn,S tg,Iq wa,Iq nd,Iq wh] 46)).alloc (.cells #[lv,Iq df,mv,.bool op] 50)).alloc (.cells #[.bool false,Iq 0,Iq 0] 40)).heap[w.heap.size+1]?=some (.cells #[lv,Iq df,mv,.bool op] 50 (0,0)):=by
  rw[RV _ _ _ (by simp)]
  have e:=RO (w.alloc (.cells #[S sn,S tg,Iq wa,Iq nd,Iq wh] 46)) (.cells #[lv,Iq df,mv,.bool op] 50);rw[RW] at e;exact e
 have am:(((w.alloc (.cells #[S sn,S tg,Iq wa,Iq nd,Iq wh] 46)).alloc (.cells #[lv,Iq df,mv,.bool op] 50)).alloc (.cells #[.bool false,Iq 0,Iq 0] 40)).heap[w.heap.size+1+1]?=some (.cells #[.bool false,Iq 0,Iq 0] 40 (0,0)):=by
  have e:=RO ((w.alloc (.cells #[S sn,S tg,Iq wa,Iq nd,Iq wh] 46)).alloc (.cells #[lv,Iq df,mv,.bool op] 50)) (.cells #[.bool false,Iq 0,Iq 0] 40);rw[RW,RW] at e;exact e
 have H0:=Hi (And.intro ai (And.intro aj (And.intro ak am)));go_enter func19,ntmps19;go_wp2_with fail;obtain⟨ai,aj,ak,am⟩:=H0.out;generalize (((w.alloc (.cells #[S sn,S tg,Iq wa,Iq nd,Iq wh] 46)).alloc (.cells #[lv,Iq df,mv,.bool op] 50)).alloc (.cells #[.bool false,Iq 0,Iq 0] 40))=wz at*;apply(aU _).mono;rintro e' z ⟨an,iv,pv,rfl,hA⟩;have aE:=ai.trans (an.mono ai.size);have bh:Hid (wz.heap.size<=z.heap.size):=an.size;have ad:=(an.block _ (cq aj)).trans aj;have ae:=(an.block _ (cq ak)).trans ak;have aF:=(an.block _ (cq am)).trans am;obtain⟨ia,ib,ic,bi⟩:∃a b c,iv= .slice a b c:=by
  rcases hA with⟨a,c,a',b',c',h,_⟩|⟨_,Z,c,g,cap,ps,xs,h,_⟩<;>exact⟨_,_,_,h⟩
 obtain⟨pa,pb,pc,bj⟩:∃a b c,pv= .slice a b c:=by
  rcases hA with⟨a,c,a',b',c',_,h,_⟩|⟨_,Z,c,g,cap,ps,xs,_,h,_⟩<;>exact⟨_,_,_,h⟩
 subst bi bj;have aa:Bl z (z.alloc (.cells #[.slice ia ib ic,.slice pa pb pc] 90)):=(RP _ _).alloc (RL _) _;have ah:=aE.trans (aa.mono aE.size);have bk:=(aa.block _ (cq ad)).trans ad;have bl:=(aa.block _ (cq ae)).trans ae;have ao:=(aa.block _ (cq aF)).trans aF;have ab:(z.alloc (.cells #[.slice ia ib ic,.slice pa pb pc] 90)).heap[z.heap.size]?=some (.cells #[.slice ia ib ic,.slice pa pb pc] 90 (0,0)):=RO z _;have W2:=aV _ ah;have HA:Hid (GI wz.heap.size n fl r (.slice ia ib ic) (.slice pa pb pc) z):=hA;have H2:=Hi (And.intro ah (And.intro ao (And.intro ab aa)));have c0:=RM z w.heap.size 0 _ _ _ ad;have c1:=RM z w.heap.size 1 _ _ _ ad;have c2:=RM z w.heap.size 2 _ _ _ ad;have c3:=RM z w.heap.size 3 _ _ _ ad;have c4:=RM z w.heap.size 4 _ _ _ ad;have d0:=RM z (w.heap.size+1) 0 _ _ _ ae;have d1:=RM z (w.heap.size+1) 1 _ _ _ ae;have d2:=RM z (w.heap.size+1) 2 _ _ _ ae;have d3:=RM z (w.heap.size+1) 3 _ _ _ ae;simp only[RY,RZ,RX] at c0 c1 c2 c3 c4 d0 d1 d2 d3;have bz:=cq ad;have bA:=cq ae;go_wp2_with fail;apply W2.mono;rintro e' O ⟨⟨gf,rfl,aG⟩,av⟩;obtain⟨ah,ao,ab,aa⟩:=H2.out;have aH:=ah.trans (av.mono ah.size);have aI:=(av.block _ (cq ao)).trans ao;have aJ:=(av.block _ (cq ab)).trans ab;have aw:=aa.trans (av.mono aa.size);rcases HA.out with⟨a,c,a',b',c',e1,e2,hr⟩|⟨bm,Z,c,g,cap,ps,xs,e1,e2,hI,hP,aK,hk,hr⟩
 ·cases e1;cases e2;subst hr;have HB:=Hi aH;have p0:=RM O z.heap.size 0 _ _ _ aJ;simp only[RY,RZ,RX] at p0;obtain⟨⟨v0,v1,v2⟩,vf⟩:=jz aI;go_wp2;go_loop [12,13,14] (λrl it i=>rl= Iq 0/\it= .slice none 0 0/\i= Iq 0) (λ_ _ _=>0)
  case atStart=>exact⟨rfl,rfl,rfl⟩
  case round=>
   obtain⟨rfl,rfl,rfl⟩:=hrel;go_wp2;refine RU (v:= .tuple #[.agg #[.bool false,Iq 0,Iq 0],Iq n]) (by simp[results,results19,go_sem,v0,v1,v2,vf]) rfl ?_
   exact⟨rfl,((HB.out.setCell (by simp;omega) _).setCell (by simp;omega) _).setCell (by simp;omega) _⟩
 cases e1;cases e2;have aL:=hI.below aw;have ab:=hP.below aw;have bu:=aL.few;have aW:Hid (gm wz.heap.size (Sq Z xs.length ic) xs O):=aL;have bo:Hid (fm wz.heap.size g pc ps O):=ab;have aX:Hid (∀i,i<9->Cq O gf i (Iq (fl.getD i 0))):=aG;have bd:=Hi aK;have HK:=Hi hk;have HR:=Hi hr;have bp:Hid (wz.heap.size<=O.heap.size):=by
  show _<=_;have:=aw.size;exact SF (bh.out) this
 have aA:=Hi aH;have af:=Hi aI;have aB:=Hi aJ;have HF:Hid (gh fl):=hF;obtain⟨i0,hi,aM,aN,aO⟩:=Tz Mc;subst bm;go_wp2;go_loopw [12,13,14] (λrl it i wr=> ∃(j D:Nat) (vals:List Int),j<=xs.length/\D<=j/\vals.length=j/\rl= Iq D/\i= Iq j/\Hid (rW xs (ps.map cL) j vals)/\Hid (jO xs fl (ps.map cL) xs [] 0=jO xs fl (ps.map cL) (xs.drop j) vals D)/\wr.ownsRow O.heap.size 2 1 it vals.length (jN vals)/\Bl O wr) (λ_ _ i _=>xs.length - (intOf i).toNat)
 case atStart=>exact⟨0,0,[],R0 _,RL _,rfl,rfl,rfl,HK.out.start,rfl,SC _ _ _ _,RP _ _⟩
 case round=>
  obtain⟨j,D,vals,hj,bF,aY,rfl,rfl,HM,HL,U,R⟩:=hrel;have aP:=(R.block _ (cq af.out)).trans af.out;have ap:=(R.block _ (cq aB.out)).trans aB.out;have p0:=RM wr z.heap.size 0 _ _ _ ap;have p1:=RM wr z.heap.size 1 _ _ _ ap;simp only[RY,RZ,RX] at p0 p1;have aq:=aA.out.trans (R.mono aA.out.size);by_cases ax:j<xs.length
  ·obtain⟨its,lo,hV,bq,aQ,aZ,a0⟩:=HM.out.item HK.out.parts ax;have a8:=Hi (HM.out.next HK.out.parts HK.out.print.parts HF.out ax);have au:uT wz.heap.size Z ic g pc gf xs ps _ vals fl wr:=⟨aW.out.below R,bo.out.below R,lU U bp.out,by omega,λi hi=>by rw[R.cell (p:=⟨gf,i,none⟩) (RN O _ (aX.out i hi))];exact aX.out i hi⟩
   obtain⟨c0,c1,c2,c3,c4,c5⟩:=au.items.cells j ax;have WT:=Jd hV HF.out HK.out.print.parts bd.out (xs[j].top+1) aQ aZ a0 (au.below (RP wr.heap.size wr).drew);have ar:Hid (jO xs fl (ps.map cL) (xs.drop j) vals D=if xs[j].name=[] then(if gR xs vals fl (ps.map cL) (xs[j].top+1) xs[j].top=1 then some (xs[j].allow,D+1) else jO xs fl (ps.map cL) (xs.drop (j+1)) (vals++[gR xs vals fl (ps.map cL) (xs[j].top+1) xs[j].top]) (D+1)) else jO xs fl (ps.map cL) (xs.drop (j+1)) (vals++[gR xs vals fl (ps.map cL) (xs[j].top+1) xs[j].top]) D):=by
    show _=_;rw[R5 ax,jO]
   have bf:=aQ.lt;rw[SR] at bf;have b1:(0:Int)<=(j:Int):=by omega
   have b2:(j:Int)<(xs.length:Int):=by omega
   have a9:=RN wr _ c0;simp only at a9;generalize gR xs vals fl (ps.map cL) (xs[j].top+1) xs[j].top=tv at*;have KF:Hid (∀w',Below wr.heap.size wr.drew w'->(w'.cell? ⟨z.heap.size,0,none⟩=some (Sq Z xs.length ic)/\w'.cell? ⟨z.heap.size,1,none⟩=some (Sq g ps.length pc)/\w'.cell? ⟨Z,j*6+2,none⟩=some (Iq xs[j].top))):=λw' h=>by
    rw[h.cell (p:=⟨z.heap.size,0,none⟩) (cq ap),h.cell (p:=⟨z.heap.size,1,none⟩) (cq ap),h.cell (p:=⟨Z,j*6+2,none⟩) a9];exact⟨p0,p1,c2⟩
   have aR:Hid (∀w',Bl O w'->(Cq w' z.heap.size 0 (Sq Z xs.length ic)/\Cq w' z.heap.size 1 (Sq g ps.length pc)/\Cq w' Z (j*6) (S xs[j].name)/\Cq w' Z (j*6+1) (.bool xs[j].allow))):=λw' h=>by
    have ba:=(h.block _ (cq aB.out)).trans aB.out;obtain⟨d0,d1,_⟩:=(aW.out.below h).cells j ax;exact⟨RM w' z.heap.size 0 _ _ _ ba,RM w' z.heap.size 1 _ _ _ ba,d0,d1⟩
   generalize xs[j]=x at*;by_cases ac:x.name=[]
   ·have n1:(x.name==[])=true:=by simpa using ac
    by_cases aC:tv=1
    ·subst aC;have HE:Hid (r=(x.allow,D+1)):=by show _=_;rw[HR.out,HL.out,ar.out,RK ac,RK rfl];rfl
     go_wp2_with fail;go_region_held3 (λw'=>w'.cell? ⟨z.heap.size,0,none⟩=some (Sq Z xs.length ic)/\w'.cell? ⟨z.heap.size,1,none⟩=some (Sq g ps.length pc)/\w'.cell? ⟨Z,j*6+2,none⟩=some (Iq x.top)) (first|exact KF.out _ V|go_keep) ((go_at_call 42;refine WT.mono ?_;rintro e w5 ⟨rfl,V⟩))
     rename_i hHeld;have Y:=(RP _ _).drew.trans V;have ag:=R.trans (Y.mono R.size);have G:=cH U Y;have bb:=ag.size;go_wp2_with (
      at_builtin;go_must (refine wpList_append_lies _ (by rfl) _ _ 116 (by rfl) O.heap.size 2 i0 (Iq 0) 1 8 underlying116 hi aM aN aO (by rfl) (by decide) _ _ _ (by rfl) (G.alloc _) ⟨w5.heap.size,0,none⟩ 1 1 [Iq 1] (by rfl) (by rfl) (World.news_of_block (RO w5 _)) (λx hx=>by simp at hx;rcases hx with rfl;rfl) (by decide) (by unfold maxLen;omega) (by omega) (by simp;omega) _ rfl ?_)
      intro g3 aS w3 I E bc aT;have J:=gU ag G E;obtain⟨p0,p1,c0,c1⟩:=aR.out w3 J;obtain⟨⟨v0,v1,v2⟩,vf⟩:=jz ((J.block _ (cq af.out)).trans af.out);have ay:=Hi J;clear J I E)
     have br:Hid (Bl w w3):=aA.out.trans (ay.out.mono aA.out.size);refine RU (v:= .tuple #[.agg #[.bool x.allow,Iq ((D:Int)+1),Iq 0],Iq 0]) (by simp[results,results19,go_sem,v0,v1,v2,vf]) rfl ?_
     exact⟨by rw[HE.out];rfl,((br.out.setCell (by simp;omega) _).setCell (by simp;omega) _).setCell (by simp;omega) _⟩
    have t1:(tv==1)=false:=by simpa using aC
    have az:Hid (jO xs fl (ps.map cL) (xs.drop j) vals D=jO xs fl (ps.map cL) (xs.drop (j+1)) (vals++[tv]) (D+1)):=by show _=_;rw[ar.out,RK ac,RH aC]
    go_wp2_with fail;go_region_held3 (λw'=>w'.cell? ⟨z.heap.size,0,none⟩=some (Sq Z xs.length ic)/\w'.cell? ⟨z.heap.size,1,none⟩=some (Sq g ps.length pc)/\w'.cell? ⟨Z,j*6+2,none⟩=some (Iq x.top)) (first|exact KF.out _ V|go_keep) ((go_at_call 42;refine WT.mono ?_;rintro e w5 ⟨rfl,V⟩))
    rename_i hHeld;have Y:=(RP _ _).drew.trans V;have ag:=R.trans (Y.mono R.size);have G:=cH U Y;have bb:=ag.size;go_wp2_with (
     at_builtin;go_must (refine wpList_append_lies _ (by rfl) _ _ 116 (by rfl) O.heap.size 2 i0 (Iq 0) 1 8 underlying116 hi aM aN aO (by rfl) (by decide) _ _ _ (by rfl) (G.alloc _) ⟨w5.heap.size,0,none⟩ 1 1 [Iq tv] (by rfl) (by rfl) (World.news_of_block (RO w5 _)) (λx hx=>by simp at hx;rcases hx with rfl;rfl) (by decide) (by unfold maxLen;omega) (by omega) (by simp;omega) _ rfl ?_)
     intro g3 aS w3 I E bc aT;have J:=gU ag G E;obtain⟨p0,p1,c0,c1⟩:=aR.out w3 J;obtain⟨⟨v0,v1,v2⟩,vf⟩:=jz ((J.block _ (cq af.out)).trans af.out);have ay:=Hi J;have aD:=Hi I;clear J I E)
    go_roundw
    case rel=>
     refine⟨j+1,D+1,vals++[tv],by omega,by omega,by simp;omega,by simp,by simp,a8.out,?_,?_,ay.out⟩
     ·show _=_;rw[HL.out];exact az.out
     have e7:jN (vals++[tv])=jN vals++[Iq tv]:=by simp[jN]
     have e8:(vals++[tv]).length=vals.length+1:=by simp
     rw[e7,e8];subst aY;exact aD.out
    case measure=>simp[intOf];omega
   have n1:(x.name==[])=false:=by simpa using ac
   have az:Hid (jO xs fl (ps.map cL) (xs.drop j) vals D=jO xs fl (ps.map cL) (xs.drop (j+1)) (vals++[tv]) D):=by show _=_;rw[ar.out,RH ac]
   go_wp2_with fail;go_region_held3 (λw'=>w'.cell? ⟨z.heap.size,0,none⟩=some (Sq Z xs.length ic)/\w'.cell? ⟨z.heap.size,1,none⟩=some (Sq g ps.length pc)/\w'.cell? ⟨Z,j*6+2,none⟩=some (Iq x.top)) (first|exact KF.out _ V|go_keep) ((go_at_call 42;refine WT.mono ?_;rintro e w5 ⟨rfl,V⟩))
   rename_i hHeld;have Y:=(RP _ _).drew.trans V;have ag:=R.trans (Y.mono R.size);have G:=cH U Y;have bb:=ag.size;go_wp2_with (
    at_builtin;go_must (refine wpList_append_lies _ (by rfl) _ _ 116 (by rfl) O.heap.size 2 i0 (Iq 0) 1 8 underlying116 hi aM aN aO (by rfl) (by decide) _ _ _ (by rfl) (G.alloc _) ⟨w5.heap.size,0,none⟩ 1 1 [Iq tv] (by rfl) (by rfl) (World.news_of_block (RO w5 _)) (λx hx=>by simp at hx;rcases hx with rfl;rfl) (by decide) (by unfold maxLen;omega) (by omega) (by simp;omega) _ rfl ?_)
    intro g3 aS w3 I E bc aT;have J:=gU ag G E;obtain⟨p0,p1,c0,c1⟩:=aR.out w3 J;obtain⟨⟨v0,v1,v2⟩,vf⟩:=jz ((J.block _ (cq af.out)).trans af.out);have ay:=Hi J;have aD:=Hi I;clear J I E)
   go_roundw
   case rel=>
    refine⟨j+1,D,vals++[tv],by omega,by omega,by simp;omega,by simp,by simp,a8.out,?_,?_,ay.out⟩
    ·show _=_;rw[HL.out];exact az.out
    have e7:jN (vals++[tv])=jN vals++[Iq tv]:=by simp[jN]
    have e8:(vals++[tv]).length=vals.length+1:=by simp
    rw[e7,e8];subst aY;exact aD.out
   case measure=>simp[intOf];omega
  have bs:j=xs.length:=by omega
  subst bs;have HE:Hid (r=(false,0)):=by
   show _=_;rw[HR.out,HL.out,T8];rfl
  obtain⟨⟨v0,v1,v2⟩,vf⟩:=jz aP;have HB:=Hi aq;go_wp2;refine RU (v:= .tuple #[.agg #[.bool false,Iq 0,Iq 0],Iq 0]) (by simp[results,results19,go_sem,v0,v1,v2,vf]) rfl ?_
  exact⟨by rw[HE.out];rfl,((HB.out.setCell (by simp;omega) _).setCell (by simp;omega) _).setCell (by simp;omega) _⟩
end
theorem xv (h:gh fl):dI fl:=λn D=>by
 have z:=h.has n (by omega)
 refine⟨z.1,λe=>z.2 ?_⟩
 have:n=0\/n=1\/n=2\/n=3\/n=4\/n=5\/n=6\/n=7\/n=8:=by omega
 rcases this with rfl|rfl|rfl|rfl|rfl|rfl|rfl|rfl|rfl<;>first|rfl|(exfalso;revert e;decide)
theorem Jg {c:UInt8} (h:eF c=2):c=116:=by
 unfold eF at h;split at h
 ·simp at h
 split at h
 ·rename_i e;exact Tq.1 e
 split at h<;>simp at h
theorem CS:∀xs (its:LB) vals,vals.length=its.length->(∀i,i<its.length->Nc (its.getD i 0) (vals.getD i 0))->kG (eM xs its) (eW xs vals)
 |[],its,vals,_,_=>λi z=>by cases its<;>simp[eM] at z
 |x::xs,[],vals,_,_=>λi z=>by simp[eM] at z
 |x::xs,c::its,[],h,_=>by simp at h
 |x::xs,c::its,v::vals,h,E=>by
  have ih:=CS xs its vals (by simpa using h) λi z=>by have:=E (i+1) (by simpa using z);simpa using this
  rw[eM,eW];split
  ·exact ih
  intro i z;cases i with
  |zero=>
   have D:=E 0 (by simp)
   simp only[SU] at D⊢;exact⟨D.1,λe=>D.2 (Jg e)⟩
  |succ i=>rw[R9] at z⊢;rw[R9];exact ih i z
def tf (xs:List dk) (L:List Pt) (j:Nat) (vals:List Int):Prop:=
 ∃its fr,mJ its vals/\its.length=j/\ek L (xs.drop j) fr/\dq xs L (xs.drop j) fr j=none/\dF xs L (xs.drop j) its=none/\ ∀c∈its,lK c
structure PE (xs:List dk) (L) (fl) (j) (vals) (lt):Prop where
 tree:∃lo,dN ((xs.getD j dQ).top+1) L lo (xs.getD j dQ).top
 wf:hY ((xs.getD j dQ).top+1) (gy (du (fN xs)) L ((xs.getD j dQ).top+1) (xs.getD j dQ).top)
 ty:cP lt ((xs.getD j dQ).top+1) (gy (du (fN xs)) L ((xs.getD j dQ).top+1) (xs.getD j dQ).top)≠0
 ev:eP (eW (xs.take j) vals) fl ((xs.getD j dQ).top+1) (gy (du (fN xs)) L ((xs.getD j dQ).top+1) (xs.getD j dQ).top)=gR xs vals fl L ((xs.getD j dQ).top+1) (xs.getD j dQ).top
 lets:kG lt (eW (xs.take j) vals)
 len:lt.length<=(eW (xs.take j) vals).length
theorem tf.item (hL:iq L) (G:oQ L) (h:tf xs L j vals) (hj:j<xs.length):(∃lt,PE xs L fl j vals lt)/\vals.length=j:=by
 obtain⟨its,fr,U,I,z,V,J,Y⟩:=h;rw[fK hj dQ] at z V J;have Z:nS xs its.length L fr ((xs.getD j dQ).top+1):=by rw[I];exact(kf hL z.1 z.2.1 V).1
 have D:dr xs its L ((xs.getD j dQ).top+1) (xs.getD j dQ).top≠0:=λe=>by
  rw[dF,RK (.inl (by rw[e];rfl))] at J;simp at J
 have E:=U.len;have O:=OW (vals:=vals) (fl:=fl) G.tokw Y (by omega) E G.num _ z.1.fit Z D
 have e1:eW (xs.take vals.length) vals=eW (xs.take j) vals:=by rw[E,I]
 have h1:=O.ty;rw[I] at h1;refine⟨⟨eM (xs.take j) its,⟨fr,z.1.fit⟩,O.wf,?_,by rw[<-e1];exact O.ev,CS _ _ _ E λi hi=>U.has i hi,?_⟩,by omega⟩
 ·rw[h1];intro e;rcases qp G.tokw Y _ z.1.fit Z with R|R
  ·exact D R
  exact D ((mC (.inr R)).1 e)
 rw[ou _ _ (by simp;omega),uQ _ _ (by simp;omega)];exact RL _
theorem tf.next (hL:iq L) (O:oQ L) (hF:gh fl) (h:tf xs L j vals) (hj:j<xs.length):
 tf xs L (j+1) (vals++[gR xs vals fl L ((xs.getD j dQ).top+1) (xs.getD j dQ).top]):=by
 obtain⟨its,fr,R,U,D,V,E,Y⟩:=h;rw[fK hj dQ] at D V E;obtain⟨Z,aa⟩:=kf hL D.1 D.2.1 V;have hg:nS xs its.length L fr ((xs.getD j dQ).top+1):=by rw[U];exact Z
 rw[dF] at E;by_cases I:(dr xs its L ((xs.getD j dQ).top+1) (xs.getD j dQ).top).toNat=0\/((xs.getD j dQ).name=[]/\(dr xs its L ((xs.getD j dQ).top+1) (xs.getD j dQ).top).toNat≠116)
 ·rw[RK I] at E;simp at E
 rw[RH I] at E;have G:dr xs its L ((xs.getD j dQ).top+1) (xs.getD j dQ).top≠0:=λe=>I (.inl (by rw[e];rfl))
 refine⟨its++[dr xs its L ((xs.getD j dQ).top+1) (xs.getD j dQ).top],(xs.getD j dQ).parts,R.snoc ?_,by simp[U],D.2.2,aa,E,?_⟩
 ·exact pQ R hF O.num _ D.1.fit hg G
 intro c z;simp only[SV,TQ] at z;rcases z with z|rfl
 ·exact Y c z
 rcases qp O.tokw Y _ D.1.fit hg with J|J
 ·exact absurd J G
 exact J
end Go.Proofs.YtfkdailfcmnjlaaGreatDoor
