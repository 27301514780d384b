/-
  A part.
-/
import Derived.Test.YtfkdailfcmnjlaaGreatDoorAll18
import Derived.Test.YtfkdailfcmnjlaaGreatDoorAll20
import Derived.Test.YtfkdailfcmnjlaaGreatDoorAll21
set_option linter.all false
set_option maxHeartbeats 40000000
set_option maxRecDepth 1000000
namespace Go.Proofs.YtfkdailfcmnjlaaGreatDoor
open Go Go.RowKit Tryz
variable {F ts i L r B g a n c ps}
theorem Ha (h:iF F ts i L=some r) (z:r.ok=true):r.it.name=[]\/ ∃t∈ts,r.it.name=t.text:=by
 have tail:∀j x,gj F ts j L x=some r->r.it.name=x.name:=by
  intro j x I;obtain⟨a,R,D⟩:=kG I;rcases D with⟨O,U,rfl⟩|⟨_,E,_⟩
  ·rfl
  rw[E] at z;simp at z
 unfold iF at h;split at h
 ·split at h
  ·rename_i G;split at h
   ·have J:=(qX λe=>by rw[e] at G;exact absurd G (by decide)).2
    exact .inr ⟨_,J,tail _ _ h⟩
   simp[dV] at h;subst h;simp at z
  simp[dV] at h;subst h;simp at z
 split at h
 ·split at h
  ·exact .inl (tail _ _ h)
  simp[dV] at h;subst h;simp at z
 simp[dV] at h;subst h;simp at z
theorem BG (g):∀i L xs R,(∀x∈xs,x.name=[]\/ ∃t∈ts,x.name=t.text)->dH F ts g i L xs=some R->R.ok=true-> ∀x∈R.xs,x.name=[]\/ ∃t∈ts,x.name=t.text:=by
 induction g with
 |zero=>intro i L xs R _ h;rw[dH] at h;simp at h
 |succ g ih=>
  intro i L xs R G h I;by_cases J:(cq ts i).k=101
  ·have:=nt h J;subst this;exact G
  rw[dH,Qj J] at h;cases E:iF F ts i L with
  |none=>rw[E] at h;simp at h
  |some r=>
   rw[E] at h;simp only at h;by_cases D:r.ok=true
   ·rw[Qo D] at h;refine ih r.i r.L (xs++[r.it]) R (λx z=>?_) h I
    rcases Rn.1 z with z|z
    ·exact G x z
    rw[R4] at z;subst z;exact Ha E D
   rw[Qj D] at h;simp at h;subst h;simp at I
structure uX (L) (xs:List dw):Prop where
 parts:kO L
 trees:fs L xs 0
 names:∀x∈xs,x.name.length<=1000
theorem pB (l:LB) (z:(cF l).1.1=0):uX (cF l).2.1 (cF l).2.2:=by
 unfold cF at*;by_cases V:1000<l.length
 ·rw[Qo V] at z;simp at z
 rw[Qj V] at z⊢;cases D:(kP (l.length+1) l 0).2 with
 |some p=>rw[D] at z;simp at z
 |none=>
  rw[D] at z;simp only[] at z⊢;have E:kP (l.length+1) l 0=((kP (l.length+1) l 0).1,none):=by rw[<-D]
  obtain⟨r1,r2,O,Z,r5⟩:=zn l (by omega) (l.length+1) 0 _ (QA _) (by omega) E
  obtain⟨J,aa⟩:=tI l (l.length+1) 0 _ (QA _) (by omega) E
  generalize (kP (l.length+1) l 0).1=ts at*;obtain⟨R,I⟩:=mK (Qn _) Z (ts.length+1) 0 [] [] (by omega)
  have e:oV ts=R:=by unfold oV;rw[I];rfl
  rw[e] at z⊢;have U:R.ok=true:=by
   cases G:R.ok with
   |true=>rfl
   |false=>unfold di at z;rw[Qo G] at z;simp at z
  obtain⟨k1,k2,k3⟩:=tJ J (by omega) I U
  obtain⟨_,Y,_,_⟩:=uo J.sorted _ 0 [] [] R rfl ⟨by simp,by simp,by simp⟩ (by simp) (by omega) I U
  have k5:=BG _ 0 [] [] R (by simp) I U
  refine⟨⟨k3,λk G=>(O _ (Y.2.2 k G)).1,λk G hn=>((O _ (Y.2.2 k G)).2 hn).2,k2.few⟩,k1,λx D=>?_⟩
  rcases k5 x D with h|⟨t,ht,h⟩
  ·rw[h];simp
  rw[h];exact(O t ht).1
theorem qi (ps:List ey) (k:Nat):(ps.map cL).getD k cz=cL (ps.getD k cO):=by
 rw[Qi,Qi,QN];cases ps[k]?<;>rfl
theorem D5 {cap} (hL : kO (ps.map cL)) (hn :∀ p ∈ ps, p.n = iC p.tok) (f : Nat) :∀ {lo k  w }, dN f (ps.map cL) lo k -> eR B g cap ps w ->
    Calls prog 35 #[.agg #[.slice a n c, Sq g ps.length cap], Iq k] w λe w' => e = .returned (S (gk f (ps.map cL) k)) /\ Bl w w' := by
  induction f with
  | zero => intro lo k w h; exact h.elim
  | succ f ih =>
    intro lo k w hT hP;have hlt := hT.lt;have hltp : k < ps.length := by simpa using hlt
    have hsub := fY _ hT.2.2;have hsh := hT.2.1;have hnum := hL.num k hlt;have hsho := hL.short k hlt;rw [qi] at hsub hsh hnum hsho;have hpm : ps.getD k cO ∈ ps := by rw [Qi, Ql hltp]; exact QD hltp
    have hnn := hn _ hpm;have hps : ps.length <= 5000 := by simpa using hL.few
    have hlen :∀ j ∈ (ps.getD k cO).subs, (gk f (ps.map cL) j).length <= 100000000 := λj hj => by
      obtain ⟨lo', h1, h2, h3⟩ := hsub j hj;have h6 := dN.plain_len hL.short h3;have : 1100 * (j + 1 - lo') <= 1100 * 5000 := RV _ (by omega)
      omega
    have h := A4 (a := a) (n := n) (c := c) (L := ps.map cL) f (λj => if j ∈ (ps.getD k cO).subs then gk f (ps.map cL) j else [])
      (λj => by split; exact hlen j (by assumption); simp) k w hP hltp hsho
      (by rcases hsh with ⟨_, h⟩ | ⟨_, h⟩ | ⟨_, h⟩ | ⟨_, _, _, h⟩
          · have : (ps.getD k cO).subs = [] := h
            rw [this]; simp
          all_goals (have : (ps.getD k cO).subs.length = _ := h; omega))
      (λj hj => by obtain ⟨lo', h1, h2, h3⟩ := hsub j hj; omega)
      (λhk => ⟨by rw [hnn]; unfold iC; rw [Qo hk], hnum hk⟩)
      (λj hj w1 h1 => by
        obtain ⟨lo', _, _, h3⟩ := hsub j hj;have := ih h3 h1;rw [Qo hj]; exact this)
    have em : (ps.getD k cO).subs.map (λj => if j ∈ (ps.getD k cO).subs then gk f (ps.map cL) j else []) = (ps.getD k cO).subs.map (gk f (ps.map cL)) :=
      QY λj hj => Qo hj
    rw [em] at h;rw [gk, qi];exact h
section
attribute [local go_sem ↓] Go.wp_at_zero Go.wp_at_succ
variable {base q z vals gi gf xs bv fl w w' e}
def gN (l:List Int):List Value:=l.map λv=>Value.int .i64 v
structure uq (B gi c g cap gf) (xs) (ps) (bv) (vals fl:List Int) (w):Prop where
 items:fV B (.slice (some ⟨gi,0,none⟩) xs.length c) xs w
 parts:eR B g cap ps w
 row:w.ownsRow B 2 1 bv vals.length (gN vals)
 len:vals.length<=xs.length
 fields:∀i,i<9->w.cell? ⟨gf,i,none⟩=some (Iq (fl.getD i 0))
theorem uq.below {B A c g cap z xs ps D vals fl w w'} (h:uq B A c g cap z xs ps D vals fl w) (q:Bl w w'):uq B A c g cap z xs ps D vals fl w':=
 ⟨h.items.below q,h.parts.below q,cD h.row q,h.len,λi E=>by rw[q.cell (Qk w _ (h.fields i E))];exact h.fields i E⟩
theorem NZ {w:World} (h:w.ownsRow base 2 1 (.slice q vals.length z) vals.length (gN vals)) (l:Nat) (A:l<vals.length):
 ∃g,q=some ⟨g,0,none⟩/\w.cell? ⟨g,l,none⟩=some (Iq (vals.getD l 0)):=by
 rcases h.2 with⟨_,G⟩|⟨g,cap,E,e,_⟩
 ·omega
 cases e;refine⟨g,rfl,?_⟩;have D:(⟨g,0,none⟩:Addr).add l=⟨g,l,none⟩:=by unfold Addr.add;split<;>simp_all
 rw[<-D];exact h.cells (g:=g) rfl l _ (by simp[gN,A])
theorem D6 {cap} (T)
 (k) (w:World) (h:uq B gi c g cap gf xs ps bv vals fl w) (hk:k<ps.length) (hT:∀j∈(ps.getD k cO).subs,dn (T j)) (ai:∀a,(ps.getD k cO).subs=[a]->T a=0\/T a=1) (aj:(ps.getD k cO).subs.length<=3) (ar:∀j∈(ps.getD k cO).subs,j<=5000)
 (au:(ps.getD k cO).tok.k=110->(ps.getD k cO).n=dW (ps.getD k cO).tok.text) (ak:(ps.getD k cO).tok.k=111->(ps.getD k cO).subs=[]->0<=cX xs (ps.getD k cO).tok.text vals.length)
 (ih:∀j∈(ps.getD k cO).subs,∀w1,uq B gi c g cap gf xs ps bv vals fl w1->Calls prog 42 #[.agg #[Sq gi xs.length c,Sq g ps.length cap],Iq j,bv,Sq gf 9 9] w1 λe w'=>e= .returned (Iq (T j))/\Bl w1 w'):
 Calls prog 42 #[.agg #[Sq gi xs.length c,Sq g ps.length cap],Iq k,bv,Sq gf 9 9] w λe w'=>e= .returned (Iq (vM (ps.getD k cO).tok.text (nH xs vals fl (ps.getD k cO).tok) ((ps.getD k cO).subs.map T)))/\Bl w w':=by
 obtain⟨k0,k1,k2,k3,k4⟩:=h.parts.cells k hk;have b1:0<=k:=by omega
 have b2:k<ps.length:=by omega
 have lg:=Qk w _ k0;simp only at lg;obtain⟨sa,av,aw⟩:=h.parts.sv hk;have aR:(Value.slice sa (ps.getD k cO).subs.length (ps.getD k cO).subs.length).oneCell'=true:=rfl;have IH:=Hi ih;have HN:=Hi au;have ad:=Hi ak;have af:=Hi ar;have ab:=Hi ai;have HT:=Hi hT;have HH:Hid (uq B gi c g cap gf xs ps bv vals fl w):=h;have aG:=h.len;obtain⟨va,vc,rfl⟩:∃a c,bv= .slice a vals.length c:=by
  rcases h.row.2 with⟨e,hn⟩|⟨gg,cc,aV,e,_⟩
  ·exact⟨none,0,by rw[hn];exact e⟩
  exact⟨_,_,e⟩
 clear ih au ar h ak ai hT;generalize ps.getD k cO=D at*;rw[av] at k3;have U:=Hi aw;clear aw av;generalize D.subs=sl at*;generalize hr:(vM D.tok.text (nH xs vals fl D.tok) (sl.map T))=r;have HR:=Hi hr;clear hr;match sl,aj with
 |[],_=>
  clear U IH af ab HT;have ax:Hid (r=nH xs vals fl D.tok):=by show _=_;rw[<-HR.out];rfl
  have aD:Hid (D.tok.k=111->0<=cX xs D.tok.text vals.length):=λh=>ad.out h rfl
  clear HR ad;simp only[Q7] at*;go_enter func42,ntmps42;go_wp2_with fail;go_name_world wr hw;have q:=PM.new hw;clear hw k0 k1 k2 k3 k4;obtain⟨-,-,-,x1,-,-⟩:=q.see;go_region_held3 (λw'=>w'.cell? ⟨w.heap.size+1,1,none⟩=some (S D.tok.text))
   (first|go_keep|exact(q.next am).see.2.2.2.1)
   (first
    |(go_at_call 88;refine(oa _).mono ?_;rintro e w1 ⟨x1,rfl,J,am,aH,aI⟩)
    |(go_at_call 87;refine(iL dC _ x1 _ (by decide) J).mono ?_;rintro e w1 ⟨rfl,rfl⟩))
  rename_i hHeld;have G:=q.next am;clear hHeld q am J aH aI;obtain⟨-,-,-,x1,-,-⟩:=G.see;go_wp2_with fail;go_region_held3 (λw'=>w'.cell? ⟨w.heap.size+1,1,none⟩=some (S D.tok.text))
   (first|go_keep|exact(G.next an).see.2.2.2.1)
   (first
    |(go_at_call 89;refine(mH _).mono ?_;rintro e w5 ⟨x5,rfl,ay,an,aJ,aK⟩)
    |(go_at_call 87;refine(iL dy _ x5 _ (by decide) ay).mono ?_;rintro e w5 ⟨rfl,rfl⟩))
  rename_i hHeld;have q:=G.next an;clear hHeld G an ay aJ aK x1;have Y:=q.bel;obtain⟨q0,q1,p0,p1,-,p4⟩:=q.see;have aS:=Y.size;have i1:=jx dy D.tok.text;have i2:=jx dC D.tok.text;have i3:=vy dC D.tok.text;have i4:=vy dy D.tok.text;have az:=(HH.out.below Y).fields;clear q;have ao:=ax.out;unfold nH at ao;generalize q:dx dy D.tok.text=m at*;generalize hF:dx dC D.tok.text=n at*;have V:=Hi ao;have aL:=Hi az;clear ao q hF az ax;by_cases O:D.tok.k=110
  ·have aE:((D.tok.k:Int)==110)=true:=by simp;omega
   have E:Hid (r=D.n):=by show _=_;rw[V.out,Qo O,HN.out O]
   clear V O;go_wp2_with fail;go_ret;exact⟨by rw[E.out];rfl,Y⟩
  have aE:((D.tok.k:Int)==110)=false:=by simp;omega
  by_cases Z:D.tok.k=111
  ·have aF:((D.tok.k:Int)==111)=true:=by simp;omega
   have aA:=aD.out Z;have E:Hid (r=vals.getD (cX xs D.tok.text vals.length).toNat 0):=by show _=_;rw[V.out,Qj O,Qo Z]
   have aM:=rF xs D.tok.text vals.length;have ae:=HH.out.below Y;have WL:=rO ae.items (some ⟨g,0,none⟩) ps.length cap D.tok.text vals.length aG;have aB:=Hi ae;clear V O Z ae;go_wp2_with fail;apply WL.mono;rintro e w6 ⟨rfl,ap⟩;clear WL;have ag:=aB.out.below ap;have aN:Below w.heap.size w w6:=Y.trans (ap.mono Y.size);obtain⟨gb,rfl,aC⟩:=NZ ag.row (cX xs D.tok.text vals.length).toNat (by omega)
   obtain⟨l,hl⟩:∃l:Nat,cX xs D.tok.text vals.length=l:=⟨_,(Sg aA).symm⟩;rw[hl] at aC E aA aM⊢;simp only[Rr] at aC E;generalize vals.getD l 0=vl at*;clear hl q0 q1 p0 p1 p4 ag ap aB;go_wp2_with fail;go_ret;exact⟨by rw[E.out];rfl,aN⟩
  have aF:(D.tok.k==111)=false:=by simp;omega
  by_cases hn:0<=n
  ·have E:Hid (r=fl.getD n.toNat 0):=by show _=_;rw[V.out,Qj O,Qj Z,Qo hn]
   obtain⟨l,rfl⟩:∃l:Nat,n=l:=⟨n.toNat,(Sg hn).symm⟩;have aO:l<9:=by have:(dC.length:Int)=9:=rfl;omega
   have aW:=aL.out l aO;simp only[Rr] at E;generalize fl.getD l 0=vl at*;clear V O Z;have c1:l<9:=by omega
   go_wp2_with fail;go_ret;exact⟨by rw[E.out];rfl,Y⟩
  by_cases hm:0<=m
  ·have E:Hid (r=m):=by show _=_;rw[V.out,Qj O,Qj Z,Qj hn,Qo hm]
   have aP:n<0:=by omega
   clear V O Z hn;go_wp2_with fail;go_ret;exact⟨by rw[E.out];rfl,Y⟩
  have aP:n<0:=by omega
  have aY:m<0:=by omega
  have E:Hid (r=cT (D.tok.text==mG)):=by show _=_;rw[V.out,Qj O,Qj Z,Qj hn,Qj hm]
  have WT:=λW=>sW (D.tok.text==[116,114,117,101]) W
  have e9:(D.tok.text==mG)=(D.tok.text==[116,114,117,101]):=rfl;rw[e9] at E;clear V O Z hn hm e9;generalize cT (D.tok.text==[116,114,117,101])=tr at*;go_wp2_with fail;apply(WT _).mono;rintro e w6 ⟨rfl,rfl⟩;clear WT;go_wp2_with fail;go_ret;exact⟨by rw[E.out];rfl,Y⟩
 |[y],_=>
  obtain⟨sb,rfl,I⟩:=U.out 0 (by simp)
  have aa:Hid (r=1 - T y):=HR.out.symm;have hy:=ab.out y rfl;have Wy:=IH.out y (by simp)
  simp only[Rp] at I;clear U HR IH af ab HN ad HT;simp only[QH,Q7,QO] at*;go_enter func42,ntmps42;go_wp2_with fail;go_name_world wr hw;have q:=PM.new hw;clear hw k0 k1 k2 k3 k4;obtain⟨p0,p1,x3,s0⟩:=q.sub I;have R:=Wy wr.drew (HH.out.below q.bel.drew);go_region_held3 (Nn w.heap.size gi xs.length c g ps.length cap (Sq sb 1 1) ⟨sb,0,none⟩ (Iq y)) (first|exact(q.next A).sub I|exact q.sub I) ((go_at_call 42;refine R.mono ?_;rintro e w1 ⟨rfl,A⟩))
  rename_i hHeld;have HB:=Hi (q.next A).bel;clear hHeld q p0 p1 x3 s0 R A;generalize T y=ty at*;have w3:IntKind.i64.wrap (1 - ty)=1 - ty:=wrap64 (by unfold dn;omega)
  clear hy;go_wp2_with fail;go_ret;exact⟨by rw[aa.out];rfl,HB.out⟩
 |[y,z],_=>
  obtain⟨sb,rfl,I⟩:=U.out 0 (by simp)
  obtain⟨_,⟨⟩,J⟩:=U.out 1 (by simp)
  have aa:Hid (r=od D.tok.text (T y) (T z)):=HR.out.symm;have hy:=HT.out y (by simp)
  have hz:=HT.out z (by simp)
  have Wy:=IH.out y (by simp)
  have Wz:=IH.out z (by simp)
  simp only[Rp,QI] at I J;clear U HR IH af ab HN ad HT;simp only[QH,Q7,QO,Nat.reduceAdd] at*;go_enter func42,ntmps42;go_wp2_with fail;go_name_world wr hw;have q:=PM.new hw;clear hw k0 k1 k2 k3 k4;obtain⟨p0,p1,x3,s0⟩:=q.sub I;have R:=Wy wr.drew (HH.out.below q.bel.drew);go_region_held3 (Nn w.heap.size gi xs.length c g ps.length cap (Sq sb 2 2) ⟨sb,0,none⟩ (Iq y)) (first|exact(q.next A).sub I|exact q.sub I) ((go_at_call 42;refine R.mono ?_;rintro e w1 ⟨rfl,A⟩))
  rename_i hHeld;have G:=q.next A;clear hHeld q p0 p1 x3 s0 R A;go_wp2_with fail;obtain⟨p0,p1,x3,s0⟩:=G.sub J;have R:=Wz w1.drew (HH.out.below G.bel.drew);go_region_held3 (Nn w.heap.size gi xs.length c g ps.length cap (Sq sb 2 2) ⟨sb,1,none⟩ (Iq z)) (first|exact(G.next A).sub J|exact G.sub J) ((go_at_call 42;refine R.mono ?_;rintro e w2 ⟨rfl,A⟩))
  rename_i hHeld;have q:=G.next A;obtain⟨-,-,-,x1,-⟩:=q.see;have HB:=Hi q.bel;have WT:=λW=>zp D.tok.text hy hz W
  clear hHeld q G p0 p1 x3 s0 R A hy hz;generalize T y=ty at*;generalize T z=tz at*;generalize od D.tok.text ty tz=tr at*;go_wp2_with fail;apply(WT _).mono;rintro e w3 ⟨rfl,rfl⟩;clear WT;go_wp2_with fail;go_ret;exact⟨by rw[aa.out];rfl,HB.out⟩
 |[y,z,u],_=>
  obtain⟨sb,rfl,I⟩:=U.out 0 (by simp)
  obtain⟨_,⟨⟩,J⟩:=U.out 1 (by simp)
  obtain⟨_,⟨⟩,ah⟩:=U.out 2 (by simp)
  have aa:Hid (r=if T y=1 then T z else T u):=HR.out.symm;have Wy:=IH.out y (by simp)
  have Wz:=IH.out z (by simp)
  have Wu:=IH.out u (by simp)
  simp only[Rp,QI] at I J ah;clear U HR IH af ab HN ad HT;simp only[QH,Q7,QO,Nat.reduceAdd] at*;go_enter func42,ntmps42;go_wp2_with fail;go_name_world wr hw;have q:=PM.new hw;clear hw k0 k1 k2 k3 k4;obtain⟨p0,p1,x3,s0⟩:=q.sub I;have R:=Wy wr.drew (HH.out.below q.bel.drew);go_region_held3 (Nn w.heap.size gi xs.length c g ps.length cap (Sq sb 3 3) ⟨sb,0,none⟩ (Iq y)) (first|exact(q.next A).sub I|exact q.sub I) ((go_at_call 42;refine R.mono ?_;rintro e w1 ⟨rfl,A⟩))
  rename_i hHeld;have G:=q.next A;clear hHeld q p0 p1 x3 s0 R A;by_cases ac:T y=1
  ·have aq:Hid (r=T z):=aa.out.trans (Qo ac);have aQ:(T y==1)=true:=by simpa using ac
   clear aa ac;generalize T y=ty at*;go_wp2_with fail;obtain⟨p0,p1,x3,s0⟩:=G.sub J;have R:=Wz w1.drew (HH.out.below G.bel.drew);go_region_held3 (Nn w.heap.size gi xs.length c g ps.length cap (Sq sb 3 3) ⟨sb,1,none⟩ (Iq z)) (first|exact(G.next A).sub J|exact G.sub J) ((go_at_call 42;refine R.mono ?_;rintro e w2 ⟨rfl,A⟩))
   rename_i hHeld;have HB:=Hi (G.next A).bel;clear hHeld G p0 p1 x3 s0 R A;go_wp2_with fail;go_ret;exact⟨by rw[aq.out];rfl,HB.out⟩
  have aq:Hid (r=T u):=aa.out.trans (Qj ac);have aQ:(T y==1)=false:=by simpa using ac
  clear aa ac;generalize T y=ty at*;go_wp2_with fail;obtain⟨p0,p1,x3,s0⟩:=G.sub ah;have R:=Wu w1.drew (HH.out.below G.bel.drew);go_region_held3 (Nn w.heap.size gi xs.length c g ps.length cap (Sq sb 3 3) ⟨sb,2,none⟩ (Iq u)) (first|exact(G.next A).sub ah|exact G.sub ah) ((go_at_call 42;refine R.mono ?_;rintro e w2 ⟨rfl,A⟩))
  rename_i hHeld;have HB:=Hi (G.next A).bel;clear hHeld G p0 p1 x3 s0 R A;go_wp2_with fail;go_ret;exact⟨by rw[aq.out];rfl,HB.out⟩
 |_::_::_::_::_,aj=>simp at aj
def mZ (l:List UInt8):List UInt8:=if(cF l).1.1=0 then ky (cF l).2.1 (cF l).2.2 else[]
def Pg (B:Nat) (r:List UInt8) (z pv:Value) (w:World):Prop:=
 (∃a c J O R,z= .slice a 0 c/\pv= .slice J O R/\r=[])\/
 ∃U c g cap ps xs,z= .slice (some ⟨U,0,none⟩) xs.length c/\pv= .slice (some ⟨g,0,none⟩) ps.length cap/\fV B z xs w/\eR B g cap ps w/\(∀p∈ps,p.n=iC p.tok)/\uX (ps.map cL) xs/\r=ky (ps.map cL) xs
theorem N2 (l:LB) (h:lN (cF l).1.1 (cF l).1.2 (cF l).2.1 (cF l).2.2 w e w'):
 Bl w w'/\ ∃G pv,e= .returned (.tuple #[.agg #[G,pv],Iq (cF l).1.1,Iq (cF l).1.2])/\Pg w.heap.size (mZ l) G pv w':=by
 obtain⟨hb,G,pv,rfl,⟨a,b,c,rfl⟩,⟨Y,Z,c',rfl⟩,h1,h2⟩:=h;refine⟨hb,_,_,rfl,?_⟩;by_cases z:(cF l).1.1=0
 ·have I:=pB l z;have ht:mZ l=ky (cF l).2.1 (cF l).2.2:=by unfold mZ;rw[Qo z]
  obtain⟨J,ps,A,O,R,U,aa⟩:=h2 z;rw[ht];generalize (cF l).2.2=xs at*;rw[<-aa] at I⊢;cases q:xs with
  |nil=>
   subst q;refine .inl ⟨a,c,Y,Z,c',?_,rfl,rfl⟩;rcases J.form with⟨e,_⟩|⟨gi,c1,e⟩
   ·simp only[QK] at e;rw[e.2.1]
   simp only[QK] at e;rw[e.2.1];rfl
  |cons x r=>
   refine .inr ?_;rw[<-q];have ab:xs.length≠0:=by rw[q];simp
   have E:=I.trees;rw[q] at E;have V:=E.1.fit.lt;rcases J.form with⟨_,e⟩|⟨gi,c1,e⟩
   ·exact absurd e ab
   rcases A.2 with⟨_,D⟩|⟨g,cap,ac,D,_⟩
   ·rw[Ro] at V;omega
   exact⟨gi,c1,g,cap,ps,xs,e,D,J,⟨D▸A,O,R⟩,U,I,rfl⟩
 obtain⟨e1,D⟩:=h1 z;refine .inl ⟨none,0,Y,Z,c',e1,rfl,?_⟩;unfold mZ;rw[Qj z]
theorem Kz:∀{fr},fs L xs fr-> ∀j (q:j<xs.length),∃z,iR L z xs[j].top:=by
 induction xs with
 |nil=>intro fr _ j q;simp at q
 |cons x r ih=>
  intro fr h j q;cases j with
  |zero=>exact⟨fr,h.1⟩
  |succ j=>exact ih h.2.2 j (by simpa using q)
abbrev OM (x:dw):Obj:= .cells #[S x.name,.bool x.allow,.int .i64 x.top,.int .i64 x.pl,.int .i64 x.named,.int .i64 x.parts] 95
theorem Hb (l:LB) (w:World) (Z:l.length<=maxLen):Calls prog 15 #[S l] w λe w'=>e= .returned (.tuple #[S (mZ l),Iq (cF l).1.1,Iq (cF l).1.2])/\Bl w w':=by
 have ae:=(vA l w Z).mono λe w' h=>N2 l h
 clear Z;generalize (cF l).1.1=n at*;generalize (cF l).1.2=k at*;generalize mZ l=r at*;go_enter func15,ntmps15;go_wp2_with fail;apply ae.mono;rintro e G ⟨A,iv,pv,rfl,hA⟩;clear ae;rcases hA with⟨a,c,a',b',c',rfl,rfl,hr⟩|⟨D,c,g,cap,ps,xs,rfl,rfl,hI,hP,aa,hk,hr⟩
 ·have HR:Hid _:=hr;have HB:=Hi (A.alloc A.size (.cells #[.slice a 0 c,.slice a' b' c'] 90));clear hr A;go_wp2;go_loop [8,9] (λt i=>t=S []/\i= Iq 0) (λ_ _=>0)
  case atStart=>exact⟨rfl,rfl⟩
  case round=>
   obtain⟨rfl,rfl⟩:=hrel;go_wp2;refine Qs (v:= .tuple #[S [],Iq n,Iq k]) (by simp[results,results15,go_sem]) rfl ?_
   exact⟨by rw[HR.out],HB.out⟩
 have HR:Hid _:=hr;have E:=A.alloc A.size (.cells #[Sq D xs.length c,Sq g ps.length cap] 90);have q:(G.alloc (.cells #[Sq D xs.length c,Sq g ps.length cap] 90)).heap[G.heap.size]?=some (.cells #[Sq D xs.length c,Sq g ps.length cap] 90 (0,0)):=Qp G _;have hf:=hI.few;have aB:=hP.few;have af:=hI.below ((Qq _ _).alloc (Qn _) (.cells #[Sq D xs.length c,Sq g ps.length cap] 90));have ag:=hP.below ((Qq _ _).alloc (Qn _) (.cells #[Sq D xs.length c,Sq g ps.length cap] 90));have H0:=Hi (And.intro E (And.intro q (And.intro af ag)));have an:=Hi aa;have HK:=Hi hk;clear hr A hI hP aa hk E q af ag;go_wp2;generalize G.alloc (.cells #[Sq D xs.length c,Sq g ps.length cap] 90)=wz at*;go_loopw [8,9] (λtv jv wr=> ∃j t,j<=xs.length/\jv= Iq j/\tv=S t/\t.length<=6000000*j/\Hid (t=ky (ps.map cL) (xs.take j))/\Bl w wr/\wr.heap[G.heap.size]?=some (.cells #[Sq D xs.length c,Sq g ps.length cap] 90 (0,0))/\Hid (fV w.heap.size (Sq D xs.length c) xs wr)/\Hid (eR w.heap.size g cap ps wr)) (λ_ jv _=>xs.length - (intOf jv).toNat)
 case atStart=>exact⟨0,[],QA _,rfl,rfl,by simp,rfl,H0.out.1,H0.out.2.1,H0.out.2.2.1,H0.out.2.2.2⟩
 case round=>
  obtain⟨j,t,hj,rfl,rfl,ao,HT,R,q,HI,HP⟩:=hrel;have q0:=Qm wr G.heap.size 0 _ _ _ q;have q1:=Qm wr G.heap.size 1 _ _ _ q;have ap:=be q;simp only[Qx,Qy,Qv] at q0 q1;by_cases J:j<xs.length
  ·obtain⟨c0,c1,c2,c3,c4,c5⟩:=HI.out.cells j J;have Z:=QD J;have ah:=Hi (wJ (L:=ps.map cL) J);have ai:xs.getD j dr=xs[j]:=by rw[Qi,Ql J];rfl
   rw[ai] at ah;have aC:=HK.out.names _ Z;obtain⟨lo,aj⟩:=Kz HK.out.trees j J;have U:=aj.fit;have ak:=dN.plain_len HK.out.parts.short U;have aq:=U.lt;rw[Ro] at aq;have aA:(gk (xs[j].top+1) (ps.map cL) xs[j].top).length<=5500000:=QV ak (QV (RV _ (show xs[j].top+1 - lo<=5000 by omega)) (by decide))
   have b1:0<=j:=by omega
   have b2:j<xs.length:=by omega
   have lg:=Qk wr _ c0;simp only at lg;have E:Bl wr (wr.alloc (OM xs[j])):=(Qq _ _).alloc (Qn _) _;have ab:Hid (Bl w (wr.alloc (OM xs[j]))):=R.trans (E.mono R.size);have ac:Hid ((wr.alloc (OM xs[j])).heap[G.heap.size]?=some (.cells #[Sq D xs.length c,Sq g ps.length cap] 90 (0,0))):=by show _=_;rw[Qu _ _ _ ap];exact q
   have am:=Hi (HI.out.below E);have ad:=Hi (HP.out.below E);have ar:Hid ((wr.alloc (OM xs[j])).heap[wr.heap.size]?=some (OM xs[j])):=Qp wr _;have W1:=λW (h:eR w.heap.size g cap ps W)=>D5 (a:=some ⟨D,0,none⟩) (n:=xs.length) (c:=c) HK.out.parts an.out (xs[j].top+1) (w:=W) U h
   have au:Hid (AI (ps.map cL) xs[j]=lZ xs[j]++gk (xs[j].top+1) (ps.map cL) xs[j].top++[59,10]):=rfl;have V:Hid (lZ xs[j]=if xs[j].name=[] then(if xs[j].allow then pP else sQ) else nw++xs[j].name++xB):=rfl;clear Z HI HP ak aj U q E ai;unfold OM at*;generalize AI (ps.map cL) xs[j]=il at*;generalize lZ xs[j]=Y at*;generalize gk (xs[j].top+1) (ps.map cL) xs[j].top=pl at*;generalize xs[j]=x at*;obtain⟨nm,al,tp,xp,xn,xq⟩:=x;simp only[] at*;by_cases z:nm=[];have e1:(nm==[])=true:=by simpa using z
   cases al;have I:Hid (Y=sQ):=by show _=_;rw[V.out,Qo z];rfl
   rotate_left;have I:Hid (Y=pP):=by show _=_;rw[V.out,Qo z];rfl
   rotate_left;have e1:(nm==[])=false:=by simpa using z
   have I:Hid (Y=nw++nm++xB):=by show _=_;rw[V.out,Qj z]
   all_goals
    clear z V;go_wp2_with fail;apply(W1 _ ad.out).mono;rintro e w2 ⟨rfl,O⟩;clear W1 c0 c1 c2 c3 c4 c5 q0 q1;have av:=ab.out.trans (O.mono ab.out.size);have aw:=(O.block _ (be ac.out)).trans ac.out;have ax:=Hi (am.out.below O);have ay:=Hi (ad.out.below O);clear O am ad ab ac ar;go_wp2;go_roundw
    case rel=>
     refine⟨j+1,t++Y++pl++[59,10],by omega,by simp,?_,by rw[I.out];simp[nw,xB,pP,sQ];omega,?_,av,aw,ax.out,ay.out⟩
     ·exact RK Value.string (by
       rw[<-fw (t++Y++pl) [59,10],<-fw (t++Y) pl,I.out]
       first
        |(rw[<-fw t pP];rfl)
        |(rw[<-fw t sQ];rfl)
        |(rw[show t++(nw++nm++xB)=t++nw++nm++xB by simp,<-fw (t++nw++nm) xB,<-fw (t++nw) nm,<-fw t nw];rfl))
     show _=_;rw[ah.out,au.out,HT.out];simp
    case measure=>simp[intOf];omega
  have az:j=xs.length:=by omega
  subst az;have HE:Hid (t=r):=by
   have:=HT.out;rw[RP] at this;show _=_;rw[this,HR.out]
  have HB:=Hi R;clear R q ao HI HP;go_wp2;refine Qs (v:= .tuple #[S t,Iq n,Iq k]) (by simp[results,results15,go_sem]) rfl ?_
  exact⟨by rw[HE.out],HB.out⟩
theorem zR (ts) (R:nY) (h:(di ts R).1=0):(di ts R).2=0:=by
 unfold di at*
 repeat' split at h
 all_goals simp_all
theorem yJ (l:List UInt8) (h:(cF l).1.1=0):(cF l).1.2=0:=by
 unfold cF at*
 by_cases z:1000<l.length
 ·rw[Qo z] at h;simp at h
 ·rw[Qj z] at h⊢
  cases D:(kP (l.length+1) l 0).2 with
  |some p=>rw[D] at h;simp at h
  |none=>
   rw[D] at h;exact zR _ _ h
theorem D7 (l) (w) (hW:Wd w) (Y:Tb w) (hm:l.length<=maxLen):Calls prog 14 #[S l] w λe w'=>e= .returned (.tuple #[S (mZ l),Iq (cF l).1.1,Iq (cF l).1.2])/\Below w.heap.size w w':=by
 have Z:=qh l w hW hm;have O:Hid ((cF l).1.1=0->uX (cF l).2.1 (cF l).2.2):=pB l;have I:Hid (mZ l=if(cF l).1.1=0 then ky (cF l).2.1 (cF l).2.2 else[]):=rfl
 have R:Hid ((cF l).1.1=0->(cF l).1.2=0):=yJ l;have HW:Hid (Wd w):=hW;have HT:Hid (Tb w):=Y;have hb:=jf l;generalize mZ l=r at*;generalize (cF l).1.1=n at*;generalize (cF l).1.2=k at*;generalize (cF l).2.1=L at*;generalize (cF l).2.2=xs at*;go_enter func14,ntmps14;go_wp2_with fail;apply Z.mono;rintro e w1 ⟨D,v,rfl,U⟩
 by_cases z:n=0
 ·obtain⟨bs,ys,ac,E⟩:=U z
  have V:=O.out z;have W1:=G9 V.parts E.row E.few E.items E.trees V.names (Sp.below HW.out.1 (Sp.pos HW.out.1) D) (Tb.below HT.out D);have G:Hid (r=ky L xs):=by show _=_;rw[I.out,Qo z]
  have aa:=Hi (R.out z);have J:=Hi D;subst z;generalize ky L xs=pr at*;go_wp2_with fail;apply W1.mono;rintro e w2 ⟨rfl,ab⟩;go_wp2;refine Qs (v:= .tuple #[S pr,Iq 0,Iq 0]) (by simp[results,results14,go_sem]) rfl ?_
  exact⟨by rw[G.out,aa.out];rfl,J.out.trans (ab.mono J.out.size)⟩
 ·have e1:((n:Int)==0)=false:=by
   have: ¬(n:Int)=0:=by omega
   simpa using this
  have e2:((n:Int) !=0)=true:=by
   have: ¬(n:Int)=0:=by omega
   simpa using this
  have G:Hid (r=[]):=by show _=_;rw[I.out,Qj z]
  have J:=Hi D;go_wp2;refine Qs (v:= .tuple #[S [],Iq n,Iq k]) (by simp[results,results14,go_sem]) rfl ?_
  exact⟨by rw[G.out],J.out⟩
theorem D8 (l) (w) (hW:Wd w) (O:Tb w) (z:l.length<=maxLen):Calls prog 4 #[S l] w λe w'=>e= .returned (.bool true)/\Below w.heap.size w w':=by
 have D:=D7 l w hW O z;have E:=λw=>Hb l w z
 have R:=jf l;have G:=λw=>uW (cF l).1.1 R w
 generalize mZ l=r at*;generalize (cF l).1.1=n at*;generalize (cF l).1.2=k at*;go_enter func4,ntmps4;go_wp2_with fail;apply D.mono;rintro e U ⟨rfl,I⟩;go_wp2_with fail;apply(E U).mono;rintro e V ⟨rfl,J⟩;go_wp2_with fail;apply(G V).mono;rintro e Y ⟨rfl,rfl⟩;go_wp2;go_ret;exact⟨rfl,I.trans (J.mono I.size)⟩
end
variable {gi gf xs bv its vals fl j}
theorem Hc {cap} (hV:mq its vals) (hF:fy fl) (hL:kO (ps.map cL)) (hn:∀p∈ps,p.n=iC p.tok) (f):∀{R k w},dN f (ps.map cL) R k->nF xs its.length (ps.map cL) R (k+1)->dk xs its (ps.map cL) f k≠0->uq B gi c g cap gf xs ps bv vals fl w->
 Calls prog 42 #[.agg #[Sq gi xs.length c,Sq g ps.length cap],Iq k,bv,Sq gf 9 9] w λe w'=>e= .returned (Iq (fP xs vals fl (ps.map cL) f k))/\Below w.heap.size w w':=by
 induction f with
 |zero=>intro R k w h;exact h.elim
 |succ f ih=>
  intro R k w I U J hP;have aa:=I.lt;have E:k<ps.length:=by simpa using aa
  have z:=fY _ I.2.2;have V:=I.2.1;have O:=λa ea=>GD (a:=a) hV hF hL.num I U J ea
  have ab:ps.getD k cO∈ps:=by rw[Qi,Ql E];exact QD E
  have ac:=hn _ ab;have ad:ps.length<=5000:=by simpa using hL.few
  have Y:=U k I.le (by omega)
  have G:∀j∈((ps.map cL).getD k cz).subs,dk xs its (ps.map cL) f j≠0:=λj D e=>by
   rw[dk,Qo] at J
   ·exact absurd rfl J
   ·rw[QJ,<-e];exact RB D
  rw[qi] at z V O Y G;rw[fP,qi];refine D6 (λj=>fP xs vals fl (ps.map cL) f j) k w hP E (λj D=>?_) (λa ea=>O a ea) ?_ (λj D=>by obtain⟨Z,h1,h2,h3⟩:=z j D;omega) (λhk=>by rw[ac];unfold iC;rw[Qo hk]) (λhk _=>by rw[hV.len];exact(Y hk).2) (λj D w1 h1=>?_)
  ·obtain⟨Z,h1,h2,h3⟩:=z j D
   exact(pd hV hF hL.num f h3 (λq a b=>U q (by omega) (by omega)) (G j D)).1
  ·rcases V with⟨_,h⟩|⟨_,h⟩|⟨_,h⟩|⟨_,_,_,h⟩
   ·have:(ps.getD k cO).subs=[]:=h
    rw[this];simp
   all_goals (have:(ps.getD k cO).subs.length=_:=h;omega)
  ·obtain⟨Z,ae,h2,h3⟩:=z j D
   exact ih h3 (λq a b=>U q (by omega) (by omega)) (G j D) h1
def fR (xs:List dw) (fl:List Int) (L:List Pt):List dw->List Int->Nat->Option (Bool×Nat)
 |[],_,_=>none
 |x::r,vals,n=>
  if x.name=[] then(if fP xs vals fl L (x.top+1) x.top=1 then some (x.allow,n+1) else fR xs fl L r (vals++[fP xs vals fl L (x.top+1) x.top]) (n+1))
  else fR xs fl L r (vals++[fP xs vals fl L (x.top+1) x.top]) n
def ng (l:List UInt8) (fl:List Int):Bool×Nat:=if(cF l).1.1=0 then(fR (cF l).2.2 fl (cF l).2.1 (cF l).2.2 [] 0).getD (false,0) else(false,0)
structure lr (L) (xs:List dw):Prop where
 print:uX L xs
 parts:iu L
 names:dt xs L xs 0 0=none
 types:dP xs L xs []=none
theorem BH (l:LB) (z:(cF l).1.1=0):iu (cF l).2.1/\dt (cF l).2.2 (cF l).2.1 (cF l).2.2 0 0=none/\dP (cF l).2.2 (cF l).2.1 (cF l).2.2 []=none:=by
 unfold cF at*;by_cases G:1000<l.length
 ·rw[Qo G] at z;simp at z
 rw[Qj G] at z⊢;cases E:(kP (l.length+1) l 0).2 with
 |some p=>rw[E] at z;simp at z
 |none=>
  rw[E] at z;simp only[] at z⊢;have D:kP (l.length+1) l 0=((kP (l.length+1) l 0).1,none):=by rw[<-E]
  obtain⟨r1,r2,r3,Y,r5⟩:=zn l (by omega) (l.length+1) 0 _ (QA _) (by omega) D
  obtain⟨I,aa⟩:=tI l (l.length+1) 0 _ (QA _) (by omega) D
  generalize (kP (l.length+1) l 0).1=ts at*;obtain⟨R,J⟩:=mK (Qn _) Y (ts.length+1) 0 [] [] (by omega)
  have e:oV ts=R:=by unfold oV;rw[J];rfl
  rw[e] at z⊢;have O:R.ok=true:=by
   cases Z:R.ok with
   |true=>rfl
   |false=>unfold di at z;rw[Qo Z] at z;simp at z
  refine⟨(tJ I (by omega) J O).2.1,?_⟩
  unfold di at z;rw[Qj (by rw[O];simp)] at z
  cases U:fz R.L R.xs 0 0 with
  |some p=>rw[U] at z;simp at z
  |none=>
   rw[U] at z;simp only[] at z;cases V:dt R.xs R.L R.xs 0 0 with
   |some p=>rw[V] at z;simp at z
   |none=>
    rw[V] at z;simp only[] at z;cases ht:dP R.xs R.L R.xs [] with
    |some p=>rw[ht] at z;simp at z
    |none=>exact⟨rfl,rfl⟩
theorem rm (l:LB) (z:(cF l).1.1=0):lr (cF l).2.1 (cF l).2.2:=by
 obtain⟨a,b,c⟩:=BH l z;exact⟨pB l z,a,b,c⟩
def rq (xs:List dw) (L:List Pt) (j:Nat) (vals:List Int):Prop:=
 ∃its fr,mq its vals/\its.length=j/\fs L (xs.drop j) fr/\dt xs L (xs.drop j) fr j=none/\dP xs L (xs.drop j) its=none
theorem lr.start (h:lr L xs):rq xs L 0 []:=
 ⟨[],0,⟨rfl,λi z=>by simp at z⟩,rfl,h.print.trees,h.names,h.types⟩
theorem rq.item (J:iu L) (h:rq xs L j vals) (O:j<xs.length):
 ∃its E,mq its vals/\its.length=j/\dN (xs[j].top+1) L E xs[j].top/\nF xs its.length L E (xs[j].top+1)/\dk xs its L (xs[j].top+1) xs[j].top≠0:=by
 obtain⟨its,fr,R,G,z,I,D⟩:=h;rw[QF O] at z I D;refine⟨its,fr,R,G,z.1.fit,?_,λe=>?_⟩
 ·rw[G];exact(jS J z.1 z.2.1 I).1
 rw[dP,Qo (.inl (by rw[e];rfl))] at D;simp at D
theorem rq.next (R:iu L) (U:kO L) (V:fy fl) (h:rq xs L j vals) (Y:j<xs.length):
 rq xs L (j+1) (vals++[fP xs vals fl L (xs[j].top+1) xs[j].top]):=by
 obtain⟨its,fr,G,I,D,J,z⟩:=h;rw[QF Y] at D J z;obtain⟨Z,O⟩:=jS R D.1 D.2.1 J;rw[dP] at z;by_cases E:(dk xs its L (xs[j].top+1) xs[j].top).toNat=0\/(xs[j].name=[]/\(dk xs its L (xs[j].top+1) xs[j].top).toNat≠116)
 ·rw[Qo E] at z;simp at z
 rw[Qj E] at z;refine⟨its++[dk xs its L (xs[j].top+1) xs[j].top],xs[j].parts,G.snoc ?_,by simp[I],D.2.2,O,z⟩
 refine pd G V U.num _ D.1.fit (by rw[I];exact Z) λe=>E (.inl (by rw[e];rfl))
theorem He (e) (s) (J:dn e.need) (O:dn e.when_) (h3:dn s.dflt) (I:∀x∈s.levels,dn x.2):fy (dz e s):=by
 have D:∀z u,(∀x∈z,dn x.2)->dn (dQ s.dflt z u):=λz u=>by
  induction z with
  |nil=>intro _;exact h3
  |cons x r ih=>
   intro h;rw[dQ];split
   ·exact h x (by simp)
   exact ih λy R=>h y (by simp[R])
 have E:∀n,dn (eZ n):=λn=>by unfold eZ dn;split<;>omega
 have G:∀z u,dn (dM z u):=λz u=>by
  induction z with
  |nil=>unfold dM dn;omega
  |cons x r ih=>rw[dM];split;exact E _;exact ih
 refine⟨rfl,λi V=>?_⟩
 have U:i=0\/i=1\/i=2\/i=3\/i=4\/i=5\/i=6\/i=7\/i=8:=by omega
 rcases U with rfl|rfl|rfl|rfl|rfl|rfl|rfl|rfl|rfl
 ·exact⟨D _ _ I,λe=>absurd e (by decide)⟩
 ·exact⟨D _ _ I,λe=>absurd e (by decide)⟩
 ·exact⟨J,λe=>absurd e (by decide)⟩
 ·exact⟨O,λe=>absurd e (by decide)⟩
 ·exact⟨G _ _,λe=>absurd e (by decide)⟩
 ·exact⟨G _ _,λe=>absurd e (by decide)⟩
 ·exact⟨E _,λe=>absurd e (by decide)⟩
 ·exact jr _ _
 exact jr _ _
section
attribute [local go_sem ↓] Go.wp_at_zero Go.wp_at_succ
variable {w w' e b x0 x1 x2 lv}
theorem KC:(prog.info? 2).map (λi=>(i.zero,i.size,i.bytes))=some (some (Iq 0),1,8):=by kernel_rfl
def Fp (B:Nat) (n:Nat) (fl:List Int) (r:Bool×Nat) (D pv:Value) (w:World):Prop:=
 (∃a c R U V,D= .slice a 0 c/\pv= .slice R U V/\r=(false,0))\/
 n=0/\ ∃Y c g cap ps xs,D= .slice (some ⟨Y,0,none⟩) xs.length c/\pv= .slice (some ⟨g,0,none⟩) ps.length cap/\fV B D xs w/\eR B g cap ps w/\(∀p∈ps,p.n=iC p.tok)/\lr (ps.map cL) xs/\r=(fR xs fl (ps.map cL) xs [] 0).getD (false,0)
theorem KH (l:LB) (fl) (h:lN (cF l).1.1 (cF l).1.2 (cF l).2.1 (cF l).2.2 w e w'):
 Bl w w'/\ ∃J pv,e= .returned (.tuple #[.agg #[J,pv],Iq (cF l).1.1,Iq (cF l).1.2])/\Fp w.heap.size (cF l).1.1 fl (ng l fl) J pv w':=by
 obtain⟨hb,J,pv,rfl,⟨a,b,c,rfl⟩,⟨a',b',c',rfl⟩,h1,h2⟩:=h;refine⟨hb,_,_,rfl,?_⟩;by_cases D:(cF l).1.1=0
 ·have O:=rm l D;have ht:ng l fl=(fR (cF l).2.2 fl (cF l).2.1 (cF l).2.2 [] 0).getD (false,0):=by unfold ng;rw[Qo D]
  obtain⟨R,ps,E,U,V,Y,aa⟩:=h2 D;rw[ht];generalize (cF l).2.2=xs at*;rw[<-aa] at O⊢;cases z:xs with
  |nil=>
   subst z;refine .inl ⟨a,c,a',b',c',?_,rfl,rfl⟩;rcases R.form with⟨e,_⟩|⟨gi,c1,e⟩
   ·simp only[QK] at e;rw[e.2.1]
   simp only[QK] at e;rw[e.2.1];rfl
  |cons x r=>
   refine .inr ⟨D,?_⟩;rw[<-z];have ab:xs.length≠0:=by rw[z];simp
   have I:=O.print.trees;rw[z] at I;have Z:=I.1.fit.lt;rcases R.form with⟨_,e⟩|⟨gi,c1,e⟩
   ·exact absurd e ab
   rcases E.2 with⟨_,G⟩|⟨g,cap,ac,G,_⟩
   ·rw[Ro] at Z;omega
   exact⟨gi,c1,g,cap,ps,xs,e,G,R,⟨G▸E,U,V⟩,Y,O,rfl⟩
 obtain⟨e1,G⟩:=h1 D;refine .inl ⟨none,0,a',b',c',e1,rfl,?_⟩;unfold ng;rw[Qj D]
def Hf (r:Bool×Nat):Value:= .agg #[.bool r.1,Iq r.2,Iq 0]
theorem gZ (h:w.heap[b]?=some (.cells #[x0,x1,x2] 40 (0,0))):(Cq w b 0 x0/\Cq w b 1 x1/\Cq w b 2 x2)/\ ∀j,w.frozen? ⟨b,j,none⟩=false:=by
 have z:=λj=>Qm w b j _ _ _ h
 exact⟨⟨z 0,z 1,z 2⟩,λj=>by simp[World.frozen?,h]⟩
theorem KI {mv} (l:LB) (e) (s) (w) (hm:l.length<=maxLen) (h1:dc lv s.levels w) (h2:dc mv s.members w) (hw:dn e.wants) (hF:fy (dz e s)):
 Calls prog 19 #[S l,xN e,lh lv mv s] w λen w'=>en= .returned (.tuple #[Hf (ng l (dz e s)),Iq (cF l).1.1])/\Bl w w':=by
 have aU:=λW=>(vA l W hm).mono λe' w' h=>KH l (dz e s) h
 have aV:=λW (hb:Bl w W)=>vO e s W (h1.below hb) (h2.below hb) hw
 generalize dz e s=fl at*;generalize (cF l).1.1=n at*;generalize (cF l).1.2=k at*;generalize ng l fl=r at*;unfold xN lh at*;obtain⟨sn,tg,wa,nd,wh⟩:=e;obtain⟨ls,df,ms,op⟩:=s;simp only[] at*;have ai:Bl w (((w.alloc (.cells #[S sn,S tg,Iq wa,Iq nd,Iq wh] 46)).alloc (.cells #[lv,Iq df,mv,.bool op] 50)).alloc (.cells #[.bool false,Iq 0,Iq 0] 40)):=(((Qq _ _).alloc (Qn _) _).alloc (by simp) _).alloc (by simp;omega) _
 have aj:(((w.alloc (.cells #[S sn,S tg,Iq wa,Iq nd,Iq wh] 46)).alloc (.cells #[lv,Iq df,mv,.bool op] 50)).alloc (.cells #[.bool false,Iq 0,Iq 0] 40)).heap[w.heap.size]?=some (.cells #[S sn,S tg,Iq wa,Iq nd,Iq wh] 46 (0,0)):=by rw[Qu _ _ _ (by simp;omega),Qu _ _ _ (by simp)];exact Qp w _
 have ak:(((w.alloc (.cells #[S sn,S tg,Iq wa,Iq nd,Iq wh] 46)).alloc (.cells #[lv,Iq df,mv,.bool op] 50)).alloc (.cells #[.bool false,Iq 0,Iq 0] 40)).heap[w.heap.size+1]?=some (.cells #[lv,Iq df,mv,.bool op] 50 (0,0)):=by
  rw[Qu _ _ _ (by simp)]
  have e:=Qp (w.alloc (.cells #[S sn,S tg,Iq wa,Iq nd,Iq wh] 46)) (.cells #[lv,Iq df,mv,.bool op] 50);rw[Qw] at e;exact e
 have am:(((w.alloc (.cells #[S sn,S tg,Iq wa,Iq nd,Iq wh] 46)).alloc (.cells #[lv,Iq df,mv,.bool op] 50)).alloc (.cells #[.bool false,Iq 0,Iq 0] 40)).heap[w.heap.size+1+1]?=some (.cells #[.bool false,Iq 0,Iq 0] 40 (0,0)):=by
  have e:=Qp ((w.alloc (.cells #[S sn,S tg,Iq wa,Iq nd,Iq wh] 46)).alloc (.cells #[lv,Iq df,mv,.bool op] 50)) (.cells #[.bool false,Iq 0,Iq 0] 40);rw[Qw,Qw] at e;exact e
 have H0:=Hi (And.intro ai (And.intro aj (And.intro ak am)));go_enter func19,ntmps19;go_wp2_with fail;obtain⟨ai,aj,ak,am⟩:=H0.out;generalize (((w.alloc (.cells #[S sn,S tg,Iq wa,Iq nd,Iq wh] 46)).alloc (.cells #[lv,Iq df,mv,.bool op] 50)).alloc (.cells #[.bool false,Iq 0,Iq 0] 40))=wz at*;apply(aU _).mono;rintro e' z ⟨an,iv,pv,rfl,hA⟩;have aE:=ai.trans (an.mono ai.size);have bh:Hid (wz.heap.size<=z.heap.size):=an.size;have ad:=(an.block _ (be aj)).trans aj;have ae:=(an.block _ (be ak)).trans ak;have aF:=(an.block _ (be am)).trans am;obtain⟨ia,ib,ic,bi⟩:∃a b c,iv= .slice a b c:=by
  rcases hA with⟨a,c,a',b',c',h,_⟩|⟨_,Z,c,g,cap,ps,xs,h,_⟩<;>exact⟨_,_,_,h⟩
 obtain⟨pa,pb,pc,bj⟩:∃a b c,pv= .slice a b c:=by
  rcases hA with⟨a,c,a',b',c',_,h,_⟩|⟨_,Z,c,g,cap,ps,xs,_,h,_⟩<;>exact⟨_,_,_,h⟩
 subst bi bj;have aa:Bl z (z.alloc (.cells #[.slice ia ib ic,.slice pa pb pc] 90)):=(Qq _ _).alloc (Qn _) _;have ah:=aE.trans (aa.mono aE.size);have bk:=(aa.block _ (be ad)).trans ad;have bl:=(aa.block _ (be ae)).trans ae;have ao:=(aa.block _ (be aF)).trans aF;have ab:(z.alloc (.cells #[.slice ia ib ic,.slice pa pb pc] 90)).heap[z.heap.size]?=some (.cells #[.slice ia ib ic,.slice pa pb pc] 90 (0,0)):=Qp z _;have W2:=aV _ ah;have HA:Hid (Fp wz.heap.size n fl r (.slice ia ib ic) (.slice pa pb pc) z):=hA;have H2:=Hi (And.intro ah (And.intro ao (And.intro ab aa)));have c0:=Qm z w.heap.size 0 _ _ _ ad;have c1:=Qm z w.heap.size 1 _ _ _ ad;have c2:=Qm z w.heap.size 2 _ _ _ ad;have c3:=Qm z w.heap.size 3 _ _ _ ad;have c4:=Qm z w.heap.size 4 _ _ _ ad;have d0:=Qm z (w.heap.size+1) 0 _ _ _ ae;have d1:=Qm z (w.heap.size+1) 1 _ _ _ ae;have d2:=Qm z (w.heap.size+1) 2 _ _ _ ae;have d3:=Qm z (w.heap.size+1) 3 _ _ _ ae;simp only[Qx,Qy,Qv] at c0 c1 c2 c3 c4 d0 d1 d2 d3;have bz:=be ad;have bA:=be ae;go_wp2_with fail;apply W2.mono;rintro e' O ⟨⟨gf,rfl,aG⟩,av⟩;obtain⟨ah,ao,ab,aa⟩:=H2.out;have aH:=ah.trans (av.mono ah.size);have aI:=(av.block _ (be ao)).trans ao;have aJ:=(av.block _ (be ab)).trans ab;have aw:=aa.trans (av.mono aa.size);rcases HA.out with⟨a,c,a',b',c',e1,e2,hr⟩|⟨bm,Z,c,g,cap,ps,xs,e1,e2,hI,hP,aK,hk,hr⟩
 ·cases e1;cases e2;subst hr;have HB:=Hi aH;have p0:=Qm O z.heap.size 0 _ _ _ aJ;simp only[Qx,Qy,Qv] at p0;obtain⟨⟨v0,v1,v2⟩,vf⟩:=gZ aI;go_wp2;go_loop [12,13,14] (λrl it i=>rl= Iq 0/\it= .slice none 0 0/\i= Iq 0) (λ_ _ _=>0)
  case atStart=>exact⟨rfl,rfl,rfl⟩
  case round=>
   obtain⟨rfl,rfl,rfl⟩:=hrel;go_wp2;refine Qs (v:= .tuple #[.agg #[.bool false,Iq 0,Iq 0],Iq n]) (by simp[results,results19,go_sem,v0,v1,v2,vf]) rfl ?_
   exact⟨rfl,((HB.out.setCell (by simp;omega) _).setCell (by simp;omega) _).setCell (by simp;omega) _⟩
 cases e1;cases e2;have aL:=hI.below aw;have ab:=hP.below aw;have bu:=aL.few;have aW:Hid (fV wz.heap.size (Sq Z xs.length ic) xs O):=aL;have bo:Hid (eR wz.heap.size g pc ps O):=ab;have aX:Hid (∀i,i<9->Cq O gf i (Iq (fl.getD i 0))):=aG;have bd:=Hi aK;have HK:=Hi hk;have HR:=Hi hr;have bp:Hid (wz.heap.size<=O.heap.size):=by
  show _<=_;have:=aw.size;exact QV (bh.out) this
 have aA:=Hi aH;have af:=Hi aI;have aB:=Hi aJ;have HF:Hid (fy fl):=hF;obtain⟨i0,hi,aM,aN,aO⟩:=Ry KC;subst bm;go_wp2;go_loopw [12,13,14] (λrl it i wr=> ∃(j D:Nat) (vals:List Int),j<=xs.length/\D<=j/\vals.length=j/\rl= Iq D/\i= Iq j/\Hid (rq xs (ps.map cL) j vals)/\Hid (fR xs fl (ps.map cL) xs [] 0=fR xs fl (ps.map cL) (xs.drop j) vals D)/\wr.ownsRow O.heap.size 2 1 it vals.length (gN vals)/\Bl O wr) (λ_ _ i _=>xs.length - (intOf i).toNat)
 case atStart=>exact⟨0,0,[],QA _,Qn _,rfl,rfl,rfl,HK.out.start,rfl,QX _ _ _ _,Qq _ _⟩
 case round=>
  obtain⟨j,D,vals,hj,bF,aY,rfl,rfl,HM,HL,U,R⟩:=hrel;have aP:=(R.block _ (be af.out)).trans af.out;have ap:=(R.block _ (be aB.out)).trans aB.out;have p0:=Qm wr z.heap.size 0 _ _ _ ap;have p1:=Qm wr z.heap.size 1 _ _ _ ap;simp only[Qx,Qy,Qv] at p0 p1;have aq:=aA.out.trans (R.mono aA.out.size);by_cases ax:j<xs.length
  ·obtain⟨its,lo,hV,bq,aQ,aZ,a0⟩:=HM.out.item HK.out.parts ax;have a8:=Hi (HM.out.next HK.out.parts HK.out.print.parts HF.out ax);have au:uq wz.heap.size Z ic g pc gf xs ps _ vals fl wr:=⟨aW.out.below R,bo.out.below R,lM U bp.out,by omega,λi hi=>by rw[R.cell (p:=⟨gf,i,none⟩) (Qk O _ (aX.out i hi))];exact aX.out i hi⟩
   obtain⟨c0,c1,c2,c3,c4,c5⟩:=au.items.cells j ax;have WT:=Hc hV HF.out HK.out.print.parts bd.out (xs[j].top+1) aQ aZ a0 (au.below (Qq wr.heap.size wr).drew);have ar:Hid (fR xs fl (ps.map cL) (xs.drop j) vals D=if xs[j].name=[] then(if fP xs vals fl (ps.map cL) (xs[j].top+1) xs[j].top=1 then some (xs[j].allow,D+1) else fR xs fl (ps.map cL) (xs.drop (j+1)) (vals++[fP xs vals fl (ps.map cL) (xs[j].top+1) xs[j].top]) (D+1)) else fR xs fl (ps.map cL) (xs.drop (j+1)) (vals++[fP xs vals fl (ps.map cL) (xs[j].top+1) xs[j].top]) D):=by
    show _=_;rw[QF ax,fR]
   have bf:=aQ.lt;rw[Ro] at bf;have b1:(0:Int)<=(j:Int):=by omega
   have b2:(j:Int)<(xs.length:Int):=by omega
   have a9:=Qk wr _ c0;simp only at a9;generalize fP xs vals fl (ps.map cL) (xs[j].top+1) xs[j].top=tv at*;have KF:Hid (∀w',Below wr.heap.size wr.drew w'->(w'.cell? ⟨z.heap.size,0,none⟩=some (Sq Z xs.length ic)/\w'.cell? ⟨z.heap.size,1,none⟩=some (Sq g ps.length pc)/\w'.cell? ⟨Z,j*6+2,none⟩=some (Iq xs[j].top))):=λw' h=>by
    rw[h.cell (p:=⟨z.heap.size,0,none⟩) (be ap),h.cell (p:=⟨z.heap.size,1,none⟩) (be ap),h.cell (p:=⟨Z,j*6+2,none⟩) a9];exact⟨p0,p1,c2⟩
   have aR:Hid (∀w',Bl O w'->(Cq w' z.heap.size 0 (Sq Z xs.length ic)/\Cq w' z.heap.size 1 (Sq g ps.length pc)/\Cq w' Z (j*6) (S xs[j].name)/\Cq w' Z (j*6+1) (.bool xs[j].allow))):=λw' h=>by
    have ba:=(h.block _ (be aB.out)).trans aB.out;obtain⟨d0,d1,_⟩:=(aW.out.below h).cells j ax;exact⟨Qm w' z.heap.size 0 _ _ _ ba,Qm w' z.heap.size 1 _ _ _ ba,d0,d1⟩
   generalize xs[j]=x at*;by_cases ac:x.name=[]
   ·have n1:(x.name==[])=true:=by simpa using ac
    by_cases aC:tv=1
    ·subst aC;have HE:Hid (r=(x.allow,D+1)):=by show _=_;rw[HR.out,HL.out,ar.out,Qo ac,Qo rfl];rfl
     go_wp2_with fail;go_region_held3 (λw'=>w'.cell? ⟨z.heap.size,0,none⟩=some (Sq Z xs.length ic)/\w'.cell? ⟨z.heap.size,1,none⟩=some (Sq g ps.length pc)/\w'.cell? ⟨Z,j*6+2,none⟩=some (Iq x.top)) (first|exact KF.out _ V|go_keep) ((go_at_call 42;refine WT.mono ?_;rintro e w5 ⟨rfl,V⟩))
     rename_i hHeld;have Y:=(Qq _ _).drew.trans V;have ag:=R.trans (Y.mono R.size);have G:=cD U Y;have bb:=ag.size;go_wp2_with (
      at_builtin;go_must (refine wpList_append_lies _ (by rfl) _ _ 116 (by rfl) O.heap.size 2 i0 (Iq 0) 1 8 underlying116 hi aM aN aO (by rfl) (by decide) _ _ _ (by rfl) (G.alloc _) ⟨w5.heap.size,0,none⟩ 1 1 [Iq 1] (by rfl) (by rfl) (World.news_of_block (Qp w5 _)) (λx hx=>by simp at hx;rcases hx with rfl;rfl) (by decide) (by unfold maxLen;omega) (by omega) (by simp;omega) _ rfl ?_)
      intro g3 aS w3 I E bc aT;have J:=gP ag G E;obtain⟨p0,p1,c0,c1⟩:=aR.out w3 J;obtain⟨⟨v0,v1,v2⟩,vf⟩:=gZ ((J.block _ (be af.out)).trans af.out);have ay:=Hi J;clear J I E)
     have br:Hid (Bl w w3):=aA.out.trans (ay.out.mono aA.out.size);refine Qs (v:= .tuple #[.agg #[.bool x.allow,Iq ((D:Int)+1),Iq 0],Iq 0]) (by simp[results,results19,go_sem,v0,v1,v2,vf]) rfl ?_
     exact⟨by rw[HE.out];rfl,((br.out.setCell (by simp;omega) _).setCell (by simp;omega) _).setCell (by simp;omega) _⟩
    have t1:(tv==1)=false:=by simpa using aC
    have az:Hid (fR xs fl (ps.map cL) (xs.drop j) vals D=fR xs fl (ps.map cL) (xs.drop (j+1)) (vals++[tv]) (D+1)):=by show _=_;rw[ar.out,Qo ac,Qj aC]
    go_wp2_with fail;go_region_held3 (λw'=>w'.cell? ⟨z.heap.size,0,none⟩=some (Sq Z xs.length ic)/\w'.cell? ⟨z.heap.size,1,none⟩=some (Sq g ps.length pc)/\w'.cell? ⟨Z,j*6+2,none⟩=some (Iq x.top)) (first|exact KF.out _ V|go_keep) ((go_at_call 42;refine WT.mono ?_;rintro e w5 ⟨rfl,V⟩))
    rename_i hHeld;have Y:=(Qq _ _).drew.trans V;have ag:=R.trans (Y.mono R.size);have G:=cD U Y;have bb:=ag.size;go_wp2_with (
     at_builtin;go_must (refine wpList_append_lies _ (by rfl) _ _ 116 (by rfl) O.heap.size 2 i0 (Iq 0) 1 8 underlying116 hi aM aN aO (by rfl) (by decide) _ _ _ (by rfl) (G.alloc _) ⟨w5.heap.size,0,none⟩ 1 1 [Iq tv] (by rfl) (by rfl) (World.news_of_block (Qp w5 _)) (λx hx=>by simp at hx;rcases hx with rfl;rfl) (by decide) (by unfold maxLen;omega) (by omega) (by simp;omega) _ rfl ?_)
     intro g3 aS w3 I E bc aT;have J:=gP ag G E;obtain⟨p0,p1,c0,c1⟩:=aR.out w3 J;obtain⟨⟨v0,v1,v2⟩,vf⟩:=gZ ((J.block _ (be af.out)).trans af.out);have ay:=Hi J;have aD:=Hi I;clear J I E)
    go_roundw
    case rel=>
     refine⟨j+1,D+1,vals++[tv],by omega,by omega,by simp;omega,by simp,by simp,a8.out,?_,?_,ay.out⟩
     ·show _=_;rw[HL.out];exact az.out
     have e7:gN (vals++[tv])=gN vals++[Iq tv]:=by simp[gN]
     have e8:(vals++[tv]).length=vals.length+1:=by simp
     rw[e7,e8];subst aY;exact aD.out
    case measure=>simp[intOf];omega
   have n1:(x.name==[])=false:=by simpa using ac
   have az:Hid (fR xs fl (ps.map cL) (xs.drop j) vals D=fR xs fl (ps.map cL) (xs.drop (j+1)) (vals++[tv]) D):=by show _=_;rw[ar.out,Qj ac]
   go_wp2_with fail;go_region_held3 (λw'=>w'.cell? ⟨z.heap.size,0,none⟩=some (Sq Z xs.length ic)/\w'.cell? ⟨z.heap.size,1,none⟩=some (Sq g ps.length pc)/\w'.cell? ⟨Z,j*6+2,none⟩=some (Iq x.top)) (first|exact KF.out _ V|go_keep) ((go_at_call 42;refine WT.mono ?_;rintro e w5 ⟨rfl,V⟩))
   rename_i hHeld;have Y:=(Qq _ _).drew.trans V;have ag:=R.trans (Y.mono R.size);have G:=cD U Y;have bb:=ag.size;go_wp2_with (
    at_builtin;go_must (refine wpList_append_lies _ (by rfl) _ _ 116 (by rfl) O.heap.size 2 i0 (Iq 0) 1 8 underlying116 hi aM aN aO (by rfl) (by decide) _ _ _ (by rfl) (G.alloc _) ⟨w5.heap.size,0,none⟩ 1 1 [Iq tv] (by rfl) (by rfl) (World.news_of_block (Qp w5 _)) (λx hx=>by simp at hx;rcases hx with rfl;rfl) (by decide) (by unfold maxLen;omega) (by omega) (by simp;omega) _ rfl ?_)
    intro g3 aS w3 I E bc aT;have J:=gP ag G E;obtain⟨p0,p1,c0,c1⟩:=aR.out w3 J;obtain⟨⟨v0,v1,v2⟩,vf⟩:=gZ ((J.block _ (be af.out)).trans af.out);have ay:=Hi J;have aD:=Hi I;clear J I E)
   go_roundw
   case rel=>
    refine⟨j+1,D,vals++[tv],by omega,by omega,by simp;omega,by simp,by simp,a8.out,?_,?_,ay.out⟩
    ·show _=_;rw[HL.out];exact az.out
    have e7:gN (vals++[tv])=gN vals++[Iq tv]:=by simp[gN]
    have e8:(vals++[tv]).length=vals.length+1:=by simp
    rw[e7,e8];subst aY;exact aD.out
   case measure=>simp[intOf];omega
  have bs:j=xs.length:=by omega
  subst bs;have HE:Hid (r=(false,0)):=by
   show _=_;rw[HR.out,HL.out,Sl];rfl
  obtain⟨⟨v0,v1,v2⟩,vf⟩:=gZ aP;have HB:=Hi aq;go_wp2;refine Qs (v:= .tuple #[.agg #[.bool false,Iq 0,Iq 0],Iq 0]) (by simp[results,results19,go_sem,v0,v1,v2,vf]) rfl ?_
  exact⟨by rw[HE.out];rfl,((HB.out.setCell (by simp;omega) _).setCell (by simp;omega) _).setCell (by simp;omega) _⟩
end
variable {t f lv}
theorem KJ (h:fy fl):dL fl:=λn D=>by
 have z:=h.has n (by omega)
 refine⟨z.1,λe=>z.2 ?_⟩
 have:n=0\/n=1\/n=2\/n=3\/n=4\/n=5\/n=6\/n=7\/n=8:=by omega
 rcases this with rfl|rfl|rfl|rfl|rfl|rfl|rfl|rfl|rfl<;>first|rfl|(exfalso;revert e;decide)
theorem Hg {c:UInt8} (h:eA c=2):c=116:=by
 unfold eA at h;split at h
 ·simp at h
 split at h
 ·rename_i e;exact RD.1 e
 split at h<;>simp at h
theorem BI:∀xs (its:LB) vals,vals.length=its.length->(∀i,i<its.length->LL (its.getD i 0) (vals.getD i 0))->lH (eG xs its) (dF xs vals)
 |[],its,vals,_,_=>λi z=>by cases its<;>simp[eG] at z
 |x::xs,[],vals,_,_=>λi z=>by simp[eG] at z
 |x::xs,c::its,[],h,_=>by simp at h
 |x::xs,c::its,v::vals,h,E=>by
  have ih:=BI xs its vals (by simpa using h) λi z=>by have:=E (i+1) (by simpa using z);simpa using this
  rw[eG,dF];split
  ·exact ih
  intro i z;cases i with
  |zero=>
   have D:=E 0 (by simp)
   simp only[Rp] at D⊢;exact⟨D.1,λe=>D.2 (Hg e)⟩
  |succ i=>rw[QI] at z⊢;rw[QI];exact ih i z
def oB (xs:List dw) (L:List Pt) (j:Nat) (vals:List Int):Prop:=
 ∃its fr,mq its vals/\its.length=j/\fs L (xs.drop j) fr/\dt xs L (xs.drop j) fr j=none/\dP xs L (xs.drop j) its=none/\ ∀c∈its,lf c
theorem lr.start2 (h:lr L xs):oB xs L 0 []:=
 ⟨[],0,⟨rfl,λi z=>by simp at z⟩,rfl,h.print.trees,h.names,h.types,by simp⟩
structure N3 (xs:List dw) (L) (fl) (j) (vals) (lt):Prop where
 tree:∃lo,dN ((xs.getD j dr).top+1) L lo (xs.getD j dr).top
 wf:gU ((xs.getD j dr).top+1) (gM (dx (fI xs)) L ((xs.getD j dr).top+1) (xs.getD j dr).top)
 ty:cR lt ((xs.getD j dr).top+1) (gM (dx (fI xs)) L ((xs.getD j dr).top+1) (xs.getD j dr).top)≠0
 ev:fT (dF (xs.take j) vals) fl ((xs.getD j dr).top+1) (gM (dx (fI xs)) L ((xs.getD j dr).top+1) (xs.getD j dr).top)=fP xs vals fl L ((xs.getD j dr).top+1) (xs.getD j dr).top
 lets:lH lt (dF (xs.take j) vals)
 len:lt.length<=(dF (xs.take j) vals).length
theorem oB.item (hL:iu L) (G:kO L) (h:oB xs L j vals) (hj:j<xs.length):(∃lt,N3 xs L fl j vals lt)/\vals.length=j:=by
 obtain⟨its,fr,U,I,z,V,J,Y⟩:=h;rw[ep hj dr] at z V J;have Z:nF xs its.length L fr ((xs.getD j dr).top+1):=by rw[I];exact(jS hL z.1 z.2.1 V).1
 have D:dk xs its L ((xs.getD j dr).top+1) (xs.getD j dr).top≠0:=λe=>by
  rw[dP,Qo (.inl (by rw[e];rfl))] at J;simp at J
 have E:=U.len;have O:=Nt (vals:=vals) (fl:=fl) G.tokw Y (by omega) E G.num _ z.1.fit Z D
 have e1:dF (xs.take vals.length) vals=dF (xs.take j) vals:=by rw[E,I]
 have h1:=O.ty;rw[I] at h1;refine⟨⟨eG (xs.take j) its,⟨fr,z.1.fit⟩,O.wf,?_,by rw[<-e1];exact O.ev,BI _ _ _ E λi hi=>U.has i hi,?_⟩,by omega⟩
 ·rw[h1];intro e;rcases pU G.tokw Y _ z.1.fit Z with R|R
  ·exact D R
  exact D ((mh (.inr R)).1 e)
 rw[n9 _ _ (by simp;omega),pA _ _ (by simp;omega)];exact Qn _
theorem oB.next (hL:iu L) (O:kO L) (hF:fy fl) (h:oB xs L j vals) (hj:j<xs.length):
 oB xs L (j+1) (vals++[fP xs vals fl L ((xs.getD j dr).top+1) (xs.getD j dr).top]):=by
 obtain⟨its,fr,R,U,D,V,E,Y⟩:=h;rw[ep hj dr] at D V E;obtain⟨Z,aa⟩:=jS hL D.1 D.2.1 V;have hg:nF xs its.length L fr ((xs.getD j dr).top+1):=by rw[U];exact Z
 rw[dP] at E;by_cases I:(dk xs its L ((xs.getD j dr).top+1) (xs.getD j dr).top).toNat=0\/((xs.getD j dr).name=[]/\(dk xs its L ((xs.getD j dr).top+1) (xs.getD j dr).top).toNat≠116)
 ·rw[Qo I] at E;simp at E
 rw[Qj I] at E;have G:dk xs its L ((xs.getD j dr).top+1) (xs.getD j dr).top≠0:=λe=>I (.inl (by rw[e];rfl))
 refine⟨its++[dk xs its L ((xs.getD j dr).top+1) (xs.getD j dr).top],(xs.getD j dr).parts,R.snoc ?_,by simp[U],D.2.2,aa,E,?_⟩
 ·exact pd R hF O.num _ D.1.fit hg G
 intro c z;simp only[Rn,R4] at z;rcases z with z|rfl
 ·exact Y c z
 rcases pU O.tokw Y _ D.1.fit hg with J|J
 ·exact absurd J G
 exact J
def sw (ix:List UInt8->Int) (L:List Pt):Nat->Nat->List dw->List fM
 |_,_,[]=>[]
 |l,r,x::xs=>if x.name=[] then⟨if x.allow then 12 else 13,r+1,gM ix L (x.top+1) x.top⟩::sw ix L l (r+1) xs else⟨11,l,gM ix L (x.top+1) x.top⟩::sw ix L (l+1) r xs
theorem BJ (F:Nat->Nat):∀(l:List Nat) m j,j∈l->F j<=l.foldl (λm j=>max m (F j)) m/\m<=l.foldl (λm j=>max m (F j)) m:=by
 intro l;induction l with
 |nil=>intro m j h;simp at h
 |cons x r ih=>
  intro m j h;have z:∀(r:List Nat) (m:Nat),m<=r.foldl (λm j=>max m (F j)) m:=λr=>by
   induction r with
   |nil=>intro m;exact Qn _
   |cons y r ih=>intro m;exact QV (Tf _ _) (ih _)
  have D:=z r (max m (F x));simp only[R9];rcases Ra.1 h with rfl|h
  ·omega
  have:=(ih (max m (F x)) j h).1;omega
theorem N4 {ix:LB->Int} (f):∀{i g},gU f (gM ix L f i)->dep f L i<=g->gU g (gM ix L f i):=by
 induction f with
 |zero=>intro i g h;exact h.elim
 |succ f ih=>
  intro i g h z;rw[dep] at z;obtain⟨g,rfl⟩:∃q,g=q+1:=⟨g - 1,by omega⟩
  refine⟨h.1,λc D=>?_⟩
  have G:=h.2 c D;have E:=D;obtain⟨j,I,rfl⟩:=RC.1 E;refine ih G ?_;have:=(BJ (dep f L) _ 0 j I).1;unfold gT at z;omega
theorem N5 {lt} (z:gU f t) (D:gU g t):cR lt f t=cR lt g t:=(mO z (Tf f g)).symm.trans (mO D (TD f g))
theorem N6 (z:gU f t) (D:gU g t):fT lv fl f t=fT lv fl g t:=(pn z (Tf f g)).symm.trans (pn D (TD f g))
theorem Ms (z:gU f t) (D:gU g t):eP f t=eP g t:=(pY z (Tf f g)).symm.trans (pY D (TD f g))
theorem wK {T g} (E:∀z j,T z j->z<=j/\g j=j+1 - z):∀{js z D},jF T z js D->z<=D/\(js.map g).sum=D - z
 |[],z,D,h=>by
  have h:z=D:=h;subst h;simp
 |j::js,z,D,h=>by
  obtain⟨J,G⟩:=E z j h.1;obtain⟨h3,I⟩:=wK E h.2;rw[QL,SR,G,I];omega
theorem KK {ix:LB->Int} (f):∀{z i},dN f L z i->z<=i/\eP f (gM ix L f i)=i+1 - z:=by
 induction f with
 |zero=>intro z i h;exact h.elim
 |succ f ih=>
  intro z i h;obtain⟨D,E⟩:=wK (λz j h=>ih h) h.2.2
  refine⟨D,?_⟩;have e:eP (f+1) (gM ix L (f+1) i)=1+(((L.getD i cz).subs.map (gM ix L f)).map (eP f)).sum:=rfl;rw[e,R3];have G:(eP f∘gM ix L f)=λj=>eP f (gM ix L f j):=rfl
  rw[G,E];omega
theorem wL {α:Type} {a b:List α} {z v:α} (h:∀i,a.getD i z=b.getD i z) (D:b.length<a.length):∀i,(a.set b.length v).getD i z=(b++[v]).getD i z:=λi=>by
 by_cases e:b.length=i
 ·subst e;rw[cQ D,Qi,QQ (Qn _)];simp
 rw[getD_set_ne e,h i];by_cases g:i<b.length
 ·rw[Qi,Qi,QT g]
 rw[Qi,Qi,QC (by omega),QC (by simp;omega)]
theorem Hh {α:Type} {l:List α} (h:j<l.length) (d:α):l.take (j+1)=l.take j++[l.getD j d]:=by
 rw[Sc,Qi,Ql h];rfl
structure Ph (xs) (L) (fl) (j l r fr) (lt) (env vals) (its):Prop where
 ty:qc 24 lt its
 seq:ot l its
 mean:gq 24 fl env its=(fR xs fl L (xs.drop j) vals r).getD (false,0)
 cnt:ig 24 its=L.length - fr
 fr:fr<=L.length
 len:its.length+j=xs.length
 many:j<xs.length->xs.length<=30/\L.length<=200
theorem N7 (hL:iu L) (hP:kO L) (hF:fy fl):∀m j l r fr (z:LB) vals G lt,xs.length - j=m->j<=xs.length->mq z vals->z.length=j->fs L (xs.drop j) fr->dt xs L (xs.drop j) fr j=none->dP xs L (xs.drop j) z=none->(∀c∈z,lf c)->fz L (xs.drop j) l j=none->(eG (xs.take j) z).length=l->r+l=j->l<=10->r<=20->fr<=200->lt.length=10->G.length=10->(∀i,lt.getD i 0=(eG (xs.take j) z).getD i 0)->(∀i,G.getD i 0=(dF (xs.take j) vals).getD i 0)->
 Ph xs L fl j l r fr lt G vals (sw (dx (fI xs)) L l r (xs.drop j)):=by
 intro m;induction m with
 |zero=>
  intro j l r fr z vals G lt hm hj hV hl D hN V hI J R au ae af ap h1 h2 h3 h4;have e:xs.drop j=[]:=QG (by omega)
  rw[e] at D⊢;have D:fr=L.length:=D;refine⟨trivial,trivial,?_,?_,by omega,?_,by omega⟩
  ·rw[e];rfl
  ·rw[D];simp[sw,ig]
  show 0+j=_;omega
 |succ m ih=>
  intro j l r fr z vals G lt hm hj hV hl D hN V hI J R au ae af ap h1 h2 h3 h4;have Z:j<xs.length:=by omega
  have ag:=hV.len;rw[ep Z dr] at D hN V J;have aa:∀vals r,fR xs fl L (xs.drop j) vals r=fR xs fl L (xs.getD j dr::xs.drop (j+1)) vals r:=λvals r=>by rw[ep Z dr]
  obtain⟨av,ah⟩:=jS hL D.1 D.2.1 hN;have hg:nF xs z.length L fr ((xs.getD j dr).top+1):=by rw[hl];exact av
  have aw:=Hh Z dr;rw[ep Z dr];generalize hx:xs.getD j dr=x at*;rw[dP] at V;rw[fz] at J;by_cases hc:(dk xs z L (x.top+1) x.top).toNat=0\/(x.name=[]/\(dk xs z L (x.top+1) x.top).toNat≠116)
  ·rw[Qo hc] at V;simp at V
  rw[Qj hc] at V;have ab:dk xs z L (x.top+1) x.top≠0:=λe=>hc (.inl (by rw[e];rfl))
  have ax:(x.name==[])=decide (x.name=[]):=by
   by_cases e:x.name=[]
   ·rw[e];rfl
   rw[QM e];exact beq_false_of_ne e
  by_cases hb:10<l+(if x.name==[] then 0 else 1)\/20<j+1 - (l+(if x.name==[] then 0 else 1))\/200<x.parts\/20<dep (x.top+1) L x.top
  ·rw[Qo hb] at J;simp at J
  rw[Qj hb] at J;have ai:lf (dk xs z L (x.top+1) x.top):=by
   rcases pU hP.tokw hI _ D.1.fit hg with h0|h0
   ·exact absurd h0 ab
   exact h0
  have ht:=Nt (vals:=vals) (fl:=fl) hP.tokw hI (by omega) ag hP.num _ D.1.fit hg ab
  have aq:=N4 _ ht.wf (g:=20) (by omega)
  have hw:gU 24 (gM (dx (fI xs)) L (x.top+1) x.top):=aq.up (by omega)
  have ay:=KK (ix:=dx (fI xs)) _ D.1.fit;have ac:cR lt 24 (gM (dx (fI xs)) L (x.top+1) x.top)=eA (dk xs z L (x.top+1) x.top):=by
   rw[Bs h3,N5 hw ht.wf];have:=ht.ty;rw[hl] at this;exact this
  have aj:fT G fl 24 (gM (dx (fI xs)) L (x.top+1) x.top)=fP xs vals fl L (x.top+1) x.top:=by
   rw[Kj h4,N6 hw ht.wf];have:=ht.ev;rw[ag,hl] at this;exact this
  have ak:eP 24 (gM (dx (fI xs)) L (x.top+1) x.top)=x.parts - fr:=by
   rw[Ms hw ht.wf,ay.2,<-D.2.1]
  have aA:=D.2.1;have hz:eA (dk xs z L (x.top+1) x.top)≠0:=λe=>ab ((mh (.inr ai)).1 e)
  have am:=hV.snoc (pd hV hF hP.num _ D.1.fit hg ab);have an:∀c∈z++[dk xs z L (x.top+1) x.top],lf c:=λc ad=>by
   simp only[Rn,R4] at ad;rcases ad with ad|rfl
   ·exact hI c ad
   exact ai
  have aB:(xs.take j).length=j:=by rw[SJ];omega
  have E:=oP (xs.take j) x (dk xs z L (x.top+1) x.top) z (by omega)
  have O:=sq (xs.take j) x (fP xs vals fl L (x.top+1) x.top) vals (by omega)
  have ao:(dF (xs.take j) vals).length=l:=by
   rw[pA _ _ (by omega),<-n9 _ z (by omega)];exact R
  rw[<-aw] at E O;by_cases U:x.name=[]
  ·rw[U] at hb J;simp only[beq_self_eq_true,RO,S2] at hb J;rw[Qo U] at E O;have I:=ih (j+1) l (r+1) x.parts _ _ G lt (by omega) (by omega) am (by simp[hl]) D.2.2 ah V an J (by rw[E];exact R) (by omega) ae (by omega) (by omega) h1 h2 (λi=>by rw[E];exact h3 i) (λi=>by rw[O];exact h4 i)
   have ar:=Classical.byContradiction λe=>hc (.inr ⟨U,e⟩)
   have ei:sw (dx (fI xs)) L l r (x::xs.drop (j+1))=⟨if x.allow then 12 else 13,r+1,gM (dx (fI xs)) L (x.top+1) x.top⟩::sw (dx (fI xs)) L l (r+1) (xs.drop (j+1)):=by rw[sw,Qo U]
   rw[ei];have hk:((if x.allow then 12 else 13:Nat)=12\/(if x.allow then 12 else 13:Nat)=13):=by cases x.allow<;>simp
   refine⟨⟨hw,by rw[ac];exact hz,.inr ⟨hk,?_,by show r+1<=255;omega,I.ty⟩⟩,.inr ⟨by show(if x.allow then 12 else 13:Nat)≠11;cases x.allow<;>simp,I.seq⟩,?_,?_,?_,?_,λ_=>?_⟩
   ·rw[ac];unfold eA;rw[ar];rfl
   ·rw[gq,Qj (by show ¬(if x.allow then 12 else 13:Nat)=11;cases x.allow<;>simp),aa,fR,Qo U]
    simp only[aj];by_cases e1:fP xs vals fl L (x.top+1) x.top=1
    ·rw[Qo e1,Qo e1];cases x.allow<;>rfl
    rw[Qj e1,Qj e1];exact I.mean
   ·show eP 24 _+ig 24 _=_;rw[ak,I.cnt];have:=I.fr;omega
   ·have:=I.fr;omega
   ·have:=I.len;simp only[QH];omega
   by_cases e:j+1<xs.length
   ·exact I.many e
   have h9:xs.drop (j+1)=[]:=QG (by omega)
   have Y:=D.2.2;rw[h9] at Y;have Y:x.parts=L.length:=Y;omega
  have az:(x.name==[])=false:=by rw[ax];exact QM U
  rw[az] at hb J;simp only[Ss,Tc] at hb J;rw[Qj U] at E O;have I:=ih (j+1) (l+1) r x.parts _ _ (G.set l (fP xs vals fl L (x.top+1) x.top)) (lt.set l (eA (dk xs z L (x.top+1) x.top))) (by omega) (by omega) am (by simp[hl]) D.2.2 ah V an J (by rw[E,Qt,R];rfl) (by omega) (by omega) af (by omega) (by rw[Rx];exact h1) (by rw[Rx];exact h2)
   (λi=>by rw[E];have:=wL (v:=eA (dk xs z L (x.top+1) x.top)) h3 (by rw[h1,R];omega) i;rw[R] at this;exact this)
   (λi=>by rw[O];have:=wL (v:=fP xs vals fl L (x.top+1) x.top) h4 (by rw[h2,ao];omega) i;rw[ao] at this;exact this)
  have ei:sw (dx (fI xs)) L l r (x::xs.drop (j+1))=⟨11,l,gM (dx (fI xs)) L (x.top+1) x.top⟩::sw (dx (fI xs)) L (l+1) r (xs.drop (j+1)):=by rw[sw,Qj U]
  rw[ei];refine⟨⟨hw,by rw[ac];exact hz,.inl ⟨rfl,by show l<lt.length;omega,?_⟩⟩,.inl ⟨rfl,rfl,I.seq⟩,?_,?_,?_,?_,λ_=>?_⟩
  ·simp only[ac];exact I.ty
  ·rw[gq,Qo rfl,aa,fR,Qj U];simp only[aj];exact I.mean
  ·show eP 24 _+ig 24 _=_;rw[ak,I.cnt];have:=I.fr;omega
  ·have:=I.fr;omega
  ·have:=I.len;simp only[QH];omega
  by_cases e:j+1<xs.length
  ·exact I.many e
  have h9:xs.drop (j+1)=[]:=QG (by omega)
  have Y:=D.2.2;rw[h9] at Y;have Y:x.parts=L.length:=Y;omega
def wM (L:List Pt) (xs:List dw):List fM:=sw (dx (fI xs)) L 0 0 xs
structure Pj (xs) (L:List Pt):Prop where
 ty:qc 24 eN (wM L xs)
 seq:ot 0 (wM L xs)
 mean:∀fl,fy fl->gq 24 fl lI (wM L xs)=(fR xs fl L xs [] 0).getD (false,0)
 cnt:ig 24 (wM L xs)=L.length
 len:(wM L xs).length=xs.length
 few:L.length<=200/\xs.length<=30
theorem Pk (h:lr L xs) (I:fz L xs 0 0=none):Pj xs L:=by
 have J:∀i,lI.getD i 0=0:=λi=>by
  unfold lI;rw[Qi];rcases i with _|_|_|_|_|_|_|_|_|_|i<;>simp
 have H:=λfl (D:fy fl)=>N7 h.parts h.print.parts D xs.length 0 0 0 0 [] [] lI eN (by omega) (QA _) ⟨rfl,λi E=>by simp at E⟩ rfl h.print.trees h.names h.types (by simp) I rfl rfl (by omega) (by omega) (by omega) rfl rfl (λi=>by rw[iZ];rfl) (λi=>by rw[J];rfl)
 simp only[S0] at H;have z:=H jH (by
  refine⟨rfl,λi E=>?_⟩
  have e:jH.getD i 0=0:=by
   unfold jH;rw[Qi];rcases i with _|_|_|_|_|_|_|_|_|i<;>simp
  rw[e];exact jr _ false)
 refine⟨z.ty,z.seq,λfl D=>(H fl D).mean,by have:=z.cnt;exact this,z.len,?_⟩
 by_cases e:0<xs.length
 ·have:=z.many e;omega
 have O:xs=[]:=Rc (by omega)
 have G:=h.print.trees;subst O;have G:0=L.length:=G;simp;omega
section
attribute [local go_sem ↓] Go.wp_at_zero Go.wp_at_succ
variable {bs : Nat}
variable {w base v l D k E I o e size ys}
theorem KL:(prog.info? 112).map (λi=>(i.zero,i.size,i.bytes))=some (some (Iq 0),1,8):=by kernel_rfl
theorem Mu (h:w.ownsRow base 112 1 v l.length (gN l)):∃a cap,v= .slice a l.length cap/\wH w a l:=by
 obtain⟨R,h⟩:=h;rcases h with⟨rfl,G⟩|⟨g,cap,z,rfl,U,I,V,Y,h3,J⟩
 ·exact⟨none,0,by rw[G],λk E=>by omega⟩
 refine⟨_,cap,rfl,λk E=>⟨g,rfl,?_⟩⟩
 rw[Qm w g k _ _ _ I];have O:z[k]?=(z.toList.take (l.length*1))[k]?:=by
  rw[Rv (by omega)];simp
 rw[O,J];unfold gN;simp[E,Qi]
def lu (fl:List Int) (lv:Value):Obj:= .cells #[Iq (fl.getD 0 0),Iq (fl.getD 1 0),Iq (fl.getD 2 0),Iq (fl.getD 3 0),Iq (fl.getD 4 0),Iq (fl.getD 5 0),Iq (fl.getD 6 0),Iq (fl.getD 7 0),Iq (fl.getD 8 0),lv] 181 (0,0)
def LO (fl:List Int):Value:= .agg #[Iq (fl.getD 0 0),Iq (fl.getD 1 0),Iq (fl.getD 2 0),Iq (fl.getD 3 0),Iq (fl.getD 4 0),Iq (fl.getD 5 0),Iq (fl.getD 6 0),Iq (fl.getD 7 0),Iq (fl.getD 8 0)]
theorem N8 (h:w.heap[D]?=some (lu fl lv)):qO w D fl lv:=by
 unfold lu at h;have z:=λj=>Qm w D j _ _ _ h
 refine⟨λi E=>?_,z 9⟩
 have:i=0\/i=1\/i=2\/i=3\/i=4\/i=5\/i=6\/i=7\/i=8:=by omega
 rcases this with rfl|rfl|rfl|rfl|rfl|rfl|rfl|rfl|rfl
 ·exact z 0
 ·exact z 1
 ·exact z 2
 ·exact z 3
 ·exact z 4
 ·exact z 5
 ·exact z 6
 ·exact z 7
 exact z 8
theorem KM (h:k<xs.length) (vals) (n):fR xs fl L (xs.drop k) vals n=if(xs.getD k dr).name=[] then(if fP xs vals fl L ((xs.getD k dr).top+1) (xs.getD k dr).top=1 then some ((xs.getD k dr).allow,n+1) else fR xs fl L (xs.drop (k+1)) (vals++[fP xs vals fl L ((xs.getD k dr).top+1) (xs.getD k dr).top]) (n+1))
 else fR xs fl L (xs.drop (k+1)) (vals++[fP xs vals fl L ((xs.getD k dr).top+1) (xs.getD k dr).top]) n:=by
 rw[ep h dr,fR]
def Fq (G:Nat) (L:List Pt) (xs:List dw) (ys:List (Tok×Tok×Nat×Int)) (fl:List Int) (w:World) (r:Bool×Nat) (k:Nat) (lv:Value) (wr:World):Prop:=
 ∃(vals:List Int) (l q:Nat),oB xs L k vals/\r=(fR xs fl L (xs.drop k) vals q).getD (false,0)/\sh l q (xs.drop k) (ys.drop k)/\du (dh G L (N1 (dx (fI xs))) w) (xs.drop k) (ys.drop k)/\wr.ownsRow (w.heap.size+3) 112 1 lv (dF (xs.take k) vals).length (gN (dF (xs.take k) vals))/\q<=k
theorem D9 (z:Bl w E) (G:E.ownsRow base e size v n l) (D:(E.alloc o).grownBy I v.ownBlock) (R:w.heap.size<=base):Bl w I:=by
 have U:=z.size;have J:=D.size;simp at J;refine⟨D.os.trans z.os,D.tape.trans z.tape,D.output.trans z.output,by omega,λk O=>?_⟩
 rw[D.block k (by simp;omega) (λe=>by have:=(G.lt _ e.symm).1;omega),Qu E o k (by omega)]
 exact z.block k O
theorem Hj (hP:wF bs L xs base v ys w) (hM:lr L xs) (hF:fy fl):
 Calls prog 39 #[v,LO fl] w λe w'=>e= .returned (Hf ((fR xs fl L xs [] 0).getD (false,0)))/\Bl w w':=by
 obtain⟨a,cap,rfl,hcell⟩:=jR hP.row;obtain⟨i0,hi,hz0,hz1,hz2⟩:=Ry KL;have hlen:=Hi hP.items.len;have hyl:=hP.few;have HC:=Hi hcell;have HL:Hid (iu L):=hM.parts;have HPL:Hid (kO L):=hM.print.parts;have HF:Hid (fy fl):=hF;have HF2:Hid (dL fl):=KJ hF;generalize hr:(fR xs fl L xs [] 0).getD (false,0)=r at*;have hrel0:Fq bs L xs ys fl w r 0 (.slice none 0 0) (((w.alloc (.cells #[Iq (fl.getD 0 0),Iq (fl.getD 1 0),Iq (fl.getD 2 0),Iq (fl.getD 3 0),Iq (fl.getD 4 0),Iq (fl.getD 5 0),Iq (fl.getD 6 0),Iq (fl.getD 7 0),Iq (fl.getD 8 0)] 114 (0,0))).alloc (.cells #[.bool false,Iq 0,Iq 0] 40 (0,0))).alloc (lu fl (.slice none 0 0))):=
  ⟨[],0,0,hM.start2,hr.symm,hP.numb,hP.items,QX _ _ _ _,Qn _⟩
 have hB0:Bl w (((w.alloc (.cells #[Iq (fl.getD 0 0),Iq (fl.getD 1 0),Iq (fl.getD 2 0),Iq (fl.getD 3 0),Iq (fl.getD 4 0),Iq (fl.getD 5 0),Iq (fl.getD 6 0),Iq (fl.getD 7 0),Iq (fl.getD 8 0)] 114 (0,0))).alloc (.cells #[.bool false,Iq 0,Iq 0] 40 (0,0))).alloc (lu fl (.slice none 0 0))):=(((Qq _ _).alloc (Qn _) _).alloc (by simp) _).alloc (by simp;omega) _
 have hT0:(((w.alloc (.cells #[Iq (fl.getD 0 0),Iq (fl.getD 1 0),Iq (fl.getD 2 0),Iq (fl.getD 3 0),Iq (fl.getD 4 0),Iq (fl.getD 5 0),Iq (fl.getD 6 0),Iq (fl.getD 7 0),Iq (fl.getD 8 0)] 114 (0,0))).alloc (.cells #[.bool false,Iq 0,Iq 0] 40 (0,0))).alloc (lu fl (.slice none 0 0))).heap[w.heap.size+1+1]?=some (lu fl (.slice none 0 0)):=by
  have e:=Qp ((w.alloc (.cells #[Iq (fl.getD 0 0),Iq (fl.getD 1 0),Iq (fl.getD 2 0),Iq (fl.getD 3 0),Iq (fl.getD 4 0),Iq (fl.getD 5 0),Iq (fl.getD 6 0),Iq (fl.getD 7 0),Iq (fl.getD 8 0)] 114 (0,0))).alloc (.cells #[.bool false,Iq 0,Iq 0] 40 (0,0))) (lu fl (.slice none 0 0));rw[Qw,Qw] at e;exact e
 have hV0:(((w.alloc (.cells #[Iq (fl.getD 0 0),Iq (fl.getD 1 0),Iq (fl.getD 2 0),Iq (fl.getD 3 0),Iq (fl.getD 4 0),Iq (fl.getD 5 0),Iq (fl.getD 6 0),Iq (fl.getD 7 0),Iq (fl.getD 8 0)] 114 (0,0))).alloc (.cells #[.bool false,Iq 0,Iq 0] 40 (0,0))).alloc (lu fl (.slice none 0 0))).heap[w.heap.size+1]?=some (.cells #[.bool false,Iq 0,Iq 0] 40 (0,0)):=by
  rw[Qu _ _ _ (by simp)]
  have e:=Qp (w.alloc (.cells #[Iq (fl.getD 0 0),Iq (fl.getD 1 0),Iq (fl.getD 2 0),Iq (fl.getD 3 0),Iq (fl.getD 4 0),Iq (fl.getD 5 0),Iq (fl.getD 6 0),Iq (fl.getD 7 0),Iq (fl.getD 8 0)] 114 (0,0))) (.cells #[.bool false,Iq 0,Iq 0] 40 (0,0));rw[Qw] at e;exact e
 have hS0:w.heap.size+3<=(((w.alloc (.cells #[Iq (fl.getD 0 0),Iq (fl.getD 1 0),Iq (fl.getD 2 0),Iq (fl.getD 3 0),Iq (fl.getD 4 0),Iq (fl.getD 5 0),Iq (fl.getD 6 0),Iq (fl.getD 7 0),Iq (fl.getD 8 0)] 114 (0,0))).alloc (.cells #[.bool false,Iq 0,Iq 0] 40 (0,0))).alloc (lu fl (.slice none 0 0))).heap.size:=by simp
 have H0:=Hi (And.intro hrel0 (And.intro hB0 (And.intro hT0 (And.intro hV0 hS0))));clear hP hM hF hcell hr hrel0 hB0 hT0 hV0 hS0;unfold LO;unfold lu at H0;generalize hf0:fl.getD 0 0=f0 at*;generalize hf1:fl.getD 1 0=f1 at*;generalize hf2:fl.getD 2 0=f2 at*;generalize hf3:fl.getD 3 0=f3 at*;generalize hf4:fl.getD 4 0=f4 at*;generalize hf5:fl.getD 5 0=f5 at*;generalize hf6:fl.getD 6 0=f6 at*;generalize hf7:fl.getD 7 0=f7 at*;generalize hf8:fl.getD 8 0=f8 at*;have HTO:Hid (∀lv,lu fl lv= .cells #[Iq f0,Iq f1,Iq f2,Iq f3,Iq f4,Iq f5,Iq f6,Iq f7,Iq f8,lv] 181 (0,0)):=λlv=>by unfold lu;rw[hf0,hf1,hf2,hf3,hf4,hf5,hf6,hf7,hf8]
 clear hf0 hf1 hf2 hf3 hf4 hf5 hf6 hf7 hf8;go_enter func39,ntmps39;go_wp2_with fail;obtain⟨hrel0,hB0,hT0,hV0,hS0⟩:=H0.out;clear H0;generalize (((w.alloc (.cells #[Iq f0,Iq f1,Iq f2,Iq f3,Iq f4,Iq f5,Iq f6,Iq f7,Iq f8] 114 (0,0))).alloc (.cells #[.bool false,Iq 0,Iq 0] 40 (0,0))).alloc (.cells #[Iq f0,Iq f1,Iq f2,Iq f3,Iq f4,Iq f5,Iq f6,Iq f7,Iq f8,.slice none 0 0] 181 (0,0)))=wz at*;go_loopw [14] (λkv wr=> ∃(k:Nat) (lv:Value),k<=ys.length/\kv= Iq k/\Hid (Fq bs L xs ys fl w r k lv wr)/\Bl w wr/\wr.heap[w.heap.size+1+1]?=some (.cells #[Iq f0,Iq f1,Iq f2,Iq f3,Iq f4,Iq f5,Iq f6,Iq f7,Iq f8,lv] 181 (0,0))/\wr.heap[w.heap.size+1]?=some (.cells #[.bool false,Iq 0,Iq 0] 40 (0,0))/\w.heap.size+3<=wr.heap.size) (λkv _=>ys.length - (intOf kv).toNat)
 case atStart=>exact⟨0,_,QA _,rfl,hrel0,hB0,hT0,hV0,hS0⟩
 case round=>
  clear hrel0 hB0 hT0 hV0 hS0;obtain⟨k,lv,hk,rfl,HR,hbw,hTw,hVw,hSw⟩:=hrel;by_cases hlt:k<ys.length
  ·have hltx:k<xs.length:=by rw[<-hlen.out];exact hlt
   obtain⟨vals,nl,q,hA,hre,hnu,hit,hown,hqk⟩:=HR.out;clear HR;obtain⟨⟨lt,hI⟩,hvl⟩:=hA.item (fl:=fl) HL.out HPL.out hltx;have HNX:=Hi (hA.next HL.out HPL.out HF.out hltx);have HML:=Hi (KM (fl:=fl) (L:=L) hltx vals q);have HTX:=Hi (nM hltx dr);have hgl:(dF (xs.take k) vals).length<=k:=by
    rw[pA _ _ (by simp;omega)];exact QV (uM _) (by simp;omega)
   have HSN:Hid (∀x t,dF (xs.take k++[x]) (vals++[t])=if x.name=[] then dF (xs.take k) vals else dF (xs.take k) vals++[t]):=λx t=>sq _ _ _ _ (by simp;omega)
   rw[ep hltx dr,ep hlt (ee,ee,0,0)] at hnu hit;obtain⟨g,rfl,⟨gcs,hgc⟩,hcells⟩:=HC.out k hlt;obtain⟨⟨lo,hTF⟩,hwf,hty,hev,hlets,hlln⟩:=hI;generalize xs.getD k dr=x at*;generalize ys.getD k (ee,ee,0,0)=y at*;obtain⟨⟨hCd,hO⟩,hit2⟩:=hit;obtain⟨t0,u0,b,wh⟩:=y;simp only[] at hCd hO;unfold sh at hnu;simp only[] at hnu;have hct:∀j,j<10->wr.cell? ⟨g,k*10+j,none⟩=(eK (t0,u0,b,wh))[j]?:=λj hj=>by
    rw[hbw.cell (p:=⟨g,k*10+j,none⟩) (be hgc)];exact hcells j hj
   have c0:Cq wr g (k*10) (Iq (cy t0)):=hct 0 (by omega)
   have c1:Cq wr g (k*10+1) (Iq t0.pl):=hct 1 (by omega)
   have c2:Cq wr g (k*10+2) (Iq (cV t0)):=hct 2 (by omega)
   have c3:Cq wr g (k*10+3) (S (cE t0)):=hct 3 (by omega)
   have c4:Cq wr g (k*10+4) (Iq (cy u0)):=hct 4 (by omega)
   have c5:Cq wr g (k*10+5) (Iq u0.pl):=hct 5 (by omega)
   have c6:Cq wr g (k*10+6) (Iq (cV u0)):=hct 6 (by omega)
   have c7:Cq wr g (k*10+7) (S (cE u0)):=hct 7 (by omega)
   have c8:Cq wr g (k*10+8) (Iq wh):=hct 8 (by omega)
   have c9:Cq wr g (k*10+9) (Pq b):=hct 9 (by omega)
   have hb1:Bl wr (wr.alloc (fN t0 u0 wh (Pq b))):=(Qq _ _).alloc (Qn _) _;have hB1:Bl w (wr.alloc (fN t0 u0 wh (Pq b))):=hbw.trans (hb1.mono hbw.size);have hz1':(wr.alloc (fN t0 u0 wh (Pq b))).heap[wr.heap.size]?=some (fN t0 u0 wh (Pq b)):=Qp wr _;obtain⟨al,capl,rfl,hIn⟩:=Mu hown;have hTl:qO (wr.alloc (fN t0 u0 wh (Pq b))) (w.heap.size+1+1) fl (.slice al (dF (xs.take k) vals).length capl):=N8 (by rw[HTO.out,hb1.block _ (be hTw)];exact hTw)
   have W1:=yI hlets HF2.out hlln (by omega) (hCd.tr _ hTF|>.below hB1) hwf hty hTl (hIn.below hb1)
   rw[hev] at W1;have hown1:=cD hown hb1;have hTw1:=(hb1.block _ (be hTw)).trans hTw;have hVw1:=(hb1.block _ (be hVw)).trans hVw;generalize fP xs vals fl L (x.top+1) x.top=tv at*;unfold fN at hb1 hB1 hz1' W1 hown1 hTw1 hVw1;have HIT3:=Hi hit2;have HNU:=Hi hnu;have HO:Hid (wu x t0 u0):=hO;have HRE:=Hi hre;clear hct hcells hit2 hCd hTF hwf hty hev hlets hlln hnu hgc hTl hIn hown hO hre hA hTw hVw hbw;generalize hkd:cy t0=kd at*;generalize t0.pl=q1 at*;generalize cV t0=q2 at*;generalize cE t0=q3 at*;generalize cy u0=q4 at*;generalize u0.pl=q5 at*;generalize cV u0=q6 at*;generalize cE u0=q7 at*;have HKD:=Hi hkd;clear hkd;rcases wC HO.out with⟨hn,hk11⟩|⟨hn,hk11⟩
   ·rw[HKD.out] at hk11;subst hk11;have HRE2:Hid (r=(fR xs fl L (xs.drop (k+1)) (vals++[tv]) q).getD (false,0)):=by show _=_;rw[HRE.out,HML.out,Qj hn]
    have HNU2:Hid (sh (nl+1) q (xs.drop (k+1)) (ys.drop (k+1))):=by
     rcases HNU.out with h|h
     ·exact h.2.2
     exact absurd h.1 hn
    have HLV:Hid (dF (xs.take (k+1)) (vals++[tv])=dF (xs.take k) vals++[tv]):=by show _=_;rw[HTX.out,HSN.out,Qj hn]
    clear hn HRE HML HNU HSN HTX;go_wp2_with fail;apply W1.mono;rintro e w1 ⟨rfl,hb2⟩;clear W1 c0 c1 c2 c3 c4 c5 c6 c7 c8 c9;have hB2:=hB1.trans (hb2.mono hB1.size);have hz2':=(hb2.block _ (be hz1')).trans hz1';have hT2:=(hb2.block _ (be hTw1)).trans hTw1;have hV2:=(hb2.block _ (be hVw1)).trans hVw1;have hown2:=cD hown1 hb2;have hs2:=QV hSw (QV hb1.size hb2.size);obtain⟨⟨z0,z1,z2,z3,z4,z5,z6,z7,z8,z9⟩,zf⟩:=dI hz2';have t9:=Qm w1 _ 9 _ _ _ hT2;simp only[Qx,Qy,Qv] at t9;have tfz:∀j,w1.frozen? ⟨w.heap.size+1+1,j,none⟩=false:=λj=>by simp[World.frozen?,hT2]
    have htb:w.heap.size+1+1<w1.heap.size:=by omega
    have hne:some (w.heap.size+1+1)≠(Value.slice al (dF (xs.take k) vals).length capl).ownBlock:=λe=>by
     have:=(hown2.lt _ e.symm).1;omega
    have HB2:=Hi hB2;have HT2:=Hi hT2;have HV2:=Hi hV2;clear hb1 hB1 hz1' hown1 hTw1 hVw1 hb2 hz2' hB2 hT2 hV2;generalize dF (xs.take k) vals=lvs at*;go_wp2_with (
     at_builtin;go_must (refine wpList_append_lies _ (by rfl) _ _ 179 (by rfl) (w.heap.size+3) 112 i0 (Iq 0) 1 8 underlying179 hi hz0 hz1 hz2 (by rfl) (by decide) _ _ _ (by rfl) (hown2.alloc _) ⟨w1.heap.size,0,none⟩ 1 1 [Iq tv] (by rfl) (by rfl) (World.news_of_block (Qp w1 _)) (λx hx=>by simp at hx;rcases hx with rfl;rfl) (by decide) (by unfold maxLen;omega) (by omega) (by simp;omega) _ rfl ?_)
     intro gg cap' w3 hown3 hgrow hat hlt3;have e0:=(hgrow.block _ (by simp;omega) hne).trans (Qu w1 _ _ htb)
     have e1:=(Qz (a:=⟨w.heap.size+1+1,9,none⟩) e0).trans t9;have e2:=(Re (a:=⟨w.heap.size+1+1,9,none⟩) e0).trans (tfz 9);have HE0:=Hi e0;have HO3:=Hi hown3;have HG3:=Hi hgrow;clear e0 hown3 hgrow)
    go_roundw
    case rel=>
     have hO3:=HO3.out;have hgb:=(hO3.lt gg rfl).1;have hT3:=HE0.out.trans HT2.out;have hV3:=(HG3.out.block _ (by simp;omega) (λe=>by have:=(hown2.lt _ e.symm).1;omega)).trans ((Qu w1 _ _ (by omega)).trans HV2.out)
     refine⟨k+1,Sq gg (lvs.length+1) cap',by omega,by simp,⟨vals++[tv],nl+1,q,HNX.out,HRE2.out,HNU2.out,HIT3.out,?_,by omega⟩,?_,?_,?_,?_⟩
     ·rw[HLV.out];have h1:=Rg hO3 (a:=⟨w.heap.size+1+1,9,none⟩) (by simp[Value.ownBlock];omega) (Sq gg (lvs.length+1) cap')
      simpa [gN] using h1
     ·exact(D9 HB2.out hown2 HG3.out (by omega)).setCell (by simp;omega) _
     ·rw[QB w3 _ 9 _ _ _ hT3];rfl
     ·rw[Qr _ _ _ _ (by simp)];exact hV3
     have:=HG3.out.size;simp at this⊢;omega
    case measure=>simp[intOf];omega
   rw[HKD.out] at hk11;have hkd2:((kd:Int)==(11:Int))=false:=by
    have: ¬((kd:Int)=11):=by omega
    simpa using this
   have hwh:wh=((q+1:Nat):Int)/\sh nl (q+1) (xs.drop (k+1)) (ys.drop (k+1)):=by
    rcases HNU.out with h|h
    ·exact absurd hn h.1
    exact h.2
   have HNU2:=Hi hwh.2;have HWH:=Hi hwh.1;have hal:kd=if x.allow then 12 else 13:=by
    rcases HO.out with h|h
    ·exact absurd hn h.1
    rw[<-HKD.out];exact h.2.1
   have hal2:((kd:Int)==(12:Int))=x.allow:=by
    rw[hal];cases x.allow<;>rfl
   have HLV:Hid (dF (xs.take (k+1)) (vals++[tv])=dF (xs.take k) vals):=by show _=_;rw[HTX.out,HSN.out,Qo hn]
   by_cases htv:tv=1
   ·subst htv;have HE:Hid (r=(x.allow,q+1)):=by show _=_;rw[HRE.out,HML.out,Qo hn,Qo rfl];rfl
    clear hn hal HRE HML HNU HSN HTX hwh HNU2 HLV;go_wp2_with fail;apply W1.mono;rintro e w1 ⟨rfl,hb2⟩;clear W1 c0 c1 c2 c3 c4 c5 c6 c7 c8 c9;have HB2:=Hi (hB1.trans (hb2.mono hB1.size));have hz2':=(hb2.block _ (be hz1')).trans hz1';obtain⟨⟨z0,z1,z2,z3,z4,z5,z6,z7,z8,z9⟩,zf⟩:=dI hz2';obtain⟨⟨v0,v1,v2⟩,vf⟩:=gZ ((hb2.block _ (be hVw1)).trans hVw1);have nz:wr.heap.size≠w.heap.size+1:=by omega
    clear hb1 hB1 hz1' hown1 hTw1 hVw1 hb2 hz2';generalize x.allow=xa at*;go_wp2;refine Qs (v:= .agg #[.bool xa,Iq wh,Iq 0]) (by simp[results,results39,go_sem,v0,v1,v2,vf]) rfl ?_
    exact⟨by rw[HE.out,HWH.out];rfl,((HB2.out.setCell (by simp) _).setCell (by simp) _).setCell (by simp) _⟩
   have t1:(tv==1)=false:=by simpa using htv
   have HRE2:Hid (r=(fR xs fl L (xs.drop (k+1)) (vals++[tv]) (q+1)).getD (false,0)):=by show _=_;rw[HRE.out,HML.out,Qo hn,Qj htv]
   clear hn hal HRE HML HNU HSN HTX hwh htv hal2;go_wp2_with fail;apply W1.mono;rintro e w1 ⟨rfl,hb2⟩;clear W1 c0 c1 c2 c3 c4 c5 c6 c7 c8 c9;have HB2:=Hi (hB1.trans (hb2.mono hB1.size));have hz2':=(hb2.block _ (be hz1')).trans hz1';have HT2:=Hi ((hb2.block _ (be hTw1)).trans hTw1);have HV2:=Hi ((hb2.block _ (be hVw1)).trans hVw1);have hown2:=cD hown1 hb2;have hs2:=QV hSw (QV hb1.size hb2.size);obtain⟨⟨z0,z1,z2,z3,z4,z5,z6,z7,z8,z9⟩,zf⟩:=dI hz2';clear hb1 hB1 hz1' hown1 hTw1 hVw1 hb2 hz2';go_wp2;go_roundw
   case rel=>exact⟨k+1,_,by omega,by simp,⟨vals++[tv],nl,q+1,HNX.out,HRE2.out,HNU2.out,HIT3.out,by rw[HLV.out];exact hown2,by omega⟩,HB2.out,HT2.out,HV2.out,hs2⟩
   case measure=>simp[intOf];omega
  have hke:k=ys.length:=by omega
  subst hke;obtain⟨vals,nl,q,hA,hre,hnu,hit,hown,hqk⟩:=HR.out;have HE:Hid (r=(false,0)):=by
   show _=_;rw[hre,QG (by rw[hlen.out];exact Qn _)];rfl
  obtain⟨⟨v0,v1,v2⟩,vf⟩:=gZ hVw;have HB:=Hi hbw;clear hA hre hnu hit hown hbw hTw hVw HR;go_wp2;refine Qs (v:= .agg #[.bool false,Iq 0,Iq 0]) (by simp[results,results39,go_sem,v0,v1,v2,vf]) rfl ?_
  exact⟨by rw[HE.out];rfl,((HB.out.setCell (by simp) _).setCell (by simp) _).setCell (by simp) _⟩
end
section
attribute [local go_sem ↓] Go.wp_at_zero Go.wp_at_succ
variable {w w' b o cs z base v ys}
theorem jh {B b a} (z:B<=b):∀vs o {w},Below B a w->Below B a (w.setCells b o vs)
 |[],_,_,h=>h
 |v::r,o,w,h=>jh z r (o+1) (h.setCell (by simpa using z) v)
theorem kU (h:w.there b o n) (D:Bl w w'):w'.there b o n:=λj E=>by
 have z:=h j E;have G:b<w.heap.size:=by
  obtain⟨v,I⟩:=Option.isSome_iff_exists.1 z.1;exact Qk w _ I
 have e:=D.block b G;exact⟨by rw[Qz e];exact z.1,by rw[Re e];exact z.2⟩
theorem BK {w:World} (h:w.heap[b]?=some (.cells cs t (0,0))):w.there b 0 cs.size:=λj z=>by
 rw[QO];exact⟨by rw[Qm w b j _ _ _ h];simp[z],by simp[World.frozen?,h]⟩
theorem uu {mv} (e) (s) (w) (h1:dc lv s.levels w) (h2:dc mv s.members w):
 Calls prog 40 #[xN e,lh lv mv s] w λen w'=>en= .returned (LO (dz e s))/\Bl w w':=by
 unfold xN lh;obtain⟨z,D,O,R,wh⟩:=e;obtain⟨G,E,I,J⟩:=s;simp only[] at*;have ab:Bl w (((w.alloc (.cells #[S z,S D,Iq O,Iq R,Iq wh] 46)).alloc (.cells #[lv,Iq E,mv,.bool J] 50)).alloc (.cells #[Iq 0,Iq 0,Iq 0,Iq 0,Iq 0,Iq 0,Iq 0,Iq 0,Iq 0] 114)):=(((Qq _ _).alloc (Qn _) _).alloc (by simp) _).alloc (by simp;omega) _
 have ac:(((w.alloc (.cells #[S z,S D,Iq O,Iq R,Iq wh] 46)).alloc (.cells #[lv,Iq E,mv,.bool J] 50)).alloc (.cells #[Iq 0,Iq 0,Iq 0,Iq 0,Iq 0,Iq 0,Iq 0,Iq 0,Iq 0] 114)).heap[w.heap.size]?=some (.cells #[S z,S D,Iq O,Iq R,Iq wh] 46 (0,0)):=by rw[Qu _ _ _ (by simp;omega),Qu _ _ _ (by simp)];exact Qp w _
 have ad:(((w.alloc (.cells #[S z,S D,Iq O,Iq R,Iq wh] 46)).alloc (.cells #[lv,Iq E,mv,.bool J] 50)).alloc (.cells #[Iq 0,Iq 0,Iq 0,Iq 0,Iq 0,Iq 0,Iq 0,Iq 0,Iq 0] 114)).heap[w.heap.size+1]?=some (.cells #[lv,Iq E,mv,.bool J] 50 (0,0)):=by
  rw[Qu _ _ _ (by simp)]
  have e:=Qp (w.alloc (.cells #[S z,S D,Iq O,Iq R,Iq wh] 46)) (.cells #[lv,Iq E,mv,.bool J] 50);rw[Qw] at e;exact e
 have ae:(((w.alloc (.cells #[S z,S D,Iq O,Iq R,Iq wh] 46)).alloc (.cells #[lv,Iq E,mv,.bool J] 50)).alloc (.cells #[Iq 0,Iq 0,Iq 0,Iq 0,Iq 0,Iq 0,Iq 0,Iq 0,Iq 0] 114)).heap[w.heap.size+1+1]?=some (.cells #[Iq 0,Iq 0,Iq 0,Iq 0,Iq 0,Iq 0,Iq 0,Iq 0,Iq 0] 114 (0,0)):=by
  have e:=Qp ((w.alloc (.cells #[S z,S D,Iq O,Iq R,Iq wh] 46)).alloc (.cells #[lv,Iq E,mv,.bool J] 50)) (.cells #[Iq 0,Iq 0,Iq 0,Iq 0,Iq 0,Iq 0,Iq 0,Iq 0,Iq 0] 114);rw[Qw,Qw] at e;exact e
 have H0:=Hi (And.intro ab (And.intro ac (And.intro ad ae)));have WL:∀(u:LB) (W:World),Bl w W->Calls prog 79 #[.agg #[lv,Iq E,mv,.bool J],S u] W λe w'=>e= .returned (Iq (dQ E G u))/\Bl W w':=λu W hb=>Dr u W (h1.below hb)
 have WI:∀(u:LB) (W:World),Bl w W->Calls prog 80 #[.agg #[lv,Iq E,mv,.bool J],S u] W λe w'=>e= .returned (Iq (dM I u))/\Bl W w':=λu W hb=>xM u W (h2.below hb)
 have WK:=λW=>ue O W
 have WT:=λb W=>gQ b W
 have KP:Hid (∀W Z,(Bl w W/\W.cell? ⟨w.heap.size,0,none⟩=some (S z)/\W.cell? ⟨w.heap.size,1,none⟩=some (S D)/\W.cell? ⟨w.heap.size,2,none⟩=some (Iq O)/\W.cell? ⟨w.heap.size,3,none⟩=some (Iq R)/\W.cell? ⟨w.heap.size,4,none⟩=some (Iq wh)/\W.cell? ⟨w.heap.size+1,0,none⟩=some (lv)/\W.cell? ⟨w.heap.size+1,1,none⟩=some (Iq E)/\W.cell? ⟨w.heap.size+1,2,none⟩=some (mv)/\W.cell? ⟨w.heap.size+1,3,none⟩=some (.bool J)/\W.there (w.heap.size+1+1) 0 9)->Bl W Z->(Bl w Z/\Z.cell? ⟨w.heap.size,0,none⟩=some (S z)/\Z.cell? ⟨w.heap.size,1,none⟩=some (S D)/\Z.cell? ⟨w.heap.size,2,none⟩=some (Iq O)/\Z.cell? ⟨w.heap.size,3,none⟩=some (Iq R)/\Z.cell? ⟨w.heap.size,4,none⟩=some (Iq wh)/\Z.cell? ⟨w.heap.size+1,0,none⟩=some (lv)/\Z.cell? ⟨w.heap.size+1,1,none⟩=some (Iq E)/\Z.cell? ⟨w.heap.size+1,2,none⟩=some (mv)/\Z.cell? ⟨w.heap.size+1,3,none⟩=some (.bool J)/\Z.there (w.heap.size+1+1) 0 9)):=λW Z hS hb=>by
  obtain⟨aa,a0,a1,a2,a3,a4,a5,a6,a7,a8,tt⟩:=hS;refine⟨aa.trans (hb.mono aa.size),?_,?_,?_,?_,?_,?_,?_,?_,?_,?_⟩
  all_goals first
   |(rw[hb.cell (Qk W _ (by assumption))];assumption)
   |exact kU tt hb
 have KD:Hid (∀W:World,(Bl w W/\Cq W w.heap.size 0 (S z)/\Cq W w.heap.size 1 (S D)/\Cq W w.heap.size 2 (Iq O)/\Cq W w.heap.size 3 (Iq R)/\Cq W w.heap.size 4 (Iq wh)/\Cq W (w.heap.size+1) 0 (lv)/\Cq W (w.heap.size+1) 1 (Iq E)/\Cq W (w.heap.size+1) 2 (mv)/\Cq W (w.heap.size+1) 3 (.bool J)/\W.there (w.heap.size+1+1) 0 9)->(Bl w W.drew/\Cq W.drew w.heap.size 0 (S z)/\Cq W.drew w.heap.size 1 (S D)/\Cq W.drew w.heap.size 2 (Iq O)/\Cq W.drew w.heap.size 3 (Iq R)/\Cq W.drew w.heap.size 4 (Iq wh)/\Cq W.drew (w.heap.size+1) 0 (lv)/\Cq W.drew (w.heap.size+1) 1 (Iq E)/\Cq W.drew (w.heap.size+1) 2 (mv)/\Cq W.drew (w.heap.size+1) 3 (.bool J)/\W.drew.there (w.heap.size+1+1) 0 9)):=λW hS=>by
  obtain⟨aa,a0,a1,a2,a3,a4,a5,a6,a7,a8,tt⟩:=hS;exact⟨aa.drew,a0,a1,a2,a3,a4,a5,a6,a7,a8,tt⟩
 have KS:Hid (∀W vs,(Bl w W/\Cq W w.heap.size 0 (S z)/\Cq W w.heap.size 1 (S D)/\Cq W w.heap.size 2 (Iq O)/\Cq W w.heap.size 3 (Iq R)/\Cq W w.heap.size 4 (Iq wh)/\Cq W (w.heap.size+1) 0 (lv)/\Cq W (w.heap.size+1) 1 (Iq E)/\Cq W (w.heap.size+1) 2 (mv)/\Cq W (w.heap.size+1) 3 (.bool J)/\W.there (w.heap.size+1+1) 0 9)->(Bl w (W.setCells (w.heap.size+1+1) 0 vs)/\(W.setCells (w.heap.size+1+1) 0 vs).cell? ⟨w.heap.size,0,none⟩=some (S z)/\(W.setCells (w.heap.size+1+1) 0 vs).cell? ⟨w.heap.size,1,none⟩=some (S D)/\(W.setCells (w.heap.size+1+1) 0 vs).cell? ⟨w.heap.size,2,none⟩=some (Iq O)/\(W.setCells (w.heap.size+1+1) 0 vs).cell? ⟨w.heap.size,3,none⟩=some (Iq R)/\(W.setCells (w.heap.size+1+1) 0 vs).cell? ⟨w.heap.size,4,none⟩=some (Iq wh)/\(W.setCells (w.heap.size+1+1) 0 vs).cell? ⟨w.heap.size+1,0,none⟩=some (lv)/\(W.setCells (w.heap.size+1+1) 0 vs).cell? ⟨w.heap.size+1,1,none⟩=some (Iq E)/\(W.setCells (w.heap.size+1+1) 0 vs).cell? ⟨w.heap.size+1,2,none⟩=some (mv)/\(W.setCells (w.heap.size+1+1) 0 vs).cell? ⟨w.heap.size+1,3,none⟩=some (.bool J)/\(W.setCells (w.heap.size+1+1) 0 vs).there (w.heap.size+1+1) 0 9)):=λW vs hS=>by
  obtain⟨aa,a0,a1,a2,a3,a4,a5,a6,a7,a8,tt⟩:=hS;refine⟨jh (by omega) _ _ aa,?_,?_,?_,?_,?_,?_,?_,?_,?_,?_⟩
  all_goals first
   |(rw[SM _ _ _ _ _ (λh=>by exfalso;dsimp only at h;omega)];assumption)
   |exact World.there_setCells tt _ _ _
 have HF:Hid (dz ⟨z,D,O,R,wh⟩ ⟨G,E,I,J⟩=[dQ E G z,dQ E G D,R,wh,dM I z,dM I D,eZ O,cT (z==D),cT J]):=rfl;go_enter func40,ntmps40;go_wp2_with fail;obtain⟨ab,ac,ad,ae⟩:=H0.out;generalize (((w.alloc (.cells #[S z,S D,Iq O,Iq R,Iq wh] 46)).alloc (.cells #[lv,Iq E,mv,.bool J] 50)).alloc (.cells #[Iq 0,Iq 0,Iq 0,Iq 0,Iq 0,Iq 0,Iq 0,Iq 0,Iq 0] 114))=Y at*;have ai:(Bl w Y/\Y.cell? ⟨w.heap.size,0,none⟩=some (S z)/\Y.cell? ⟨w.heap.size,1,none⟩=some (S D)/\Y.cell? ⟨w.heap.size,2,none⟩=some (Iq O)/\Y.cell? ⟨w.heap.size,3,none⟩=some (Iq R)/\Y.cell? ⟨w.heap.size,4,none⟩=some (Iq wh)/\Y.cell? ⟨w.heap.size+1,0,none⟩=some (lv)/\Y.cell? ⟨w.heap.size+1,1,none⟩=some (Iq E)/\Y.cell? ⟨w.heap.size+1,2,none⟩=some (mv)/\Y.cell? ⟨w.heap.size+1,3,none⟩=some (.bool J)/\Y.there (w.heap.size+1+1) 0 9):=by
  refine⟨ab,?_,?_,?_,?_,?_,?_,?_,?_,?_,?_⟩
  all_goals first|(rw[Qm Y w.heap.size _ _ _ _ ac];rfl)|(rw[Qm Y (w.heap.size+1) _ _ _ _ ad];rfl)|exact BK ae
 have af:[Value.int .i64 (dQ E G z),Value.int .i64 (dQ E G D),Value.int .i64 R,Value.int .i64 wh,Value.int .i64 (dM I z),Value.int .i64 (dM I D),Value.int .i64 (eZ O),Value.int .i64 (cT (z==D)),Value.int .i64 (cT J)].length=9:=rfl;have ah:∀v∈[Value.int .i64 (dQ E G z),Value.int .i64 (dQ E G D),Value.int .i64 R,Value.int .i64 wh,Value.int .i64 (dM I z),Value.int .i64 (dM I D),Value.int .i64 (eZ O),Value.int .i64 (cT (z==D)),Value.int .i64 (cT J)],v.oneCell'=true:=by
  intro v hv;simp only[Ra,RQ,Tn] at hv;rcases hv with rfl|rfl|rfl|rfl|rfl|rfl|rfl|rfl|rfl<;>rfl
 have an:Option.map (λx=>x.size) (prog.info? 114)=some 9:=by kernel_rfl
 go_region_held3 (λw'=>(Bl w w'/\Cq w' w.heap.size 0 (S z)/\Cq w' w.heap.size 1 (S D)/\Cq w' w.heap.size 2 (Iq O)/\Cq w' w.heap.size 3 (Iq R)/\Cq w' w.heap.size 4 (Iq wh)/\Cq w' (w.heap.size+1) 0 (lv)/\Cq w' (w.heap.size+1) 1 (Iq E)/\Cq w' (w.heap.size+1) 2 (mv)/\Cq w' (w.heap.size+1) 3 (.bool J)/\w'.there (w.heap.size+1+1) 0 9)) (first|with_reducible exact KD.out _ (by assumption)|with_reducible exact KP.out _ _ (by assumption) (by assumption)|with_reducible exact KS.out _ _ (by assumption)|with_reducible assumption|go_keep)
  (first
   |(go_at_call 79;refine(WL _ _ (by exact SL (by assumption))).mono ?_;rintro e U ⟨rfl,ag⟩)
   |(go_at_call 80;refine(WI _ _ (by exact SL (by assumption))).mono ?_;rintro e U ⟨rfl,ag⟩)
   |(go_at_call 81;refine(WK _).mono ?_;rintro e U ⟨rfl,rfl⟩)
   |(go_at_call 82;refine(WT _ _).mono ?_;rintro e U ⟨rfl,rfl⟩))
 rename_i W1 B1 W2 B2 W3 B3 hHeld;have aj:Y.drew.there (w.heap.size+1+1) 0 9:=λj hj=>ai.2.2.2.2.2.2.2.2.2.2 j hj
 have ht:=kU (kU (kU (kU aj B1) B2) B3) ag;have V:=Si (w.heap.size+1+1) [Value.int .i64 (dQ E G z),Value.int .i64 (dQ E G D),Value.int .i64 R,Value.int .i64 wh,Value.int .i64 (dM I z),Value.int .i64 (dM I D),Value.int .i64 (eZ O),Value.int .i64 (cT (z==D)),Value.int .i64 (cT J)] 0 U (λj hj=>by
  exact(ht j (by rw[af] at hj;exact hj)).1)
 have ak:∀j,j<9->(U.setCells (w.heap.size+1+1) 0 [Value.int .i64 (dQ E G z),Value.int .i64 (dQ E G D),Value.int .i64 R,Value.int .i64 wh,Value.int .i64 (dM I z),Value.int .i64 (dM I D),Value.int .i64 (eZ O),Value.int .i64 (cT (z==D)),Value.int .i64 (cT J)]).frozen? ⟨w.heap.size+1+1,j,none⟩=false:=λj hj=>by
  have:=hHeld.2.2.2.2.2.2.2.2.2.2 j hj;rw[QO] at this;exact this.2
 have am:=hHeld.1;have r0:=V 0 (by simp)
 have r1:=V 1 (by simp)
 have r2:=V 2 (by simp)
 have r3:=V 3 (by simp)
 have r4:=V 4 (by simp)
 have r5:=V 5 (by simp)
 have r6:=V 6 (by simp)
 have r7:=V 7 (by simp)
 have r8:=V 8 (by simp)
 have HN:=Hi (And.intro am ak);generalize (U.setCells (w.heap.size+1+1) 0 [Value.int .i64 (dQ E G z),Value.int .i64 (dQ E G D),Value.int .i64 R,Value.int .i64 wh,Value.int .i64 (dM I z),Value.int .i64 (dM I D),Value.int .i64 (eZ O),Value.int .i64 (cT (z==D)),Value.int .i64 (cT J)])=wf at r0 r1 r2 r3 r4 r5 r6 r7 r8 HN⊢;generalize dQ E G z=y0 at r0 HF⊢;generalize dQ E G D=y1 at r1 HF⊢;generalize dM I z=y4 at r4 HF⊢;generalize dM I D=y5 at r5 HF⊢;generalize eZ O=y6 at r6 HF⊢;generalize cT (z==D)=y7 at r7 HF⊢;generalize cT J=y8 at r8 HF⊢;go_wp2;refine Qs (v:= .agg #[Iq y0,Iq y1,Iq R,Iq wh,Iq y4,Iq y5,Iq y6,Iq y7,Iq y8]) (by simp[results,results40,go_sem,r0,r1,r2,r3,r4,r5,r6,r7,r8]) rfl ?_
 exact⟨by rw[HF.out];rfl,HN.out.1⟩
def wN (w:World) (G st:Array Value):World:=((w.alloc (.cells G 46 (0,0))).alloc (.cells st 50 (0,0))).alloc (.cells #[.bool false,Iq 0,Iq 0] 40 (0,0))
theorem BL (w:World) (z st:Array Value):Bl w (wN w z st)/\(wN w z st).heap[w.heap.size]?=some (.cells z 46 (0,0))/\(wN w z st).heap[w.heap.size+1]?=some (.cells st 50 (0,0))/\(wN w z st).heap[w.heap.size+1+1]?=some (.cells #[.bool false,Iq 0,Iq 0] 40 (0,0)):=by
 refine⟨(((Qq _ _).alloc (Qn _) _).alloc (by simp) _).alloc (by simp;omega) _,?_,?_,?_⟩
 ·unfold wN;rw[Qu _ _ _ (by simp;omega),Qu _ _ _ (by simp)];exact Qp w _
 ·unfold wN;rw[Qu _ _ _ (by simp)]
  have e:=Qp (w.alloc (.cells z 46 (0,0))) (.cells st 50 (0,0));rw[Qw] at e;exact e
 have e:=Qp ((w.alloc (.cells z 46 (0,0))).alloc (.cells st 50 (0,0))) (.cells #[.bool false,Iq 0,Iq 0] 40 (0,0));rw[Qw,Qw] at e;exact e
theorem wF.below (h:wF z L xs base v ys w) (D:Bl w w'):wF z L xs base v ys w':=
 ⟨cD h.row D,h.few,h.items.grow D,h.trees,h.parts,h.tokw,h.names,h.types,h.numb,h.many⟩
theorem Hk {mv} (l:LB) (e) (s) (w) (hW:Wd w) (hm:l.length<=maxLen) (h1:dc lv s.levels w) (h2:dc mv s.members w) (hF:fy (dz e s)):
 Calls prog 18 #[S l,xN e,lh lv mv s] w λen w'=>en= .returned (.tuple #[Hf (ng l (dz e s)),Iq (cF l).1.1])/\Bl w w':=by
 have HR:=λW h=>qh l W (Wd.below hW h) hm
 have HK:Hid ((cF l).1.1=0->lr (cF l).2.1 (cF l).2.2):=rm l;have HX:Hid (ng l (dz e s)=if(cF l).1.1=0 then(fR (cF l).2.2 (dz e s) (cF l).2.1 (cF l).2.2 [] 0).getD (false,0) else(false,0)):=rfl;have Y:=λW hb=>uu e s W (h1.below hb) (h2.below hb)
 have HF:Hid (fy (dz e s)):=hF;have ah:Hid (Hf=λr=> .agg #[.bool r.1,Iq r.2,Iq 0]):=rfl
 have hb:=jf l;generalize dz e s=fl at*;generalize ng l fl=r at*;generalize (cF l).1.1=n at*;generalize (cF l).1.2=k at*;generalize (cF l).2.1=L at*;generalize (cF l).2.2=xs at*;unfold xN lh at*;obtain⟨sn,tg,wa,nd,wh⟩:=e;obtain⟨ls,df,ms,op⟩:=s;simp only[] at*;have H0:=Hi (BL w #[S sn,S tg,Iq wa,Iq nd,Iq wh] #[lv,Iq df,mv,.bool op]);unfold wN at H0;go_enter func18,ntmps18;go_wp2_with fail;obtain⟨I,Z,aa,ab⟩:=H0.out;generalize (((w.alloc (.cells #[S sn,S tg,Iq wa,Iq nd,Iq wh] 46 (0,0))).alloc (.cells #[lv,Iq df,mv,.bool op] 50 (0,0))).alloc (.cells #[.bool false,Iq 0,Iq 0] 40 (0,0)))=wz at*;apply(HR _ I).mono;rintro en z ⟨U,v,rfl,hv⟩;have J:=I.trans (U.mono I.size);have D:=(U.block _ (be Z)).trans Z;have E:=(U.block _ (be aa)).trans aa;have R:=(U.block _ (be ab)).trans ab;by_cases V:n=0
 ·obtain⟨bs,ys,an,hP⟩:=hv V;have hk:=HK.out V;have ac:Hid (r=(fR xs fl L xs [] 0).getD (false,0)):=by show _=_;rw[HX.out,Qo V]
  subst V;have W1:=Y z J;have W2:∀W,Bl z W->Calls prog 39 #[v,LO fl] W λe w'=>e= .returned (Hf ((fR xs fl L xs [] 0).getD (false,0)))/\Bl W w':=λW hW=>Hj (hP.below hW) hk HF.out
  rw[<-ac.out,ah.out] at W2;have e0:=Qm z w.heap.size 0 _ _ _ D;have e1:=Qm z w.heap.size 1 _ _ _ D;have e2:=Qm z w.heap.size 2 _ _ _ D;have e3:=Qm z w.heap.size 3 _ _ _ D;have e4:=Qm z w.heap.size 4 _ _ _ D;have s0:=Qm z (w.heap.size+1) 0 _ _ _ E;have s1:=Qm z (w.heap.size+1) 1 _ _ _ E;have s2:=Qm z (w.heap.size+1) 2 _ _ _ E;have s3:=Qm z (w.heap.size+1) 3 _ _ _ E;simp only[Qx,Qy,Qv] at e0 e1 e2 e3 e4 s0 s1 s2 s3;have ad:=Hi R;have O:=Hi J;go_wp2_with fail;apply W1.mono;rintro en w2 ⟨rfl,G⟩;have W3:=W2 w2 G;generalize LO fl=fv at*;go_wp2_with fail;apply W3.mono;rintro en w3 ⟨rfl,ae⟩;have af:=O.out.trans ((G.trans (ae.mono G.size)).mono O.out.size);have ag:=((G.trans (ae.mono G.size)).block _ (be ad.out)).trans ad.out;obtain⟨⟨v0,v1,v2⟩,vf⟩:=gZ ag;have ai:=Hi af;obtain⟨ra,rn⟩:=r;simp only[] at*;go_wp2;refine Qs (v:= .tuple #[.agg #[.bool ra,Iq rn,Iq 0],Iq 0]) (by simp[results,results18,go_sem,v0,v1,v2,vf]) rfl ?_
  exact⟨rfl,((ai.out.setCell (by simp;omega) _).setCell (by simp;omega) _).setCell (by simp;omega) _⟩
 have x1:(n==0)=false:=by
  have: ¬n=0:=by omega
  simpa using this
 have x2:(n !=0)=true:=by
  have: ¬n=0:=by omega
  simpa using this
 have ac:Hid (r=(false,0)):=by show _=_;rw[HX.out,Qj V]
 obtain⟨⟨v0,v1,v2⟩,vf⟩:=gZ R;have O:=Hi J;go_wp2;refine Qs (v:= .tuple #[.agg #[.bool false,Iq 0,Iq 0],Iq n]) (by simp[results,results18,go_sem,v0,v1,v2,vf]) rfl ?_
 exact⟨by rw[ac.out];rfl,((O.out.setCell (by simp;omega) _).setCell (by simp;omega) _).setCell (by simp;omega) _⟩
end
end Go.Proofs.YtfkdailfcmnjlaaGreatDoor
