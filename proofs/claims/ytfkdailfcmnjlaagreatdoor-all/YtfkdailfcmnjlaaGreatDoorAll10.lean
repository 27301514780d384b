/-
  A part.
-/
import Derived.Test.YtfkdailfcmnjlaaGreatDoorAll09
set_option linter.all false
set_option maxHeartbeats 40000000
set_option maxRecDepth 1000000
namespace Go.Proofs.YtfkdailfcmnjlaaGreatDoor
section
open Go Go.RowKit Tryz
attribute [local go_sem ↓] Go.wp_at_zero Go.wp_at_succ
variable {B rb gl cl ts s w w' D base v n ys R U G cs e F I J s' xs x iv o1 o2 ps pv W E a b c wr}
theorem Gk:(prog.info? 95).map (λi=>(i.zero,i.size,i.bytes))=some (some (.agg #[.string ⟨#[]⟩,.bool false,Iq 0,Iq 0,Iq 0,Iq 0]),6,56):=by kernel_rfl
structure JG (L) (xs:List dw):Prop where
 ahead:xZ L
 top:∀x∈xs,x.top<L.length
 parts:∀x∈xs,x.parts<=L.length
 fine:dt xs L xs 0 0=none-> ∀j (hj:j<xs.length),∃Good:Nat->Prop,Gd xs j L Good/\Good xs[j].top
structure vz (F) (ts) (R) (rb gl cl) (w:World) (s) (xs) (iv) (wr):Prop where
 rs:RS w.heap.size rb gl cl ts s wr
 good:s.bad=false
 nums:eV s
 below:Below w.heap.size w wr
 res:wr.heap[w.heap.size]?=some (qv (.slice none 0 0) (.slice none 0 0))
 pol:wr.heap[w.heap.size+1]?=some (qv iv (.slice none 0 0))
 row:wr.ownsRow w.heap.size 95 6 iv xs.length (fC xs)
 few:xs.length<=s.i
 rest:∃g,dH F ts g s.i (s.ps.map cL) xs=some R
 apart:rb≠w.heap.size/\rb≠w.heap.size+1
 empty:xs=[]->iv= .slice none 0 0
theorem RS.types (h:RS B rb gl cl ts s w) (E:∀(k:Nat) cs e,w.heap[k]?=some (.cells cs e (0,0))->e≠95->e≠90->w'.heap[k]?=w.heap[k]?):RS B rb gl cl ts s w':=by
 refine⟨?_,?_,?_,?_,h.hb,h.hi,h.hn,h.fin,h.few⟩
 ·rw[E _ _ _ h.rd (by decide) (by decide)];exact h.rd
 ·refine cM h.words λk D=>?_
  obtain⟨z,G⟩:=cK h.words D;exact E k z _ G (by decide) (by decide)
 ·refine cM h.parts λk D=>?_
  obtain⟨z,G⟩:=cK h.parts D;exact E k z _ G (by decide) (by decide)
 intro p U;exact(h.subs p U).of λk z D=>E k z _ D (by decide) (by decide)
theorem Fr.under (h:RS B rb gl cl ts s w) (z:Fr rb s.pv D w w') (E:B<=w.heap.size):Below B w w':=
 ⟨z.os,z.tape,z.output,z.size,λk G=>z.block k (by omega) (by have:=h.hb;omega) (λe=>by have:=(h.parts.lt k e.symm).1;omega)⟩
theorem Fr.row {s s':St} (h:RS B rb gl cl ts s w) (E:Fr rb s.pv s'.pv w w') (D:w.ownsRow base 95 6 v n ys):w'.ownsRow base 95 6 v n ys:=by
 refine cM D λk G=>?_
 obtain⟨cs,z⟩:=cK D G;refine E.block k (be z) (λe=>?_) (k9 h z (by simp))
 subst e;rw[h.rd] at z;simp at z
theorem xG (w:World) (o) (x):∀j u,[S x.name,.bool x.allow,Iq x.top,Iq x.pl,Iq x.named,Iq x.parts][j]?=some u->((w.alloc o).alloc (gD x)).cell? ((⟨w.heap.size+1,0,none⟩:Addr).add j)=some u:=by
 have h:=World.news_of_block (by have e:=Qp (w.alloc o) (gD x);rw[Qw] at e;exact e)
 intro j u z;exact h j u (by simpa using z)
theorem PU (x:dw):∀u∈[S x.name,.bool x.allow,Iq x.top,Iq x.pl,Iq x.named,Iq x.parts],u.oneCell'=true:=by
 intro u z;simp at z;rcases z with rfl|rfl|rfl|rfl|rfl|rfl<;>rfl
theorem rQ {w w':World} (V:w.ownsRow base 95 6 G n ys) (Y:((w.alloc R).alloc U).grownBy w' G.ownBlock) {k:Nat} (z:w.heap[k]?=some (.cells cs e (0,0))) (Z:e≠95):w'.heap[k]?=some (.cells cs e (0,0)):=by
 rw[Y.block k (by have:=be z;simp;omega) (λe'=>by obtain⟨ac,D⟩:=cK V e'.symm;rw[z] at D;simp at D;exact Z D.2),Qu _ _ _ (by have:=be z;simp;omega),Qu _ _ _ (be z)]
 exact z
theorem E8 (h5:RS w.heap.size rb gl cl ts s' I) (good:s'.bad=false) (aa:eV s') (Z:Bl w I)
 (O:I.heap[w.heap.size]?=some (qv (.slice none 0 0) (.slice none 0 0))) (E:I.heap[w.heap.size+1]?=some (qv iv (.slice none 0 0))) (z:I.ownsRow w.heap.size 95 6 iv xs.length (fC xs))
 (U:((I.alloc o1).alloc o2).grownBy J iv.ownBlock) (V:J.ownsRow w.heap.size 95 6 v (xs.length+1) (fC xs++[S x.name,.bool x.allow,Iq x.top,Iq x.pl,Iq x.named,Iq x.parts]))
 (ab:xs.length+1<=s'.i) (rest:∃g,dH F ts g s'.i (s'.ps.map cL) (xs++[x])=some R) (apart:rb≠w.heap.size/\rb≠w.heap.size+1):
 vz F ts R rb gl cl w s' (xs++[x]) v (J.setCell ⟨w.heap.size+1,0,none⟩ v):=by
 have G:=rQ z U E (by decide)
 have ac:=Z.size;refine⟨?_,good,aa,?_,?_,?_,?_,by simpa using ab,rest,apart,by simp⟩
 ·refine h5.types λk cs e D h1 Y=>?_
  rw[Qr _ _ _ _ (λhh=>by simp at hh;subst hh;rw[E] at D;simp at D;exact Y D.2.symm),rQ z U D h1,D]
 ·exact(Tz ((Z.alloc (by omega) _).alloc (by simp;omega) _) U (by simp;omega) (λj hj=>(z.lt _ hj).1)).setCell (by simp) _
 ·rw[Qr _ _ _ _ (by simp)];exact rQ z U O (by decide)
 ·rw[QB J _ 0 _ _ _ G];simp
 have Y:J.ownsRow w.heap.size 95 6 v (xs++[x]).length (fC (xs++[x])):=by rw[xE];simpa using V
 refine cM Y λk D=>Qr _ _ _ _ λe=>?_
 simp at e;subst e;obtain⟨cs,hc⟩:=cK Y D;rw[G] at hc;simp at hc
structure zm (w) (xs) (ps) (iv pv) (W):Prop where
 below:Below w.heap.size w W
 res:W.heap[w.heap.size]?=some (qv (.slice none 0 0) (.slice none 0 0))
 pol:W.heap[w.heap.size+1]?=some (qv iv pv)
 items:fV w.heap.size iv xs W
 row:W.ownsRow w.heap.size 169 5 pv ps.length (eI ps)
 subs:∀p∈ps,k7 W p
 few:ps.length<=1001
theorem zm.next (h:zm w xs ps D pv W) (z:Bl W E):zm w xs ps D pv E:=
 ⟨h.below.trans (z.mono h.below.size),by rw[z.block _ (be h.res)];exact h.res,by rw[z.block _ (be h.pol)];exact h.pol,h.items.below z,cD h.row z,λp G=>(h.subs p G).of λk _ I=>z.block k (be I),h.few⟩
theorem zm.cells {w xs ps z pv W} (h:zm w xs ps z pv W):
 (Cq W w.heap.size 0 (.slice none 0 0)/\Cq W w.heap.size 1 (.slice none 0 0)/\Cq W (w.heap.size+1) 0 z/\Cq W (w.heap.size+1) 1 pv)/\(∀j,W.frozen? ⟨w.heap.size,j,none⟩=false):=by
 have D:=λj=>Qm W w.heap.size j _ _ _ h.res
 have E:=λj=>Qm W (w.heap.size+1) j _ _ _ h.pol
 exact⟨⟨D 0,D 1,E 0,E 1⟩,λj=>by simp[World.frozen?,h.res]⟩
theorem zm.out (h:zm w xs ps (.slice a b c) (.slice E G I) W) (Y:∀p∈ps,p.n=iC p.tok):
 lN 0 0 (ps.map cL) xs w (.returned (.tuple #[.agg #[.slice a b c,.slice E G I],Iq (0:Nat),Iq (0:Nat)])) ((W.setCell ⟨w.heap.size,0,none⟩ (.slice a b c)).setCell ⟨w.heap.size,1,none⟩ (.slice E G I)):=by
 have D:∀(k:Nat) (cs:Array Value) (e:TypeId),W.heap[k]?=some (.cells cs e (0,0))->e≠90->((W.setCell ⟨w.heap.size,0,none⟩ (.slice a b c)).setCell ⟨w.heap.size,1,none⟩ (.slice E G I)).heap[k]?=W.heap[k]?:=λk cs e z Z=>by
  have J:k≠w.heap.size:=λhh=>by subst hh;rw[h.res] at z;simp at z;exact Z z.2.symm
  rw[Qr _ _ _ _ J,Qr _ _ _ _ J]
 refine⟨(h.below.setCell (Qn _) _).setCell (Qn _) _,_,_,rfl,⟨_,_,_,rfl⟩,⟨_,_,_,rfl⟩,λe=>absurd rfl e,λ_=>⟨⟨?_,h.items.few⟩,ps,?_,?_,h.few,Y,rfl⟩⟩
 ·refine cM h.items.row λk z=>?_
  obtain⟨cs,O⟩:=cK h.items.row z;exact D k cs _ O (by decide)
 ·refine cM h.row λk z=>?_
  obtain⟨cs,O⟩:=cK h.row z;exact D k cs _ O (by decide)
 intro p hp;exact(h.subs p hp).of λk cs z=>D k cs _ z (by decide)
theorem vz.held (z:vz F ts R rb gl cl w s xs I wr):zm w xs s.ps I s.pv ((wr.setCell ⟨w.heap.size+1,1,none⟩ s.pv).drew):=by
 have E:∀(k:Nat) (cs:Array Value) (e:TypeId),wr.heap[k]?=some (.cells cs e (0,0))->e≠90->((wr.setCell ⟨w.heap.size+1,1,none⟩ s.pv).drew).heap[k]?=wr.heap[k]?:=λk cs e D O=>Qr _ _ _ _ λJ=>by
  simp at J;subst J;rw[z.pol] at D;simp at D;exact O D.2.symm
 have V:=z.rs.hi;have Y:=z.rs.hn;have Z:=z.rs.few;refine⟨(z.below.setCell (by simp) _).drew,?_,?_,⟨?_,by have:=z.few;omega⟩,?_,?_,by omega⟩
 ·show(wr.setCell ⟨w.heap.size+1,1,none⟩ s.pv).heap[w.heap.size]?=_;rw[Qr _ _ _ _ (by simp)];exact z.res
 ·show(wr.setCell ⟨w.heap.size+1,1,none⟩ s.pv).heap[w.heap.size+1]?=_;rw[QB wr _ 1 _ _ _ z.pol];simp
 ·refine cM z.row λk D=>?_
  obtain⟨cs,G⟩:=cK z.row D;exact E k cs _ G (by decide)
 ·refine cM z.rs.parts λk D=>?_
  obtain⟨cs,G⟩:=cK z.rs.parts D;exact E k cs _ G (by decide)
 intro p U;exact(z.rs.subs p U).of λk cs D=>E k cs _ D (by decide)
theorem C8 (l:LB) (w) (hl:l.length<=1000) (ts) (hx:kP (l.length+1) l 0=(ts,none)) (hts:∀t∈ts,lE t) (hn:0<ts.length/\ts.length<=1001) (hfin:∀i,i+1=ts.length->(ts.getD i ik).k=101)
 (F g) (R) (hR:dH F ts g 0 [] []=some R) (hF:R.ok=true->JG R.L R.xs) (hmono:∀i L r,iF F ts i L=some r->r.ok=true->i<r.i):
 Calls prog 33 #[S l] w (lN (di ts R).1 (di ts R).2 R.L R.xs w):=by
 obtain⟨i0,hi,hz0,hz1,hz2⟩:=Ry Gk;obtain⟨hB0,hR0,hP0⟩:=E7 w (qv (.slice none 0 0) (.slice none 0 0)) (qv (.slice none 0 0) (.slice none 0 0));have HL:=Hi hx;have HH:=Hi (And.intro hB0 (And.intro hR0 hP0));have HR:=Hi hR;have HF:=Hi hF;have HM:=Hi hmono;clear hx hB0 hR0 hP0 hR hF hmono;go_enter func33,ntmps33;go_wp2_with fail;apply(yl l _ hl).mono;rintro e w1 ⟨hb1,hans⟩;rw[HL.out] at hans;simp only at hans;obtain⟨gl,cl,rfl,hown⟩:=hans;obtain⟨hB0,hR0,hP0⟩:=HH.out;have hs0:((w.alloc (qv (.slice none 0 0) (.slice none 0 0))).alloc (qv (.slice none 0 0) (.slice none 0 0))).heap.size=w.heap.size+2:=by simp
 have hs1:=hb1.size;rw[hs0] at hs1;have hstart:vz F ts R w1.heap.size gl cl w ⟨0,.slice none 0 0,[],false⟩ [] (.slice none 0 0) (w1.alloc (.cells #[Sq gl ts.length cl,Iq 0,.slice none 0 0,.bool false] 149)):=by
  have hB1:=hB0.trans (hb1.mono hB0.size);refine⟨⟨Qp w1 _,?_,QX _ _ _ _,by simp,by omega,hn.1,hn.2,hfin,Qn _⟩,rfl,by intro p hp;simp at hp,hB1.alloc (by omega) _,?_,?_,QX _ _ _ _,Qn _,⟨g,HR.out⟩,by omega,λ_=>rfl⟩
  ·exact lM (hown.alloc _) (by rw[hs0];omega)
  ·rw[Qu _ _ _ (by omega),hb1.block _ (be hR0)];exact hR0
  rw[Qu _ _ _ (by omega),hb1.block _ (be hP0)];exact hP0
 have HS:=Hi hstart;clear hstart hown hb1 hB0 hR0 hP0 HH hs0 HL;go_wp2;go_loopw [9] (λ_ wr=> ∃(s:St) (xs:List dw) (iv:Value),vz F ts R w1.heap.size gl cl w s xs iv wr) (λ_ wr=>ts.length - PI w1.heap.size wr)
 case atStart=>exact⟨_,_,_,HS.out⟩
 case round=>
  obtain⟨s,xs,iv,ha⟩:=hrel;generalize hrb:w1.heap.size=rb at*;clear hrb HS;have h:=ha.rs;obtain⟨c0,c1,c2,c3⟩:=h.cells;obtain⟨k0,k1,k2⟩:=gG h;have hii:=h.hi;have b1:(0:Int)<=(s.i:Int):=by omega
  have b2:(s.i:Int)<(ts.length:Int):=by omega
  go_wp2_with fail;go_region_held (λw'=>w'.cell? ⟨rb,0,none⟩=some (Sq gl ts.length cl)/\w'.cell? ⟨rb,1,none⟩=some (Iq s.i)/\w'.cell? ⟨gl,s.i*3,none⟩=some (.int .u8 (cq ts s.i).k)/\w'.cell? ⟨gl,s.i*3+1,none⟩=some (S (cq ts s.i).text)/\w'.cell? ⟨gl,s.i*3+2,none⟩=some (Iq (cq ts s.i).pl)) (go_keep) (fail)
  rename_i hHeld;clear hHeld;have hd:Bl wr wr.drew:=(Qq _ _).drew;have hsz:=ha.below.size;clear c0 c1 c2 c3 k0 k1 k2;by_cases hk:(cq ts s.i).k=101
  ·have hk1:(((cq ts s.i).k:Int) !=101)=false:=by simp;omega
   obtain⟨g0,hg0⟩:=ha.rest;have hRR:=nt hg0 hk;have hH:=ha.held;have HRR:=Hi hRR;have HFA:Hid (JG (s.ps.map cL) xs):=by have:=HF.out (by rw[hRR]);rw[hRR] at this;exact this
   have HNU:=Hi ha.nums;obtain⟨pa,pc,hpv⟩:=h.pv_form;obtain⟨c0,c1,c2,c3⟩:=h.cells;have p1:=Qm wr (w.heap.size+1) 1 _ _ _ ha.pol;have pf:wr.frozen? ⟨w.heap.size+1,1,none⟩=false:=by simp[World.frozen?,ha.pol]
   simp only[Qx,Qy,Qv] at p1;rw[hpv] at c2 hH;obtain⟨⟨r0,r1,x0,x1⟩,rf⟩:=hH.cells;simp only[World.cell?_drew,World.frozen?_drew] at r0 r1 x0 x1 rf;clear hk hg0 hRR;have hHH:=Hi hH;clear hH;rcases ha.held.items.form with⟨hiv,hx0⟩|⟨gi,ci,hiv⟩
   ·
     subst hiv;have hxs:=TA.1 hx0;go_wp2_with fail;apply(Gh _ _ _ _).mono;rintro e w5 ⟨rfl,hb5⟩;have hH5:=hHH.out.next hb5;obtain⟨⟨r0,r1,x0,x1⟩,rf⟩:=hH5.cells;go_wp2_with fail;apply(C6 _ _ _ _).mono;rintro e w6 ⟨rfl,hb6⟩;have hH6:=hH5.next hb6;obtain⟨⟨r0,r1,x0,x1⟩,rf⟩:=hH6.cells;go_wp2_with fail;apply(C7 _ _ _ _).mono;rintro e w7 ⟨rfl,hb7⟩;have hH7:=hH6.next hb7;obtain⟨⟨r0,r1,x0,x1⟩,rf⟩:=hH7.cells;have hV:Hid (di ts R=(0,0)/\R.L=s.ps.map cL/\R.xs=xs):=by rw[HRR.out,hxs];exact⟨rfl,rfl,rfl⟩
     go_wp2;exact Qs (v:= .tuple #[.agg #[.slice none 0 0,.slice pa s.ps.length pc],Iq 0,Iq 0]) (by simp[results,results33,go_sem,cY,cN,eY,r0,r1]) rfl (by rw[hV.out.1,hV.out.2.1,hV.out.2.2];exact hH7.out HNU.out)
   have hxs:xs≠[]:=λe=>by have:=ha.empty e;rw[hiv] at this;simp at this
   have hxl:=List.length_pos_iff.2 hxs;have hps:0<s.ps.length:=by
    have:=HFA.out.top xs[0] (QD hxl);simp at this;omega
   obtain⟨gp,cp,hpv2,_,_⟩:=ha.held.row.form hps;rw[hpv] at hpv2;subst hiv;have hpa:pa=some ⟨gp,0,none⟩/\pc=cp:=by simp at hpv2;exact hpv2
   obtain⟨rfl,rfl⟩:=hpa;have hfa:=HFA.out;have HTOP:Hid (∀x∈xs,x.top<s.ps.length):=λx hx=>by simpa using hfa.top x hx
   have HPAR:Hid (∀x∈xs,x.parts<=s.ps.length):=λx hx=>by simpa using hfa.parts x hx
   have HAHD:=Hi hfa.ahead;have HFIN:Hid (dt xs (s.ps.map cL) xs 0 0=none-> ∀j (hj:j<xs.length),∃Good:Nat->Prop,Gd xs j (s.ps.map cL) Good/\Good xs[j].top):=hfa.fine;clear hfa hpv2 HFA;have hPI:=λ(W:World) (hW:zm w xs s.ps (Sq gi xs.length ci) (Sq gp s.ps.length pc) W)=>(⟨hW.row,hW.subs,hW.few⟩:eR w.heap.size gp pc s.ps W)
   have HPI:=Hi hPI;have hpfew:=ha.held.few;clear hPI;go_wp2_with fail;apply(JB hHH.out.items (HPI.out _ hHH.out) HAHD.out HTOP.out (λx hx=>QV (HPAR.out x hx) hpfew)).mono
   rintro e w5 ⟨rfl,hb5⟩;have hH5:=hHH.out.next hb5;obtain⟨⟨r0,r1,x0,x1⟩,rf⟩:=hH5.cells;cases hmany:fz (s.ps.map cL) xs 0 0 with
   |some p=>
    have hV:Hid (di ts R=(4,p)):=by show _=_;rw[HRR.out];simp[di,hmany]
    unfold j6;clear hmany;go_wp2;exact Qs (v:= .tuple #[.agg #[.slice none 0 0,.slice none 0 0],Iq 4,Iq p]) (by simp[results,results33,go_sem,cY,cN,eY,r0,r1]) rfl (by rw[hV.out];exact pS (n:=4) (k:=p) (by decide) ((hH5.below.setCell (p:=⟨w.heap.size,0,none⟩) (Qn _) _).setCell (p:=⟨w.heap.size,1,none⟩) (Qn _) _))
   |none=>
    have HMA:=Hi hmany;unfold j6;clear hmany;go_wp2_with fail;apply(Gc hH5.items (HPI.out _ hH5) HPAR.out).mono;rintro e w6 ⟨rfl,hb6⟩;have hH6:=hH5.next hb6;obtain⟨⟨r0,r1,x0,x1⟩,rf⟩:=hH6.cells;cases hnames:dt xs (s.ps.map cL) xs 0 0 with
    |some p=>
     have hV:Hid (di ts R=(5,p)):=by show _=_;rw[HRR.out];simp[di,HMA.out,hnames]
     unfold j6;clear hnames;go_wp2;exact Qs (v:= .tuple #[.agg #[.slice none 0 0,.slice none 0 0],Iq 5,Iq p]) (by simp[results,results33,go_sem,cY,cN,eY,r0,r1]) rfl (by rw[hV.out];exact pS (n:=5) (k:=p) (by decide) ((hH6.below.setCell (p:=⟨w.heap.size,0,none⟩) (Qn _) _).setCell (p:=⟨w.heap.size,1,none⟩) (Qn _) _))
    |none=>
     have HNA:=Hi hnames;unfold j6;clear hnames;go_wp2_with fail;apply(Gg hH6.items (HPI.out _ hH6) hH6.below.size HAHD.out HTOP.out (HFIN.out HNA.out)).mono;rintro e w7 ⟨rfl,hb7⟩;have hH7:=hH6.next hb7;obtain⟨⟨r0,r1,x0,x1⟩,rf⟩:=hH7.cells;cases htypes:dP xs (s.ps.map cL) xs [] with
     |some p=>
      have hV:Hid (di ts R=(6,p)):=by show _=_;rw[HRR.out];simp[di,HMA.out,HNA.out,htypes]
      unfold j6;clear htypes;go_wp2;exact Qs (v:= .tuple #[.agg #[.slice none 0 0,.slice none 0 0],Iq 6,Iq p]) (by simp[results,results33,go_sem,cY,cN,eY,r0,r1]) rfl (by rw[hV.out];exact pS (n:=6) (k:=p) (by decide) ((hH7.below.setCell (p:=⟨w.heap.size,0,none⟩) (Qn _) _).setCell (p:=⟨w.heap.size,1,none⟩) (Qn _) _))
     |none=>
      have hV:Hid (di ts R=(0,0)/\R.L=s.ps.map cL/\R.xs=xs):=by rw[HRR.out];exact⟨by simp[di,HMA.out,HNA.out,htypes],rfl,rfl⟩
      unfold j6;clear htypes;go_wp2;exact Qs (v:= .tuple #[.agg #[Sq gi xs.length ci,Sq gp s.ps.length pc],Iq 0,Iq 0]) (by simp[results,results33,go_sem,cY,cN,eY,r0,r1]) rfl (by rw[hV.out.1,hV.out.2.1,hV.out.2.2];exact hH7.out HNU.out)
  have hk1:(((cq ts s.i).k:Int) !=101)=true:=by simp;omega
  obtain⟨g0,hg0⟩:=ha.rest;obtain⟨r,g',hitem,hres⟩:=YtfkdailfcmnjlaaGreatDoor.u9 hg0 hk;have HRES:=Hi hres;clear hg0 hres hk;go_wp2_with fail;apply(JA (h.below hd) hts (by simp;omega) ha.good ha.nums hitem).mono
  rintro e w5 ⟨s',x,rfl,h5,F5,gr,ii,st⟩;have hB5:Bl w w5:=(ha.below.trans (hd.mono hsz)).trans (F5.under (h.below hd) (by simp;omega))
  have hres5:=F5.far (by exact ha.res) (by omega) (k9 (h.below hd) (by exact ha.res) (by simp))
  have hpol5:=F5.far (by exact ha.pol) (by omega) (k9 (h.below hd) (by exact ha.pol) (by simp))
  have hrow5:=F5.row (h.below hd) (cD ha.row hd);have hst:=Hi st;have II:=Hi ii;clear st ii F5;have ap:=ha.apart;have hfew:=ha.few;unfold vt;rcases hst.out with⟨ok,good,nums,hL,hxe⟩|⟨bk,bad⟩
  ·have hnext:Hid (∃g,dH F ts g s'.i (s'.ps.map cL) (xs++[x])=some R):=by
    rcases HRES.out with⟨_,hh⟩|⟨hh,_⟩
    ·exact⟨g',by rw[II.out,hL,hxe];exact hh⟩
    rw[ok] at hh;simp at hh
   have hlt:=HM.out _ _ _ hitem ok;have hlt2:s.i<s'.i:=by rw[II.out];exact hlt
   obtain⟨c0,c1,c2,c3⟩:=h5.cells;rw[good] at c3;have p0:=Qm w5 (w.heap.size+1) 0 _ _ _ hpol5;have lp:=be hpol5;have lrb:=Qk _ _ c0;simp only[Qx,Qy,Qv] at p0;simp only at lrb;have h5i:=h5.hi;have HG:=Hi good;have HN:=Hi nums;clear hst HRES hL hxe hitem hlt c0 c1 c2 good nums;have pfz:∀W:World,W.heap[w.heap.size+1]?=some (qv iv (.slice none 0 0))->(Cq W (w.heap.size+1) 0 iv/\W.frozen? ⟨w.heap.size+1,0,none⟩=false):=λW hW=>⟨Qm W _ 0 _ _ _ hW,by simp[World.frozen?,hW]⟩
   have HPF:=Hi pfz;clear pfz;go_wp2_with (
    at_builtin;go_must (refine wpList_append_lies _ (by rfl) _ _ 87 (by rfl) w.heap.size 95 i0 (.agg #[.string ⟨#[]⟩,.bool false,Iq 0,Iq 0,Iq 0,Iq 0]) 6 56 underlying87 hi hz0 hz1 hz2 (by rfl) (by decide) _ _ _ (by rfl) ((hrow5.alloc _).alloc _) ⟨w5.heap.size+1,0,none⟩ 1 1 [S x.name,.bool x.allow,Iq x.top,Iq x.pl,Iq x.named,Iq x.parts] (by rfl) (by rfl) (xG _ _ x) (PU x) (by decide) (by unfold maxLen;omega) (by omega) (by simp;omega) _ rfl ?_)
    intro gt ct w7 hown7 hgrow7 hat7 hlt7;have hpol7:=rQ hrow5 hgrow7 hpol5 (by decide)
    have hpp:=HPF.out w7 hpol7;obtain⟨pp0,pp1⟩:=hpp)
   go_roundw
   case rel=>exact⟨s',xs++[x],_,E8 h5 HG.out HN.out hB5 hres5 hpol5 hrow5 hgrow7 hown7 (by omega) hnext.out ap⟩
   case measure=>
    rw[zj (E8 h5 HG.out HN.out hB5 hres5 hpol5 hrow5 hgrow7 hown7 (by omega) hnext.out ap).rs,zj h]
    omega
  have hRR:Hid (R=⟨false,r.i,[],[]⟩):=by
   show _=_;rcases HRES.out with⟨hh,_⟩|⟨_,hh⟩
   ·rw[bk] at hh;simp at hh
   exact hh
  have h6:=h5.below ((Qq _ _).alloc (Qn _) (gD x));have hres6:(w5.alloc (gD x)).heap[w.heap.size]?=some (qv (.slice none 0 0) (.slice none 0 0)):=by rw[Qu _ _ _ (be hres5)];exact hres5
  have hB6:Bl w (w5.alloc (gD x)):=hB5.alloc (by have:=hB5.size;omega) _
  have hpl:Hid ((cq ts s'.i).pl=(cq ts r.i).pl):=by show _=_;rw[II.out]
  obtain⟨c0,c1,c2,c3⟩:=h6.cells;obtain⟨k0,k1,k2⟩:=gG h6;rw[bad] at c3;have hi6:=h6.hi;have b3:(0:Int)<=(s'.i:Int):=by omega
  have b4:(s'.i:Int)<(ts.length:Int):=by omega
  have l0:=Qk _ _ c0;have l1:=Qk _ _ k0;have r0:=Qm _ w.heap.size 0 _ _ _ hres6;have r1:=Qm _ w.heap.size 1 _ _ _ hres6;have rf:∀j,(w5.alloc (gD x)).frozen? ⟨w.heap.size,j,none⟩=false:=λj=>by simp[World.frozen?,hres6]
  have ngl:gl≠w.heap.size:=λe=>by
   obtain⟨cs,hc⟩:=cK h6.words (k:=gl) rfl;rw[e,hres6] at hc;simp at hc
  have hneq1:=Rt ngl;have hneq2:=Rt ap.1;simp only[Qx,Qy,Qv] at r0 r1;simp only at l0 l1;have HB6:=Hi hB6;clear hst HRES h5 hres5 hpol5 hrow5 hB5 hB6 h6 c2;go_wp2_with fail;generalize w5.alloc (gD x)=w6 at*;go_region_held3 (λw'=>w'.cell? ⟨rb,0,none⟩=some (Sq gl ts.length cl)/\w'.cell? ⟨rb,1,none⟩=some (Iq s'.i)/\w'.cell? ⟨gl,s'.i*3+2,none⟩=some (Iq (cq ts s'.i).pl))
   (first|go_keep|(simp[*,mJ];done)) (fail)
  have hV:Hid (∀w',Bl w w'->lN (di ts R).1 (di ts R).2 R.L R.xs w (.returned (.tuple #[.agg #[.slice none 0 0,.slice none 0 0],Iq 3,Iq (cq ts s'.i).pl])) w'):=λw' hw=>by
   have e:di ts R=(3,(cq ts s'.i).pl):=by rw[hRR.out,hpl.out];rfl
   rw[e];exact pS (n:=3) (by decide) hw
  go_wp2;exact Qs (v:= .tuple #[.agg #[.slice none 0 0,.slice none 0 0],Iq 3,Iq (cq ts s'.i).pl]) (by simp[results,results33,go_sem,cY,cN,eY,r0,r1]) rfl (hV.out _ ((HB6.out.setCell (p:=⟨w.heap.size,0,none⟩) (Qn _) _).setCell (p:=⟨w.heap.size,1,none⟩) (Qn _) _).drew)
end
variable {a t F ts i L r xs fr g R}
theorem Gl {l:LB} (I:l.length<=1000) (z:a<l.length) (h:fk l a=some t):t.k≠101/\lE t:=by
 have E:=l9 z h;refine⟨?_,by omega,?_⟩
 ·unfold fk at h;rw[Ql z] at h;simp only at h;repeat' split at h
  all_goals first
   |(simp at h;subst h;simp)
   |(simp at h)
 intro G;unfold fk at h;split at h
 ·split at h
  ·simp at h
  rename_i D;simp at h;subst h;refine⟨AK jk l a,?_⟩;unfold big at D;simpa using D
 exfalso;rw[Ql z] at h;simp only at h;repeat' split at h
 all_goals first
  |(simp at h;subst h;simp at G)
  |(simp at h)
theorem zn (l:LB) (O:l.length<=1000) (f):∀a ts,a<=l.length->l.length - a<f->kP f l a=(ts,none)->
 0<ts.length/\ts.length<=l.length - a+1/\(∀t∈ts,lE t)/\(∀i,i+1=ts.length->(ts.getD i ik).k=101)/\(∀i,i+1<ts.length->(ts.getD i ik).k≠101):=by
 induction f with
 |zero=>intro a ts _ h;omega
 |succ f ih=>
  intro a ts R hf h;have h1:=pM kM l a;have h2:=jW kM l a R;rw[kP] at h;by_cases I:l.length<=dm kM l a
  ·rw[Qo I] at h;simp at h;subst h;refine⟨by simp,by simp,?_,?_,?_⟩
   ·intro t J;simp at J;subst J;exact⟨by simp,λe=>by simp at e⟩
   ·intro i z;simp at z;subst z;rfl
   intro i z;simp at z
  rw[Qj I] at h;cases D:fk l (dm kM l a) with
  |none=>rw[D] at h;simp at h
  |some t=>
   rw[D] at h;simp only[QS] at h;obtain⟨rfl,U⟩:=h;have V:=l9 (by omega) D
   have G:=Gl O (by omega) D
   have:=ih (dm kM l a+t.text.length) (kP f l (dm kM l a+t.text.length)).1 (by omega) (by omega) (by rw[<-U])
   obtain⟨r1,r2,Y,Z,r5⟩:=this;refine⟨by simp,by simp;omega,?_,?_,?_⟩
   ·intro u E;simp at E;rcases E with rfl|E
    ·exact G.2
    exact Y u E
   ·intro i z;cases i with
    |zero=>simp only[QH] at z;omega
    |succ i=>simpa using Z i (by simpa using z)
   intro i z;cases i with
   |zero=>simpa using G.1
   |succ i=>simpa using r5 i (by simpa using z)
theorem sV (h:iF F ts i L=some r) (z:r.ok=true):
 i<r.i/\(∃new,r.L=L++new)/\Inv L.length r.L/\L.length<=r.it.top/\r.it.top<r.L.length/\r.it.parts=r.L.length:=by
 have tail:∀j x,i<j->gj F ts j L x=some r->i<r.i/\(∃new,r.L=L++new)/\Inv L.length r.L/\L.length<=r.it.top/\r.it.top<r.L.length/\r.it.parts=r.L.length:=by
  intro j x O I;obtain⟨a,J,D⟩:=vu I;rcases D with⟨E,R,rfl⟩|⟨_,G,_⟩
  ·have k:=yZ F 6 ts j L 0 L.length a J E (Qn _) (λk U V=>by omega) (by omega) (by omega)
   have Y:=k.fwd;exact⟨by simp;omega,k.more,k.inv,k.top.1,k.top.2,rfl⟩
  rw[G] at z;simp at z
 unfold iF at h;split at h
 ·split at h
  ·split at h
   ·exact tail _ _ (by omega) h
   simp[dV] at h;subst h;simp at z
  simp[dV] at h;subst h;simp at z
 split at h
 ·split at h
  ·exact tail _ _ (by omega) h
  simp[dV] at h;subst h;simp at z
 simp[dV] at h;subst h;simp at z
theorem C9 (i) (L) (D:16*ts.length+8<=F):∃r,iF F ts i L=some r:=by
 have tail:∀j x,∃r,gj F ts j L x=some r:=by
  intro j x;obtain⟨a,z⟩:=LW F 6 ts j L 0 (by have:wt 6=8:=rfl;omega) (by omega)
  unfold gj;rw[z];simp only;repeat' split
  all_goals exact⟨_,rfl⟩
 unfold iF;repeat' split
 all_goals first
  |exact tail _ _
  |exact⟨_,rfl⟩
theorem mK (G:16*ts.length+8<=F) (I:∀i,i+1=ts.length->(ts.getD i ik).k=101) (g):∀i L xs,ts.length - i<g-> ∃R,dH F ts g i L xs=some R:=by
 induction g with
 |zero=>intro i L xs h;omega
 |succ g ih=>
  intro i L xs h;rw[dH];by_cases E:(cq ts i).k=101
  ·rw[Qo E];exact⟨_,rfl⟩
  rw[Qj E];obtain⟨r,z⟩:=C9 i L G;rw[z];simp only;by_cases D:r.ok=true
  ·rw[Qo D];have:=(sV z D).1;by_cases Y:i<ts.length
   ·exact ih r.i r.L _ (by omega)
   exfalso;have J:cq ts i=ik:=by unfold cq;rw[Qi,QC (by omega)];rfl
   unfold iF at z;rw[J] at z;have O:eJ ik CJ=false:=by decide
   have U:eJ ik ir=false:=by decide
   have V:eJ ik qA=false:=by decide
   rw[O,U,V] at z;simp[dV] at z;subst z;simp at D
  rw[Qj D];exact⟨_,rfl⟩
def Qf (L:List Pt) (fr to:Nat):Prop:= ∀k,fr<=k->k<to->(L.getD k cz).subs.length<=3/\(∀j∈(L.getD k cz).subs,fr<=j/\j<k)/\ya (L.getD k cz).tok (L.getD k cz).subs.length
def zo (L:List Pt):List dw->Nat->Prop
 |[],fr=>fr=L.length
 |x::r,fr=>fr<=x.top/\x.top<x.parts/\x.parts<=L.length/\Qf L fr x.parts/\zo L r x.parts
theorem zo.snoc (h:zo L xs fr) (new) (x) (E:L.length<=x.top) (G:x.top<x.parts) (h3:x.parts=(L++new).length) (I:Inv L.length (L++new)):zo (L++new) (xs++[x]) fr:=by
 induction xs generalizing fr with
 |nil=>
  have:fr=L.length:=h;subst this;exact⟨E,G,by omega,λk a b=>I k a (by omega),h3⟩
 |cons y r ih=>
  obtain⟨a,b,c,d,e⟩:=h;refine⟨a,b,by simp;omega,?_,ih e⟩
  intro k z D;rw[gF (by omega)]
  exact d k z D
theorem Da (g):∀i L xs R,zo L xs 0->dH F ts g i L xs=some R->R.ok=true->zo R.L R.xs 0:=by
 induction g with
 |zero=>intro i L xs R _ h;rw[dH] at h;simp at h
 |succ g ih=>
  intro i L xs R E h G;by_cases I:(cq ts i).k=101
  ·have:=nt h I;subst this;exact E
  rw[dH,Qj I] at h;cases D:iF F ts i L with
  |none=>rw[D] at h;simp at h
  |some r=>
   rw[D] at h;simp only at h;by_cases z:r.ok=true
   ·rw[Qo z] at h;obtain⟨_,⟨new,e⟩,J,U,V,O⟩:=sV D z;rw[e] at J V O h;exact ih r.i (L++new) (xs++[r.it]) R (E.snoc new r.it U (by omega) O J) h G
   rw[Qj z] at h;simp at h;subst h;simp at G
theorem zo.all (h:zo L xs fr):fr<=L.length/\(∀k,fr<=k->k<L.length->(L.getD k cz).subs.length<=3/\ ∀j∈(L.getD k cz).subs,j<k)/\(∀x∈xs,x.top<L.length/\x.parts<=L.length):=by
 induction xs generalizing fr with
 |nil=>
  have:fr=L.length:=h;subst this;exact⟨Qn _,λk a b=>by omega,by simp⟩
 |cons y r ih=>
  obtain⟨a,b,c,d,e⟩:=h;obtain⟨R,G,I⟩:=ih e;refine⟨by omega,λk D E=>?_,?_⟩
  ·by_cases J:k<y.parts
   ·have:=d k D J;exact⟨this.1,λj O=>(this.2.1 j O).2⟩
   exact G k (by omega) E
  intro x z;simp at z;rcases z with rfl|z
  ·omega
  exact I x z
theorem Db (c):∀k o,dO xs L i c k o=none->o=none/\ ∀q,k<=q->q<k+c->(L.getD q cz).tok.k=111->0<=cX xs (L.getD q cz).tok.text i:=by
 induction c with
 |zero=>intro k o h;exact⟨h,λq z G=>by omega⟩
 |succ c ih=>
  intro k o h;rw[dO] at h;obtain⟨z,G⟩:=ih _ _ h;unfold fK at z;by_cases E:(L.getD k cz).tok.k=111/\cX xs (L.getD k cz).tok.text i<0
  ·rw[Qo E] at z;exfalso;cases o with
   |none=>simp[mU] at z
   |some p=>
    have I:∀m,mU m (some p)≠none:=λm=>by simp only[mU];split<;>simp
    exact I _ z
  rw[Qj E] at z;refine⟨z,λq O R D=>?_⟩
  by_cases e:q=k
  ·subst e;by_cases J:cX xs (L.getD q cz).tok.text i<0
   ·exact absurd ⟨D,J⟩ E
   omega
  exact G q (by omega) (by omega) D
theorem Dc (r):∀fr i,zo L r fr->dt xs L r fr i=none-> ∀j G,∃Good,Gd xs (i+j) L Good/\Good r[j].top:=by
 induction r with
 |nil=>intro fr i _ _ j G;simp at G
 |cons x r ih=>
  intro fr i R D j G;obtain⟨a,b,c,d,e⟩:=R;rw[dt] at D;by_cases J:x.name≠[]/\0<=cX xs x.name i
  ·rw[Qo J] at D;simp at D
  rw[Qj J] at D;have O:dO xs L i (x.parts - fr) fr none=none:=by
   cases U:dO xs L i (x.parts - fr) fr none with
   |none=>rfl
   |some p=>rw[U] at D;simp at D
  rw[O] at D;simp at D;cases j with
  |zero=>
   refine⟨λk=>fr<=k/\k<x.parts,⟨?_,?_,?_,?_⟩,a,b⟩
   ·intro k z q V;have:=(d k z.1 z.2).2.1 q V;omega
   ·intro k z E;exact(Db _ _ _ O).2 k z.1 (by omega) E
   ·intro k z E I h3;exact(d k z.1 z.2).2.2.1 E I h3
   intro k z E I h3;exact(d k z.1 z.2).2.2.2 E I h3
  |succ j=>
   have:=ih x.parts (i+1) e D j (by simpa using G)
   rw[show i+(j+1)=i+1+j from by omega]
   exact this
theorem JH (h:dH F ts g 0 [] []=some R) (E:R.ok=true):JG R.L R.xs:=by
 have D:=Da g 0 [] [] R rfl h E;obtain⟨_,G,h3⟩:=D.all;refine⟨λk I=>G k (QA _) I,λx z=>(h3 x z).1,λx z=>(h3 x z).2,λJ j O=>?_⟩
 have:=Dc R.xs 0 0 D J j O;rw[QO] at this;exact this
section
open Go Go.RowKit Tryz
def oV (ts:List Tok):nY:=(dH (16*ts.length+8) ts (ts.length+1) 0 [] []).getD ⟨false,0,[],[]⟩
def cF (l:List UInt8):(Nat×Nat)×List Pt×List dw:=
 if 1000<l.length then((1,0),[],[])
 else match (kP (l.length+1) l 0).2 with
  |some p=>((2,p),[],[])
  |none=>(di (kP (l.length+1) l 0).1 (oV (kP (l.length+1) l 0).1),(oV (kP (l.length+1) l 0).1).L,(oV (kP (l.length+1) l 0).1).xs)
theorem vA (l) (w) (J:l.length<=maxLen):Calls prog 33 #[S l] w (lN (cF l).1.1 (cF l).1.2 (cF l).2.1 (cF l).2.2 w):=by
 unfold cF
 by_cases D:1000<l.length
 ·rw[Qo D];exact Gi l w D J _ _
 ·rw[Qj D]
  cases G:(kP (l.length+1) l 0).2 with
  |some p=>exact Gj l w (by omega) (kP (l.length+1) l 0).1 p (by rw[<-G]) _ _
  |none=>
   have z:kP (l.length+1) l 0=((kP (l.length+1) l 0).1,none):=by rw[<-G]
   obtain⟨O,Z,U,I,r5⟩:=zn l (by omega) (l.length+1) 0 _ (QA _) (by omega) z
   generalize (kP (l.length+1) l 0).1=ts at*;obtain⟨R,E⟩:=mK (F:=16*ts.length+8) (Qn _) I (ts.length+1) 0 [] [] (by omega)
   have e:oV ts=R:=by unfold oV;rw[E];rfl
   rw[e];exact C8 l w (by omega) ts z U ⟨O,by omega⟩ I _ _ R E (JH E) (λi L r V Y=>(sV V Y).1)
theorem yo (l) (w) (G:l.length<=maxLen):Calls prog 12 #[S l] w λe w'=>e= .returned (.tuple #[Iq (cF l).1.1,Iq (cF l).1.2])/\Below w.heap.size w w':=by
 go_enter func12,ntmps12;go_wp2_with fail;apply(vA l _ G).mono;rintro e O ⟨z,R,pv,rfl,⟨a,b,c,rfl⟩,⟨U,V,Y,rfl⟩,_,_⟩;generalize D:(cF l).1.1=n at*;generalize E:(cF l).1.2=k at*;have I:=Hi D;have J:=Hi E;go_wp2
 go_ret2
 refine⟨?_,z.alloc z.size _⟩;rw[I.out,J.out];rfl
end
section
open Go Go.RowKit Tryz
attribute [local go_sem ↓] Go.wp_at_zero Go.wp_at_succ
variable {x b n base v B c ps}
def dn (a:Int):Prop:= -9223372036854775808<=a/\a<=9223372036854775807
def eW (a:Int):Int:=if 9223372036854775807<a then 9223372036854775807 else if a< -9223372036854775808 then -9223372036854775808 else a
theorem nB (a:Int):dn (eW a):=by unfold eW dn;split;omega;split<;>omega
def cT (b:Bool):Int:=if b then 1 else 0
def eZ (n:Int):Int:=if n<0\/4<n then 0 else n
def od (s:List UInt8) (a b:Int):Int:=
 if s=[43] then eW (a+b) else if s=[45] then eW (a - b) else if s=[61] then cT (a==b) else if s=[60] then cT (decide (a<b)) else if s=[60,61] then cT (decide (a<=b))
 else if s=[111,114] then cT (a==1||b==1) else cT (a==1&&b==1)
theorem wrap64 (h:dn x):IntKind.i64.wrap x=x:=by
 unfold dn at h;simp[IntKind.wrap,IntKind.signed,IntKind.bits];omega
theorem uQ {a b:Int} (h:a=b):Ending.returned (Iq a)= .returned (Iq b):=by rw[h]
theorem JJ (D:dn a) (E:dn b) (w):Calls prog 97 #[Iq a,Iq b] w λe w'=>e= .returned (Iq (eW (a+b)))/\w'=w:=by
 unfold dn at D E;have q:0<b->IntKind.i64.wrap (9223372036854775807 - b)=9223372036854775807 - b:=λh=>wrap64 (by unfold dn;omega)
 have z:b<0->IntKind.i64.wrap (-9223372036854775808 - b)= -9223372036854775808 - b:=λh=>wrap64 (by unfold dn;omega)
 by_cases G:0<b<;>by_cases I:b<0<;>by_cases A:dn (a+b)
 all_goals
  try replace q:=q G
  try replace z:=z I
  try have J:=wrap64 A
  unfold dn at A;go_enter func97,ntmps97;go_wp2
  all_goals
   go_ret;refine⟨uQ ?_,rfl⟩;unfold eW
   (repeat' split)<;>omega
theorem Gm (D:dn a) (E:dn b) (w):Calls prog 98 #[Iq a,Iq b] w λe w'=>e= .returned (Iq (eW (a - b)))/\w'=w:=by
 unfold dn at D E;have q:b<0->IntKind.i64.wrap (9223372036854775807+b)=9223372036854775807+b:=λh=>wrap64 (by unfold dn;omega)
 have z:0<b->IntKind.i64.wrap (-9223372036854775808+b)= -9223372036854775808+b:=λh=>wrap64 (by unfold dn;omega)
 by_cases G:b<0<;>by_cases I:0<b<;>by_cases A:dn (a - b)
 all_goals
  try replace q:=q G
  try replace z:=z I
  try have J:=wrap64 A
  unfold dn at A;go_enter func98,ntmps98;go_wp2
  all_goals
   go_ret;refine⟨uQ ?_,rfl⟩;unfold eW
   (repeat' split)<;>omega
theorem sW (b) (w):Calls prog 86 #[.bool b] w λe w'=>e= .returned (Iq (cT b))/\w'=w:=by
 cases b
 all_goals
  go_enter func86,ntmps86;go_wp2;go_ret;exact⟨rfl,rfl⟩
theorem yp (q:dn n) (w):Calls prog 85 #[Iq n] w λe w'=>e= .returned (Iq (eZ n))/\w'=w:=by
 unfold dn at q;go_enter func85,ntmps85;go_wp2
 all_goals
  go_ret;refine⟨uQ ?_,rfl⟩;unfold eZ
  split<;>omega
theorem zp (s) {a b:Int} (q:dn a) (z:dn b) (w):Calls prog 51 #[S s,Iq a,Iq b] w λe w'=>e= .returned (Iq (od s a b))/\w'=w:=by
 have D:=JJ q z w;have E:=Gm q z w;have G:=λb=>sW b w
 go_enter func51,ntmps51;go_wp2_with fail
 all_goals
  first
  |(go_at_call 97;refine D.mono ?_)
  |(go_at_call 98;refine E.mono ?_)
  |(go_at_call 86;refine(G _).mono ?_)
  rintro e w' ⟨rfl,A⟩;obtain rfl:=A.symm;go_wp2_with fail;go_ret;refine⟨uQ ?_,rfl⟩
  simp_all [od]<;>(rename_i h;rw[Sh.2 h];rfl)
theorem gQ (b) (w):Calls prog 82 #[.bool b] w λe w'=>e= .returned (Iq (cT b))/\w'=w:=by
 cases b
 all_goals
  go_enter func82,ntmps82;go_wp2;go_ret;exact⟨rfl,rfl⟩
theorem ue (n) (w):Calls prog 81 #[Iq n] w λe w'=>e= .returned (Iq (eZ n))/\w'=w:=by
 by_cases D:n<0
 ·have z:Hid (eZ n=0):=by show _=_;unfold eZ;rw[Qo (.inl D)]
  go_enter func81,ntmps81;go_wp2;go_ret;exact⟨by rw[z.out];rfl,rfl⟩
 ·by_cases E:4<n
  ·have z:Hid (eZ n=0):=by show _=_;unfold eZ;rw[Qo (.inr E)]
   go_enter func81,ntmps81;go_wp2;go_ret;exact⟨by rw[z.out];rfl,rfl⟩
  ·have z:Hid (eZ n=n):=by show _=_;unfold eZ;rw[Qj (by omega)]
   go_enter func81,ntmps81;go_wp2;go_ret;exact⟨by rw[z.out];rfl,rfl⟩
theorem vB (a b) (w):Calls prog 166 #[Iq a,Iq b] w λe w'=>e= .returned (Iq (cT (a==b)))/\w'=w:=by
 have z:=λw=>gQ (a==b) w
 generalize D:cT (a==b)=r at*;go_enter func166,ntmps166;go_wp2_with fail;apply(z _).mono;rintro e E ⟨rfl,rfl⟩;go_wp2;go_ret;exact⟨rfl,rfl⟩
theorem yq (a b) (w):Calls prog 167 #[Iq a,Iq b] w λe w'=>e= .returned (Iq (cT (decide (a<b))))/\w'=w:=by
 have z:=λw=>gQ (decide (a<b)) w
 generalize D:cT (decide (a<b))=r at*;go_enter func167,ntmps167;go_wp2_with fail;apply(z _).mono;rintro e E ⟨rfl,rfl⟩;go_wp2;go_ret;exact⟨rfl,rfl⟩
theorem ug (a b) (w):Calls prog 168 #[Iq a,Iq b] w λe w'=>e= .returned (Iq (cT (decide (a<=b))))/\w'=w:=by
 have z:=λw=>gQ (decide (a<=b)) w
 generalize D:cT (decide (a<=b))=r at*;go_enter func168,ntmps168;go_wp2_with fail;apply(z _).mono;rintro e E ⟨rfl,rfl⟩;go_wp2;go_ret;exact⟨rfl,rfl⟩
theorem A0 (a b) (w):Calls prog 169 #[Iq a,Iq b] w λe w'=>e= .returned (Iq (cT (a==1&&b==1)))/\w'=w:=by
 have z:=λw b=>gQ b w
 cases D:(a==1)
 all_goals
  cases E:(b==1)
 all_goals
  go_enter func169,ntmps169;go_wp2_with fail;apply(z _ _).mono;rintro e G ⟨rfl,rfl⟩;go_wp2;go_ret;exact⟨rfl,rfl⟩
theorem E9 (a b) (w):Calls prog 170 #[Iq a,Iq b] w λe w'=>e= .returned (Iq (cT (a==1||b==1)))/\w'=w:=by
 have z:=λw b=>gQ b w
 cases D:(a==1)
 all_goals
  cases E:(b==1)
 all_goals
  go_enter func170,ntmps170;go_wp2_with fail;apply(z _ _).mono;rintro e G ⟨rfl,rfl⟩;go_wp2;go_ret;exact⟨rfl,rfl⟩
theorem A1 (D:a=0\/a=1) (w):Calls prog 125 #[Iq a] w λe w'=>e= .returned (Iq (1 - a))/\w'=w:=by
 have z:=λw b=>gQ b w
 rcases D with rfl|rfl
 all_goals
  go_enter func125,ntmps125;go_wp2_with fail;apply(z _ _).mono;rintro e E ⟨rfl,rfl⟩;go_wp2;go_ret;exact⟨rfl,rfl⟩
theorem yr {x:Int} (h:9223372036854775807<x) (z:x<=18446744073709551615):IntKind.i64.wrap x=x - 18446744073709551616:=by
 simp[IntKind.wrap,IntKind.signed,IntKind.bits];omega
theorem vC {x:Int} (h:x< -9223372036854775808) (z: -18446744073709551616<=x):IntKind.i64.wrap x=x+18446744073709551616:=by
 simp[IntKind.wrap,IntKind.signed,IntKind.bits];omega
theorem A2 (I:dn a) (J:dn b) (w):Calls prog 164 #[Iq a,Iq b] w λe w'=>e= .returned (Iq (eW (a+b)))/\w'=w:=by
 unfold dn at I J
 by_cases D:9223372036854775807<a+b
 ·have z:Hid (eW (a+b)=9223372036854775807):=by show _=_;unfold eW;rw[Qo D]
  have G:=yr D (by omega)
  have a1:0<=a:=by omega
  have a2:0<=b:=by omega
  have a3:a+b - 18446744073709551616<0:=by omega
  go_enter func164,ntmps164;go_wp2;go_ret;exact⟨by rw[z.out];rfl,rfl⟩
 ·by_cases E:a+b< -9223372036854775808
  ·have z:Hid (eW (a+b)= -9223372036854775808):=by show _=_;unfold eW;rw[Qj D,Qo E]
   have G:=vC E (by omega)
   have a1:a<0:=by omega
   have a2:b<0:=by omega
   have a3:0<=a+b+18446744073709551616:=by omega
   go_enter func164,ntmps164;go_wp2;go_ret;exact⟨by rw[z.out];rfl,rfl⟩
  ·have z:Hid (eW (a+b)=a+b):=by show _=_;unfold eW;rw[Qj D,Qj E]
   have G:=wrap64 (by unfold dn;omega)
   by_cases a1:0<=a
   ·by_cases a2:0<=b
    ·have _h:=0
     go_enter func164,ntmps164;go_wp2;go_ret;exact⟨by rw[z.out];rfl,rfl⟩
    ·have _h:=0
     go_enter func164,ntmps164;go_wp2;go_ret;exact⟨by rw[z.out];rfl,rfl⟩
   ·by_cases a2:0<=b
    ·have _h:=0
     go_enter func164,ntmps164;go_wp2;go_ret;exact⟨by rw[z.out];rfl,rfl⟩
    ·have _h:=0
     go_enter func164,ntmps164;go_wp2;go_ret;exact⟨by rw[z.out];rfl,rfl⟩
theorem A3 (I:dn a) (J:dn b) (w):Calls prog 165 #[Iq a,Iq b] w λe w'=>e= .returned (Iq (eW (a - b)))/\w'=w:=by
 unfold dn at I J
 by_cases D:9223372036854775807<a - b
 ·have z:Hid (eW (a - b)=9223372036854775807):=by show _=_;unfold eW;rw[Qo D]
  have G:=yr D (by omega)
  have a1:0<=a:=by omega
  have a2:b<0:=by omega
  have a3:a - b - 18446744073709551616<0:=by omega
  go_enter func165,ntmps165;go_wp2;go_ret;exact⟨by rw[z.out];rfl,rfl⟩
 ·by_cases E:a - b< -9223372036854775808
  ·have z:Hid (eW (a - b)= -9223372036854775808):=by show _=_;unfold eW;rw[Qj D,Qo E]
   have G:=vC E (by omega)
   have a1:a<0:=by omega
   have a2:0<=b:=by omega
   have a3:0<=a - b+18446744073709551616:=by omega
   go_enter func165,ntmps165;go_wp2;go_ret;exact⟨by rw[z.out];rfl,rfl⟩
  ·have z:Hid (eW (a - b)=a - b):=by show _=_;unfold eW;rw[Qj D,Qj E]
   have G:=wrap64 (by unfold dn;omega)
   by_cases a1:0<=a
   ·by_cases a2:0<=b
    ·have _h:=0
     go_enter func165,ntmps165;go_wp2;go_ret;exact⟨by rw[z.out];rfl,rfl⟩
    ·have _h:=0
     go_enter func165,ntmps165;go_wp2;go_ret;exact⟨by rw[z.out];rfl,rfl⟩
   ·by_cases a2:0<=b
    ·have _h:=0
     go_enter func165,ntmps165;go_wp2;go_ret;exact⟨by rw[z.out];rfl,rfl⟩
    ·have _h:=0
     go_enter func165,ntmps165;go_wp2;go_ret;exact⟨by rw[z.out];rfl,rfl⟩
theorem JK (c:Nat) (E:c<256) (w:World):(convert 155 9 (Sq w.heap.size 1 1)).run prog (w.alloc (.cells #[.int .u8 c] 5))= .ok (S [UInt8.ofNat c]) (w.alloc (.cells #[.int .u8 c] 5)):=by
 refine Sn (w.alloc (.cells #[.int .u8 (c:Int)] 5)) 155 9 5 ⟨w.heap.size,0,none⟩ 1 [UInt8.ofNat c] underlying155 underlying5 underlying9 λj D=>?_
 have z:j=0:=by simp at D;omega
 subst z;have e:(UInt8.ofNat c).toNat=c:=by rw[R1];omega
 simp[Addr.add,e]
theorem Gn (c:Nat) (E:c<256) (W) (g) (h:Cq W g 0 (.int .u8 c)):(convert 155 9 (Sq g 1 1)).run prog W= .ok (S [UInt8.ofNat c]) W:=by
 refine Sn W 155 9 5 ⟨g,0,none⟩ 1 [UInt8.ofNat c] underlying155 underlying5 underlying9 λj D=>?_
 have z:j=0:=by simp at D;omega
 subst z;have e:(UInt8.ofNat c).toNat=c:=by rw[R1];omega
 simp[Addr.add,e,h]
theorem fw (a b:List UInt8):(ByteArray.mk a.toArray++ByteArray.mk b.toArray)=ByteArray.mk (a++b).toArray:=by
 apply TN
 simp
theorem wrap_small {x:Int} (z:0<=x) (D:x<=9223372036854775807):IntKind.i64.wrap x=x:=by
 simp[IntKind.wrap,IntKind.signed,IntKind.bits];omega
theorem Gp {x:Int} (z:0<=x) (D:x<=255):IntKind.u8.wrap x=x:=by
 simp[IntKind.wrap,IntKind.signed,IntKind.bits];omega
theorem JL (f):∀(n:Nat) w,n<10^f->n<=9223372036854775807->0<f->f<=30->Calls prog 69 #[Iq n] w λe w'=>e= .returned (S (ko f n))/\Below w.heap.size w w':=by
 induction f with
 |zero=>intro n w _ _ h;omega
 |succ f ih=>
  intro n w D hm _ hf
  by_cases h:n<10
  ·have G:Hid (ko (f+1) n=[UInt8.ofNat (48+n)]):=by show _=_;rw[ko,Qo h]
   generalize ko (f+1) n=r at*;have E:=JK (48+n) (by omega) w
   have z:=(Qq w.heap.size w).alloc (Qn _) (.cells #[.int .u8 ((48+n:Nat):Int)] 5);rw[show((48+n:Nat):Int)=48+(n:Int) from by omega] at E z
   generalize UInt8.ofNat (48+n)=d at*;go_enter func69,ntmps69;go_wp2;go_ret;exact⟨by rw[G.out];rfl,z⟩
  ·have G:Hid (ko (f+1) n=ko f (n / 10)++[UInt8.ofNat (48+n %10)]):=by show _=_;rw[ko,Qj h]
   generalize ko (f+1) n=r at*;have I:0<f:=by
    rcases Tm f with rfl|R
    ·simp at D;omega
    ·exact R
   rw[Tl] at D;have U:=λw=>ih (n / 10) w (by omega) (by omega) I (by omega)
   have hl:=yc f (n / 10);have E:∀(W:World) (g:Nat),W.cell? ⟨g,0,none⟩=some (.int .u8 (48+((n %10:Nat):Int)))->(convert 155 9 (Sq g 1 1)).run prog W= .ok (S [UInt8.ofNat (48+n %10)]) W:=λW g J=>by
    rw[show 48+((n %10:Nat):Int)=((48+n %10:Nat):Int) from by omega] at J
    exact Gn (48+n %10) (by omega) W g J
   have hq:IntKind.i64.wrap ((n:Int) / 10)=((n / 10:Nat):Int):=by
    rw[show(n:Int) / 10=((n / 10:Nat):Int) from by omega]
    exact wrap_small (by omega) (by omega)
   have ht:(n:Int).tmod 10=((n %10:Nat):Int):=by
    rw[Tk (by omega)];omega
   have Y:n %10<10:=by omega
   have Z:IntKind.i64.wrap (48+((n %10:Nat):Int))=48+((n %10:Nat):Int):=wrap_small (by omega) (by omega)
   have aa:IntKind.u8.wrap (48+((n %10:Nat):Int))=48+((n %10:Nat):Int):=Gp (by omega) (by omega)
   generalize UInt8.ofNat (48+n %10)=d at*;generalize n %10=m at*;generalize ko f (n / 10)=t at*;generalize n / 10=q at*;have ab: ¬9223372036854775807<t.length+1:=by omega
   go_enter func69,ntmps69;go_wp2_with fail
   go_region_with ((go_at_call 69;refine(U _).mono ?_;rintro e V ⟨rfl,z⟩;try (have ac:V.cell? ⟨w.heap.size,0,none⟩=some (.int .u8 (48+(m:Int))):=by rw[z.cell (by simp)];simp)))
   all_goals go_wp2_with fail
   all_goals go_ret
   all_goals refine⟨by rw[G.out];exact RK (λs=>Ending.returned (Value.string s)) (fw t [d]),?_⟩
   all_goals have O:Below w.heap.size w (w.alloc (.cells #[.int .u8 (48+(m:Int))] 5)):=(Qq _ _).alloc (Qn _) _
   all_goals first
    |exact O.drew.trans (z.mono (by simp))
    |exact((Qq _ _).drew.trans z).alloc (by have:=z.size;simpa using this) _
theorem Gq:(prog.info? 9).map (λi=>(i.zero,i.size,i.bytes))=some (some (.string ⟨#[]⟩),1,16):=by kernel_rfl
theorem JM {w:World} {l:List Nat} {F:Nat->List UInt8} (h:w.ownsRow base 9 1 v l.length (l.map λi=>S (F i))):∃a cap,v= .slice a l.length cap/\ ∀j,j<l.length-> ∃g,a=some ⟨g,0,none⟩/\w.cell? ⟨g,j,none⟩=some (S (F (l.getD j 0))):=by
 obtain⟨O,h⟩:=h;rcases h with⟨rfl,E⟩|⟨g,cap,z,rfl,R,G,U,V,h3,I⟩
 ·exact⟨none,0,by rw[E],λk D=>by omega⟩
 refine⟨_,cap,rfl,λk D=>⟨g,rfl,?_⟩⟩
 rw[Qm w g k _ _ _ G];have J:z[k]?=(z.toList.take (l.length*1))[k]?:=by
  rw[Rv (by omega)];simp
 rw[J,I];simp[D,Qi]
theorem A4 {cap} {L:List Pt} (f:Nat) (F:Nat->LB) (hF:∀j,(F j).length<=100000000)
 (k) (w) (h:eR B g cap ps w) (hk:k<ps.length) (ba:(ps.getD k cO).tok.text.length<=1000) (am:(ps.getD k cO).subs.length<=3) (ay:∀j∈(ps.getD k cO).subs,j<=5000) (az:(ps.getD k cO).tok.k=110->(ps.getD k cO).n=dW (ps.getD k cO).tok.text/\dW (ps.getD k cO).tok.text<=9223372036854775807)
 (ih:∀j∈(ps.getD k cO).subs,∀w1,eR B g cap ps w1->Calls prog 35 #[.agg #[.slice a n c,Sq g ps.length cap],Iq j] w1 λe w'=>e= .returned (S (F j))/\Bl w1 w'):
 Calls prog 35 #[.agg #[.slice a n c,Sq g ps.length cap],Iq k] w λe w'=>e= .returned (S (if(ps.getD k cO).tok.k=110 then rI (dW (ps.getD k cO).tok.text) else kr (ps.getD k cO).tok.text ((ps.getD k cO).subs.map F)))/\Bl w w':=by
 obtain⟨i0,hi,aM,aN,aO⟩:=Ry Gq;obtain⟨k0,k1,k2,k3,k4⟩:=h.cells k hk;have aK:(ps.getD k cO).sv.oneCell'=true:=by
  have hm:ps.getD k cO∈ps:=by rw[Qi,Ql hk];exact QD hk
  exact(h.subs _ hm).one
 have b1:(0:Int)<=(k:Int):=by omega
 have b2:(k:Int)<(ps.length:Int):=by omega
 have lg:=Qk w _ k0;simp only at lg;have an:=h.sub k hk;have IH:=Hi ih;have HN:=Hi az;have aA:=Hi ay;have HH:=Hi h;generalize ps.getD k cO=pp at*;obtain⟨sa,aB,aC⟩:∃sa,pp.sv= .slice sa pp.subs.length pp.subs.length/\ ∀j,j<pp.subs.length-> ∃U,sa=some ⟨U,0,none⟩/\Cq w U j (Iq (pp.subs.getD j 0)):=by
  rcases an with⟨e1,Z⟩|⟨U,Z,aP⟩
  ·exact⟨none,by rw[e1,Z];rfl,λj hj=>by rw[e1] at hj;simp at hj⟩
  refine⟨some ⟨U,0,none⟩,Z,λj hj=>⟨U,rfl,?_⟩⟩
  exact aP j hj
 rw[aB] at k3 aK;have aD:=Hi aC;generalize pp.subs=sl at*;generalize pp.tok.k=tk at*;generalize pp.tok.text=E at*;generalize pp.tok.pl=tp at*;generalize pp.n=tn at*;generalize hr:(if tk=110 then rI (dW E) else kr E (sl.map F))=r;have HR:=Hi hr;go_enter func35,ntmps35;have aE:Bl w ((w.alloc (.cells #[.slice a n c,Sq g ps.length cap] 90)).alloc (.cells #[.int .u8 tk,S E,Iq tp,.slice sa sl.length sl.length,Iq tn] 169)):=((Qq _ _).alloc (Qn _) _).alloc (by simp) _
 have aF:((w.alloc (.cells #[.slice a n c,Sq g ps.length cap] 90)).alloc (.cells #[.int .u8 tk,S E,Iq tp,.slice sa sl.length sl.length,Iq tn] 169)).heap[w.heap.size]?=some (.cells #[.slice a n c,Sq g ps.length cap] 90 (0,0)):=by rw[Qu _ _ _ (by simp)];exact Qp w _
 have aG:((w.alloc (.cells #[.slice a n c,Sq g ps.length cap] 90)).alloc (.cells #[.int .u8 tk,S E,Iq tp,.slice sa sl.length sl.length,Iq tn] 169)).heap[w.heap.size+1]?=some (.cells #[.int .u8 tk,S E,Iq tp,.slice sa sl.length sl.length,Iq tn] 169 (0,0)):=by have e:=Qp (w.alloc (.cells #[.slice a n c,Sq g ps.length cap] 90)) (.cells #[.int .u8 tk,S E,Iq tp,.slice sa sl.length sl.length,Iq tn] 169);rw[Qw] at e;exact e
 have H0:=Hi (And.intro aE (And.intro aF aG));go_wp2;go_loopw [6,7] (λsv jv wr=> ∃j,j<=sl.length/\jv= Iq j/\wr.ownsRow w.heap.size 9 1 sv j ((sl.take j).map λi=>S (F i))/\Bl w wr/\wr.heap[w.heap.size]?=some (.cells #[.slice a n c,Sq g ps.length cap] 90 (0,0))/\wr.heap[w.heap.size+1]?=some (.cells #[.int .u8 tk,S E,Iq tp,.slice sa sl.length sl.length,Iq tn] 169 (0,0))) (λ_ jv _=>sl.length - (intOf jv).toNat)
 case atStart=>exact⟨0,QA _,rfl,QX _ _ _ _,H0.out.1,H0.out.2.1,H0.out.2.2⟩
 case round=>
  obtain⟨j,hj,rfl,V,I,Y,R⟩:=hrel;have p0:=Qm wr w.heap.size 0 _ _ _ Y;have p1:=Qm wr w.heap.size 1 _ _ _ Y;have x0:=Qm wr (w.heap.size+1) 0 _ _ _ R;have x1:=Qm wr (w.heap.size+1) 1 _ _ _ R;have x3:=Qm wr (w.heap.size+1) 3 _ _ _ R;have x4:=Qm wr (w.heap.size+1) 4 _ _ _ R;simp only[Qx,Qy,Qv] at p0 p1 x0 x1 x3 x4;by_cases ad:j<sl.length
  ·obtain⟨U,rfl,ao⟩:=aD.out j ad;have ap:wr.cell? ⟨U,j,none⟩=some (Iq (sl.getD j 0)):=by rw[I.cell (p:=⟨U,j,none⟩) (Qk w _ ao)];exact ao
   have aj:sl.getD j 0∈sl:=by rw[Qi,Ql ad];exact QD ad
   have W1:=IH.out (sl.getD j 0) aj wr.drew (HH.out.below I.drew);have bc:=aA.out _ aj;have bd:=hF (sl.getD j 0);have ak:∀w',Below wr.heap.size wr.drew w'->(w'.cell? ⟨w.heap.size,0,none⟩=some (.slice a n c)/\w'.cell? ⟨w.heap.size,1,none⟩=some (Sq g ps.length cap)/\w'.cell? ⟨w.heap.size+1,3,none⟩=some (Sq U sl.length sl.length)/\w'.cell? ⟨U,j,none⟩=some (Iq (sl.getD j 0))):=λw' h=>by
    rw[h.cell (p:=⟨w.heap.size,0,none⟩) (be Y),h.cell (p:=⟨w.heap.size,1,none⟩) (be Y),h.cell (p:=⟨w.heap.size+1,3,none⟩) (be R),h.cell (p:=⟨U,j,none⟩) (Qk wr _ ap)];exact⟨p0,p1,x3,ap⟩
   have KF:=Hi ak;have aQ:=Hi (Rw ad);have aR:Hid (sl[j]=sl.getD j 0):=by show _=_;rw[Qi,Ql ad];rfl
   generalize aH:F (sl.getD j 0)=fj at*;have aS:=Hi aH;generalize aT:sl.getD j 0=ij at*;go_wp2_with fail;go_region_held3 (λw'=>w'.cell? ⟨w.heap.size,0,none⟩=some (.slice a n c)/\w'.cell? ⟨w.heap.size,1,none⟩=some (Sq g ps.length cap)/\w'.cell? ⟨w.heap.size+1,3,none⟩=some (Sq U sl.length sl.length)/\w'.cell? ⟨U,j,none⟩=some (Iq ij)) (first|exact KF.out _ aq|go_keep) ((go_at_call 35;refine W1.mono ?_;rintro e w5 ⟨rfl,aq⟩))
   rename_i hHeld;have ae:=(Qq _ _).drew.trans aq;have aI:=I.trans (ae.mono I.size);have ac:=cD V ae;have aU:=(ae.block _ (be Y)).trans Y;have aV:=(ae.block _ (be R)).trans R;have bf:=aI.size;go_wp2_with (
    at_builtin;go_must (refine wpList_append_lies _ (by rfl) _ _ 131 (by rfl) w.heap.size 9 i0 (.string ⟨#[]⟩) 1 16 underlying131 hi aM aN aO (by rfl) (by decide) _ _ _ (by rfl) (ac.alloc _) ⟨w5.heap.size,0,none⟩ 1 1 [S fj] (by rfl) (by rfl) (World.news_of_block (Qp w5 _)) (λx hx=>by simp at hx;rcases hx with rfl;rfl) (by decide) (by unfold maxLen;omega) (by omega) (by simp;omega) _ rfl ?_)
    intro g3 a0 w3 ax af bg a8)
   have ar:∀(q:Nat) (cs:Array Value) (ty:TypeId),w5.heap[q]?=some (.cells cs ty (0,0))->ty≠9->w3.heap[q]?=some (.cells cs ty (0,0)):=λq cs ty hq ht=>by
    rw[af.block q (by have:=be hq;simp;omega) (λe=>by
     obtain⟨bh,hc⟩:=cK ac e.symm;rw[hq] at hc;simp only[QE,RN] at hc;exact ht hc.2.1),Qu _ _ _ (be hq)]
    exact hq
   refine⟨⟨j+1,by omega,by simp,?_,gP aI ac af,ar _ _ _ aU (by decide),ar _ _ _ aV (by decide)⟩,by simp[intOf];omega⟩
   rw[aQ.out,QU,aR.out];simpa [aS.out] using ax
  have aW:j=sl.length:=by omega
  subst aW;rw[RP] at V;by_cases ag:tk=110
  ·obtain⟨e1,Z⟩:=HN.out ag;have aX:(10:Nat)^20=100000000000000000000:=by decide
   have hT:=JL 20 (dW E) wr (by omega) Z (by decide) (by decide)
   have J:Hid (r=ko 20 (dW E)):=by show _=_;rw[<-HR.out,Qo ag];rfl
   subst ag;rw[e1] at x4;generalize ko 20 (dW E)=tt at*;generalize dW E=dv at*;go_wp2_with fail;apply hT.mono;rintro e w1 ⟨rfl,aY⟩;go_wp2;go_ret;exact⟨by rw[J.out];rfl,I.trans (aY.mono I.size)⟩
  have J:Hid (r=kr E (sl.map F)):=by show _=_;rw[<-HR.out,Qj ag]
  have a9:((tk:Int)==(110:Int))=false:=by
   have: ¬((tk:Int)=110):=by omega
   simpa using this
  obtain⟨sv,sc,rfl,G⟩:=JM V;have aa:=hF (sl.getD 0 0);have ah:=hF (sl.getD 1 0);have au:=hF (sl.getD 2 0);match sl,am,J,G,aa,ah,au with
  |[],_,J,_,_,_,_=>
   have ab:Hid (r=E):=J.out;simp only[Q7] at*;go_wp2;go_ret;exact⟨by rw[ab.out];rfl,I⟩
  |[y],_,J,G,aa,_,_=>
   obtain⟨gs,rfl,ai⟩:=G 0 (by simp)
   have ab:Hid (r=ud++F y++[41]):=J.out;simp only[Rp] at ai aa;simp only[QH,Q7] at*;generalize F y=D at*;go_wp2;go_ret;refine⟨?_,I⟩;rw[ab.out];have e1:=fw ud D;have Z:=fw (ud++D) [41];exact RK (λs=>Ending.returned (Value.string s)) (by rw[<-Z,<-e1];rfl)
  |[y,z],_,J,G,aa,ah,_=>
   obtain⟨gs,rfl,ai⟩:=G 0 (by simp)
   obtain⟨av,e',aw⟩:=G 1 (by simp)
   obtain rfl:gs=av:=by simpa using e'
   have ab:Hid (r=[40]++F y++[32]++E++[32]++F z++[41]):=J.out;simp only[Rp,QI] at ai aa aw ah;simp only[QH,Q7] at*;generalize F y=D at*;generalize F z=O at*;have s1: ¬9223372036854775807<1+D.length:=by omega
   have s2: ¬9223372036854775807<1+D.length+1:=by omega
   have s3: ¬9223372036854775807<1+D.length+1+E.length:=by omega
   have s4: ¬9223372036854775807<1+D.length+1+E.length+1:=by omega
   have s5: ¬9223372036854775807<1+D.length+1+E.length+1+O.length:=by omega
   have s6: ¬9223372036854775807<1+D.length+1+E.length+1+O.length+1:=by omega
   have HB:Hid (Bl w wr.drew):=I.drew;go_wp2_with fail;go_region_held (λw'=>w'.cell? ⟨gs,0,none⟩=some (S D)/\w'.cell? ⟨gs,1,none⟩=some (S O)/\w'.cell? ⟨w.heap.size+1,1,none⟩=some (S E)) (go_keep) (fail)
   go_wp2;go_ret;refine⟨?_,HB.out⟩;rw[ab.out];have e1:=fw [40] D;have Z:=fw ([40]++D) [32];have e3:=fw ([40]++D++[32]) E;have e4:=fw ([40]++D++[32]++E) [32];have e5:=fw ([40]++D++[32]++E++[32]) O;have e6:=fw ([40]++D++[32]++E++[32]++O) [41];exact RK (λs=>Ending.returned (Value.string s)) (by rw[<-e6,<-e5,<-e4,<-e3,<-Z,<-e1])
  |[y,z,u],_,J,G,aa,ah,au=>
   obtain⟨gs,rfl,ai⟩:=G 0 (by simp)
   obtain⟨av,e',aw⟩:=G 1 (by simp)
   obtain rfl:gs=av:=by simpa using e'
   obtain⟨aL,aJ,aZ⟩:=G 2 (by simp)
   obtain rfl:gs=aL:=by simpa using aJ
   have ab:Hid (r=qu++F y++jX++F z++mV++F u++[41]):=J.out;simp only[Rp,QI] at ai aa aw ah aZ au;simp only[QH,Q7] at*;generalize F y=D at*;generalize F z=O at*;generalize F u=fu at*;have s1: ¬9223372036854775807<4+D.length:=by omega
   have s2: ¬9223372036854775807<4+D.length+6:=by omega
   have s3: ¬9223372036854775807<4+D.length+6+O.length:=by omega
   have s4: ¬9223372036854775807<4+D.length+6+O.length+6:=by omega
   have s5: ¬9223372036854775807<4+D.length+6+O.length+6+fu.length:=by omega
   have s6: ¬9223372036854775807<4+D.length+6+O.length+6+fu.length+1:=by omega
   have HB:Hid (Bl w wr.drew):=I.drew;go_wp2_with fail;go_region_held (λw'=>w'.cell? ⟨gs,0,none⟩=some (S D)/\w'.cell? ⟨gs,1,none⟩=some (S O)/\w'.cell? ⟨gs,2,none⟩=some (S fu)) (go_keep) (fail)
   go_wp2;go_ret;refine⟨?_,HB.out⟩;rw[ab.out];have e1:=fw qu D;have Z:=fw (qu++D) jX;have e3:=fw (qu++D++jX) O;have e4:=fw (qu++D++jX++O) mV;have e5:=fw (qu++D++jX++O++mV) fu;have e6:=fw (qu++D++jX++O++mV++fu) [41];exact RK (λs=>Ending.returned (Value.string s)) (by rw[<-e6,<-e5,<-e4,<-e3,<-Z,<-e1];rfl)
  |_::_::_::_::_,am,_,_,_,_,_=>simp at am
end
end Go.Proofs.YtfkdailfcmnjlaaGreatDoor
