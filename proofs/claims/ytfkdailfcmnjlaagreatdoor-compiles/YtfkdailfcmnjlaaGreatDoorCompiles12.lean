/-
  A part.
-/
import Derived.Test.YtfkdailfcmnjlaaGreatDoorCompiles11
set_option linter.all false
set_option maxHeartbeats 40000000
set_option maxRecDepth 1000000
namespace Go.Proofs.YtfkdailfcmnjlaaGreatDoor
section
open Go Go.RowKit Tryz
attribute [local go_sem ↓] Go.wp_at_zero Go.wp_at_succ
variable {B q c g xs ps z base e size v n iv w k w' rb gl cl ts s D ys R U G cs F I J s' x o1 o2 pv W E a b wr}
theorem Ej {cap} {its:LB} {Good} (E:yD (ps.map cL)) (G:Hs xs its.length (ps.map cL) Good) (f) (J:f<=2000):
 ∀k w,wD B q c g cap xs ps z its w->k<f->k<ps.length->Good k->
  Calls prog 117 #[.agg #[Sq q xs.length c,Sq g ps.length cap],Iq k,z] w λe w'=>e= .returned (.int .u8 (dr xs its (ps.map cL) f k).toNat)/\Bl w w':=by
 induction f with
 |zero=>intro k w _ A;omega
 |succ f ih=>intro k w h D A I;exact BU E G f (by omega) (ih (by omega)) k w h D A I
theorem lU {w:World} (h:w.ownsRow base e size v n xs) (E:q<=base):w.ownsRow q e size v n xs:=by
 obtain⟨D,z⟩:=h;refine⟨D,?_⟩;rcases z with z|⟨g,cap,A,a,b,r⟩
 ·exact .inl z
 exact .inr ⟨g,cap,A,a,by omega,r⟩
theorem Ek (xs) (L) (j) (its:LB) (q:j<xs.length):dF xs L (xs.drop j) its=
 if(dr xs its L (xs[j].top+1) xs[j].top).toNat=0\/(xs[j].name=[]/\(dr xs its L (xs[j].top+1) xs[j].top).toNat≠116) then some xs[j].pl
 else dF xs L (xs.drop (j+1)) (its++[dr xs its L (xs[j].top+1) xs[j].top]):=by
 rw[R5 q,dF]
theorem Hv {cap} (h:gm B iv xs w) (hp:fm B g cap ps w) (hB:B<=w.heap.size) (hA:yD (ps.map cL)) (hT:∀x∈xs,x.top<ps.length)
 (hF:∀j hj,∃Good,Hs xs j (ps.map cL) Good/\Good xs[j].top):
 Calls prog 64 #[.agg #[iv,Sq g ps.length cap]] w λe w'=>e= .returned (ku (dF xs (ps.map cL) xs []))/\Bl w w':=by
 obtain⟨i0,hi,ah,ai,aj⟩:=Tz yV;have hb:=(RP w.heap.size w).alloc (RL _) (.cells #[iv,Sq g ps.length cap] 90);rcases h.form with⟨rfl,h0⟩|⟨U,c,rfl⟩
 ·have HB:Hid _:=hb;have HE:Hid (dF xs (ps.map cL) xs []=none):=by
   show _=_;cases xs with
   |nil=>rfl
   |cons=>simp at h0
  clear hb h0;go_enter func64,ntmps64;go_wp2;go_loop [3,4] (λn i=>n= .slice none 0 0/\i= Iq 0) (λ_ _=>0)
  case atStart=>exact⟨rfl,rfl⟩
  case round=>
   obtain⟨rfl,rfl⟩:=hrel;go_wp2;go_ret;exact⟨by rw[HE.out];rfl,HB.out⟩
 have A:(w.alloc (kS U xs.length c g ps.length cap)).heap[w.heap.size]?=some (kS U xs.length c g ps.length cap):=RO w _;have hf:=h.few;have ar:=hp.few;have HX:=Hi A;clear A;go_enter func64,ntmps64;go_wp2;go_loopw [3,4] (λbv i wr=> ∃its,its.length<=xs.length/\i= Iq its.length/\wr.ownsRow w.heap.size 5 1 bv its.length (byteCells its)/\Hid (dF xs (ps.map cL) xs []=dF xs (ps.map cL) (xs.drop its.length) its)/\Bl w wr/\wr.heap[w.heap.size]?=some (kS U xs.length c g ps.length cap)) (λ_ i _=>xs.length - (intOf i).toNat)
 case atStart=>exact⟨[],R0 _,rfl,SC _ _ _ _,rfl,hb,HX.out⟩
 case round=>
  obtain⟨its,hj,rfl,G,HM,D,A⟩:=hrel;have q0:=RM wr w.heap.size 0 _ _ _ A;have q1:=RM wr w.heap.size 1 _ _ _ A;have ak:=cq A;simp only[RY,RZ,RX] at q0 q1;by_cases J:its.length<xs.length
  ·have V:=h.below D;obtain⟨c0,c1,c2,c3,c4,c5⟩:=V.cells its.length J;have HS:=Hi (Ek xs (ps.map cL) its.length its J);obtain⟨Good,ac,ad⟩:=hF its.length J;have am:=hT _ (R4 J);have b1:0<=(its.length:Int):=by omega
   have b2:(its.length:Int)<(xs.length:Int):=by omega
   have lg:=RN wr _ c0;simp only at lg;have aa:wD B U c g cap xs ps u3 its wr:=⟨V,hp.below D,lU G hB,by omega⟩
   obtain⟨va,vc,an⟩:∃a c,u3= .slice a its.length c:=by
    rcases G.2 with⟨e,hn⟩|⟨gg,cc,av,e,_⟩
    ·exact⟨none,0,by rw[hn];exact e⟩
    exact⟨_,_,e⟩
   subst an;go_wp2;go_region_held3 (λw'=>w'.cell? ⟨w.heap.size,0,none⟩=some (Sq U xs.length c)/\w'.cell? ⟨w.heap.size,1,none⟩=some (Sq g ps.length cap)/\w'.cell? ⟨U,its.length*6+2,none⟩=some (Iq xs[its.length].top))
    (first|go_keep|(go_split_ands;refine⟨?_,?_,?_⟩<;>(rw[ab.cell (by simp<;>omega)];first|assumption|(simp[*];done))))
    (first|(go_at_call 117;refine(Ej hA ac (xs[its.length].top+1) (by omega) xs[its.length].top _ (aa.below ((RP _ _).drew)) (by omega) am ad).mono ?_;rintro e Z ⟨rfl,ab⟩))
   rename_i hHeld;clear hHeld;have O:=(RP _ _).drew.trans ab;have Y:=D.trans (O.mono D.size);have E:Z.heap[w.heap.size]?=some (kS U xs.length c g ps.length cap):=by rw[O.block _ ak];exact A
   have q0:=RM Z w.heap.size 0 _ _ _ E;have q1:=RM Z w.heap.size 1 _ _ _ E;simp only[RY,RZ,RX] at q0 q1;obtain⟨d0,d1,d2,d3,d4,d5⟩:=(V.below O).cells its.length J;have I:=cH G O;have aw:=Y.size;clear ab O G D A V aa c0 c1 c2 c3 c4 c5;generalize dr xs its (ps.map cL) (xs[its.length].top+1) xs[its.length].top=z at*;have HQ:Hid ((z.toNat=0\/(xs[its.length].name=[]/\z.toNat≠116)->dF xs (ps.map cL) xs []=some xs[its.length].pl)/\(¬(z.toNat=0\/(xs[its.length].name=[]/\z.toNat≠116))->dF xs (ps.map cL) xs []=dF xs (ps.map cL) (xs.drop (its.length+1)) (its++[z]))):=by
    refine⟨λe=>?_,λe=>?_⟩
    ·rw[HM.out,HS.out,RK e]
    rw[HM.out,HS.out,RH e]
   clear HM HS;by_cases hz:z.toNat=0
   ·have ag:((z.toNat:Int)==0)=true:=by simp;omega
    have q:=HQ.out.1 (.inl hz);have HR:=Hi q;clear q hz;go_wp2;go_ret;exact⟨by rw[HR.out];rfl,Y⟩
   have ag:((z.toNat:Int)==0)=false:=by simp;omega
   cases af:(xs[its.length].name==[]);have q:=Hi (HQ.out.2 (by intro e;rcases e with e|e;exact hz e;simp[e.1] at af))
   rotate_left;by_cases ht:z.toNat=116;have ao:((z.toNat:Int) !=116)=false:=by simp;omega
   have q:=Hi (HQ.out.2 (by intro e;rcases e with e|e;exact hz e;exact e.2 ht))
   clear ht;rotate_left
   ·have ao:((z.toNat:Int) !=116)=true:=by simp;omega
    have q:=Hi (HQ.out.1 (.inr ⟨by simpa using af,ht⟩))
    clear HQ hz ht;go_wp2;go_ret;exact⟨by rw[q.out];rfl,Y⟩
   all_goals
    clear HQ hz;go_wp2_with (
     at_builtin;go_must (refine wpList_append_lies _ (by rfl) _ _ 155 (by rfl) w.heap.size 5 i0 (.int .u8 0) 1 1 underlying155 hi ah ai aj (by rfl) (by decide) _ _ _ (by rfl) (I.alloc _) ⟨Z.heap.size,0,none⟩ 1 1 [.int .u8 z.toNat] (by rfl) (by rfl) (cell_one_new _ _ _) (λx hx=>by simp at hx;subst hx;rfl) (by decide) (by unfold maxLen;omega) (by omega) (by simp;omega) _ rfl ?_)
     intro gt ct w7 ae R ap aq)
    go_roundw
    case rel=>
     refine⟨its++[z],by simp;omega,by simp,?_,?_,gU Y I R,?_⟩
     ·rw[pH];simpa using ae
     ·show _=_;rw[q.out];simp
     rw[R.block _ (by have:=cq E;simp;omega) (λe=>by obtain⟨cs,hc⟩:=cM I e.symm;rw[E] at hc;simp at hc),RV _ _ _ (cq E)];exact E
    case measure=>simp[intOf];omega
  go_wp2;go_ret;refine⟨?_,D⟩;rw[HM.out,R8 (by omega)];rfl
theorem Hw (z) (D E) (w):Calls prog 62 #[.agg #[.slice none 0 0,.slice z D E]] w λe w'=>e= .returned (Iq (-1))/\Bl w w':=by
 have G:=Hi ((RP w.heap.size w).alloc (RL _) (.cells #[.slice none 0 0,.slice z D E] 90));go_enter func62,ntmps62;go_wp2;go_loop [3,4] (λn i=>n= Iq 0/\i= Iq 0) (λ_ _=>0)
 case atStart=>exact⟨rfl,rfl⟩
 case round=>
  obtain⟨rfl,rfl⟩:=hrel;go_wp2;go_ret;exact⟨rfl,G.out⟩
theorem El (z) (D E) (w):Calls prog 63 #[.agg #[.slice none 0 0,.slice z D E]] w λe w'=>e= .returned (Iq (-1))/\Bl w w':=by
 have G:=Hi ((RP w.heap.size w).alloc (RL _) (.cells #[.slice none 0 0,.slice z D E] 90));go_enter func63,ntmps63;go_wp2;go_loop [3,4] (λn i=>n= Iq 0/\i= Iq 0) (λ_ _=>0)
 case atStart=>exact⟨rfl,rfl⟩
 case round=>
  obtain⟨rfl,rfl⟩:=hrel;go_wp2;go_ret;exact⟨rfl,G.out⟩
theorem Em (z) (D E) (w):Calls prog 64 #[.agg #[.slice none 0 0,.slice z D E]] w λe w'=>e= .returned (Iq (-1))/\Bl w w':=by
 have G:=Hi ((RP w.heap.size w).alloc (RL _) (.cells #[.slice none 0 0,.slice z D E] 90));go_enter func64,ntmps64;go_wp2;go_loop [3,4] (λn i=>n= .slice none 0 0/\i= Iq 0) (λ_ _=>0)
 case atStart=>exact⟨rfl,rfl⟩
 case round=>
  obtain⟨rfl,rfl⟩:=hrel;go_wp2;go_ret;exact⟨rfl,G.out⟩
abbrev qO (z pv:Value):Obj:= .cells #[z,pv] 90
structure Pm (B) (L) (xs) (iv pv) (w):Prop where
 items:gm B iv xs w
 parts:∃ps:List eC,w.ownsRow B 169 5 pv ps.length (eS ps)/\(∀p∈ps,lI w p)/\ps.length<=1001/\(∀p∈ps,p.n=iM p.tok)/\ps.map cL=L
def lq (n k:Nat) (L:List Pt) (xs:List dk) (w:World) (e:Ending) (w':World):Prop:=
 Below w.heap.size w w'/\ ∃z pv,e= .returned (.tuple #[.agg #[z,pv],Iq n,Iq k])/\(∃a b c,z= .slice a b c)/\(∃a b c,pv= .slice a b c)/\(n≠0->z= .slice none 0 0/\pv= .slice none 0 0)/\(n=0->Pm w.heap.size L xs z pv w')
theorem qo {L:List Pt} (z:n≠0) (D:Bl w w'):lq n k L xs w (.returned (.tuple #[.agg #[.slice none 0 0,.slice none 0 0],Iq n,Iq k])) w':=
 ⟨D,_,_,rfl,⟨_,_,_,rfl⟩,⟨_,_,_,rfl⟩,λ_=>⟨rfl,rfl⟩,λe=>absurd e z⟩
theorem Hx (l:LB) (w) (D:1000<l.length) (z:l.length<=maxLen) (L) (xs:List dk):Calls prog 33 #[S l] w (lq 1 0 L xs w):=by
 unfold maxLen at z;go_enter func33,ntmps33;go_wp2;exact RU (by simp[results,results33,go_sem]) rfl (qo (by decide) (((RP _ _).alloc (RL _) _).alloc (by simp) _))
theorem Gl (w) (z D):Bl w ((w.alloc z).alloc D)/\((w.alloc z).alloc D).heap[w.heap.size]?=some z/\((w.alloc z).alloc D).heap[w.heap.size+1]?=some D:=by
 refine⟨((RP _ _).alloc (RL _) _).alloc (by simp) _,?_,?_⟩
 ·rw[RV _ _ _ (by simp)];exact RO w z
 have e:=RO (w.alloc z) D;rw[RW] at e;exact e
theorem Hy (l:LB) (w) (hl:l.length<=1000) (ts) (p) (U:jQ (l.length+1) l 0=(ts,some p)) (L) (xs):Calls prog 33 #[S l] w (lq 2 p L xs w):=by
 obtain⟨z,D,E⟩:=Gl w (qO (.slice none 0 0) (.slice none 0 0)) (qO (.slice none 0 0) (.slice none 0 0));have HL:=Hi U;have V:=Hi (And.intro z (And.intro D E));go_enter func33,ntmps33;go_wp2_with fail;apply(yT l _ hl).mono;rintro e G ⟨J,I⟩;rw[HL.out] at I;simp only at I;subst I;obtain⟨z,D,E⟩:=V.out;have O:G.heap[w.heap.size]?=some (qO (.slice none 0 0) (.slice none 0 0)):=by rw[J.block _ (cq D)];exact D
 have R:G.heap[w.heap.size+1]?=some (qO (.slice none 0 0) (.slice none 0 0)):=by rw[J.block _ (cq E)];exact E
 have Y:=z.trans (J.mono z.size);have Z:=RM G w.heap.size 0 _ _ _ O;have r1:=RM G w.heap.size 1 _ _ _ O;have p0:=RM G (w.heap.size+1) 0 _ _ _ R;have p1:=RM G (w.heap.size+1) 1 _ _ _ R;have rf:∀j,G.frozen? ⟨w.heap.size,j,none⟩=false:=λj=>by simp[World.frozen?,O]
 simp only[RY,RZ,RX] at Z r1 p0 p1;go_wp2;exact RU (by simp[results,results33,go_sem,dc,cN,fD,Z,r1]) rfl (qo (by decide) ((Y.setCell (RL _) _).setCell (RL _) _))
theorem Hz:(prog.info? 95).map (λi=>(i.zero,i.size,i.bytes))=some (some (.agg #[.string ⟨#[]⟩,.bool false,Iq 0,Iq 0,Iq 0,Iq 0]),6,56):=by kernel_rfl
structure Lg (L) (xs:List dk):Prop where
 ahead:yD L
 top:∀x∈xs,x.top<L.length
 parts:∀x∈xs,x.parts<=L.length
 fine:dq xs L xs 0 0=none-> ∀j (hj:j<xs.length),∃Good:Nat->Prop,Hs xs j L Good/\Good xs[j].top
structure wF (F) (ts) (R) (rb gl cl) (w:World) (s) (xs) (iv) (wr):Prop where
 rs:RS w.heap.size rb gl cl ts s wr
 good:s.bad=false
 nums:fw s
 below:Below w.heap.size w wr
 res:wr.heap[w.heap.size]?=some (qO (.slice none 0 0) (.slice none 0 0))
 pol:wr.heap[w.heap.size+1]?=some (qO iv (.slice none 0 0))
 row:wr.ownsRow w.heap.size 95 6 iv xs.length (fR xs)
 few:xs.length<=s.i
 rest:∃g,dx F ts g s.i (s.ps.map cL) xs=some R
 apart:rb≠w.heap.size/\rb≠w.heap.size+1
 empty:xs=[]->iv= .slice none 0 0
theorem RS.types (h:RS B rb gl cl ts s w) (E:∀(k:Nat) cs e,w.heap[k]?=some (.cells cs e (0,0))->e≠95->e≠90->w'.heap[k]?=w.heap[k]?):RS B rb gl cl ts s w':=by
 refine⟨?_,?_,?_,?_,h.hb,h.hi,h.hn,h.fin,h.few⟩
 ·rw[E _ _ _ h.rd (by decide) (by decide)];exact h.rd
 ·refine cO h.words λk D=>?_
  obtain⟨z,G⟩:=cM h.words D;exact E k z _ G (by decide) (by decide)
 ·refine cO h.parts λk D=>?_
  obtain⟨z,G⟩:=cM h.parts D;exact E k z _ G (by decide) (by decide)
 intro p U;exact(h.subs p U).of λk z D=>E k z _ D (by decide) (by decide)
theorem Fr.under (h:RS B rb gl cl ts s w) (z:Fr rb s.pv D w w') (E:B<=w.heap.size):Below B w w':=
 ⟨z.os,z.tape,z.output,z.size,λk G=>z.block k (by omega) (by have:=h.hb;omega) (λe=>by have:=(h.parts.lt k e.symm).1;omega)⟩
theorem Fr.row {s s':St} (h:RS B rb gl cl ts s w) (E:Fr rb s.pv s'.pv w w') (D:w.ownsRow base 95 6 v n ys):w'.ownsRow base 95 6 v n ys:=by
 refine cO D λk G=>?_
 obtain⟨cs,z⟩:=cM D G;refine E.block k (cq z) (λe=>?_) (lJ h z (by simp))
 subst e;rw[h.rd] at z;simp at z
theorem yl (w:World) (o) (x):∀j u,[S x.name,.bool x.allow,Iq x.top,Iq x.pl,Iq x.named,Iq x.parts][j]?=some u->((w.alloc o).alloc (gK x)).cell? ((⟨w.heap.size+1,0,none⟩:Addr).add j)=some u:=by
 have h:=World.news_of_block (by have e:=RO (w.alloc o) (gK x);rw[RW] at e;exact e)
 intro j u z;exact h j u (by simpa using z)
theorem Rh (x:dk):∀u∈[S x.name,.bool x.allow,Iq x.top,Iq x.pl,Iq x.named,Iq x.parts],u.oneCell'=true:=by
 intro u z;simp at z;rcases z with rfl|rfl|rfl|rfl|rfl|rfl<;>rfl
theorem sG {w w':World} (V:w.ownsRow base 95 6 G n ys) (Y:((w.alloc R).alloc U).grownBy w' G.ownBlock) {k:Nat} (z:w.heap[k]?=some (.cells cs e (0,0))) (Z:e≠95):w'.heap[k]?=some (.cells cs e (0,0)):=by
 rw[Y.block k (by have:=cq z;simp;omega) (λe'=>by obtain⟨ac,D⟩:=cM V e'.symm;rw[z] at D;simp at D;exact Z D.2),RV _ _ _ (by have:=cq z;simp;omega),RV _ _ _ (cq z)]
 exact z
theorem Gm (h5:RS w.heap.size rb gl cl ts s' I) (good:s'.bad=false) (aa:fw s') (Z:Bl w I)
 (O:I.heap[w.heap.size]?=some (qO (.slice none 0 0) (.slice none 0 0))) (E:I.heap[w.heap.size+1]?=some (qO iv (.slice none 0 0))) (z:I.ownsRow w.heap.size 95 6 iv xs.length (fR xs))
 (U:((I.alloc o1).alloc o2).grownBy J iv.ownBlock) (V:J.ownsRow w.heap.size 95 6 v (xs.length+1) (fR xs++[S x.name,.bool x.allow,Iq x.top,Iq x.pl,Iq x.named,Iq x.parts]))
 (ab:xs.length+1<=s'.i) (rest:∃g,dx F ts g s'.i (s'.ps.map cL) (xs++[x])=some R) (apart:rb≠w.heap.size/\rb≠w.heap.size+1):
 wF F ts R rb gl cl w s' (xs++[x]) v (J.setCell ⟨w.heap.size+1,0,none⟩ v):=by
 have G:=sG z U E (by decide)
 have ac:=Z.size;refine⟨?_,good,aa,?_,?_,?_,?_,by simpa using ab,rest,apart,by simp⟩
 ·refine h5.types λk cs e D h1 Y=>?_
  rw[RQ _ _ _ _ (λhh=>by simp at hh;subst hh;rw[E] at D;simp at D;exact Y D.2.symm),sG z U D h1,D]
 ·exact(U6 ((Z.alloc (by omega) _).alloc (by simp;omega) _) U (by simp;omega) (λj hj=>(z.lt _ hj).1)).setCell (by simp) _
 ·rw[RQ _ _ _ _ (by simp)];exact sG z U O (by decide)
 ·rw[R3 J _ 0 _ _ _ G];simp
 have Y:J.ownsRow w.heap.size 95 6 v (xs++[x]).length (fR (xs++[x])):=by rw[yi];simpa using V
 refine cO Y λk D=>RQ _ _ _ _ λe=>?_
 simp at e;subst e;obtain⟨cs,hc⟩:=cM Y D;rw[G] at hc;simp at hc
structure Ad (w) (xs) (ps) (iv pv) (W):Prop where
 below:Below w.heap.size w W
 res:W.heap[w.heap.size]?=some (qO (.slice none 0 0) (.slice none 0 0))
 pol:W.heap[w.heap.size+1]?=some (qO iv pv)
 items:gm w.heap.size iv xs W
 row:W.ownsRow w.heap.size 169 5 pv ps.length (eS ps)
 subs:∀p∈ps,lI W p
 few:ps.length<=1001
theorem Ad.next (h:Ad w xs ps D pv W) (z:Bl W E):Ad w xs ps D pv E:=
 ⟨h.below.trans (z.mono h.below.size),by rw[z.block _ (cq h.res)];exact h.res,by rw[z.block _ (cq h.pol)];exact h.pol,h.items.below z,cH h.row z,λp G=>(h.subs p G).of λk _ I=>z.block k (cq I),h.few⟩
theorem Ad.cells {w xs ps z pv W} (h:Ad w xs ps z pv W):
 (Cq W w.heap.size 0 (.slice none 0 0)/\Cq W w.heap.size 1 (.slice none 0 0)/\Cq W (w.heap.size+1) 0 z/\Cq W (w.heap.size+1) 1 pv)/\(∀j,W.frozen? ⟨w.heap.size,j,none⟩=false):=by
 have D:=λj=>RM W w.heap.size j _ _ _ h.res
 have E:=λj=>RM W (w.heap.size+1) j _ _ _ h.pol
 exact⟨⟨D 0,D 1,E 0,E 1⟩,λj=>by simp[World.frozen?,h.res]⟩
theorem Ad.out (h:Ad w xs ps (.slice a b c) (.slice E G I) W) (Y:∀p∈ps,p.n=iM p.tok):
 lq 0 0 (ps.map cL) xs w (.returned (.tuple #[.agg #[.slice a b c,.slice E G I],Iq (0:Nat),Iq (0:Nat)])) ((W.setCell ⟨w.heap.size,0,none⟩ (.slice a b c)).setCell ⟨w.heap.size,1,none⟩ (.slice E G I)):=by
 have D:∀(k:Nat) (cs:Array Value) (e:TypeId),W.heap[k]?=some (.cells cs e (0,0))->e≠90->((W.setCell ⟨w.heap.size,0,none⟩ (.slice a b c)).setCell ⟨w.heap.size,1,none⟩ (.slice E G I)).heap[k]?=W.heap[k]?:=λk cs e z Z=>by
  have J:k≠w.heap.size:=λhh=>by subst hh;rw[h.res] at z;simp at z;exact Z z.2.symm
  rw[RQ _ _ _ _ J,RQ _ _ _ _ J]
 refine⟨(h.below.setCell (RL _) _).setCell (RL _) _,_,_,rfl,⟨_,_,_,rfl⟩,⟨_,_,_,rfl⟩,λe=>absurd rfl e,λ_=>⟨⟨?_,h.items.few⟩,ps,?_,?_,h.few,Y,rfl⟩⟩
 ·refine cO h.items.row λk z=>?_
  obtain⟨cs,O⟩:=cM h.items.row z;exact D k cs _ O (by decide)
 ·refine cO h.row λk z=>?_
  obtain⟨cs,O⟩:=cM h.row z;exact D k cs _ O (by decide)
 intro p hp;exact(h.subs p hp).of λk cs z=>D k cs _ z (by decide)
theorem wF.held (z:wF F ts R rb gl cl w s xs I wr):Ad w xs s.ps I s.pv ((wr.setCell ⟨w.heap.size+1,1,none⟩ s.pv).drew):=by
 have E:∀(k:Nat) (cs:Array Value) (e:TypeId),wr.heap[k]?=some (.cells cs e (0,0))->e≠90->((wr.setCell ⟨w.heap.size+1,1,none⟩ s.pv).drew).heap[k]?=wr.heap[k]?:=λk cs e D O=>RQ _ _ _ _ λJ=>by
  simp at J;subst J;rw[z.pol] at D;simp at D;exact O D.2.symm
 have V:=z.rs.hi;have Y:=z.rs.hn;have Z:=z.rs.few;refine⟨(z.below.setCell (by simp) _).drew,?_,?_,⟨?_,by have:=z.few;omega⟩,?_,?_,by omega⟩
 ·show(wr.setCell ⟨w.heap.size+1,1,none⟩ s.pv).heap[w.heap.size]?=_;rw[RQ _ _ _ _ (by simp)];exact z.res
 ·show(wr.setCell ⟨w.heap.size+1,1,none⟩ s.pv).heap[w.heap.size+1]?=_;rw[R3 wr _ 1 _ _ _ z.pol];simp
 ·refine cO z.row λk D=>?_
  obtain⟨cs,G⟩:=cM z.row D;exact E k cs _ G (by decide)
 ·refine cO z.rs.parts λk D=>?_
  obtain⟨cs,G⟩:=cM z.rs.parts D;exact E k cs _ G (by decide)
 intro p U;exact(z.rs.subs p U).of λk cs D=>E k cs _ D (by decide)
theorem En (l:LB) (w) (hl:l.length<=1000) (ts) (hx:jQ (l.length+1) l 0=(ts,none)) (hts:∀t∈ts,lO t) (hn:0<ts.length/\ts.length<=1001) (hfin:∀i,i+1=ts.length->(ts.getD i iF).k=101)
 (F g) (R) (hR:dx F ts g 0 [] []=some R) (hF:R.ok=true->Lg R.L R.xs) (hmono:∀i L r,gI F ts i L=some r->r.ok=true->i<r.i):
 Calls prog 33 #[S l] w (lq (da ts R).1 (da ts R).2 R.L R.xs w):=by
 obtain⟨i0,hi,hz0,hz1,hz2⟩:=Tz Hz;obtain⟨hB0,hR0,hP0⟩:=Gl w (qO (.slice none 0 0) (.slice none 0 0)) (qO (.slice none 0 0) (.slice none 0 0));have HL:=Hi hx;have HH:=Hi (And.intro hB0 (And.intro hR0 hP0));have HR:=Hi hR;have HF:=Hi hF;have HM:=Hi hmono;clear hx hB0 hR0 hP0 hR hF hmono;go_enter func33,ntmps33;go_wp2_with fail;apply(yT l _ hl).mono;rintro e w1 ⟨hb1,hans⟩;rw[HL.out] at hans;simp only at hans;obtain⟨gl,cl,rfl,hown⟩:=hans;obtain⟨hB0,hR0,hP0⟩:=HH.out;have hs0:((w.alloc (qO (.slice none 0 0) (.slice none 0 0))).alloc (qO (.slice none 0 0) (.slice none 0 0))).heap.size=w.heap.size+2:=by simp
 have hs1:=hb1.size;rw[hs0] at hs1;have hstart:wF F ts R w1.heap.size gl cl w ⟨0,.slice none 0 0,[],false⟩ [] (.slice none 0 0) (w1.alloc (.cells #[Sq gl ts.length cl,Iq 0,.slice none 0 0,.bool false] 149)):=by
  have hB1:=hB0.trans (hb1.mono hB0.size);refine⟨⟨RO w1 _,?_,SC _ _ _ _,by simp,by omega,hn.1,hn.2,hfin,RL _⟩,rfl,by intro p hp;simp at hp,hB1.alloc (by omega) _,?_,?_,SC _ _ _ _,RL _,⟨g,HR.out⟩,by omega,λ_=>rfl⟩
  ·exact lU (hown.alloc _) (by rw[hs0];omega)
  ·rw[RV _ _ _ (by omega),hb1.block _ (cq hR0)];exact hR0
  rw[RV _ _ _ (by omega),hb1.block _ (cq hP0)];exact hP0
 have HS:=Hi hstart;clear hstart hown hb1 hB0 hR0 hP0 HH hs0 HL;go_wp2;go_loopw [9] (λ_ wr=> ∃(s:St) (xs:List dk) (iv:Value),wF F ts R w1.heap.size gl cl w s xs iv wr) (λ_ wr=>ts.length - Q9 w1.heap.size wr)
 case atStart=>exact⟨_,_,_,HS.out⟩
 case round=>
  obtain⟨s,xs,iv,ha⟩:=hrel;generalize hrb:w1.heap.size=rb at*;clear hrb HS;have h:=ha.rs;obtain⟨c0,c1,c2,c3⟩:=h.cells;obtain⟨k0,k1,k2⟩:=gM h;have hii:=h.hi;have b1:(0:Int)<=(s.i:Int):=by omega
  have b2:(s.i:Int)<(ts.length:Int):=by omega
  go_wp2_with fail;go_region_held (λw'=>w'.cell? ⟨rb,0,none⟩=some (Sq gl ts.length cl)/\w'.cell? ⟨rb,1,none⟩=some (Iq s.i)/\w'.cell? ⟨gl,s.i*3,none⟩=some (.int .u8 (cr ts s.i).k)/\w'.cell? ⟨gl,s.i*3+1,none⟩=some (S (cr ts s.i).text)/\w'.cell? ⟨gl,s.i*3+2,none⟩=some (Iq (cr ts s.i).pl)) (go_keep) (fail)
  rename_i hHeld;clear hHeld;have hd:Bl wr wr.drew:=(RP _ _).drew;have hsz:=ha.below.size;clear c0 c1 c2 c3 k0 k1 k2;by_cases hk:(cr ts s.i).k=101
  ·have hk1:(((cr ts s.i).k:Int) !=101)=false:=by simp;omega
   obtain⟨g0,hg0⟩:=ha.rest;have hRR:=kR hg0 hk;have hH:=ha.held;have HRR:=Hi hRR;have HFA:Hid (Lg (s.ps.map cL) xs):=by have:=HF.out (by rw[hRR]);rw[hRR] at this;exact this
   have HNU:=Hi ha.nums;obtain⟨pa,pc,hpv⟩:=h.pv_form;obtain⟨c0,c1,c2,c3⟩:=h.cells;have p1:=RM wr (w.heap.size+1) 1 _ _ _ ha.pol;have pf:wr.frozen? ⟨w.heap.size+1,1,none⟩=false:=by simp[World.frozen?,ha.pol]
   simp only[RY,RZ,RX] at p1;rw[hpv] at c2 hH;obtain⟨⟨r0,r1,x0,x1⟩,rf⟩:=hH.cells;simp only[World.cell?_drew,World.frozen?_drew] at r0 r1 x0 x1 rf;clear hk hg0 hRR;have hHH:=Hi hH;clear hH;rcases ha.held.items.form with⟨hiv,hx0⟩|⟨gi,ci,hiv⟩
   ·
     subst hiv;have hxs:=U7.1 hx0;go_wp2_with fail;apply(Hw _ _ _ _).mono;rintro e w5 ⟨rfl,hb5⟩;have hH5:=hHH.out.next hb5;obtain⟨⟨r0,r1,x0,x1⟩,rf⟩:=hH5.cells;go_wp2_with fail;apply(El _ _ _ _).mono;rintro e w6 ⟨rfl,hb6⟩;have hH6:=hH5.next hb6;obtain⟨⟨r0,r1,x0,x1⟩,rf⟩:=hH6.cells;go_wp2_with fail;apply(Em _ _ _ _).mono;rintro e w7 ⟨rfl,hb7⟩;have hH7:=hH6.next hb7;obtain⟨⟨r0,r1,x0,x1⟩,rf⟩:=hH7.cells;have hV:Hid (da ts R=(0,0)/\R.L=s.ps.map cL/\R.xs=xs):=by rw[HRR.out,hxs];exact⟨rfl,rfl,rfl⟩
     go_wp2;exact RU (v:= .tuple #[.agg #[.slice none 0 0,.slice pa s.ps.length pc],Iq 0,Iq 0]) (by simp[results,results33,go_sem,dc,cN,fD,r0,r1]) rfl (by rw[hV.out.1,hV.out.2.1,hV.out.2.2];exact hH7.out HNU.out)
   have hxs:xs≠[]:=λe=>by have:=ha.empty e;rw[hiv] at this;simp at this
   have hxl:=Uq.2 hxs;have hps:0<s.ps.length:=by
    have:=HFA.out.top xs[0] (R4 hxl);simp at this;omega
   obtain⟨gp,cp,hpv2,_,_⟩:=ha.held.row.form hps;rw[hpv] at hpv2;subst hiv;have hpa:pa=some ⟨gp,0,none⟩/\pc=cp:=by simp at hpv2;exact hpv2
   obtain⟨rfl,rfl⟩:=hpa;have hfa:=HFA.out;have HTOP:Hid (∀x∈xs,x.top<s.ps.length):=λx hx=>by simpa using hfa.top x hx
   have HPAR:Hid (∀x∈xs,x.parts<=s.ps.length):=λx hx=>by simpa using hfa.parts x hx
   have HAHD:=Hi hfa.ahead;have HFIN:Hid (dq xs (s.ps.map cL) xs 0 0=none-> ∀j (hj:j<xs.length),∃Good:Nat->Prop,Hs xs j (s.ps.map cL) Good/\Good xs[j].top):=hfa.fine;clear hfa hpv2 HFA;have hPI:=λ(W:World) (hW:Ad w xs s.ps (Sq gi xs.length ci) (Sq gp s.ps.length pc) W)=>(⟨hW.row,hW.subs,hW.few⟩:fm w.heap.size gp pc s.ps W)
   have HPI:=Hi hPI;have hpfew:=ha.held.few;clear hPI;go_wp2_with fail;apply(Lc hHH.out.items (HPI.out _ hHH.out) HAHD.out HTOP.out (λx hx=>SF (HPAR.out x hx) hpfew)).mono
   rintro e w5 ⟨rfl,hb5⟩;have hH5:=hHH.out.next hb5;obtain⟨⟨r0,r1,x0,x1⟩,rf⟩:=hH5.cells;cases hmany:eK (s.ps.map cL) xs 0 0 with
   |some p=>
    have hV:Hid (da ts R=(4,p)):=by show _=_;rw[HRR.out];simp[da,hmany]
    unfold ku;clear hmany;go_wp2;exact RU (v:= .tuple #[.agg #[.slice none 0 0,.slice none 0 0],Iq 4,Iq p]) (by simp[results,results33,go_sem,dc,cN,fD,r0,r1]) rfl (by rw[hV.out];exact qo (n:=4) (k:=p) (by decide) ((hH5.below.setCell (p:=⟨w.heap.size,0,none⟩) (RL _) _).setCell (p:=⟨w.heap.size,1,none⟩) (RL _) _))
   |none=>
    have HMA:=Hi hmany;unfold ku;clear hmany;go_wp2_with fail;apply(Hr hH5.items (HPI.out _ hH5) HPAR.out).mono;rintro e w6 ⟨rfl,hb6⟩;have hH6:=hH5.next hb6;obtain⟨⟨r0,r1,x0,x1⟩,rf⟩:=hH6.cells;cases hnames:dq xs (s.ps.map cL) xs 0 0 with
    |some p=>
     have hV:Hid (da ts R=(5,p)):=by show _=_;rw[HRR.out];simp[da,HMA.out,hnames]
     unfold ku;clear hnames;go_wp2;exact RU (v:= .tuple #[.agg #[.slice none 0 0,.slice none 0 0],Iq 5,Iq p]) (by simp[results,results33,go_sem,dc,cN,fD,r0,r1]) rfl (by rw[hV.out];exact qo (n:=5) (k:=p) (by decide) ((hH6.below.setCell (p:=⟨w.heap.size,0,none⟩) (RL _) _).setCell (p:=⟨w.heap.size,1,none⟩) (RL _) _))
    |none=>
     have HNA:=Hi hnames;unfold ku;clear hnames;go_wp2_with fail;apply(Hv hH6.items (HPI.out _ hH6) hH6.below.size HAHD.out HTOP.out (HFIN.out HNA.out)).mono;rintro e w7 ⟨rfl,hb7⟩;have hH7:=hH6.next hb7;obtain⟨⟨r0,r1,x0,x1⟩,rf⟩:=hH7.cells;cases htypes:dF xs (s.ps.map cL) xs [] with
     |some p=>
      have hV:Hid (da ts R=(6,p)):=by show _=_;rw[HRR.out];simp[da,HMA.out,HNA.out,htypes]
      unfold ku;clear htypes;go_wp2;exact RU (v:= .tuple #[.agg #[.slice none 0 0,.slice none 0 0],Iq 6,Iq p]) (by simp[results,results33,go_sem,dc,cN,fD,r0,r1]) rfl (by rw[hV.out];exact qo (n:=6) (k:=p) (by decide) ((hH7.below.setCell (p:=⟨w.heap.size,0,none⟩) (RL _) _).setCell (p:=⟨w.heap.size,1,none⟩) (RL _) _))
     |none=>
      have hV:Hid (da ts R=(0,0)/\R.L=s.ps.map cL/\R.xs=xs):=by rw[HRR.out];exact⟨by simp[da,HMA.out,HNA.out,htypes],rfl,rfl⟩
      unfold ku;clear htypes;go_wp2;exact RU (v:= .tuple #[.agg #[Sq gi xs.length ci,Sq gp s.ps.length pc],Iq 0,Iq 0]) (by simp[results,results33,go_sem,dc,cN,fD,r0,r1]) rfl (by rw[hV.out.1,hV.out.2.1,hV.out.2.2];exact hH7.out HNU.out)
  have hk1:(((cr ts s.i).k:Int) !=101)=true:=by simp;omega
  obtain⟨g0,hg0⟩:=ha.rest;obtain⟨r,g',hitem,hres⟩:=rG hg0 hk;have HRES:=Hi hres;clear hg0 hres hk;go_wp2_with fail;apply(Lb (h.below hd) hts (by simp;omega) ha.good ha.nums hitem).mono
  rintro e w5 ⟨s',x,rfl,h5,F5,gr,ii,st⟩;have hB5:Bl w w5:=(ha.below.trans (hd.mono hsz)).trans (F5.under (h.below hd) (by simp;omega))
  have hres5:=F5.far (by exact ha.res) (by omega) (lJ (h.below hd) (by exact ha.res) (by simp))
  have hpol5:=F5.far (by exact ha.pol) (by omega) (lJ (h.below hd) (by exact ha.pol) (by simp))
  have hrow5:=F5.row (h.below hd) (cH ha.row hd);have hst:=Hi st;have II:=Hi ii;clear st ii F5;have ap:=ha.apart;have hfew:=ha.few;unfold wy;rcases hst.out with⟨ok,good,nums,hL,hxe⟩|⟨bk,bad⟩
  ·have hnext:Hid (∃g,dx F ts g s'.i (s'.ps.map cL) (xs++[x])=some R):=by
    rcases HRES.out with⟨_,hh⟩|⟨hh,_⟩
    ·exact⟨g',by rw[II.out,hL,hxe];exact hh⟩
    rw[ok] at hh;simp at hh
   have hlt:=HM.out _ _ _ hitem ok;have hlt2:s.i<s'.i:=by rw[II.out];exact hlt
   obtain⟨c0,c1,c2,c3⟩:=h5.cells;rw[good] at c3;have p0:=RM w5 (w.heap.size+1) 0 _ _ _ hpol5;have lp:=cq hpol5;have lrb:=RN _ _ c0;simp only[RY,RZ,RX] at p0;simp only at lrb;have h5i:=h5.hi;have HG:=Hi good;have HN:=Hi nums;clear hst HRES hL hxe hitem hlt c0 c1 c2 good nums;have pfz:∀W:World,W.heap[w.heap.size+1]?=some (qO iv (.slice none 0 0))->(Cq W (w.heap.size+1) 0 iv/\W.frozen? ⟨w.heap.size+1,0,none⟩=false):=λW hW=>⟨RM W _ 0 _ _ _ hW,by simp[World.frozen?,hW]⟩
   have HPF:=Hi pfz;clear pfz;go_wp2_with (
    at_builtin;go_must (refine wpList_append_lies _ (by rfl) _ _ 87 (by rfl) w.heap.size 95 i0 (.agg #[.string ⟨#[]⟩,.bool false,Iq 0,Iq 0,Iq 0,Iq 0]) 6 56 underlying87 hi hz0 hz1 hz2 (by rfl) (by decide) _ _ _ (by rfl) ((hrow5.alloc _).alloc _) ⟨w5.heap.size+1,0,none⟩ 1 1 [S x.name,.bool x.allow,Iq x.top,Iq x.pl,Iq x.named,Iq x.parts] (by rfl) (by rfl) (yl _ _ x) (Rh x) (by decide) (by unfold maxLen;omega) (by omega) (by simp;omega) _ rfl ?_)
    intro gt ct w7 hown7 hgrow7 hat7 hlt7;have hpol7:=sG hrow5 hgrow7 hpol5 (by decide)
    have hpp:=HPF.out w7 hpol7;obtain⟨pp0,pp1⟩:=hpp)
   go_roundw
   case rel=>exact⟨s',xs++[x],_,Gm h5 HG.out HN.out hB5 hres5 hpol5 hrow5 hgrow7 hown7 (by omega) hnext.out ap⟩
   case measure=>
    rw[Ab (Gm h5 HG.out HN.out hB5 hres5 hpol5 hrow5 hgrow7 hown7 (by omega) hnext.out ap).rs,Ab h]
    omega
  have hRR:Hid (R=⟨false,r.i,[],[]⟩):=by
   show _=_;rcases HRES.out with⟨hh,_⟩|⟨_,hh⟩
   ·rw[bk] at hh;simp at hh
   exact hh
  have h6:=h5.below ((RP _ _).alloc (RL _) (gK x));have hres6:(w5.alloc (gK x)).heap[w.heap.size]?=some (qO (.slice none 0 0) (.slice none 0 0)):=by rw[RV _ _ _ (cq hres5)];exact hres5
  have hB6:Bl w (w5.alloc (gK x)):=hB5.alloc (by have:=hB5.size;omega) _
  have hpl:Hid ((cr ts s'.i).pl=(cr ts r.i).pl):=by show _=_;rw[II.out]
  obtain⟨c0,c1,c2,c3⟩:=h6.cells;obtain⟨k0,k1,k2⟩:=gM h6;rw[bad] at c3;have hi6:=h6.hi;have b3:(0:Int)<=(s'.i:Int):=by omega
  have b4:(s'.i:Int)<(ts.length:Int):=by omega
  have l0:=RN _ _ c0;have l1:=RN _ _ k0;have r0:=RM _ w.heap.size 0 _ _ _ hres6;have r1:=RM _ w.heap.size 1 _ _ _ hres6;have rf:∀j,(w5.alloc (gK x)).frozen? ⟨w.heap.size,j,none⟩=false:=λj=>by simp[World.frozen?,hres6]
  have ngl:gl≠w.heap.size:=λe=>by
   obtain⟨cs,hc⟩:=cM h6.words (k:=gl) rfl;rw[e,hres6] at hc;simp at hc
  have hneq1:=SY ngl;have hneq2:=SY ap.1;simp only[RY,RZ,RX] at r0 r1;simp only at l0 l1;have HB6:=Hi hB6;clear hst HRES h5 hres5 hpol5 hrow5 hB5 hB6 h6 c2;go_wp2_with fail;generalize w5.alloc (gK x)=w6 at*;go_region_held3 (λw'=>w'.cell? ⟨rb,0,none⟩=some (Sq gl ts.length cl)/\w'.cell? ⟨rb,1,none⟩=some (Iq s'.i)/\w'.cell? ⟨gl,s'.i*3+2,none⟩=some (Iq (cr ts s'.i).pl))
   (first|go_keep|(simp[*,nr];done)) (fail)
  have hV:Hid (∀w',Bl w w'->lq (da ts R).1 (da ts R).2 R.L R.xs w (.returned (.tuple #[.agg #[.slice none 0 0,.slice none 0 0],Iq 3,Iq (cr ts s'.i).pl])) w'):=λw' hw=>by
   have e:da ts R=(3,(cr ts s'.i).pl):=by rw[hRR.out,hpl.out];rfl
   rw[e];exact qo (n:=3) (by decide) hw
  go_wp2;exact RU (v:= .tuple #[.agg #[.slice none 0 0,.slice none 0 0],Iq 3,Iq (cr ts s'.i).pl]) (by simp[results,results33,go_sem,dc,cN,fD,r0,r1]) rfl (hV.out _ ((HB6.out.setCell (p:=⟨w.heap.size,0,none⟩) (RL _) _).setCell (p:=⟨w.heap.size,1,none⟩) (RL _) _).drew)
end
variable {a t F ts i L r xs fr g R}
theorem H9 {l:LB} (I:l.length<=1000) (z:a<l.length) (h:fv l a=some t):t.k≠101/\lO t:=by
 have E:=my z h;refine⟨?_,by omega,?_⟩
 ·unfold fv at h;rw[RI z] at h;simp only at h;repeat' split at h
  all_goals first
   |(simp at h;subst h;simp)
   |(simp at h)
 intro G;unfold fv at h;split at h
 ·split at h
  ·simp at h
  rename_i D;simp at h;subst h;refine⟨BD im l a,?_⟩;unfold big at D;simpa using D
 exfalso;rw[RI z] at h;simp only at h;repeat' split at h
 all_goals first
  |(simp at h;subst h;simp at G)
  |(simp at h)
theorem tS (l:LB) (O:l.length<=1000) (f):∀a ts,a<=l.length->l.length - a<f->jQ f l a=(ts,none)->
 0<ts.length/\ts.length<=l.length - a+1/\(∀t∈ts,lO t)/\(∀i,i+1=ts.length->(ts.getD i iF).k=101)/\(∀i,i+1<ts.length->(ts.getD i iF).k≠101):=by
 induction f with
 |zero=>intro a ts _ h;omega
 |succ f ih=>
  intro a ts R hf h;have h1:=qj jB l a;have h2:=kj jB l a R;rw[jQ] at h;by_cases I:l.length<=de jB l a
  ·rw[RK I] at h;simp at h;subst h;refine⟨by simp,by simp,?_,?_,?_⟩
   ·intro t J;simp at J;subst J;exact⟨by simp,λe=>by simp at e⟩
   ·intro i z;simp at z;subst z;rfl
   intro i z;simp at z
  rw[RH I] at h;cases D:fv l (de jB l a) with
  |none=>rw[D] at h;simp at h
  |some t=>
   rw[D] at h;simp only[Sj] at h;obtain⟨rfl,U⟩:=h;have V:=my (by omega) D
   have G:=H9 O (by omega) D
   have:=ih (de jB l a+t.text.length) (jQ f l (de jB l a+t.text.length)).1 (by omega) (by omega) (by rw[<-U])
   obtain⟨r1,r2,Y,Z,r5⟩:=this;refine⟨by simp,by simp;omega,?_,?_,?_⟩
   ·intro u E;simp at E;rcases E with rfl|E
    ·exact G.2
    exact Y u E
   ·intro i z;cases i with
    |zero=>simp only[R7] at z;omega
    |succ i=>simpa using Z i (by simpa using z)
   intro i z;cases i with
   |zero=>simpa using G.1
   |succ i=>simpa using r5 i (by simpa using z)
theorem tT (h:gI F ts i L=some r) (z:r.ok=true):
 i<r.i/\(∃new,r.L=L++new)/\Inv L.length r.L/\L.length<=r.it.top/\r.it.top<r.L.length/\r.it.parts=r.L.length:=by
 have tail:∀j x,i<j->fB F ts j L x=some r->i<r.i/\(∃new,r.L=L++new)/\Inv L.length r.L/\L.length<=r.it.top/\r.it.top<r.L.length/\r.it.parts=r.L.length:=by
  intro j x O I;obtain⟨a,J,D⟩:=wB I;rcases D with⟨E,R,rfl⟩|⟨_,G,_⟩
  ·have k:=zR F 6 ts j L 0 L.length a J E (RL _) (λk U V=>by omega) (by omega) (by omega)
   have Y:=k.fwd;exact⟨by simp;omega,k.more,k.inv,k.top.1,k.top.2,rfl⟩
  rw[G] at z;simp at z
 unfold gI at h;split at h
 ·split at h
  ·split at h
   ·exact tail _ _ (by omega) h
   simp[dJ] at h;subst h;simp at z
  simp[dJ] at h;subst h;simp at z
 split at h
 ·split at h
  ·exact tail _ _ (by omega) h
  simp[dJ] at h;subst h;simp at z
 simp[dJ] at h;subst h;simp at z
theorem Eo (i) (L) (D:16*ts.length+8<=F):∃r,gI F ts i L=some r:=by
 have tail:∀j x,∃r,fB F ts j L x=some r:=by
  intro j x;obtain⟨a,z⟩:=Nk F 6 ts j L 0 (by have:wt 6=8:=rfl;omega) (by omega)
  unfold fB;rw[z];simp only;repeat' split
  all_goals exact⟨_,rfl⟩
 unfold gI;repeat' split
 all_goals first
  |exact tail _ _
  |exact⟨_,rfl⟩
theorem j6 (G:16*ts.length+8<=F) (I:∀i,i+1=ts.length->(ts.getD i iF).k=101) (g):∀i L xs,ts.length - i<g-> ∃R,dx F ts g i L xs=some R:=by
 induction g with
 |zero=>intro i L xs h;omega
 |succ g ih=>
  intro i L xs h;rw[dx];by_cases E:(cr ts i).k=101
  ·rw[RK E];exact⟨_,rfl⟩
  rw[RH E];obtain⟨r,z⟩:=Eo i L G;rw[z];simp only;by_cases D:r.ok=true
  ·rw[RK D];have:=(tT z D).1;by_cases Y:i<ts.length
   ·exact ih r.i r.L _ (by omega)
   exfalso;have J:cr ts i=iF:=by unfold cr;rw[RG,R2 (by omega)];rfl
   unfold gI at z;rw[J] at z;have O:eE iF vO=false:=by decide
   have U:eE iF gB=false:=by decide
   have V:eE iF nF=false:=by decide
   rw[O,U,V] at z;simp[dJ] at z;subst z;simp at D
  rw[RH D];exact⟨_,rfl⟩
def RC (L:List Pt) (fr to:Nat):Prop:= ∀k,fr<=k->k<to->(L.getD k cD).subs.length<=3/\(∀j∈(L.getD k cD).subs,fr<=j/\j<k)/\yE (L.getD k cD).tok (L.getD k cD).subs.length
def Ae (L:List Pt):List dk->Nat->Prop
 |[],fr=>fr=L.length
 |x::r,fr=>fr<=x.top/\x.top<x.parts/\x.parts<=L.length/\RC L fr x.parts/\Ae L r x.parts
theorem Ae.snoc (h:Ae L xs fr) (new) (x) (E:L.length<=x.top) (G:x.top<x.parts) (h3:x.parts=(L++new).length) (I:Inv L.length (L++new)):Ae (L++new) (xs++[x]) fr:=by
 induction xs generalizing fr with
 |nil=>
  have:fr=L.length:=h;subst this;exact⟨E,G,by omega,λk a b=>I k a (by omega),h3⟩
 |cons y r ih=>
  obtain⟨a,b,c,d,e⟩:=h;refine⟨a,b,by simp;omega,?_,ih e⟩
  intro k z D;rw[gL (by omega)]
  exact d k z D
theorem Ep (g):∀i L xs R,Ae L xs 0->dx F ts g i L xs=some R->R.ok=true->Ae R.L R.xs 0:=by
 induction g with
 |zero=>intro i L xs R _ h;rw[dx] at h;simp at h
 |succ g ih=>
  intro i L xs R E h G;by_cases I:(cr ts i).k=101
  ·have:=kR h I;subst this;exact E
  rw[dx,RH I] at h;cases D:gI F ts i L with
  |none=>rw[D] at h;simp at h
  |some r=>
   rw[D] at h;simp only at h;by_cases z:r.ok=true
   ·rw[RK z] at h;obtain⟨_,⟨new,e⟩,J,U,V,O⟩:=tT D z;rw[e] at J V O h;exact ih r.i (L++new) (xs++[r.it]) R (E.snoc new r.it U (by omega) O J) h G
   rw[RH z] at h;simp at h;subst h;simp at G
theorem Ae.all (h:Ae L xs fr):fr<=L.length/\(∀k,fr<=k->k<L.length->(L.getD k cD).subs.length<=3/\ ∀j∈(L.getD k cD).subs,j<k)/\(∀x∈xs,x.top<L.length/\x.parts<=L.length):=by
 induction xs generalizing fr with
 |nil=>
  have:fr=L.length:=h;subst this;exact⟨RL _,λk a b=>by omega,by simp⟩
 |cons y r ih=>
  obtain⟨a,b,c,d,e⟩:=h;obtain⟨R,G,I⟩:=ih e;refine⟨by omega,λk D E=>?_,?_⟩
  ·by_cases J:k<y.parts
   ·have:=d k D J;exact⟨this.1,λj O=>(this.2.1 j O).2⟩
   exact G k (by omega) E
  intro x z;simp at z;rcases z with rfl|z
  ·omega
  exact I x z
theorem Er (c):∀k o,dR xs L i c k o=none->o=none/\ ∀q,k<=q->q<k+c->(L.getD q cD).tok.k=111->0<=cW xs (L.getD q cD).tok.text i:=by
 induction c with
 |zero=>intro k o h;exact⟨h,λq z G=>by omega⟩
 |succ c ih=>
  intro k o h;rw[dR] at h;obtain⟨z,G⟩:=ih _ _ h;unfold fZ at z;by_cases E:(L.getD k cD).tok.k=111/\cW xs (L.getD k cD).tok.text i<0
  ·rw[RK E] at z;exfalso;cases o with
   |none=>simp[nz] at z
   |some p=>
    have I:∀m,nz m (some p)≠none:=λm=>by simp only[nz];split<;>simp
    exact I _ z
  rw[RH E] at z;refine⟨z,λq O R D=>?_⟩
  by_cases e:q=k
  ·subst e;by_cases J:cW xs (L.getD q cD).tok.text i<0
   ·exact absurd ⟨D,J⟩ E
   omega
  exact G q (by omega) (by omega) D
theorem Es (r):∀fr i,Ae L r fr->dq xs L r fr i=none-> ∀j G,∃Good,Hs xs (i+j) L Good/\Good r[j].top:=by
 induction r with
 |nil=>intro fr i _ _ j G;simp at G
 |cons x r ih=>
  intro fr i R D j G;obtain⟨a,b,c,d,e⟩:=R;rw[dq] at D;by_cases J:x.name≠[]/\0<=cW xs x.name i
  ·rw[RK J] at D;simp at D
  rw[RH J] at D;have O:dR xs L i (x.parts - fr) fr none=none:=by
   cases U:dR xs L i (x.parts - fr) fr none with
   |none=>rfl
   |some p=>rw[U] at D;simp at D
  rw[O] at D;simp at D;cases j with
  |zero=>
   refine⟨λk=>fr<=k/\k<x.parts,⟨?_,?_,?_,?_⟩,a,b⟩
   ·intro k z q V;have:=(d k z.1 z.2).2.1 q V;omega
   ·intro k z E;exact(Er _ _ _ O).2 k z.1 (by omega) E
   ·intro k z E I h3;exact(d k z.1 z.2).2.2.1 E I h3
   intro k z E I h3;exact(d k z.1 z.2).2.2.2 E I h3
  |succ j=>
   have:=ih x.parts (i+1) e D j (by simpa using G)
   rw[show i+(j+1)=i+1+j from by omega]
   exact this
theorem Lh (h:dx F ts g 0 [] []=some R) (E:R.ok=true):Lg R.L R.xs:=by
 have D:=Ep g 0 [] [] R rfl h E;obtain⟨_,G,h3⟩:=D.all;refine⟨λk I=>G k (R0 _) I,λx z=>(h3 x z).1,λx z=>(h3 x z).2,λJ j O=>?_⟩
 have:=Es R.xs 0 0 D J j O;rw[Sw] at this;exact this
section
open Go Go.RowKit Tryz
def lQ (ts:List Tok):mW:=(dx (16*ts.length+8) ts (ts.length+1) 0 [] []).getD ⟨false,0,[],[]⟩
def cF (l:List UInt8):(Nat×Nat)×List Pt×List dk:=
 if 1000<l.length then((1,0),[],[])
 else match (jQ (l.length+1) l 0).2 with
  |some p=>((2,p),[],[])
  |none=>(da (jQ (l.length+1) l 0).1 (lQ (jQ (l.length+1) l 0).1),(lQ (jQ (l.length+1) l 0).1).L,(lQ (jQ (l.length+1) l 0).1).xs)
theorem sH (l:List UInt8) (w:World) (J:l.length<=maxLen):Calls prog 33 #[S l] w (lq (cF l).1.1 (cF l).1.2 (cF l).2.1 (cF l).2.2 w):=by
 unfold cF
 by_cases D:1000<l.length
 ·rw[RK D];exact Hx l w D J _ _
 ·rw[RH D]
  cases G:(jQ (l.length+1) l 0).2 with
  |some p=>exact Hy l w (by omega) (jQ (l.length+1) l 0).1 p (by rw[<-G]) _ _
  |none=>
   have z:jQ (l.length+1) l 0=((jQ (l.length+1) l 0).1,none):=by rw[<-G]
   obtain⟨O,Z,U,I,r5⟩:=tS l (by omega) (l.length+1) 0 _ (R0 _) (by omega) z
   generalize (jQ (l.length+1) l 0).1=ts at*;obtain⟨R,E⟩:=j6 (F:=16*ts.length+8) (RL _) I (ts.length+1) 0 [] [] (by omega)
   have e:lQ ts=R:=by unfold lQ;rw[E];rfl
   rw[e];exact En l w (by omega) ts z U ⟨O,by omega⟩ I _ _ R E (Lh E) (λi L r V Y=>(tT V Y).1)
theorem yW (l) (w) (G:l.length<=maxLen):Calls prog 12 #[S l] w λe w'=>e= .returned (.tuple #[Iq (cF l).1.1,Iq (cF l).1.2])/\Below w.heap.size w w':=by
 go_enter func12,ntmps12;go_wp2_with fail;apply(sH l _ G).mono;rintro e O ⟨z,R,pv,rfl,⟨a,b,c,rfl⟩,⟨U,V,Y,rfl⟩,_,_⟩;generalize D:(cF l).1.1=n at*;generalize E:(cF l).1.2=k at*;have I:=Hi D;have J:=Hi E;go_wp2
 go_ret2
 refine⟨?_,z.alloc z.size _⟩;rw[I.out,J.out];rfl
end
section
open Go Go.RowKit Tryz
attribute [local go_sem ↓] Go.wp_at_zero Go.wp_at_succ
variable {x b n}
def dL (a:Int):Prop:= -9223372036854775808<=a/\a<=9223372036854775807
def fy (a:Int):Int:=if 9223372036854775807<a then 9223372036854775807 else if a< -9223372036854775808 then -9223372036854775808 else a
theorem nN (a:Int):dL (fy a):=by unfold fy dL;split;omega;split<;>omega
def cR (b:Bool):Int:=if b then 1 else 0
def fJ (n:Int):Int:=if n<0\/4<n then 0 else n
def oA (s:List UInt8) (a b:Int):Int:=
 if s=[43] then fy (a+b) else if s=[45] then fy (a - b) else if s=[61] then cR (a==b) else if s=[60] then cR (decide (a<b)) else if s=[60,61] then cR (decide (a<=b))
 else if s=[111,114] then cR (a==1||b==1) else cR (a==1&&b==1)
theorem wrap64 (h:dL x):IntKind.i64.wrap x=x:=by
 unfold dL at h;simp[IntKind.wrap,IntKind.signed,IntKind.bits];omega
theorem vE {a b:Int} (h:a=b):Ending.returned (Iq a)= .returned (Iq b):=by rw[h]
theorem Li (D:dL a) (E:dL b) (w):Calls prog 97 #[Iq a,Iq b] w λe w'=>e= .returned (Iq (fy (a+b)))/\w'=w:=by
 unfold dL at D E;have q:0<b->IntKind.i64.wrap (9223372036854775807 - b)=9223372036854775807 - b:=λh=>wrap64 (by unfold dL;omega)
 have z:b<0->IntKind.i64.wrap (-9223372036854775808 - b)= -9223372036854775808 - b:=λh=>wrap64 (by unfold dL;omega)
 by_cases G:0<b<;>by_cases I:b<0<;>by_cases A:dL (a+b)
 all_goals
  try replace q:=q G
  try replace z:=z I
  try have J:=wrap64 A
  unfold dL at A;go_enter func97,ntmps97;go_wp2
  all_goals
   go_ret;refine⟨vE ?_,rfl⟩;unfold fy
   (repeat' split)<;>omega
theorem Ia (D:dL a) (E:dL b) (w):Calls prog 98 #[Iq a,Iq b] w λe w'=>e= .returned (Iq (fy (a - b)))/\w'=w:=by
 unfold dL at D E;have q:b<0->IntKind.i64.wrap (9223372036854775807+b)=9223372036854775807+b:=λh=>wrap64 (by unfold dL;omega)
 have z:0<b->IntKind.i64.wrap (-9223372036854775808+b)= -9223372036854775808+b:=λh=>wrap64 (by unfold dL;omega)
 by_cases G:b<0<;>by_cases I:0<b<;>by_cases A:dL (a - b)
 all_goals
  try replace q:=q G
  try replace z:=z I
  try have J:=wrap64 A
  unfold dL at A;go_enter func98,ntmps98;go_wp2
  all_goals
   go_ret;refine⟨vE ?_,rfl⟩;unfold fy
   (repeat' split)<;>omega
theorem tU (b) (w):Calls prog 86 #[.bool b] w λe w'=>e= .returned (Iq (cR b))/\w'=w:=by
 cases b
 all_goals
  go_enter func86,ntmps86;go_wp2;go_ret;exact⟨rfl,rfl⟩
theorem yX (q:dL n) (w):Calls prog 85 #[Iq n] w λe w'=>e= .returned (Iq (fJ n))/\w'=w:=by
 unfold dL at q;go_enter func85,ntmps85;go_wp2
 all_goals
  go_ret;refine⟨vE ?_,rfl⟩;unfold fJ
  split<;>omega
theorem Af (s) {a b:Int} (q:dL a) (z:dL b) (w):Calls prog 51 #[S s,Iq a,Iq b] w λe w'=>e= .returned (Iq (oA s a b))/\w'=w:=by
 have D:=Li q z w;have E:=Ia q z w;have G:=λb=>tU b w
 go_enter func51,ntmps51;go_wp2_with fail
 all_goals
  first
  |(go_at_call 97;refine D.mono ?_)
  |(go_at_call 98;refine E.mono ?_)
  |(go_at_call 86;refine(G _).mono ?_)
  rintro e w' ⟨rfl,A⟩;obtain rfl:=A.symm;go_wp2_with fail;go_ret;refine⟨vE ?_,rfl⟩
  simp_all [oA]<;>(rename_i h;rw[T4.2 h];rfl)
theorem gV (b) (w):Calls prog 82 #[.bool b] w λe w'=>e= .returned (Iq (cR b))/\w'=w:=by
 cases b
 all_goals
  go_enter func82,ntmps82;go_wp2;go_ret;exact⟨rfl,rfl⟩
theorem uJ (n) (w):Calls prog 81 #[Iq n] w λe w'=>e= .returned (Iq (fJ n))/\w'=w:=by
 by_cases D:n<0
 ·have z:Hid (fJ n=0):=by show _=_;unfold fJ;rw[RK (.inl D)]
  go_enter func81,ntmps81;go_wp2;go_ret;exact⟨by rw[z.out];rfl,rfl⟩
 ·by_cases E:4<n
  ·have z:Hid (fJ n=0):=by show _=_;unfold fJ;rw[RK (.inr E)]
   go_enter func81,ntmps81;go_wp2;go_ret;exact⟨by rw[z.out];rfl,rfl⟩
  ·have z:Hid (fJ n=n):=by show _=_;unfold fJ;rw[RH (by omega)]
   go_enter func81,ntmps81;go_wp2;go_ret;exact⟨by rw[z.out];rfl,rfl⟩
theorem wG (a b) (w):Calls prog 166 #[Iq a,Iq b] w λe w'=>e= .returned (Iq (cR (a==b)))/\w'=w:=by
 have z:=λw=>gV (a==b) w
 generalize D:cR (a==b)=r at*;go_enter func166,ntmps166;go_wp2_with fail;apply(z _).mono;rintro e E ⟨rfl,rfl⟩;go_wp2;go_ret;exact⟨rfl,rfl⟩
theorem yY (a b) (w):Calls prog 167 #[Iq a,Iq b] w λe w'=>e= .returned (Iq (cR (decide (a<b))))/\w'=w:=by
 have z:=λw=>gV (decide (a<b)) w
 generalize D:cR (decide (a<b))=r at*;go_enter func167,ntmps167;go_wp2_with fail;apply(z _).mono;rintro e E ⟨rfl,rfl⟩;go_wp2;go_ret;exact⟨rfl,rfl⟩
theorem uK (a b) (w):Calls prog 168 #[Iq a,Iq b] w λe w'=>e= .returned (Iq (cR (decide (a<=b))))/\w'=w:=by
 have z:=λw=>gV (decide (a<=b)) w
 generalize D:cR (decide (a<=b))=r at*;go_enter func168,ntmps168;go_wp2_with fail;apply(z _).mono;rintro e E ⟨rfl,rfl⟩;go_wp2;go_ret;exact⟨rfl,rfl⟩
theorem BV (a b) (w):Calls prog 169 #[Iq a,Iq b] w λe w'=>e= .returned (Iq (cR (a==1&&b==1)))/\w'=w:=by
 have z:=λw b=>gV b w
 cases D:(a==1)
 all_goals
  cases E:(b==1)
 all_goals
  go_enter func169,ntmps169;go_wp2_with fail;apply(z _ _).mono;rintro e G ⟨rfl,rfl⟩;go_wp2;go_ret;exact⟨rfl,rfl⟩
theorem Gn (a b) (w):Calls prog 170 #[Iq a,Iq b] w λe w'=>e= .returned (Iq (cR (a==1||b==1)))/\w'=w:=by
 have z:=λw b=>gV b w
 cases D:(a==1)
 all_goals
  cases E:(b==1)
 all_goals
  go_enter func170,ntmps170;go_wp2_with fail;apply(z _ _).mono;rintro e G ⟨rfl,rfl⟩;go_wp2;go_ret;exact⟨rfl,rfl⟩
theorem BW (D:a=0\/a=1) (w):Calls prog 125 #[Iq a] w λe w'=>e= .returned (Iq (1 - a))/\w'=w:=by
 have z:=λw b=>gV b w
 rcases D with rfl|rfl
 all_goals
  go_enter func125,ntmps125;go_wp2_with fail;apply(z _ _).mono;rintro e E ⟨rfl,rfl⟩;go_wp2;go_ret;exact⟨rfl,rfl⟩
theorem yZ {x:Int} (h:9223372036854775807<x) (z:x<=18446744073709551615):IntKind.i64.wrap x=x - 18446744073709551616:=by
 simp[IntKind.wrap,IntKind.signed,IntKind.bits];omega
theorem wH {x:Int} (h:x< -9223372036854775808) (z: -18446744073709551616<=x):IntKind.i64.wrap x=x+18446744073709551616:=by
 simp[IntKind.wrap,IntKind.signed,IntKind.bits];omega
theorem BX (I:dL a) (J:dL b) (w):Calls prog 164 #[Iq a,Iq b] w λe w'=>e= .returned (Iq (fy (a+b)))/\w'=w:=by
 unfold dL at I J
 by_cases D:9223372036854775807<a+b
 ·have z:Hid (fy (a+b)=9223372036854775807):=by show _=_;unfold fy;rw[RK D]
  have G:=yZ D (by omega)
  have a1:0<=a:=by omega
  have a2:0<=b:=by omega
  have a3:a+b - 18446744073709551616<0:=by omega
  go_enter func164,ntmps164;go_wp2;go_ret;exact⟨by rw[z.out];rfl,rfl⟩
 ·by_cases E:a+b< -9223372036854775808
  ·have z:Hid (fy (a+b)= -9223372036854775808):=by show _=_;unfold fy;rw[RH D,RK E]
   have G:=wH E (by omega)
   have a1:a<0:=by omega
   have a2:b<0:=by omega
   have a3:0<=a+b+18446744073709551616:=by omega
   go_enter func164,ntmps164;go_wp2;go_ret;exact⟨by rw[z.out];rfl,rfl⟩
  ·have z:Hid (fy (a+b)=a+b):=by show _=_;unfold fy;rw[RH D,RH E]
   have G:=wrap64 (by unfold dL;omega)
   by_cases a1:0<=a
   ·by_cases a2:0<=b
    ·have _h:=0
     go_enter func164,ntmps164;go_wp2;go_ret;exact⟨by rw[z.out];rfl,rfl⟩
    ·have _h:=0
     go_enter func164,ntmps164;go_wp2;go_ret;exact⟨by rw[z.out];rfl,rfl⟩
   ·by_cases a2:0<=b
    ·have _h:=0
     go_enter func164,ntmps164;go_wp2;go_ret;exact⟨by rw[z.out];rfl,rfl⟩
    ·have _h:=0
     go_enter func164,ntmps164;go_wp2;go_ret;exact⟨by rw[z.out];rfl,rfl⟩
theorem BY (I:dL a) (J:dL b) (w):Calls prog 165 #[Iq a,Iq b] w λe w'=>e= .returned (Iq (fy (a - b)))/\w'=w:=by
 unfold dL at I J
 by_cases D:9223372036854775807<a - b
 ·have z:Hid (fy (a - b)=9223372036854775807):=by show _=_;unfold fy;rw[RK D]
  have G:=yZ D (by omega)
  have a1:0<=a:=by omega
  have a2:b<0:=by omega
  have a3:a - b - 18446744073709551616<0:=by omega
  go_enter func165,ntmps165;go_wp2;go_ret;exact⟨by rw[z.out];rfl,rfl⟩
 ·by_cases E:a - b< -9223372036854775808
  ·have z:Hid (fy (a - b)= -9223372036854775808):=by show _=_;unfold fy;rw[RH D,RK E]
   have G:=wH E (by omega)
   have a1:a<0:=by omega
   have a2:0<=b:=by omega
   have a3:0<=a - b+18446744073709551616:=by omega
   go_enter func165,ntmps165;go_wp2;go_ret;exact⟨by rw[z.out];rfl,rfl⟩
  ·have z:Hid (fy (a - b)=a - b):=by show _=_;unfold fy;rw[RH D,RH E]
   have G:=wrap64 (by unfold dL;omega)
   by_cases a1:0<=a
   ·by_cases a2:0<=b
    ·have _h:=0
     go_enter func165,ntmps165;go_wp2;go_ret;exact⟨by rw[z.out];rfl,rfl⟩
    ·have _h:=0
     go_enter func165,ntmps165;go_wp2;go_ret;exact⟨by rw[z.out];rfl,rfl⟩
   ·by_cases a2:0<=b
    ·have _h:=0
     go_enter func165,ntmps165;go_wp2;go_ret;exact⟨by rw[z.out];rfl,rfl⟩
    ·have _h:=0
     go_enter func165,ntmps165;go_wp2;go_ret;exact⟨by rw[z.out];rfl,rfl⟩
theorem Lj (c:Nat) (E:c<256) (w:World):(convert 155 9 (Sq w.heap.size 1 1)).run prog (w.alloc (.cells #[.int .u8 c] 5))= .ok (S [UInt8.ofNat c]) (w.alloc (.cells #[.int .u8 c] 5)):=by
 refine Ua (w.alloc (.cells #[.int .u8 (c:Int)] 5)) 155 9 5 ⟨w.heap.size,0,none⟩ 1 [UInt8.ofNat c] underlying155 underlying5 underlying9 λj D=>?_
 have z:j=0:=by simp at D;omega
 subst z;have e:(UInt8.ofNat c).toNat=c:=by rw[S7];omega
 simp[Addr.add,e]
theorem Ib (c:Nat) (E:c<256) (W) (g) (h:Cq W g 0 (.int .u8 c)):(convert 155 9 (Sq g 1 1)).run prog W= .ok (S [UInt8.ofNat c]) W:=by
 refine Ua W 155 9 5 ⟨g,0,none⟩ 1 [UInt8.ofNat c] underlying155 underlying5 underlying9 λj D=>?_
 have z:j=0:=by simp at D;omega
 subst z;have e:(UInt8.ofNat c).toNat=c:=by rw[S7];omega
 simp[Addr.add,e,h]
theorem fI (a b:List UInt8):(ByteArray.mk a.toArray++ByteArray.mk b.toArray)=ByteArray.mk (a++b).toArray:=by
 apply ByteArray.ext
 simp
theorem wrap_small {x:Int} (z:0<=x) (D:x<=9223372036854775807):IntKind.i64.wrap x=x:=by
 simp[IntKind.wrap,IntKind.signed,IntKind.bits];omega
theorem Ic {x:Int} (z:0<=x) (D:x<=255):IntKind.u8.wrap x=x:=by
 simp[IntKind.wrap,IntKind.signed,IntKind.bits];omega
theorem Ll (f):∀(n:Nat) w,n<10^f->n<=9223372036854775807->0<f->f<=30->Calls prog 69 #[Iq n] w λe w'=>e= .returned (S (jZ f n))/\Below w.heap.size w w':=by
 induction f with
 |zero=>intro n w _ _ h;omega
 |succ f ih=>
  intro n w D hm _ hf
  by_cases h:n<10
  ·have G:Hid (jZ (f+1) n=[UInt8.ofNat (48+n)]):=by show _=_;rw[jZ,RK h]
   generalize jZ (f+1) n=r at*;have E:=Lj (48+n) (by omega) w
   have z:=(RP w.heap.size w).alloc (RL _) (.cells #[.int .u8 ((48+n:Nat):Int)] 5);rw[show((48+n:Nat):Int)=48+(n:Int) from by omega] at E z
   generalize UInt8.ofNat (48+n)=d at*;go_enter func69,ntmps69;go_wp2;go_ret;exact⟨by rw[G.out];rfl,z⟩
  ·have G:Hid (jZ (f+1) n=jZ f (n / 10)++[UInt8.ofNat (48+n %10)]):=by show _=_;rw[jZ,RH h]
   generalize jZ (f+1) n=r at*;have I:0<f:=by
    rcases UU f with rfl|R
    ·simp at D;omega
    ·exact R
   rw[UT] at D;have U:=λw=>ih (n / 10) w (by omega) (by omega) I (by omega)
   have hl:=yG f (n / 10);have E:∀(W:World) (g:Nat),W.cell? ⟨g,0,none⟩=some (.int .u8 (48+((n %10:Nat):Int)))->(convert 155 9 (Sq g 1 1)).run prog W= .ok (S [UInt8.ofNat (48+n %10)]) W:=λW g J=>by
    rw[show 48+((n %10:Nat):Int)=((48+n %10:Nat):Int) from by omega] at J
    exact Ib (48+n %10) (by omega) W g J
   have hq:IntKind.i64.wrap ((n:Int) / 10)=((n / 10:Nat):Int):=by
    rw[show(n:Int) / 10=((n / 10:Nat):Int) from by omega]
    exact wrap_small (by omega) (by omega)
   have ht:(n:Int).tmod 10=((n %10:Nat):Int):=by
    rw[Int.tmod_eq_emod_of_nonneg (by omega)];omega
   have Y:n %10<10:=by omega
   have Z:IntKind.i64.wrap (48+((n %10:Nat):Int))=48+((n %10:Nat):Int):=wrap_small (by omega) (by omega)
   have aa:IntKind.u8.wrap (48+((n %10:Nat):Int))=48+((n %10:Nat):Int):=Ic (by omega) (by omega)
   generalize UInt8.ofNat (48+n %10)=d at*;generalize n %10=m at*;generalize jZ f (n / 10)=t at*;generalize n / 10=q at*;have ab: ¬9223372036854775807<t.length+1:=by omega
   go_enter func69,ntmps69;go_wp2_with fail
   go_region_with ((go_at_call 69;refine(U _).mono ?_;rintro e V ⟨rfl,z⟩;try (have ac:V.cell? ⟨w.heap.size,0,none⟩=some (.int .u8 (48+(m:Int))):=by rw[z.cell (by simp)];simp)))
   all_goals go_wp2_with fail
   all_goals go_ret
   all_goals refine⟨by rw[G.out];exact Te (λs=>Ending.returned (Value.string s)) (fI t [d]),?_⟩
   all_goals have O:Below w.heap.size w (w.alloc (.cells #[.int .u8 (48+(m:Int))] 5)):=(RP _ _).alloc (RL _) _
   all_goals first
    |exact O.drew.trans (z.mono (by simp))
    |exact((RP _ _).drew.trans z).alloc (by have:=z.size;simpa using this) _
end
end Go.Proofs.YtfkdailfcmnjlaaGreatDoor
