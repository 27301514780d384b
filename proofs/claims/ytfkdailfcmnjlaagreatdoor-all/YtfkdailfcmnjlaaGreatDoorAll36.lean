/-
  A part.
-/
import Derived.Test.YtfkdailfcmnjlaaGreatDoorAll35
set_option linter.all false
set_option maxHeartbeats 40000000
set_option maxRecDepth 1000000
namespace Go.Proofs.YtfkdailfcmnjlaaGreatDoor
open Go Go.RowKit Tryz
attribute [local go_sem ↓] Go.wp_at_zero Go.wp_at_succ
variable {b cp w A Ru lv J D E lp gi rp}
theorem EL {ins St mv} (e) (s) (hld:fD b=some ins) (hcp:w.heap[cp]?=some (.cells #[S b] 130 (0,0))) (h1:dc lv s.levels w) (h2:dc mv s.members w) (hwa:dn e.wants) (hF:dL (dz e s)) (hj:mN b ins (dz e s)=some (A,Ru,St)):
 Calls prog 26 #[Pq cp,xN e,lh lv mv s] w λen w'=>en= .returned (nU A Ru St)/\Below w.heap.size w w':=by
 have hmk:∀w:World,(Instr.makeSlice 116 (Iq 256) (Iq 256)).run prog w= .ok (.slice (some ⟨w.heap.size,0,none⟩) 256 256) (w.alloc (.cells (madeCells #[Iq 0] 256) 2)):=run_make_row' (P:=prog) 116 2 (Iq 0) 8 underlying116 nV rfl .i64 .i64 256 (by omega) (by omega)
 have W1:=λW (hb:Below w.heap.size w W)=>vO e s W (h1.below hb) (h2.below hb) hwa
 have HFL:Hid (dL (dz e s)/\mN b ins (dz e s)=some (A,Ru,St)):=⟨hF,hj⟩;generalize hfl:dz e s=fl at*;clear hfl hF hj;obtain⟨sn,tg,wa,nd,wh⟩:=e;obtain⟨ls,df,ms,op⟩:=s;obtain⟨_,la,lc,rfl,_⟩:=h1;obtain⟨_,ma,mc,rfl,_⟩:=h2;unfold xN lh at*;simp only[] at*;obtain⟨w3,hw3⟩:∃w3,((w.alloc (.cells #[S sn,S tg,Iq wa,Iq nd,Iq wh] 46)).alloc (.cells #[.slice la ls.length lc,Iq df,.slice ma ms.length mc,.bool op] 50)).alloc (.cells #[.bool false,Iq 0,Iq 0] 40)=w3:=⟨_,rfl⟩;have hb3:Below w.heap.size w w3:=by rw[<-hw3];exact(((Qq _ w).alloc (Qn _) _).alloc (by simp) _).alloc (by simp;omega) _
 have hk1:w3.heap[w.heap.size]?=some (.cells #[S sn,S tg,Iq wa,Iq nd,Iq wh] 46 (0,0)):=by rw[<-hw3];exact(Qu _ _ _ (by simp;omega)).trans ((Qu _ _ _ (by simp)).trans (Qp w _))
 have hk2:w3.heap[w.heap.size+1]?=some (.cells #[.slice la ls.length lc,Iq df,.slice ma ms.length mc,.bool op] 50 (0,0)):=by
  rw[<-hw3];refine(Qu _ _ _ (by simp)).trans ?_
  have:=Qp (w.alloc (.cells #[S sn,S tg,Iq wa,Iq nd,Iq wh] 46)) (.cells #[.slice la ls.length lc,Iq df,.slice ma ms.length mc,.bool op] 50);rw[Qw] at this;exact this
 have hk3:w3.heap[w.heap.size+1+1]?=some (.cells #[.bool false,Iq 0,Iq 0] 40 (0,0)):=by
  rw[<-hw3];have:=Qp ((w.alloc (.cells #[S sn,S tg,Iq wa,Iq nd,Iq wh] 46)).alloc (.cells #[.slice la ls.length lc,Iq df,.slice ma ms.length mc,.bool op] 50)) (.cells #[.bool false,Iq 0,Iq 0] 40);rw[Qw,Qw] at this;exact this
 have HSZ:Hid (w3.heap.size=w.heap.size+1+1+1):=by show w3.heap.size=_;rw[<-hw3,Qw,Qw,Qw]
 have V1:=W1 w3 hb3;have HCP:Hid _:=hcp;have HW:Hid _:=hw3;have HK3:Hid _:=hk3;have HB3:Hid _:=hb3;have HLD:Hid _:=hld;clear W1 hcp hw3 hk1 hk2 hk3 hb3 hld;go_enter func26,ntmps26
 go_wp2_with (
  go_at_call 41
  rw[HW.out];refine V1.mono ?_;rintro e w4 ⟨⟨gf,rfl,hgf⟩,hb4⟩;have HGF:Hid _:=hgf;have HB4:Hid _:=hb4
  clear hgf hb4 V1)
 have HW0:Hid (xY b ins fl cp gf w4 ((w4.alloc (.cells (madeCells #[Iq 0] 256) 2)).alloc (.cells #[S [43],S [45],S [61],S [60],S [60,61]] 9)) A Ru St 3 0 (.slice none 0 0)):=IV HLD.out HFL.out.1 HFL.out.2 ((HB4.out.block _ (by have:=be HCP.out;have:=HSZ.out;omega)).trans ((HB3.out.block _ (be HCP.out)).trans HCP.out)) HGF.out
 have hcp:cp<w.heap.size:=be HCP.out;have HRes:Hid (∀W,Below w4.heap.size w4 W->W.heap[w.heap.size+1+1]?=some (.cells #[.bool false,Iq 0,Iq 0] 40 (0,0))/\Below w.heap.size w W):=λW hb=>by
  have hs:=HSZ.out;have h4:=HB4.out.size;refine⟨(hb.block _ (by omega)).trans ((HB4.out.block _ (by omega)).trans HK3.out),?_⟩
  have q:=HB3.out.trans (HB4.out.mono HB3.out.size);exact q.trans (hb.mono q.size)
 have hld:=HLD.out;have hF:=HFL.out.1;clear HGF HCP HK3 HB3 HB4 HSZ HW hmk;refine wp_mono (M8 (by rfl) hld hF hcp HRes HW0) ?_
 intro e act w' h
 cases e with
 |ret=>exact h
 |_=>exact h.elim
theorem eE.pairsJ {s:Au} {mv} (h:eE w A J D E s.levels.length s.members.length (fh s.levels 8) (fh s.members 8)) (O:dc lv s.levels w) (R:dc mv s.members w):
 dc (Sq D s.levels.length (s.levels.length+8)) s.levels A/\dc (Sq E s.members.length (s.members.length+8)) s.members A:=by
 obtain⟨U,a1,c1,_,V⟩:=O;obtain⟨Y,a2,c2,_,Z⟩:=R;refine⟨⟨U,_,_,rfl,λi q=>?_⟩,⟨Y,_,_,rfl,λi q=>?_⟩⟩
 ·obtain⟨_,_,_,_,_,G⟩:=V i q;have e:fh s.levels 8 i=s.levels.getD i ([],0):=by unfold fh;rw[Qo q]
  refine⟨D,0,rfl,?_,?_,G⟩
  ·rw[QO,h.row1.fst i (by omega),e]
  rw[QO,h.row1.snd i (by omega),e]
 obtain⟨_,_,_,_,_,G⟩:=Z i q;have e:fh s.members 8 i=s.members.getD i ([],0):=by unfold fh;rw[Qo q]
 refine⟨E,0,rfl,?_,?_,G⟩
 ·rw[QO,h.row2.fst i (by omega),e]
 rw[QO,h.row2.snd i (by omega),e]
theorem EN {mv} {b:LB} {ins cap St} (e) (s) (w) (ar:fD b=some ins) (au:w.heap[lp]?=some (.cells #[Pq cp] 207 (0,0))) (aH:jz w cp gi cap (cr b 2) (cr b 1) ins) (av:w.heap[rp]?=some (.cells #[S b] 130 (0,0))) (hj:mN b ins (dz e s)=some (A,Ru,St)) (h1:dc lv s.levels w) (h2:dc mv s.members w) (aI:s.levels.length<=5900000000000) (aJ:s.members.length<=5900000000000) (hw:dn e.wants) (hF:dL (dz e s)):
 Calls prog 31 #[Pq lp,Pq rp,xN e,lh lv mv s] w λen w'=>en= .returned (.bool true)/\Bl w w':=by
 have W1:=λW h=>BN s W (h1.below h) (h2.below h) aI aJ
 have W2:=λ(W:World) (lv' aT:Value) (h:Bl w W) (p1:dc lv' s.levels W) (p2:dc aT s.members W)=>EK e s ar ((h.block _ (be au)).trans au) (aH.below h) p1 p2 hF hj
 have W3:=λ(W:World) (h:Bl w W)=>EL (w:=W) e s ar ((h.block _ (be av)).trans av) (h1.below h) (h2.below h) hw hF hj
 have W4:=λ(W WX:World) (lb O R:Nat) (h:Bl w W) (hx:eE W WX lb O R s.levels.length s.members.length (fh s.levels 8) (fh s.members 8))=>BO s W WX (h1.below h) (h2.below h) aI aJ hx
 have aK:Hid (∀W WX lb O R,Bl w W->eE W WX lb O R s.levels.length s.members.length (fh s.levels 8) (fh s.members 8)->dc (Sq O s.levels.length (s.levels.length+8)) s.levels WX/\dc (Sq R s.members.length (s.members.length+8)) s.members WX):=λW WX lb O R hb hx=>hx.pairsJ (h1.below hb) (h2.below hb)
 unfold nU at W2 W3;unfold xN lh at*;obtain⟨sn,tg,wa,nd,wh⟩:=e;obtain⟨ls,df,ms,op⟩:=s;simp only[] at*;have H0:Hid (Bl w ((w.alloc (.cells #[S sn,S tg,Iq wa,Iq nd,Iq wh] 46 (0,0))).alloc (.cells #[lv,Iq df,mv,.bool op] 50 (0,0)))/\((w.alloc (.cells #[S sn,S tg,Iq wa,Iq nd,Iq wh] 46 (0,0))).alloc (.cells #[lv,Iq df,mv,.bool op] 50 (0,0))).heap[w.heap.size]?=some (.cells #[S sn,S tg,Iq wa,Iq nd,Iq wh] 46 (0,0))/\((w.alloc (.cells #[S sn,S tg,Iq wa,Iq nd,Iq wh] 46 (0,0))).alloc (.cells #[lv,Iq df,mv,.bool op] 50 (0,0))).heap[w.heap.size+1]?=some (.cells #[lv,Iq df,mv,.bool op] 50 (0,0))):=
  ⟨((Qq _ _).alloc (Qn _) _).alloc (by simp) _,by rw[Qu _ _ _ (by simp)];exact Qp w _,by have e:=Qp (w.alloc (.cells #[S sn,S tg,Iq wa,Iq nd,Iq wh] 46 (0,0))) (.cells #[lv,Iq df,mv,.bool op] 50 (0,0));rw[Qw] at e;exact e⟩
 go_enter func31,ntmps31;go_wp2_with fail;obtain⟨ai,aw,ax⟩:=H0.out;generalize ((w.alloc (.cells #[S sn,S tg,Iq wa,Iq nd,Iq wh] 46 (0,0))).alloc (.cells #[lv,Iq df,mv,.bool op] 50 (0,0)))=wz at*;apply(W1 wz ai).mono;rintro en E ⟨lb,O,R,rfl,ay⟩;have an:Bl wz E:=ay.bl;have az:=ai.trans (an.mono ai.size);have I:=(an.block _ (be aw)).trans aw;have aA:=(an.block _ (be ax)).trans ax;have q:Bl E (E.alloc (.cells #[Sq O ls.length (ls.length+8),Iq df,Sq R ms.length (ms.length+8),.bool op] 50 (0,0))):=(Qq _ _).alloc (Qn _) _;have aa:=az.trans (q.mono az.size);have U:=ay.below q;have ad:=(q.block _ (be I)).trans I;have ae:=(q.block _ (be aA)).trans aA;have ao:(E.alloc (.cells #[Sq O ls.length (ls.length+8),Iq df,Sq R ms.length (ms.length+8),.bool op] 50 (0,0))).heap[E.heap.size]?=_:=Qp E _;have H2:=Hi (And.intro U (And.intro aa (And.intro ad (And.intro ae ao))));have aj:=Hi ai;have c0:=Qm E w.heap.size 0 _ _ _ I;have c1:=Qm E w.heap.size 1 _ _ _ I;have c2:=Qm E w.heap.size 2 _ _ _ I;have c3:=Qm E w.heap.size 3 _ _ _ I;have c4:=Qm E w.heap.size 4 _ _ _ I;simp only[Qx,Qy,Qv] at c0 c1 c2 c3 c4;have k1:w.heap.size<E.heap.size:=be I;have k2:w.heap.size≠E.heap.size:=by omega
 have k3:E.heap.size≠w.heap.size:=by omega
 go_wp2_with fail;obtain⟨U,aa,ad,ae,ao⟩:=H2.out;generalize aU:E.heap.size=bm at*;generalize (E.alloc (.cells #[Sq O ls.length (ls.length+8),Iq df,Sq R ms.length (ms.length+8),.bool op] 50 (0,0)))=w2 at*;obtain⟨p1,p2⟩:=aK.out wz w2 lb O R aj.out U;apply(W2 w2 _ _ aa p1 p2).mono;rintro en z ⟨rfl,ak⟩;have aB:=aa.trans (ak.mono aa.size);have aC:=U.below ak;have J:=(ak.block _ (be ad)).trans ad;have V:=(ak.block _ (be ae)).trans ae;have q:Bl z (z.alloc (.cells #[.bool A,Iq Ru,Iq St] 40 (0,0))):=(Qq _ _).alloc (Qn _) _;have ab:=aB.trans (q.mono aB.size);have ac:=aC.below q;have ap:=(q.block _ (be J)).trans J;have af:=(q.block _ (be V)).trans V;have ag:(z.alloc (.cells #[.bool A,Iq Ru,Iq St] 40 (0,0))).heap[z.heap.size]?=_:=Qp z _;have H4:=Hi (And.intro ac (And.intro ab (And.intro ap (And.intro af ag))));have c0:=Qm z w.heap.size 0 _ _ _ J;have c1:=Qm z w.heap.size 1 _ _ _ J;have c2:=Qm z w.heap.size 2 _ _ _ J;have c3:=Qm z w.heap.size 3 _ _ _ J;have c4:=Qm z w.heap.size 4 _ _ _ J;have d0:=Qm z (w.heap.size+1) 0 _ _ _ V;have d1:=Qm z (w.heap.size+1) 1 _ _ _ V;have d2:=Qm z (w.heap.size+1) 2 _ _ _ V;have d3:=Qm z (w.heap.size+1) 3 _ _ _ V;simp only[Qx,Qy,Qv] at c0 c1 c2 c3 c4 d0 d1 d2 d3;have k1:w.heap.size<z.heap.size:=be J;have k2:w.heap.size≠z.heap.size:=by omega
 have k3:z.heap.size≠w.heap.size:=by omega
 have j1:w.heap.size+1<z.heap.size:=be V;have j2:w.heap.size+1≠z.heap.size:=by omega
 have j3:z.heap.size≠w.heap.size+1:=by omega
 go_wp2_with fail;obtain⟨ac,ab,ap,af,ag⟩:=H4.out;generalize aV:z.heap.size=bv at*;generalize (z.alloc (.cells #[.bool A,Iq Ru,Iq St] 40 (0,0)))=w4 at*;apply(W3 w4 ab).mono;rintro en G ⟨rfl,am⟩;have aD:=ab.trans (am.mono ab.size);have aE:=ac.below am;have ah:=(am.block _ (be af)).trans af;have aF:=(am.block _ (be ag)).trans ag;have q:Bl G (G.alloc (.cells #[.bool A,Iq Ru,Iq St] 40 (0,0))):=(Qq _ _).alloc (Qn _) _;have aq:=aD.trans (q.mono aD.size);have D:=aE.below q;have Y:=(q.block _ (be aF)).trans aF;have Z:(G.alloc (.cells #[.bool A,Iq Ru,Iq St] 40 (0,0))).heap[G.heap.size]?=_:=Qp G _;have H6:=Hi (And.intro D (And.intro aq (And.intro Y Z)));have d0:=Qm G (w.heap.size+1) 0 _ _ _ ah;have d1:=Qm G (w.heap.size+1) 1 _ _ _ ah;have d2:=Qm G (w.heap.size+1) 2 _ _ _ ah;have d3:=Qm G (w.heap.size+1) 3 _ _ _ ah;simp only[Qx,Qy,Qv] at d0 d1 d2 d3;have j1:w.heap.size+1<G.heap.size:=be ah;have j2:w.heap.size+1≠G.heap.size:=by omega
 have j3:G.heap.size≠w.heap.size+1:=by omega
 go_wp2_with fail;obtain⟨D,aq,Y,Z⟩:=H6.out;generalize aW:G.heap.size=bu at*;generalize (G.alloc (.cells #[.bool A,Iq Ru,Iq St] 40 (0,0)))=w6 at*;have W7:=W4 wz w6 lb O R aj.out D;apply W7.mono;rintro en w7 ⟨rfl,aL,aG⟩;have aM:=aj.out.trans (aL.mono aj.out.size);have aN:bv≠O:=λe=>by
  obtain⟨cs,hc,_⟩:=D.row1.blk;rw[<-e,Y] at hc;simp at hc
 have aO:bv≠R:=λe=>by
  obtain⟨cs,hc,_⟩:=D.row2.blk;rw[<-e,Y] at hc;simp at hc
 have aP:bu≠O:=λe=>by
  obtain⟨cs,hc,_⟩:=D.row1.blk;rw[<-e,Z] at hc;simp at hc
 have aQ:bu≠R:=λe=>by
  obtain⟨cs,hc,_⟩:=D.row2.blk;rw[<-e,Z] at hc;simp at hc
 have aR:=(aG bv (be Y) aN aO).trans Y;have aS:=(aG bu (be Z) aP aQ).trans Z;have vc:=λj=>Qm w7 bv j _ _ _ aR
 have uc:=λj=>Qm w7 bu j _ _ _ aS
 have aX:=Hi aM;go_wp2_with fail;go_ret;exact⟨rfl,aX.out⟩
theorem CA (n:Nat) (q:n<=7) (w):Calls prog 13 #[Iq n] w λe w'=>e= .returned (Iq n)/\w'=w:=by
 go_enter func13,ntmps13
 go_wp2
 all_goals go_ret
 all_goals exact⟨da (by go_num),rfl⟩
end Go.Proofs.YtfkdailfcmnjlaaGreatDoor
