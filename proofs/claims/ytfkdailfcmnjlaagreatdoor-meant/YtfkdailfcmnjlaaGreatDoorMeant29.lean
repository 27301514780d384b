/-
  A part.
-/
import Derived.Test.YtfkdailfcmnjlaaGreatDoorMeant22i
import Derived.Test.YtfkdailfcmnjlaaGreatDoorMeant28
set_option linter.unusedVariables false
set_option linter.unusedSimpArgs false
set_option maxHeartbeats 40000000
set_option maxRecDepth 1000000
namespace Go.Proofs.YtfkdailfcmnjlaaGreatDoor
open Go Go.RowKit Tryz
attribute [local go_sem ↓] Go.wp_at_zero Go.wp_at_succ mI
variable {c:jV} {w wr w':World} {D z:Nat} {q:List (Mk×Bool)}
theorem K2 (l:List UInt8) (n:Int) (w:World) (hW:Wd w) (J:l.length≤maxLen) (Y: ¬(du l).1.1=0):
 Calls prog 28 #[S l,Iq n,.agg (je c)] w fun e w'=>e= .returned (.bool true)∧Below w.heap.size w w':=by
 have O:=fun W (h:Below w.heap.size w W)=>pE l n W (Wd.below hW h) J
 have R:=fun W (h:Below w.heap.size w W)=>xk l W (Wd.below hW h) J
 have U:jK l n=[]:=by unfold jK;rw[Zt Y]
 rw[U] at O;have E:Below w.heap.size w (w.alloc (.cells (je c) 37)):=(ZA _ _).alloc (Zw _) _;have z:=Hi E;generalize (du l).1.1=x at*;generalize (du l).1.2=k at*;have e1:((x:Int)==0)=false:=by
  have: ¬(x:Int)=0:=by omega
  simpa using this
 have e2:((x:Int) !=0)=true:=by
  have: ¬(x:Int)=0:=by omega
  simpa using this
 go_enter func28,ntmps28;go_wp2_with fail;apply(O _ z.out).mono;rintro Z w1 ⟨rfl,G⟩;have D:=Hi (z.out.trans (G.mono z.out.size));go_wp2_with fail;apply(R w1 D.out).mono;rintro Z w2 ⟨rfl,I⟩;have V:=Hi (D.out.trans (I.mono D.out.size));go_wp2;go_ret;exact⟨rfl,V.out⟩
theorem K3 (R:jC c) (l:List UInt8) (n:Int) (w:World) (hW:Wd w) (hE:Ef w) (hm:l.length≤maxLen) (U:(du l).1.1=0):
 Calls prog 28 #[S l,Iq n,.agg (je c)] w fun e w'=>e= .returned (.bool true)∧Below w.heap.size w w':=by
 have HF:gG (eD (oB c) (jJ c)):=yY _ _ R.nd R.wh R.df (fun x hx=>EJ R 2 x hx)
 have hz:=yX l U;have W1:=fun W (h:Below w.heap.size w W)=>pE l n W (Wd.below hW h) hm
 have W2:=fun W (h:Below w.heap.size w W)=>xk l W (Wd.below hW h) hm
 have W5:=fun W (h:Below w.heap.size w W)=>pE l (bits .and .i64 n 15) W (Wd.below hW h) hm
 rw[Oc,U,hz] at W5;rw[U,hz] at W1 W2;obtain⟨ins,D,_,af⟩:=IF l n U;obtain⟨St,hj⟩:=af _ HF;obtain⟨a',r',s',aa,aj,ak,_⟩:=BG D (tB HF);rw[hj] at aa;simp only[ZR,ZT] at aa;obtain⟨_,_,rfl⟩:=aa;have am:=(rX D).1;have W3:=fun W (h:Below w.heap.size w W)=>Hv (jK l n) (w:=W) (hE.below hE.pos h)
 unfold xE at W3;rw[D] at W3;simp only[] at W3;have HJ:Hid (∀(W:World) (lv mv:Value) (lp cp gi cap:Nat),W.heap[lp]?=some (.cells #[Pq cp] 207 (0,0))→mi W cp gi cap (de (jK l n) 2) (de (jK l n) 1) ins→eW lv (jJ c).levels W→eW mv (jJ c).members W→Calls prog 53 #[Pq lp,DX (oB c),tf lv mv (jJ c)] W fun E w'=>E= .returned (.agg #[.bool (jH l (eD (oB c) (jJ c))).1,Iq ((jH l (eD (oB c) (jJ c))).2:Nat),Iq (St:Nat)])∧Below W.heap.size W w'):=fun W lv mv lp cp gi cap q1 q2 G I=>EG (oB c) (jJ c) D q1 q2 G I (tB HF) hj
 have HM:Hid (∀(W:World) (lv mv:Value),Below w.heap.size w W→eW lv (jJ c).levels W→eW mv (jJ c).members W→Calls prog 18 #[S l,DX (oB c),tf lv mv (jJ c)] W fun E w'=>E= .returned (.tuple #[.agg #[.bool (jH l (eD (oB c) (jJ c))).1,Iq ((jH l (eD (oB c) (jJ c))).2:Nat),Iq ((0:Nat):Int)],Iq ((0:Nat):Int)])∧Below W.heap.size W w'):=fun W lv mv V G I=>by
  have h:=yZ l (oB c) (jJ c) W (Wd.below hW V) hm G I HF;rw[U] at h;exact h
 generalize jH l (eD (oB c) (jJ c))=r at*;obtain⟨ra,rn⟩:=r;simp only[] at HJ HM;generalize jK l n=b at*;have ag:Below w.heap.size w (w.alloc (.cells (je c) 37)):=(ZA _ _).alloc (Zw _) _;have ah:(w.alloc (.cells (je c) 37)).heap[w.heap.size]?=some (.cells (je c) 37 (0,0)):=Zy w _;have z:=Hi (And.intro ag ah);have ao:(1:Int)≤(St:Int):=by omega
 have ap:(St:Int)≤(b.length:Int):=by omega
 have aq:b.isEmpty=false:=by cases b with|nil=>simp at am|cons x r=>rfl
 go_enter func28,ntmps28;go_wp2_with fail;apply(W1 _ z.out.1).mono;rintro E w1 ⟨rfl,ab⟩;have B1:=z.out.1.trans (ab.mono z.out.1.size);have C1:=(ab.block _ (be z.out.2)).trans z.out.2;have Y:=Hi (And.intro B1 C1);go_wp2_with fail;apply(W2 w1 Y.out.1).mono;rintro E w2 ⟨rfl,ac⟩;have B2:=Y.out.1.trans (ac.mono Y.out.1.size);have C2:=(ac.block _ (be Y.out.2)).trans Y.out.2;have H2:=Hi (And.intro B2 C2);have V3:=W3 w2 B2;go_wp2_with fail;apply V3.mono;rintro E w3 ⟨⟨lp,cp,gi,cap,rfl,ad,ai⟩,ae⟩;have B3:=H2.out.1.trans (ae.mono H2.out.1.size);have C3:=(ae.block _ (be H2.out.2)).trans H2.out.2
 go_upto_region 10 with fail
 refine iG (OG R (lp:=lp) (A:=ra) (Ru:=rn) (St:=St) C3 (fun W lv mv V G I=>HJ.out W lv mv lp cp gi cap ((V.block _ (be ad)).trans ad) (ai.below V) G I)) ?_
 rintro a4 w4 ⟨v1,u60,u61,u62,u63,u64,u65,rfl,g1,B4⟩;simp only[Exit.then]
 have A4:=B3.trans (B4.mono B3.size);have C4:=(B4.block _ (be C3)).trans C3
 go_upto_region 11 with fail
 refine iG (OH R (l:=l) (A:=ra) (Ru:=rn) (St:=0) (k:=0) C4 (fun W lv mv V G I=>HM.out W lv mv (A4.trans (V.mono A4.size)) G I)) ?_
 rintro a5 w5 ⟨v2,u66,u67,u68,u69,u70,u71,u72,u73,u74,rfl,Z,B5⟩;simp only[Exit.then]
 have J:=A4.trans (B5.mono A4.size);have G1:=(B5.block _ (be g1)).trans g1;have V5:=W5 w5 J;have H5:=Hi (And.intro J (And.intro G1 Z));go_wp2_with fail;apply V5.mono;rintro E w6 ⟨rfl,O⟩;obtain⟨J,G1,Z⟩:=H5.out;have an:=Hi (J.trans (O.mono J.size));obtain⟨a0,a1,a2,_,_,_⟩:=mJ ((O.block _ (be G1)).trans G1);obtain⟨b0,b1,b2,_,_,_⟩:=mJ ((O.block _ (be Z)).trans Z);go_wp2;go_ret;exact⟨rfl,an.out⟩
theorem IG (E:jC c) (l:List UInt8) (n:Int) (w:World) (hW:Wd w) (G:Ef w) (z:l.length≤maxLen):
 Calls prog 28 #[S l,Iq n,.agg (je c)] w fun e w'=>e= .returned (.bool true)∧Below w.heap.size w w':=by
 by_cases D:(du l).1.1=0
 ·exact K3 E l n w hW G z D
 ·exact K2 l n w hW z D
structure Od (w wr:World) (c:jV) (pb:Nat) (q:List (Mk×Bool)):Prop where
 bel:Below w.heap.size w wr
 sc:wr.heap[w.heap.size]?=some (.cells (je c) 37 (0,0))
 pol:wr.heap[pb]?=some (.cells #[S (gh q),S (gK q),.bool (eT q 0).1,Iq ((eT q 0).2:Nat),Iq 0] 42 (0,0))
theorem Od.below (h:Od w wr c D q) (z:Below wr.heap.size wr w'):Od w w' c D q:=
 ⟨h.bel.trans (z.mono h.bel.size),(z.block _ (be h.sc)).trans h.sc,(z.block _ (be h.pol)).trans h.pol⟩
theorem Od.load (h:Od w wr c z q):(nt (Pq w.heap.size)).run prog wr= .ok (.agg (je c)) wr:=jt _ _ _ h.sc rfl
theorem IH (E:jC c) {rv:Value} {l:List UInt8} {n:Int} (ab:∀w',Below w.heap.size w w'→Calls prog 16 #[.agg (je c),rv] w' (sD c w')) (hW:Wd w) (hE:Ef w) (hm:l.length≤maxLen):
 Calls prog 9 #[.agg (je c),rv,S l,Iq n] w fun e w'=>e= .returned (.bool true)∧Below w.heap.size w w':=by
 have HF:gG (eD (oB c) (jJ c)):=yY _ _ E.nd E.wh E.df (fun x hx=>EJ E 2 x hx)
 have HM:Hid (∀(l:List UInt8) (r:Bool×Nat),l.length≤maxLen→(du l).1=(0,0)→jH l (qS c)=r→ ∀W lv mv,Below w.heap.size w W→eW lv (jJ c).levels W→eW mv (jJ c).members W→Calls prog 18 #[S l,DX (oB c),tf lv mv (jJ c)] W fun en w'=>en= .returned (.tuple #[.agg #[.bool r.1,Iq (r.2:Nat),Iq ((0:Nat):Int)],Iq ((0:Nat):Int)])∧Below W.heap.size W w'):=fun l r hl h0 hr W lv mv G p1 p2=>by
  have h:=yZ l (oB c) (jJ c) W (Wd.below hW G) hl p1 p2 HF;rw[ER,hr,h0] at h;exact h
 have WM:Hid (∀(l:List UInt8) (n:Int) (W:World),Below w.heap.size w W→l.length≤maxLen→Calls prog 28 #[S l,Iq n,.agg (je c)] W fun e w'=>e= .returned (.bool true)∧Below W.heap.size W w'):=fun l n W G hl=>IG E l n W (Wd.below hW G) (hE.below hE.pos G) hl
 have O:(nt (Pq w.heap.size)).run prog (w.alloc (.cells (je c) 37))= .ok (.agg (je c)) (w.alloc (.cells (je c) 37)):=jt _ _ _ (Zy w _) rfl;have R:Below w.heap.size w (w.alloc (.cells (je c) 37)):=(ZA _ _).alloc (Zw _) _;have ac:(w.alloc (.cells (je c) 37)).heap[w.heap.size]?=some (.cells (je c) 37 (0,0)):=Zy w _;have W1:=ab _ R;have U:=Hi R;have ad:=Hi ac;go_enter func9,ntmps9;go_wp2_with fail;apply W1.mono;rintro e z ⟨q,hq,V,rfl,Y⟩;obtain⟨o1,_,o3,_,_,_⟩:=Eb hq V;have n1:=(NO hq V).1;have B1:=U.out.trans (Y.mono U.out.size);have C1:=(Y.block _ (by simp)).trans ad.out
 go_upto_region 2 with fail
 go_name_world w2 Z
 have B2:Below z.heap.size z w2:=by rw[←Z];exact(ZA _ _).alloc (Zw _) _
 have hp:w2.heap[z.heap.size]?=some (.cells #[S (gh q),S (gK q),.bool (eT q 0).1,Iq ((eT q 0).2:Nat),Iq 0] 42 (0,0)):=by rw[←Z];exact Zy z _
 have HI:Hid (Od w w2 c z.heap.size q):=⟨B1.trans (B2.mono B1.size),(B2.block _ (be C1)).trans C1,hp⟩;generalize z.heap.size=pb at*;go_wp2
 go_loopw [10] (fun(iv:Value) wr=> ∃k:Nat,k≤16∧iv= Iq k∧Hid (Od w wr c pb q)) (fun iv _=>16 - (intOf iv).toNat)
 case atStart=>exact⟨0,ZL _,rfl,HI.out⟩
 case round=>
  obtain⟨k,hk,rfl,D⟩:=hrel
  by_cases ag:k<16
  ·have O:=D.out.load
   have c0:=Zz wr _ 0 _ _ _ D.out.pol;have V1:=WM.out (gh q) k wr D.out.bel n1;have ah:(k:Int)<16:=by omega
   go_wp2_with fail;apply V1.mono;rintro e w3 ⟨rfl,ae⟩;have HN:=Hi (D.out.below ae);go_wp2
   go_roundw
   case rel=>exact⟨k+1,by omega,by go_num,HN.out⟩
   case measure=>simp[intOf];omega
  ·obtain rfl:k=16:=by omega
   have I:=D.out
   go_upto_region 8 with fail
   refine iG (Pd E (l:=gh q) (A:=(eT q 0).1) (Ru:=(eT q 0).2) (St:=0) (k:=0) _ _ _ _ _ _ _ _ _ _ _ _ _ _ _ _ _ _ _ _ _ _ _ _ _ _ _ _ _ _ _ _ _ _ _ _ _ _ _ _ _ _ _ _ _ _ _ _ I.sc (Zz wr _ 0 _ _ _ I.pol) (fun W lv mv G p1 p2=>HM.out _ _ n1 o1 o3 W lv mv (I.bel.trans (G.mono I.bel.size)) p1 p2)) ?_
   rintro a3 w3 ⟨v1,u29,u30,u31,u32,u33,u34,u35,u36,u37,u38,rfl,J,B3⟩;simp only[Exit.then]
   have h3:=I.below B3;have O:=h3.load;have V1:=WM.out l n w3 h3.bel hm;have H3:=Hi (And.intro h3 J);go_wp2_with fail;apply V1.mono;rintro e w4 ⟨rfl,aa⟩;obtain⟨h3,J⟩:=H3.out;have h4:=h3.below aa;obtain⟨a0,a1,a2,_,_,_⟩:=mJ ((aa.block _ (be J)).trans J);have b2:=Zz w4 _ 2 _ _ _ h4.pol;have b3:=Zz w4 _ 3 _ _ _ h4.pol;have b4:=Zz w4 _ 4 _ _ _ h4.pol;have af:=Hi h4.bel;generalize (eT q 0).1=ra at*;generalize (eT q 0).2=rn at*;go_wp2;go_ret;exact⟨rfl,af.out⟩
end Go.Proofs.YtfkdailfcmnjlaaGreatDoor
