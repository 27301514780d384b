/-
  A part.
-/
import Derived.Test.YtfkdailfcmnjlaaGreatDoorCompiles30
import Derived.Deep.DeepCutAuto
set_option linter.all false
set_option maxHeartbeats 40000000
set_option maxRecDepth 1000000
namespace Go.Proofs.YtfkdailfcmnjlaaGreatDoor
open Go Go.RowKit Tryz
section
attribute [local go_sem ↓] Go.wp_at_zero Go.wp_at_succ
variable {w q z A D n m E G W a b c d e lv j x y g wr I J}
structure fA (w wx) (lb g1 g2 n m) (f1 f2):Prop where
 bl:Below w.heap.size w wx
 p1:w.heap.size+1<g1
 p2:w.heap.size+1<g2
 p3:w.heap.size+1<lb
 n12:g1≠g2
 n13:g1≠lb
 n23:g2≠lb
 loan:wx.heap[lb]?=some (.cells #[.slice (some ⟨g1,0,none⟩) (n+8) (n+8),.slice (some ⟨g2,0,none⟩) (m+8) (m+8)] 106 (0,0))
 row1:ir wx g1 108 (n+8) f1
 row2:ir wx g2 110 (m+8) f2
theorem fA.set {E G:Nat->LB×Int} (h:fA w q z A D n m E G) (j) (v):fA w (q.setCell ⟨w.heap.size+1,j,none⟩ v) z A D n m E G:=by
 have I:=h.p1;have J:=h.p2;have O:=h.p3;exact⟨h.bl.setCell (by simp) _,h.p1,h.p2,h.p3,h.n12,h.n13,h.n23,(RQ _ _ _ _ (by simp;omega)).trans h.loan,h.row1.of_block (RQ _ _ _ _ (by simp;omega)),h.row2.of_block (RQ _ _ _ _ (by simp;omega))⟩
theorem fA.drew {w q z A D n m} {E G:Nat->LB×Int} (h:fA w q z A D n m E G):fA w q.drew z A D n m E G:=
 ⟨h.bl.drew,h.p1,h.p2,h.p3,h.n12,h.n13,h.n23,h.loan,h.row1.of_block rfl,h.row2.of_block rfl⟩
theorem fA.below {I J:Nat->LB×Int} (h:fA w z D E G n m I J) (q:Bl z A):fA w A D E G n m I J:=by
 obtain⟨U,O,_⟩:=h.row1.blk;obtain⟨V,R,_⟩:=h.row2.blk;exact⟨h.bl.trans (q.mono h.bl.size),h.p1,h.p2,h.p3,h.n12,h.n13,h.n23,(q.block _ (cq h.loan)).trans h.loan,h.row1.of_block (q.block _ (cq O)),h.row2.of_block (q.block _ (cq R))⟩
theorem Mi (h:(((((w.alloc a).alloc b).alloc c).alloc d).alloc e).drew=W):Bl w W/\W.heap[w.heap.size]?=some a/\W.heap[w.heap.size+1]?=some b/\W.heap[w.heap.size+1+1]?=some c/\W.heap[w.heap.size+1+1+1]?=some d/\W.heap[w.heap.size+1+1+1+1]?=some e:=by
 subst h;refine⟨((((((RP _ _).alloc (RL _) _).alloc (by simp) _).alloc (by simp;omega) _).alloc (by simp;omega) _).alloc (by simp;omega) _).drew,?_,?_,?_,?_,?_⟩
 all_goals
  show(((((w.heap.push a).push b).push c).push d).push e)[_]?=_;simp only[Array.getElem?_push,Array.size_push];repeat rw[RH (by omega)]
  rw[RK trivial]
abbrev OY (q z n m:Nat):Obj:= .cells #[.slice (some ⟨q,0,none⟩) (n+8) (n+8),.slice (some ⟨z,0,none⟩) (m+8) (m+8)] 106 (0,0)
abbrev GJ (n:Nat) (t:TypeId):Obj:= .cells (madeCells #[.string ⟨#[]⟩,.int .i64 0] ((n+8)*2)) t (0,0)
theorem zF (h:(((((w.alloc a).alloc b).alloc (GJ n 108)).alloc (GJ m 110)).alloc (OY (w.heap.size+1+1) (w.heap.size+1+1+1) n m)).drew=W\/(((((w.alloc a).alloc b).alloc (GJ m 110)).alloc (GJ n 108)).alloc (OY (w.heap.size+1+1+1) (w.heap.size+1+1) n m)).drew=W):
 ∃I J,fA w W (w.heap.size+1+1+1+1) I J n m (λ_=>([],0)) (λ_=>([],0))/\W.heap[w.heap.size]?=some a/\W.heap[w.heap.size+1]?=some b:=by
 rcases h with h|h
 all_goals obtain⟨q,z,A,D,E,G⟩:=Mi h
 ·exact⟨_,_,⟨q,by omega,by omega,by omega,by omega,by omega,by omega,G,qE D,qE E⟩,z,A⟩
 exact⟨_,_,⟨q,by omega,by omega,by omega,by omega,by omega,by omega,G,qE E,qE D⟩,z,A⟩
theorem Mj {mv} (s) (w) (h1:dD lv s.levels w) (h2:dD mv s.members w) (hl:s.levels.length<=5900000000000) (hm:s.members.length<=5900000000000):
 Calls prog 17 #[lW lv mv s] w λen w'=> ∃lb g1 g2,en= .returned (.tuple #[Pq lb,.agg #[Sq g1 s.levels.length (s.levels.length+8),Iq s.dflt,Sq g2 s.members.length (s.members.length+8),.bool s.open_]])/\fA w w' lb g1 g2 s.levels.length s.members.length (gz s.levels 8) (gz s.members 8):=by
 unfold lW;obtain⟨_,a1,c1,rfl,hc1⟩:=h1;obtain⟨_,a2,c2,rfl,hc2⟩:=h2;obtain⟨ls,df,ms,op⟩:=s;simp only[] at*;have hmk1:=nC (P:=prog) 47 108 (.agg #[.string ⟨#[]⟩,Iq 0]) 2 24 underlying47 Fk .i64 .i64 (ls.length+8) (by omega) (by omega)
 have hmk2:=nC (P:=prog) 48 110 (.agg #[.string ⟨#[]⟩,Iq 0]) 2 24 underlying48 CX .i64 .i64 (ms.length+8) (by omega) (by omega)
 have q1:((ls.length+8:Nat):Int)=(ls.length:Int)+8:=by omega
 have q2:((ms.length+8:Nat):Int)=(ms.length:Int)+8:=by omega
 rw[q1] at hmk1;rw[q2] at hmk2;clear q1 q2;have hst:∀j,((w.alloc (.cells #[.slice a1 ls.length c1,Iq df,.slice a2 ms.length c2,.bool op] 50)).alloc (.cells #[.slice none 0 0,Iq 0,.slice none 0 0,.bool false] 50)).cell? ⟨w.heap.size,j,none⟩=(#[.slice a1 ls.length c1,Iq df,.slice a2 ms.length c2,.bool op]:Array Value)[j]?:=λj=>by
  rw[RM _ w.heap.size j _ _ _ (by rw[RV _ _ _ (by simp)];exact RO w _)]
 have s0:=hst 0;have s1:=hst 1;have s2:=hst 2;have s3:=hst 3;clear hst;simp only[RY,RZ,RX] at s0 s1 s2 s3;have HC1:=Hi hc1;have HC2:=Hi hc2;clear hc1 hc2;go_enter func17,ntmps17;go_wp2_with fail;go_cut [4] (λlp wx=> ∃lb g1 g2,lp= Pq lb/\fA w wx lb g1 g2 ls.length ms.length (λ_=>([],0)) (λ_=>([],0))/\wx.heap[w.heap.size]?=some (.cells #[.slice a1 ls.length c1,Iq df,.slice a2 ms.length c2,.bool op] 50 (0,0))/\wx.heap[w.heap.size+1]?=some (.cells #[.slice none 0 0,Iq 0,.slice none 0 0,.bool false] 50 (0,0)))
 case first=>
  go_region
  all_goals go_wp2_with fail
  all_goals go_meet
  ·obtain⟨g1,g2,h⟩:=zF (.inl rfl);exact⟨_,g1,g2,rfl,h⟩
  obtain⟨g1,g2,h⟩:=zF (.inr rfl);exact⟨_,g1,g2,rfl,h⟩
 case rest=>
  obtain⟨lb,g1,g2,rfl,hLo,hS,hZ⟩:=hcut;go_wp2_with fail;have l0:wc.cell? ⟨lb,0,none⟩=_:=RM wc lb 0 _ _ _ hLo.loan;have t0:wc.cell? ⟨w.heap.size,0,none⟩=_:=RM wc w.heap.size 0 _ _ _ hS;simp only[RY,RZ,RX] at l0 t0;have hth:=hLo.row1.there (n:=(eV ls).length) (by rw[jV];omega)
  have hsrc:0<(eV ls).length-> ∃ad,a1=some ad/\ ∀j v,(eV ls)[j]?=some v->wc.cell? (ad.add j)=some v:=xB λi hi=>by
   obtain⟨b,o,e,x0,x1,x2⟩:=HC1.out i hi;exact⟨b,o,e,(hLo.bl.cell (p:=⟨b,o+i*2,none⟩) (RN w _ x0)).trans x0,(hLo.bl.cell (p:=⟨b,o+i*2+1,none⟩) (RN w _ x1)).trans x1,x2⟩
  have hn1:(eV ls).length=Nat.min ls.length (ls.length+8)*2:=by
   rw[jV];congr 1;exact(Vd (by omega)).symm
  have H2:Hid (fA w (wc.drew.setCells g1 0 (eV ls)) lb g1 g2 ls.length ms.length (gz ls 0) (λ_=>([],0))/\(wc.drew.setCells g1 0 (eV ls)).heap[w.heap.size]?=some (.cells #[.slice a1 ls.length c1,Iq df,.slice a2 ms.length c2,.bool op] 50 (0,0))/\(wc.drew.setCells g1 0 (eV ls)).heap[w.heap.size+1]?=some (.cells #[.slice none 0 0,Iq 0,.slice none 0 0,.bool false] 50 (0,0))):=by
   have e1:=hLo.p1;refine⟨⟨jn (by omega) _ _ hLo.bl.drew,hLo.p1,hLo.p2,hLo.p3,hLo.n12,hLo.n13,hLo.n23,?_,?_,?_⟩,?_,?_⟩
   ·rw[eA (SY hLo.n13)];exact hLo.loan
   ·have:=(hLo.row1.of_block (w':=wc.drew) rfl).copied ls (by omega)
    refine⟨this.blk,λj hj=>?_,λj hj=>?_⟩
    ·rw[this.fst j hj];unfold gz;split
     ·rfl
     rw[RH (by omega)]
    rw[this.snd j hj];unfold gz;split
    ·rfl
    rw[RH (by omega)]
   ·exact hLo.row2.of_block (eA (SY hLo.n12) _ _ _)
   ·rw[eA (by omega)];exact hS
   rw[eA (by omega)];exact hZ
  clear hLo hS hZ;go_cut [4] (λlp wx=>lp= Pq lb/\wx=wc.drew.setCells g1 0 (eV ls))
  case first=>
   go_region_law ((refine pY rfl _ _ 47 47 rfl 108 underlying47 2 (by kernel_rfl) g1 0 (ls.length+8) (ls.length+8) a1 ls.length c1 (by rfl) (by rfl) (eV ls) hn1 hsrc hth.1 hth.2 (xA ls) ?_))
   all_goals (go_wp2_with fail;go_meet;exact⟨rfl,rfl⟩)
  case rest=>
   obtain⟨rfl,hwc2⟩:=hcut;rw[<-hwc2] at H2;clear hwc2 hth hsrc hn1 l0 t0;obtain⟨hLo,hS,hZ⟩:=H2.out;clear H2;go_wp2_with fail;have l0:wc.cell? ⟨lb,1,none⟩=_:=RM wc lb 1 _ _ _ hLo.loan;have t0:wc.cell? ⟨w.heap.size,2,none⟩=_:=RM wc w.heap.size 2 _ _ _ hS;simp only[RY,RZ,RX] at l0 t0;have hth:=hLo.row2.there (n:=(eV ms).length) (by rw[jV];omega)
   have hsrc:0<(eV ms).length-> ∃ad,a2=some ad/\ ∀j v,(eV ms)[j]?=some v->wc.cell? (ad.add j)=some v:=xB λi hi=>by
    obtain⟨b,o,e,x0,x1,x2⟩:=HC2.out i hi;exact⟨b,o,e,(hLo.bl.cell (p:=⟨b,o+i*2,none⟩) (RN w _ x0)).trans x0,(hLo.bl.cell (p:=⟨b,o+i*2+1,none⟩) (RN w _ x1)).trans x1,x2⟩
   have hn1:(eV ms).length=Nat.min ms.length (ms.length+8)*2:=by
    rw[jV];congr 1;exact(Vd (by omega)).symm
   have H2:Hid (fA w (wc.drew.setCells g2 0 (eV ms)) lb g1 g2 ls.length ms.length (gz ls 0) (gz ms 0)/\(wc.drew.setCells g2 0 (eV ms)).heap[w.heap.size]?=some (.cells #[.slice a1 ls.length c1,Iq df,.slice a2 ms.length c2,.bool op] 50 (0,0))/\(wc.drew.setCells g2 0 (eV ms)).heap[w.heap.size+1]?=some (.cells #[.slice none 0 0,Iq 0,.slice none 0 0,.bool false] 50 (0,0))):=by
    have e1:=hLo.p2;refine⟨⟨jn (by omega) _ _ hLo.bl.drew,hLo.p1,hLo.p2,hLo.p3,hLo.n12,hLo.n13,hLo.n23,?_,?_,?_⟩,?_,?_⟩
    ·rw[eA (SY hLo.n23)];exact hLo.loan
    ·exact hLo.row1.of_block (eA hLo.n12 _ _ _)
    ·have:=(hLo.row2.of_block (w':=wc.drew) rfl).copied ms (by omega)
     refine⟨this.blk,λj hj=>?_,λj hj=>?_⟩
     ·rw[this.fst j hj];unfold gz;split
      ·rfl
      rw[RH (by omega)]
     rw[this.snd j hj];unfold gz;split
     ·rfl
     rw[RH (by omega)]
    ·rw[eA (by omega)];exact hS
    rw[eA (by omega)];exact hZ
   clear hLo hS hZ;go_cut [4] (λlp wx=>lp= Pq lb/\wx=wc.drew.setCells g2 0 (eV ms))
   case first=>
    go_region_law ((refine pY rfl _ _ 48 48 rfl 110 underlying48 2 (by kernel_rfl) g2 0 (ms.length+8) (ms.length+8) a2 ms.length c2 (by rfl) (by rfl) (eV ms) hn1 hsrc hth.1 hth.2 (xA ms) ?_))
    all_goals (go_wp2_with fail;go_meet;exact⟨rfl,rfl⟩)
   case rest=>
    obtain⟨rfl,hwc3⟩:=hcut;rw[<-hwc3] at H2;clear hwc3 hth hsrc hn1 l0 t0 s0 s1 s2 s3 hmk1 hmk2 HC1 HC2;go_wp2_with fail;go_loopw [5] (λiv wr=> ∃i:Nat,i<=8/\iv= Iq i/\Hid (fA w wr lb g1 g2 ls.length ms.length (gz ls i) (gz ms i)/\wr.heap[w.heap.size]?=some (.cells #[.slice a1 ls.length c1,Iq df,.slice a2 ms.length c2,.bool op] 50 (0,0))/\wr.heap[w.heap.size+1]?=some (.cells #[.slice none 0 0,Iq 0,.slice none 0 0,.bool false] 50 (0,0)))) (λiv _=>8 - (intOf iv).toNat)
    case atStart=>exact⟨0,by omega,rfl,H2.out⟩
    case round=>
     obtain⟨i,hi,rfl,HI⟩:=hrel;by_cases hlt:i<8
     ·obtain⟨hLo,hS,hZ⟩:=HI.out;clear HI;have l0:wr.cell? ⟨lb,0,none⟩=_:=RM wr lb 0 _ _ _ hLo.loan;have l1:wr.cell? ⟨lb,1,none⟩=_:=RM wr lb 1 _ _ _ hLo.loan;have t0:wr.cell? ⟨w.heap.size,0,none⟩=_:=RM wr w.heap.size 0 _ _ _ hS;have t2:wr.cell? ⟨w.heap.size,2,none⟩=_:=RM wr w.heap.size 2 _ _ _ hS;simp only[RY,RZ,RX] at l0 l1 t0 t2;have r0:=hLo.row1.fst (ls.length+i) (by omega)
      have r1:=hLo.row1.snd (ls.length+i) (by omega)
      have rf:=hLo.row1.frz;have qn:((ls.length:Int)+(i:Int)).toNat=ls.length+i:=by omega
      have b0:(0:Int)<=(ls.length:Int)+(i:Int):=by omega
      have b1:(ls.length:Int)+(i:Int)<(ls.length:Int)+8:=by omega
      have b2:(i:Int)<8:=by omega
      have b3: ¬((ls.length:Int)+(i:Int)<0):=by omega
      have ne1:g1≠lb:=hLo.n13;have ne2:g1≠w.heap.size:=by have:=hLo.p1;omega
      have hLo1:fA w (((wr.setCell ⟨g1,(ls.length+i)*2,none⟩ (S Fl)).setCell ⟨g1,(ls.length+i)*2+1,none⟩ (Iq i)).drew) lb g1 g2 ls.length ms.length (gz ls (i+1)) (gz ms i):=by
       have e1:=hLo.p1;refine⟨((hLo.bl.setCell (by simp;omega) _).setCell (by simp;omega) _).drew,hLo.p1,hLo.p2,hLo.p3,hLo.n12,hLo.n13,hLo.n23,?_,?_,?_⟩
       ·exact((RQ _ _ _ _ (by simpa using SY ne1)).trans (RQ _ _ _ _ (by simpa using SY ne1))).trans hLo.loan
       ·refine(hLo.row1.put (f':=gz ls (i+1)) (j:=ls.length+i) (by omega) (x:=Fl) (y:=(i:Int)) ?_ ?_).of_block rfl
        ·unfold gz;rw[RH (by omega),RK (by omega),show ls.length+i - ls.length=i by omega]
        intro q hq hne;unfold gz;split
        ·rfl
        by_cases e:q<ls.length+i
        ·rw[RK e,RK (by omega)]
        rw[RH e,RH (by omega)]
       exact hLo.row2.of_block ((RQ _ _ _ _ (by simpa using SY hLo.n12)).trans (RQ _ _ _ _ (by simpa using SY hLo.n12)))
      have hS1:(((wr.setCell ⟨g1,(ls.length+i)*2,none⟩ (S Fl)).setCell ⟨g1,(ls.length+i)*2+1,none⟩ (Iq i)).drew).heap[w.heap.size]?=_:=((RQ _ _ _ _ (by simpa using SY ne2)).trans (RQ _ _ _ _ (by simpa using SY ne2))).trans hS
      have hZ1:(((wr.setCell ⟨g1,(ls.length+i)*2,none⟩ (S Fl)).setCell ⟨g1,(ls.length+i)*2+1,none⟩ (Iq i)).drew).heap[w.heap.size+1]?=_:=((RQ _ _ _ _ (by have:=hLo.p1;simp;omega)).trans (RQ _ _ _ _ (by have:=hLo.p1;simp;omega))).trans hZ
      have H3:=Hi (And.intro hLo1 (And.intro hS1 hZ1));clear hLo1 hS1 hZ1 hLo hS hZ;unfold S Fl at H3;go_wp2_with fail;go_region;go_wp2_with fail;generalize hw1:(((wr.setCell ⟨g1,(ls.length+i)*2,none⟩ (.string ⟨#[98,101,104,105,110,100]⟩)).setCell ⟨g1,(ls.length+i)*2+1,none⟩ (Iq i)).drew)=w1 at*;clear hw1 l0 l1 t0 t2 r0 r1 rf qn b0 b1 b2 b3 ne1 ne2;obtain⟨hLo,hS,hZ⟩:=H3.out;clear H3;have l0:w1.cell? ⟨lb,0,none⟩=_:=RM w1 lb 0 _ _ _ hLo.loan;have l1:w1.cell? ⟨lb,1,none⟩=_:=RM w1 lb 1 _ _ _ hLo.loan;have t0:w1.cell? ⟨w.heap.size,0,none⟩=_:=RM w1 w.heap.size 0 _ _ _ hS;have t2:w1.cell? ⟨w.heap.size,2,none⟩=_:=RM w1 w.heap.size 2 _ _ _ hS;simp only[RY,RZ,RX] at l0 l1 t0 t2;have r0:=hLo.row2.fst (ms.length+i) (by omega)
      have r1:=hLo.row2.snd (ms.length+i) (by omega)
      have rf:=hLo.row2.frz;have qn:((ms.length:Int)+(i:Int)).toNat=ms.length+i:=by omega
      have b0:(0:Int)<=(ms.length:Int)+(i:Int):=by omega
      have b1:(ms.length:Int)+(i:Int)<(ms.length:Int)+8:=by omega
      have ne1:g2≠lb:=hLo.n23;have ne2:g2≠w.heap.size:=by have:=hLo.p2;omega
      have hLo1:fA w (((w1.setCell ⟨g2,(ms.length+i)*2,none⟩ (S Fl)).setCell ⟨g2,(ms.length+i)*2+1,none⟩ (Iq i)).drew) lb g1 g2 ls.length ms.length (gz ls (i+1)) (gz ms (i+1)):=by
       have e1:=hLo.p2;refine⟨((hLo.bl.setCell (by simp;omega) _).setCell (by simp;omega) _).drew,hLo.p1,hLo.p2,hLo.p3,hLo.n12,hLo.n13,hLo.n23,?_,?_,?_⟩
       ·exact((RQ _ _ _ _ (by simpa using SY ne1)).trans (RQ _ _ _ _ (by simpa using SY ne1))).trans hLo.loan
       ·exact hLo.row1.of_block ((RQ _ _ _ _ (by simpa using hLo.n12)).trans (RQ _ _ _ _ (by simpa using hLo.n12)))
       refine(hLo.row2.put (f':=gz ms (i+1)) (j:=ms.length+i) (by omega) (x:=Fl) (y:=(i:Int)) ?_ ?_).of_block rfl
       ·unfold gz;rw[RH (by omega),RK (by omega),show ms.length+i - ms.length=i by omega]
       intro q hq hne;unfold gz;split
       ·rfl
       by_cases e:q<ms.length+i
       ·rw[RK e,RK (by omega)]
       rw[RH e,RH (by omega)]
      have hS1:(((w1.setCell ⟨g2,(ms.length+i)*2,none⟩ (S Fl)).setCell ⟨g2,(ms.length+i)*2+1,none⟩ (Iq i)).drew).heap[w.heap.size]?=_:=((RQ _ _ _ _ (by simpa using SY ne2)).trans (RQ _ _ _ _ (by simpa using SY ne2))).trans hS
      have hZ1:(((w1.setCell ⟨g2,(ms.length+i)*2,none⟩ (S Fl)).setCell ⟨g2,(ms.length+i)*2+1,none⟩ (Iq i)).drew).heap[w.heap.size+1]?=_:=((RQ _ _ _ _ (by have:=hLo.p2;simp;omega)).trans (RQ _ _ _ _ (by have:=hLo.p2;simp;omega))).trans hZ
      have H3:=Hi (And.intro hLo1 (And.intro hS1 hZ1));clear hLo1 hS1 hZ1 hLo hS hZ;unfold S Fl at H3;go_region;go_wp2_with fail;go_roundw
      case rel=>exact⟨i+1,by omega,by simp,H3.out⟩
      case measure=>simp[intOf];omega
     obtain rfl:i=8:=by omega
     obtain⟨hLo,hS,hZ⟩:=HI.out;clear HI;have l0:wr.cell? ⟨lb,0,none⟩=_:=RM wr lb 0 _ _ _ hLo.loan;have l1:wr.cell? ⟨lb,1,none⟩=_:=RM wr lb 1 _ _ _ hLo.loan;have t0:wr.cell? ⟨w.heap.size,0,none⟩=_:=RM wr w.heap.size 0 _ _ _ hS;have t1:wr.cell? ⟨w.heap.size,1,none⟩=_:=RM wr w.heap.size 1 _ _ _ hS;have t2:wr.cell? ⟨w.heap.size,2,none⟩=_:=RM wr w.heap.size 2 _ _ _ hS;have t3:wr.cell? ⟨w.heap.size,3,none⟩=_:=RM wr w.heap.size 3 _ _ _ hS;have z0:wr.cell? ⟨w.heap.size+1,0,none⟩=_:=RM wr (w.heap.size+1) 0 _ _ _ hZ;have z1:wr.cell? ⟨w.heap.size+1,1,none⟩=_:=RM wr (w.heap.size+1) 1 _ _ _ hZ;have z2:wr.cell? ⟨w.heap.size+1,2,none⟩=_:=RM wr (w.heap.size+1) 2 _ _ _ hZ;have z3:wr.cell? ⟨w.heap.size+1,3,none⟩=_:=RM wr (w.heap.size+1) 3 _ _ _ hZ;have zf:∀j,wr.frozen? ⟨w.heap.size+1,j,none⟩=false:=λj=>by simp[World.frozen?,hZ]
     simp only[RY,RZ,RX] at l0 l1 t0 t1 t2 t3 z0 z1 z2 z3;have HLo:Hid (fA w wr lb g1 g2 ls.length ms.length (gz ls 8) (gz ms 8)):=hLo;have nb2:(ls.length:Int)<=(ls.length:Int)+8:=by omega
     have nb3:(ms.length:Int)<=(ms.length:Int)+8:=by omega
     clear hLo hS hZ;go_wp2_with fail;go_region
     all_goals go_wp2_with fail
     all_goals refine RU (v:= .tuple #[Pq lb,.agg #[Sq g1 ls.length (ls.length+8),Iq df,Sq g2 ms.length (ms.length+8),.bool op]]) (by simp[results,results17,go_sem,z0,z1,z2,z3,zf]) rfl ⟨lb,g1,g2,rfl,?_⟩
     all_goals exact((((HLo.out.set 0 _).set 1 _).set 2 _).set 3 _).drew
def OZ:List UInt8:=[111,116,104,101,114]
def Fm (q:List (List UInt8×Int)) (y:Int) (k:Nat) (j:Nat):List UInt8×Int:=if j<k then(OZ,y) else gz q 8 j
theorem fA.over1 {G I q:Nat->LB×Int} (h:fA w A D z E n m G I) (J:j<n+8) (O:q j=(x,y)) (R:∀i,i<n+8->i≠j->q i=G i):fA w ((A.setCell ⟨z,j*2,none⟩ (S x)).setCell ⟨z,j*2+1,none⟩ (Iq y)) D z E n m q I:=by
 have U:=h.p1;exact⟨(h.bl.setCell (by simp;omega) _).setCell (by simp;omega) _,h.p1,h.p2,h.p3,h.n12,h.n13,h.n23,((RQ _ _ _ _ (by simpa using SY h.n13)).trans (RQ _ _ _ _ (by simpa using SY h.n13))).trans h.loan,h.row1.put J O R,h.row2.of_block ((RQ _ _ _ _ (by simpa using SY h.n12)).trans (RQ _ _ _ _ (by simpa using SY h.n12)))⟩
theorem fA.over2 {G I q:Nat->LB×Int} (h:fA w A D E z n m G I) (J:j<m+8) (O:q j=(x,y)) (R:∀i,i<m+8->i≠j->q i=I i):fA w ((A.setCell ⟨z,j*2,none⟩ (S x)).setCell ⟨z,j*2+1,none⟩ (Iq y)) D E z n m G q:=by
 have U:=h.p2;exact⟨(h.bl.setCell (by simp;omega) _).setCell (by simp;omega) _,h.p1,h.p2,h.p3,h.n12,h.n13,h.n23,((RQ _ _ _ _ (by simpa using SY h.n23)).trans (RQ _ _ _ _ (by simpa using SY h.n23))).trans h.loan,h.row1.of_block ((RQ _ _ _ _ (by simpa using h.n12)).trans (RQ _ _ _ _ (by simpa using h.n12))),h.row2.put J O R⟩
def qG (D E G:Nat) (I wr:World):Prop:= ∀k,k<D->k≠E->k≠G->wr.heap[k]?=I.heap[k]?
theorem qG.over (h:qG z A D E wr) (G:g=A\/g=D) (R:z<wr.heap.size) (i j) (v u) (o):qG z A D E ((((wr.setCell ⟨g,i,none⟩ v).setCell ⟨g,j,none⟩ u).alloc o).drew):=λk I J O=>by
 have q:k≠g:=by rcases G with rfl|rfl<;>assumption
 show(((wr.setCell ⟨g,i,none⟩ v).setCell ⟨g,j,none⟩ u).alloc o).heap[k]?=_;rw[RV _ _ _ (by simp;omega),RQ _ _ _ _ (by simpa using q),RQ _ _ _ _ (by simpa using q)]
 exact h k I J O
theorem GK (q:List (LB×Int)) (y) (k):Fm q y (k+1) k=(OZ,y)/\(∀i,i≠k->Fm q y (k+1) i=Fm q y k i)/\Fm q y k k=gz q 8 k:=by
 refine⟨by unfold Fm;rw[RK (by omega)],λi z=>?_,by unfold Fm;rw[RH (by omega)]⟩
 unfold Fm;by_cases h:i<k
 ·rw[RK h,RK (by omega)]
 rw[RH h,RH (by omega)]
def Ks (w I:World) (J z A n m D:Nat) (st:Array Value) (O R:Nat->List UInt8×Int) (wr:World):Prop:=fA w wr J z A n m O R/\wr.heap[D]?=some (.cells st 50 (0,0))/\qG D z A I wr
theorem Ks.over1 {w D wr E q G n m A st} {I z J:Nat->LB×Int} (h:Ks w D E q G n m A st I J wr) (ne:q≠A) {j} (O:j<n+8) {x y} (R:z j=(x,y)) (U:∀i,i<n+8->i≠j->z i=I i) (o):Ks w D E q G n m A st z J ((((wr.setCell ⟨q,j*2,none⟩ (S x)).setCell ⟨q,j*2+1,none⟩ (Iq y)).alloc o).drew):=
 have lt:=cq h.2.1;⟨((h.1.over1 O R U).below ((RP _ _).alloc (RL _) _)).drew,(RV _ _ _ (by simpa using lt)).trans (((RQ _ _ _ _ (by simpa using ne.symm)).trans (RQ _ _ _ _ (by simpa using ne.symm))).trans h.2.1),h.2.2.over (.inl rfl) lt _ _ _ _ _⟩
theorem Ks.over2 {w D wr E G q n m A st} {I J z:Nat->LB×Int} (h:Ks w D E G q n m A st I J wr) (ne:q≠A) {j} (O:j<m+8) {x y} (R:z j=(x,y)) (U:∀i,i<m+8->i≠j->z i=J i) (o):Ks w D E G q n m A st I z ((((wr.setCell ⟨q,j*2,none⟩ (S x)).setCell ⟨q,j*2+1,none⟩ (Iq y)).alloc o).drew):=
 have lt:=cq h.2.1;⟨((h.1.over2 O R U).below ((RP _ _).alloc (RL _) _)).drew,(RV _ _ _ (by simpa using lt)).trans (((RQ _ _ _ _ (by simpa using ne.symm)).trans (RQ _ _ _ _ (by simpa using ne.symm))).trans h.2.1),h.2.2.over (.inr rfl) lt _ _ _ _ _⟩
theorem Mk {mv} (s) (w D) (h1:dD lv s.levels w) (h2:dD mv s.members w) (hl:s.levels.length<=5900000000000) (hm:s.members.length<=5900000000000) (aa:fA w D E I J s.levels.length s.members.length (gz s.levels 8) (gz s.members 8)):
 Calls prog 20 #[Pq E,lW lv mv s] D λen w'=>en= .returned (.bool true)/\Bl w w'/\qG D.heap.size I J D w':=by
 unfold lW;obtain⟨_,a1,c1,rfl,ae⟩:=h1;obtain⟨_,a2,c2,rfl,af⟩:=h2;obtain⟨q,df,z,op⟩:=s;simp only[] at*;have aj:=Hi ae;have ak:=Hi af;have aw:=aa.bl.size;have H0:Hid (Ks w D E I J q.length z.length D.heap.size #[.slice a1 q.length c1,Iq df,.slice a2 z.length c2,.bool op] (Fm q 99 0) (gz z 8) (D.alloc (.cells #[.slice a1 q.length c1,Iq df,.slice a2 z.length c2,.bool op] 50 (0,0)))):=
  ⟨aa.below ((RP _ _).alloc (RL _) _),RO D _,λk hk _ _=>RV D _ k hk⟩
 have ah:I≠D.heap.size:=by obtain⟨cs,hc,_⟩:=aa.row1.blk;have:=cq hc;omega
 have ai:J≠D.heap.size:=by obtain⟨cs,hc,_⟩:=aa.row2.blk;have:=cq hc;omega
 go_enter func20,ntmps20;go_wp2;generalize am:D.alloc (.cells #[.slice a1 q.length c1,Iq df,.slice a2 z.length c2,.bool op] 50 (0,0))=wz at*;generalize ag:D.heap.size=U at*;have an:=Hi ag;go_loopw [5,6] (λov iv wr=> ∃k,k<=q.length+8/\iv= Iq k/\ov= .bool true/\Hid (Ks w D E I J q.length z.length U #[.slice a1 q.length c1,Iq df,.slice a2 z.length c2,.bool op] (Fm q 99 k) (gz z 8) wr)) (λ_ iv _=>q.length+8 - (intOf iv).toNat)
 case atStart=>exact⟨0,by omega,rfl,rfl,H0.out⟩
 case round=>
  obtain⟨k,hk,rfl,rfl,HI⟩:=hrel;have A:=HI.out;have l0:=RM wr E 0 _ _ _ A.1.loan;have t0:=RM wr U 0 _ _ _ A.2.1;simp only[RY,RZ,RX] at l0 t0;by_cases V:k<q.length+8
  ·obtain⟨o1,o2,o3⟩:=GK q 99 k;have O:=A.1.row1.fst k V;have Y:=A.1.row1.snd k V;have rf:=A.1.row1.frz;rw[o3] at O Y;have ao:k<q.length+8:=by omega
   have b0:0<=k:=by omega
   have lg:=RN wr _ O;have ll:=RN wr _ l0;have lt:=RN wr _ t0;simp only[] at lg ll lt;have n2:wr.heap.size≠I:=by omega
   have n3:wr.heap.size≠E:=by omega
   have n4:wr.heap.size≠U:=by omega
   have ap:=n2.symm;have aq:=n3.symm;have ar:=n4.symm;have R:Hid (∀o,Ks w D E I J q.length z.length U #[.slice a1 q.length c1,Iq df,.slice a2 z.length c2,.bool op] (Fm q 99 (k+1)) (gz z 8) ((((wr.setCell ⟨I,k*2,none⟩ (S OZ)).setCell ⟨I,k*2+1,none⟩ (Iq 99)).alloc o).drew)):=λo=>A.over1 ah V o1 (λi _ hi=>o2 i hi) o
   by_cases Z:k<q.length
   ·have G:gz q 8 k=q.getD k ([],0):=by unfold gz;rw[RK Z]
    obtain⟨b,o,rfl,x0,x1,x2⟩:=aj.out k Z;have ab:=(A.1.bl.cell (RN w _ x0)).trans x0;have au:=(A.1.bl.cell (RN w _ x1)).trans x1;have ac:=RN wr _ ab;simp only[] at ac;rw[G] at O Y;generalize q.getD k ([],0)=p at*;have n1:wr.heap.size≠b:=by omega
    have ad:k<q.length:=by omega
    unfold S OZ at R;go_wp2;go_region
    all_goals go_wp2_with fail
    all_goals go_roundw
    case rel=>first|exact⟨k+1,by omega,by simp,by simp,R.out _⟩|((repeat apply Exists.intro);exact⟨⟨k+1,by omega,by simp,by simp,R.out _⟩,rfl⟩)
    case measure=>simp[intOf];omega
   have G:gz q 8 k=(Fl,((k - q.length:Nat):Int)):=by unfold gz;rw[RH Z,RK (by omega)]
   rw[G] at O Y;simp only[] at O Y;rw[show (k - q.length)=k - q.length by omega] at Y
   have ad: ¬k<q.length:=by omega
   unfold S Fl at O;unfold S OZ at R;go_wp2;go_region
   all_goals go_wp2_with fail
   all_goals go_roundw
   case rel=>first|exact⟨k+1,by omega,by simp,by simp,R.out _⟩|((repeat apply Exists.intro);exact⟨⟨k+1,by omega,by simp,by simp,R.out _⟩,rfl⟩)
   case measure=>simp[intOf];omega
  obtain rfl:k=q.length+8:=by omega
  have hq:(q.length+8)=q.length+8:=by omega
  have H0:Hid (Ks w D E I J q.length z.length U #[.slice a1 q.length c1,Iq df,.slice a2 z.length c2,.bool op] (Fm q 99 (q.length+8)) (Fm z 9 0) wr):=A;generalize Fm q 99 (q.length+8)=f1 at*;go_wp2;go_loopw [5,8] (λov iv wr=> ∃k,k<=z.length+8/\iv= Iq k/\ov= .bool true/\Hid (Ks w D E I J q.length z.length U #[.slice a1 q.length c1,Iq df,.slice a2 z.length c2,.bool op] f1 (Fm z 9 k) wr)) (λ_ iv _=>z.length+8 - (intOf iv).toNat)
  case atStart=>exact⟨0,by omega,rfl,rfl,H0.out⟩
  case round=>
   obtain⟨k,hk,rfl,rfl,HI⟩:=hrel;have A:=HI.out;have l0:=RM wr E 1 _ _ _ A.1.loan;have t0:=RM wr U 2 _ _ _ A.2.1;simp only[RY,RZ,RX] at l0 t0;by_cases V:k<z.length+8
   ·obtain⟨o1,o2,o3⟩:=GK z 9 k;have O:=A.1.row2.fst k V;have Y:=A.1.row2.snd k V;have rf:=A.1.row2.frz;rw[o3] at O Y;have ao:k<z.length+8:=by omega
    have b0:0<=k:=by omega
    have lg:=RN wr _ O;have ll:=RN wr _ l0;have lt:=RN wr _ t0;simp only[] at lg ll lt;have n2:wr.heap.size≠J:=by omega
    have n3:wr.heap.size≠E:=by omega
    have n4:wr.heap.size≠U:=by omega
    have ap:=n2.symm;have aq:=n3.symm;have ar:=n4.symm;have R:Hid (∀o,Ks w D E I J q.length z.length U #[.slice a1 q.length c1,Iq df,.slice a2 z.length c2,.bool op] f1 (Fm z 9 (k+1)) ((((wr.setCell ⟨J,k*2,none⟩ (S OZ)).setCell ⟨J,k*2+1,none⟩ (Iq 9)).alloc o).drew)):=λo=>A.over2 ai V o1 (λi _ hi=>o2 i hi) o
    by_cases Z:k<z.length
    ·have G:gz z 8 k=z.getD k ([],0):=by unfold gz;rw[RK Z]
     obtain⟨b,o,rfl,x0,x1,x2⟩:=ak.out k Z;have ab:=(A.1.bl.cell (RN w _ x0)).trans x0;have au:=(A.1.bl.cell (RN w _ x1)).trans x1;have ac:=RN wr _ ab;simp only[] at ac;rw[G] at O Y;generalize z.getD k ([],0)=p at*;have n1:wr.heap.size≠b:=by omega
     have ad:k<z.length:=by omega
     unfold S OZ at R;go_wp2;go_region
     all_goals go_wp2_with fail
     all_goals go_roundw
     case rel=>first|exact⟨k+1,by omega,by simp,by simp,R.out _⟩|((repeat apply Exists.intro);exact⟨⟨k+1,by omega,by simp,by simp,R.out _⟩,rfl⟩)
     case measure=>simp[intOf];omega
    have G:gz z 8 k=(Fl,((k - z.length:Nat):Int)):=by unfold gz;rw[RH Z,RK (by omega)]
    rw[G] at O Y;simp only[] at O Y;rw[show (k - z.length)=k - z.length by omega] at Y
    have ad: ¬k<(z.length:Int):=by omega
    unfold S Fl at O;unfold S OZ at R;go_wp2;go_region
    all_goals go_wp2_with fail
    all_goals go_roundw
    case rel=>first|exact⟨k+1,by omega,by simp,by simp,R.out _⟩|((repeat apply Exists.intro);exact⟨⟨k+1,by omega,by simp,by simp,R.out _⟩,rfl⟩)
    case measure=>simp[intOf];omega
   obtain rfl:k=z.length+8:=by omega
   have hq:((z.length+8:Nat):Int)=(z.length:Int)+8:=by omega
   have HB:Hid (Below w.heap.size w wr/\qG U I J D wr):=⟨A.1.bl,A.2.2⟩;go_wp2;go_ret;exact⟨rfl,HB.out.1,by rw[an.out];exact HB.out.2⟩
end
variable {a b}
def rA (t:Nat):UInt8:=if t=0 then 45 else if t=1 then 110 else if t=2 then 116 else 109
def gD (st:List Nat):List UInt8:=st.reverse.map rA
def jq (cl:List Nat):List UInt8:=cl.map rA
theorem jo (t) (st):gD (t::st)=gD st++[rA t]:=by simp[gD]
theorem fs (st:List Nat):(gD st).length=st.length:=by simp[gD]
theorem lX (cl:List Nat):(jq cl).length=cl.length:=by simp[jq]
def tK (l:List Nat):Prop:= ∀t∈l,t<4
def ki (l:List Nat):Prop:= ∀t∈l,1<=t/\t<4
theorem AP {a b:Nat} (E:a<4) (G:b<4) (h:rA a=rA b):a=b:=by
 have z:a=0\/a=1\/a=2\/a=3:=by omega
 have D:b=0\/b=1\/b=2\/b=3:=by omega
 rcases z with rfl|rfl|rfl|rfl<;>rcases D with rfl|rfl|rfl|rfl<;>first|rfl|(exfalso;revert h;decide)
theorem uU:∀{a b:List Nat},tK a->tK b->a.map rA=b.map rA->a=b
 |[],[],_,_,_=>rfl
 |[],y::s,_,_,h=>by simp at h
 |x::r,[],_,_,h=>by simp at h
 |x::r,y::s,D,E,h=>by
  simp only[Sa,TX] at h;rw[AP (D x (by simp)) (E y (by simp)) h.1,uU (λt z=>D t (by simp[z])) (λt z=>E t (by simp[z])) h.2]
theorem GL (D:ki a) (E:ki b) (h:gD a=gD b):a=b:=by
 have:=uU (a:=a.reverse) (b:=b.reverse) (λt z=>(D t (by simpa using z)).2) (λt z=>(E t (by simpa using z)).2) h
 simpa using this
section
attribute [local go_sem ↓] Go.wp_at_zero Go.wp_at_succ
variable {st want n q k l}
theorem xC (q:Nat) (h:q<256) (w):Calls prog 49 #[.int .u8 q] w λe w'=>e= .returned (Iq (cE q))/\w'=w:=by
 go_enter func49,ntmps49
 go_wp2
 all_goals go_ret
 all_goals refine⟨dh ?_,rfl⟩
 all_goals (simp only[Uh,T4,ne_eq] at*;unfold cE;repeat' split)<;>first|rfl|omega
theorem Jj (q cells:Nat) (h:q<256) (z:cells<256) (w):Calls prog 95 #[.int .u8 q,Iq cells] w λe w'=>e= .returned (Iq (dC q cells))/\w'=w:=by
 go_enter func95,ntmps95
 go_wp2
 all_goals go_ret
 all_goals refine⟨dh ?_,rfl⟩
 all_goals (simp only[Uh,T4,ne_eq] at*;unfold dC;repeat' split)<;>first|rfl|omega
theorem nD (a b:List UInt8):(ByteArray.mk a.toArray)++(ByteArray.mk b.toArray)=⟨(a++b).toArray⟩:=by
 apply ByteArray.ext;simp
def xD (stack types more:List UInt8):Option (List UInt8):=if types.length<=stack.length/\stack.drop (stack.length - types.length)=types then some (stack.take (stack.length - types.length)++more) else none
def AQ (r:Option (List UInt8)):Value:=match r with
 |some s=> .tuple #[S s,.bool true]
 |none=> .tuple #[S [],.bool false]
theorem Jk (stack types more) (U:stack.length<=10000) (V:types.length<=10000) (h3:more.length<=10000) (w):Calls prog 96 #[S stack,S types,S more] w λe w'=>e= .returned (AQ (xD stack types more))/\w'=w:=by
 have I:({data:=stack.toArray}:ByteArray).extract (stack.length - types.length) stack.length=⟨(stack.drop (stack.length - types.length)).toArray⟩:=by
  rw[gC];unfold cut;rw[Sz (by simp)]
 have E:({data:=stack.toArray}:ByteArray).extract 0 (stack.length - types.length)=⟨(stack.take (stack.length - types.length)).toArray⟩:=by
  rw[gC];unfold cut;simp
 have q:Hid (xD stack types more=if types.length<=stack.length/\stack.drop (stack.length - types.length)=types then some (stack.take (stack.length - types.length)++more) else none):=rfl
 have G:=Hi I;have J:=Hi E;clear I E;generalize xD stack types more=r at*
 by_cases O:types.length<=stack.length
 ·have R:((stack.length:Int) - types.length).toNat=stack.length - types.length:=by omega
  by_cases D:stack.drop (stack.length - types.length)=types
  ·have z:Hid _:=q.out.trans (RK ⟨O,D⟩)
   clear q;go_enter func96,ntmps96
   go_wp2
   all_goals go_ret2
   ·exfalso
    rename_i A
    rw[G.out,T3] at A;simp[D] at A;omega
   ·refine⟨?_,rfl⟩
    rw[z.out,AQ];simp[T3,J.out,nD]
  ·have z:Hid _:=q.out.trans (RH (λh=>D h.2))
   clear q;go_enter func96,ntmps96
   go_wp2
   all_goals go_ret2
   ·exact⟨by rw[z.out];rfl,rfl⟩
   ·exfalso
    rename_i A
    rw[G.out,T3] at A;simp[D] at A
 ·have z:Hid _:=q.out.trans (RH (λh=>O h.1))
  clear q;go_enter func96,ntmps96
  go_wp2
  all_goals go_ret2
  exact⟨by rw[z.out];rfl,rfl⟩
def po (k:Kn):Value:= .agg #[.bool true,S (gD k.st),S (jq k.cl)]
def nx (r:Option Kn) (e:Ending):Prop:=match r with
 |some k=>e= .returned (.tuple #[po k,.bool true])
 |none=> ∃q z,e= .returned (.tuple #[.agg #[.bool true,.string q,.string z],.bool false])
theorem AR (a b:List Nat):gD (a++b)=gD b++gD a:=by simp[gD]
theorem Jl {more} (A:ki st) (D:ki want):xD (gD st) (gD want) (gD more)=if st.take want.length=want then some (gD (more++st.drop want.length)) else none:=by
 unfold xD;rw[fs,fs]
 by_cases h:st.take want.length=want
 ·have z:want.length<=st.length:=by have:=Te List.length h;simp at this;omega
  have e:gD st=gD (st.drop want.length)++gD want:=by
   conv=>lhs;rw[<-TP want.length st,h]
   exact AR _ _
  have q:(gD (st.drop want.length)).length=st.length - want.length:=by rw[fs];simp
  rw[RK h,RK ⟨z,by rw[e,T9 (by omega),R8 (by omega)];rfl⟩,e,UF (by omega),Sz (by omega),AR]
 ·rw[RH h,RH]
  rintro⟨z,q⟩;refine h ?_;have e:gD st=gD (st.drop want.length)++gD (st.take want.length):=by
   conv=>lhs;rw[<-TP want.length st]
   exact AR _ _
  have G:(gD (st.drop want.length)).length=st.length - want.length:=by rw[fs];simp
  rw[e,T9 (by omega),R8 (by omega)] at q
  exact GL (λt E=>A t (Um E)) D q
theorem gA (w) (q z):Below w.heap.size w ((w.alloc q).alloc z):=((RP _ _).alloc (RL _) _).alloc (by simp) _
abbrev BA (l:List UInt8):ByteArray:=⟨l.toArray⟩
theorem Jm (I:b.length<=4000) (J:k.st.length<=100) (D:ki k.st) (E:a<(ByteArray.mk b.toArray).size) (z:((ByteArray.mk b.toArray)[a]).toNat=q) (h:q=1\/q=2\/q=3) (w):Calls prog 46 #[S b,Iq a,po k] w λe w'=>nx (dZ q n k) e/\Below w.heap.size w w':=by
 have G:=E;have O:=fs k.st;have A:Hid (dZ q n k=some ⟨q::k.st,k.cl⟩/\S (gD (q::k.st))=Value.string (BA (gD k.st)++BA [rA q])):=⟨by rcases h with rfl|rfl|rfl<;>rfl,by rw[jo,nD]⟩
 unfold po;rcases h with h|h|h
 all_goals
  rw[h] at z;go_enter func46,ntmps46
  go_wp2
  refine RU (v:= .tuple #[.agg #[.bool true,.string (BA (gD k.st)++BA [rA q]),S (jq k.cl)],.bool true]) (by simp[results,results46,go_sem,h,rA]) rfl ?_
  exact⟨by rw[A.out.1];show _=_;rw[po,A.out.2],gA _ _ _⟩
theorem Jn (I:b.length<=4000) (J:k.st.length<=100) (A:ki k.st) (D:a<(ByteArray.mk b.toArray).size) (z:((ByteArray.mk b.toArray)[a]).toNat=q) (h:q=16\/q=17\/q=18) (w):Calls prog 46 #[S b,Iq a,po k] w λe w'=>nx (dZ q n k) e/\Below w.heap.size w w':=by
 have G:=D;have O:=fs k.st;have E:Hid (dZ q n k=some k):=by rcases h with rfl|rfl|rfl<;>rfl
 unfold po;rcases h with h|h|h
 all_goals
  rw[h] at z;go_enter func46,ntmps46
  go_wp2
  refine RU (v:= .tuple #[.agg #[.bool true,S (gD k.st),S (jq k.cl)],.bool true]) (by simp[results,results46,go_sem]) rfl ?_
  exact⟨by rw[E.out];rfl,gA _ _ _⟩
def Nd (q:Nat):List Nat:=if q<12 then[1,1] else if q=13\/q=14 then[2,2] else[2]
def QR (q:Nat):List Nat:=if q<9 then[1] else if q=15 then[] else[2]
theorem Jo (Z:b.length<=4000) (hk:k.st.length<=100) (I:ki k.st) (O:a<(ByteArray.mk b.toArray).size) (V:((ByteArray.mk b.toArray)[a]).toNat=q) (h:q=7\/q=8\/q=10\/q=11\/q=12\/q=13\/q=14\/q=15) (w):Calls prog 46 #[S b,Iq a,po k] w λe w'=>nx (dZ q n k) e/\Below w.heap.size w w':=by
 have Y:=O;have hl:=fs k.st;have E:=Jl (st:=k.st) (want:=Nd q) (more:=QR q) I (by rcases h with rfl|rfl|rfl|rfl|rfl|rfl|rfl|rfl<;>(intro t J;simp[Nd] at J;subst J;decide))
 have G:dZ q n k=if k.st.take (Nd q).length=Nd q then some ⟨QR q++k.st.drop (Nd q).length,k.cl⟩ else none:=by rcases h with rfl|rfl|rfl|rfl|rfl|rfl|rfl|rfl<;>rfl
 have z:=λW=>Jk (gD k.st) (gD (Nd q)) (gD (QR q)) (by omega) (by rw[fs];unfold Nd;(repeat' split)<;>decide) (by rw[fs];unfold QR;(repeat' split)<;>decide) W
 unfold po;generalize R:QR q++k.st.drop (Nd q).length=X at*
 by_cases A:k.st.take (Nd q).length=Nd q
 ·rw[E,RK A] at z
  have D:=Hi (G.trans (RK A));unfold AQ at z;simp only[] at z;rcases h with rfl|rfl|rfl|rfl|rfl|rfl|rfl|rfl
  all_goals
   go_enter func46,ntmps46;go_wp2_with fail;apply(z _).mono;rintro e U ⟨rfl,rfl⟩
   go_wp2
   refine RU (v:= .tuple #[.agg #[.bool true,S (gD X),S (jq k.cl)],.bool true]) (by simp[results,results46,go_sem]) rfl ?_
   exact⟨by rw[D.out];rfl,gA _ _ _⟩
 ·rw[E,RH A] at z
  have D:=Hi (G.trans (RH A));unfold AQ at z;simp only[] at z;rcases h with rfl|rfl|rfl|rfl|rfl|rfl|rfl|rfl
  all_goals
   go_enter func46,ntmps46;go_wp2_with fail;apply(z _).mono;rintro e U ⟨rfl,rfl⟩
   go_wp2
   refine RU (v:= .tuple #[.agg #[.bool true,S [],S (jq k.cl)],.bool false]) (by simp[results,results46,go_sem]) rfl ?_
   exact⟨by rw[D.out];exact⟨_,_,rfl⟩,gA _ _ _⟩
theorem AS {n:Nat} (h:n<=8):(BA [110,110,110,110,109,109,109,116,116]).extract n (n+1)=BA [rA (jw n)]:=by
 have e:n=0\/n=1\/n=2\/n=3\/n=4\/n=5\/n=6\/n=7\/n=8:=by omega
 rcases e with rfl|rfl|rfl|rfl|rfl|rfl|rfl|rfl|rfl<;>rfl
theorem gq (l:LB) (i) (h:i<(ByteArray.mk l.toArray).size):((ByteArray.mk l.toArray)[i]).toNat=(l.getD i 0).toNat:=by
 have q:=h
 show(l.toArray[i]).toNat=_
 rw[RG,RI q];rfl
theorem PK (cl) (h:n<cl.length) (t):jq (cl.set n t)=cut (jq cl) 0 n++[rA t]++cut (jq cl) (n+1) cl.length:=by
 have e:cut (jq cl) (n+1) cl.length=(jq cl).drop (n+1):=by unfold cut;exact Sz (by rw[U8,lX];omega)
 rw[e];unfold cut jq;rw[List.set_eq_take_append_cons_drop,RK h];simp[List.map_take,List.map_drop]
theorem N2 (t) (r):cut (gD (t::r)) 0 r.length=gD r:=by
 unfold cut;rw[jo];simp[fs,UF]
theorem N3 (t) (r):cut (gD (t::r)) r.length (r.length+1)=[rA t]:=by
 unfold cut;rw[jo,T9 (by rw[fs];omega),R8 (by rw[fs];omega)];simp
theorem N4 (cl) (h:n<cl.length):cut (jq cl) n (n+1)=[rA (cl.getD n 0)]:=by
 have q:n<(jq cl).length:=by rw[lX];exact h
 unfold cut;rw[R5 q]
 simp[jq,RG,RI h]
theorem AT (cl) (h:n<cl.length):(jq cl).getD n 0=rA (cl.getD n 0):=by
 simp[jq,RG,RI h]
theorem PL (t) (r):(gD (t::r)).getD r.length 0=rA t:=by
 rw[jo,RG,Sg (by rw[fs];omega),fs];simp
theorem PN (t u) (r):(gD (t::u::r)).getD r.length 0=rA u:=by
 rw[jo,jo,RG,Si (by rw[RT,fs];simp),Sg (by rw[fs];omega),fs];simp
theorem Ml {t:Nat} (h:t<4):rA t=45↔t=0:=by
 have e:t=0\/t=1\/t=2\/t=3:=by omega
 rcases e with rfl|rfl|rfl|rfl<;>decide
theorem tK.getD (h:tK l) (n):l.getD n 0<4:=by
 rw[RG]
 cases e:l[n]? with
 |none=>decide
 |some v=>exact h v (UJ e)
theorem QS {b:LB} (Y:b.length<=4000) (Z:k.st.length<=100) (hc:k.cl.length<=255) (D:ki k.st) (E:tK k.cl) (G:a<(ByteArray.mk b.toArray).size) (R:((ByteArray.mk b.toArray)[a]).toNat=4) (q:a+1<(ByteArray.mk b.toArray).size) (hn:((ByteArray.mk b.toArray)[a+1]).toNat=n) (z:n<=8) (w):Calls prog 46 #[S b,Iq a,po k] w λe w'=>nx (dZ 4 n k) e/\Bl w w':=by
 have U:a<b.length:=G;have hl:=fs k.st;unfold po;have V:(n:Int)+1<=9:=by omega
 have hw:IntKind.u8.wrap ((n:Int)+1)=n+1:=by unfold IntKind.wrap;simp[IntKind.signed,IntKind.bits];omega
 have q2:a+1<b.length:=q;have I:(0:Int)<=(a:Int)+1:=by omega
 have J:(a:Int)+1<(b.length:Int):=by omega
 have O:=Hi (AS z);have A:Hid (dZ 4 n k=some ⟨jw n::k.st,k.cl⟩/\S (gD (jw n::k.st))=Value.string (BA (gD k.st)++BA [rA (jw n)])):=⟨rfl,by rw[jo,nD]⟩
 go_enter func46,ntmps46;go_wp2_with fail
 go_region
 go_wp2
 refine RU (v:= .tuple #[.agg #[.bool true,.string (BA (gD k.st)++(BA [110,110,110,110,109,109,109,116,116]).extract n (n+1)),S (jq k.cl)],.bool true]) (by simp[results,results46,go_sem]) rfl ?_
 exact⟨by rw[A.out.1];show _=_;rw[po,A.out.2,<-O.out],(gA _ _ _).drew⟩
theorem QT {b:LB} (hb:b.length<=4000) (z:k.st.length<=100) (hc:k.cl.length<=255) (A:ki k.st) (D:tK k.cl) (I:a<(ByteArray.mk b.toArray).size) (U:((ByteArray.mk b.toArray)[a]).toNat=5) (E:a+1<(ByteArray.mk b.toArray).size) (hn:((ByteArray.mk b.toArray)[a+1]).toNat=n) (G:n<k.cl.length) (w):Calls prog 46 #[S b,Iq a,po k] w λe w'=>nx (dZ 5 n k) e/\Bl w w':=by
 have V:a<b.length:=I;obtain⟨st,cl⟩:=k;simp only[] at*;have q2:a+1<b.length:=E;have J:(0:Int)<=(a:Int)+1:=by omega
 have O:(a:Int)+1<(b.length:Int):=by omega
 have q4:(0:Int)<=(n:Int)/\(n:Int)<=(cl.length:Int):=by omega
 have q7:(0:Int)<=(n:Int)+1/\(n:Int)+1<=(cl.length:Int):=by omega
 cases st with
 |nil=>
  have R:=fs [];have q:Hid (dZ 5 n ⟨[],cl⟩=none):=rfl;unfold po;go_enter func46,ntmps46
  go_wp2
  refine RU (v:= .tuple #[.agg #[.bool true,S (gD []),S (jq cl)],.bool false]) (by simp[results,results46,go_sem]) rfl ?_
  exact⟨by rw[q.out];exact⟨_,_,rfl⟩,gA _ _ _⟩
 |cons t r=>
  have R:(gD (t::r)).length=r.length+1:=fs (t::r);have Y:=lX cl;have Z:r.length+1<=100:=z;have q5:((r.length:Int)+1==0)=false:=by simp;omega
  have q8:(0:Int)<=(r.length:Int)/\(r.length:Int)<=(r.length:Int)+1:=by omega
  have q:Hid (dZ 5 n ⟨t::r,cl⟩=some ⟨r,cl.set n t⟩/\S (gD r)= .string ((BA (gD (t::r))).extract 0 r.length)/\S (jq (cl.set n t))= .string ((BA (jq cl)).extract 0 n++(BA (gD (t::r))).extract r.length (r.length+1)++(BA (jq cl)).extract (n+1) cl.length)):=by
   refine⟨rfl,?_,?_⟩
   ·rw[gC,N2]
   ·rw[gC,gC,gC,nD,nD,N3,PK cl G]
  unfold po;simp only[];go_enter func46,ntmps46;go_wp2_with fail
  go_region
  go_wp2
  refine RU (v:= .tuple #[.agg #[.bool true,.string ((BA (gD (t::r))).extract 0 r.length),.string ((BA (jq cl)).extract 0 n++(BA (gD (t::r))).extract r.length (r.length+1)++(BA (jq cl)).extract (n+1) cl.length)],.bool true]) (by simp[results,results46,go_sem]) rfl ?_
  exact⟨by rw[q.out.1];show _=_;rw[po,q.out.2.1,q.out.2.2],(gA _ _ _).drew⟩
theorem QU {b:LB} (hb:b.length<=4000) (hk:k.st.length<=100) (hc:k.cl.length<=255) (R:ki k.st) (J:tK k.cl) (ha:a<(ByteArray.mk b.toArray).size) (aa:((ByteArray.mk b.toArray)[a]).toNat=6) (U:a+1<(ByteArray.mk b.toArray).size) (hn:((ByteArray.mk b.toArray)[a+1]).toNat=n) (q:n<k.cl.length) (w):Calls prog 46 #[S b,Iq a,po k] w λe w'=>nx (dZ 6 n k) e/\Bl w w':=by
 have ab:a<b.length:=ha;have hl:=fs k.st;have V:=lX k.cl;have q2:a+1<b.length:=U;have q0:(0:Int)<=(a:Int)+1:=by omega
 have q1:(a:Int)+1<(b.length:Int):=by omega
 have q3:(0:Int)<=(a:Int)+1/\(a:Int)+1<(b.length:Int):=⟨q0,q1⟩;have q4:(0:Int)<=(n:Int)/\(n:Int)<=(k.cl.length:Int):=by omega
 have q7:(0:Int)<=(n:Int)+1/\(n:Int)+1<=(k.cl.length:Int):=by omega
 have Y:n<(ByteArray.mk (jq k.cl).toArray).size:=by rw[<-V] at q;exact q
 have A:=gq (jq k.cl) n Y;rw[AT k.cl q] at A;have HS:Hid (S (gD (k.cl.getD n 0::k.st))= .string (BA (gD k.st)++(BA (jq k.cl)).extract n (n+1))):=by show _=_;rw[gC,nD,N4 k.cl q,jo]
 have G:Hid (dZ 6 n k=if k.cl.getD n 0=0 then none else some ⟨k.cl.getD n 0::k.st,k.cl⟩):=rfl
 have O:=J.getD n;unfold po
 by_cases D:k.cl.getD n 0=0
 ·have E:Hid _:=G.out.trans (RK D)
  rw[D] at A;have Z:((ByteArray.mk (jq k.cl).toArray)[n]).toNat=45:=A;clear R J G A D O;go_enter func46,ntmps46;go_wp2_with fail
  go_region
  go_wp2
  refine RU (v:= .tuple #[.agg #[.bool true,.string (BA (gD k.st)++(BA (jq k.cl)).extract n (n+1)),S (jq k.cl)],.bool false]) (by simp[results,results46,go_sem]) rfl ?_
  exact⟨by rw[E.out];exact⟨_,_,rfl⟩,(gA _ _ _).drew⟩
 ·have E:Hid _:=G.out.trans (RH D)
  have I:rA (k.cl.getD n 0)≠45:=λe=>D ((Ml O).1 e)
  have Z:((((ByteArray.mk (jq k.cl).toArray)[n]).toNat:Int) !=45)=true:=by
   rw[A];have:(rA (k.cl.getD n 0)).toNat≠45:=λe=>I (Tq.1 e)
   generalize (rA (k.cl.getD n 0)).toNat=z at*;simp;omega
  clear R J G A D O I;go_enter func46,ntmps46;go_wp2_with fail
  go_region
  go_wp2
  refine RU (v:= .tuple #[.agg #[.bool true,.string (BA (gD k.st)++(BA (jq k.cl)).extract n (n+1)),S (jq k.cl)],.bool true]) (by simp[results,results46,go_sem]) rfl ?_
  exact⟨by rw[E.out];show _=_;rw[po,HS.out],(gA _ _ _).drew⟩
theorem QV {b:LB} (hb:b.length<=4000) (D:k.st.length<=100) (hc:k.cl.length<=255) (A:ki k.st) (G:tK k.cl) (U:a<(ByteArray.mk b.toArray).size) (aa:((ByteArray.mk b.toArray)[a]).toNat=9) (w):Calls prog 46 #[S b,Iq a,po k] w λe w'=>nx (dZ 9 n k) e/\Bl w w':=by
 have ab:a<b.length:=U;obtain⟨st,cl⟩:=k;simp only[] at*
 match st,D,A with
 |[],_,_=>
  have I:(gD []).length=0:=rfl;have q:Hid (dZ 9 n ⟨[],cl⟩=none):=rfl;unfold po;go_enter func46,ntmps46;go_wp2_with fail
  go_region
  go_wp2
  refine RU (v:= .tuple #[.agg #[.bool true,S (gD []),S (jq cl)],.bool false]) (by simp[results,results46,go_sem]) rfl ?_
  exact⟨by rw[q.out];exact⟨_,_,rfl⟩,(gA _ _ _).drew⟩
 |[t],_,_=>
  have I:(gD [t]).length=1:=rfl;have q:Hid (dZ 9 n ⟨[t],cl⟩=none):=rfl;unfold po;go_enter func46,ntmps46;go_wp2_with fail
  go_region
  go_wp2
  refine RU (v:= .tuple #[.agg #[.bool true,S (gD [t]),S (jq cl)],.bool false]) (by simp[results,results46,go_sem]) rfl ?_
  exact⟨by rw[q.out];exact⟨_,_,rfl⟩,(gA _ _ _).drew⟩
 |t::u::r,D,A=>
  have I:(gD (t::u::r)).length=r.length+1+1:=fs _;have ad:r.length+1+1<=100:=D;have J:r.length+1<(ByteArray.mk (gD (t::u::r)).toArray).size:=by show r.length+1<(gD (t::u::r)).length;omega
  have O:r.length<(ByteArray.mk (gD (t::u::r)).toArray).size:=by show r.length<(gD (t::u::r)).length;omega
  have V:=gq (gD (t::u::r)) (r.length+1) J;have Y:=gq (gD (t::u::r)) r.length O;have Z:(gD (t::u::r)).getD (r.length+1) 0=rA t:=PL t (u::r);rw[Z] at V;rw[PN t u r] at Y
  have q2:(0:Int)<=(r.length:Int)+1+1 - 2/\(r.length:Int)+1+1 - 2<(r.length:Int)+1+1:=by omega
  have q3:(2:Int)<=(r.length:Int)+1+1:=by omega
  have q4:(0:Int)<=(r.length:Int)+1+1 - 2/\(r.length:Int)+1+1 - 2<=(r.length:Int)+1+1:=by omega
  have q:Hid (dZ 9 n ⟨t::u::r,cl⟩=if t=u then some ⟨2::r,cl⟩ else none):=rfl
  have R:Hid (S (gD (2::r))= .string ((BA (gD (t::u::r))).extract 0 r.length++BA [116])):=by
   show _=_
   rw[gC,nD,jo];unfold cut;rw[jo,jo,Sk];simp[fs];rfl
  by_cases e:t=u
  ·subst e
   have E:=Hi (q.out.trans (RK rfl));unfold po;generalize (rA t).toNat=z at*;simp only[];go_enter func46,ntmps46;go_wp2_with fail
   go_region
   go_wp2
   refine RU (v:= .tuple #[.agg #[.bool true,.string ((BA (gD (t::t::r))).extract 0 r.length++BA [116]),S (jq cl)],.bool true]) (by simp[results,results46,go_sem]) rfl ?_
   exact⟨by rw[E.out];show _=_;rw[po,R.out],(gA _ _ _).drew⟩
  ·have E:Hid _:=q.out.trans (RH e)
   have ae:((((rA t).toNat:Int))==((rA u).toNat:Int))=false:=by
    have:(rA t).toNat≠(rA u).toNat:=λe'=>e (AP (A t (by simp)).2 (A u (by simp)).2 (Tq.1 e'))
    simp;omega
   unfold po;generalize (rA t).toNat=z at*;generalize (rA u).toNat=y at*;simp only[];go_enter func46,ntmps46;go_wp2_with fail
   go_region
   go_wp2
   refine RU (v:= .tuple #[.agg #[.bool true,S (gD (t::u::r)),S (jq cl)],.bool false]) (by simp[results,results46,go_sem]) rfl ?_
   exact⟨by rw[E.out];exact⟨_,_,rfl⟩,(gA _ _ _).drew⟩
end
end Go.Proofs.YtfkdailfcmnjlaaGreatDoor
