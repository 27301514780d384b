/-
  A part.
-/
import Derived.Test.YtfkdailfcmnjlaaGreatDoorAll23
import Derived.Deep.DeepCutAuto
set_option linter.all false
set_option maxHeartbeats 40000000
set_option maxRecDepth 1000000
namespace Go.Proofs.YtfkdailfcmnjlaaGreatDoor
open Go Go.RowKit Tryz
attribute [local go_sem ↓] Go.wp_at_zero Go.wp_at_succ
variable {w q z A D n m E G W a b c d e lv j x y g wr I J C}
structure eE (w wx) (lb g1 g2 n m) (f1 f2):Prop where
 bl:Below w.heap.size w wx
 p1:w.heap.size+1<g1
 p2:w.heap.size+1<g2
 p3:w.heap.size+1<lb
 n12:g1≠g2
 n13:g1≠lb
 n23:g2≠lb
 loan:wx.heap[lb]?=some (.cells #[.slice (some ⟨g1,0,none⟩) (n+8) (n+8),.slice (some ⟨g2,0,none⟩) (m+8) (m+8)] 106 (0,0))
 row1:gV wx g1 108 (n+8) f1
 row2:gV wx g2 110 (m+8) f2
theorem eE.set {E G:Nat->LB×Int} (h:eE w q z A D n m E G) (j) (v):eE w (q.setCell ⟨w.heap.size+1,j,none⟩ v) z A D n m E G:=by
 have I:=h.p1;have J:=h.p2;have O:=h.p3;exact⟨h.bl.setCell (by simp) _,h.p1,h.p2,h.p3,h.n12,h.n13,h.n23,(Qr _ _ _ _ (by simp;omega)).trans h.loan,h.row1.of_block (Qr _ _ _ _ (by simp;omega)),h.row2.of_block (Qr _ _ _ _ (by simp;omega))⟩
theorem eE.drew {w q z A D n m} {E G:Nat->LB×Int} (h:eE w q z A D n m E G):eE w q.drew z A D n m E G:=
 ⟨h.bl.drew,h.p1,h.p2,h.p3,h.n12,h.n13,h.n23,h.loan,h.row1.of_block rfl,h.row2.of_block rfl⟩
theorem eE.below {I J:Nat->LB×Int} (h:eE w z D E G n m I J) (q:Bl z A):eE w A D E G n m I J:=by
 obtain⟨U,O,_⟩:=h.row1.blk;obtain⟨V,R,_⟩:=h.row2.blk;exact⟨h.bl.trans (q.mono h.bl.size),h.p1,h.p2,h.p3,h.n12,h.n13,h.n23,(q.block _ (be h.loan)).trans h.loan,h.row1.of_block (q.block _ (be O)),h.row2.of_block (q.block _ (be R))⟩
theorem KN (h:(((((w.alloc a).alloc b).alloc c).alloc d).alloc e).drew=W):Bl w W/\W.heap[w.heap.size]?=some a/\W.heap[w.heap.size+1]?=some b/\W.heap[w.heap.size+1+1]?=some c/\W.heap[w.heap.size+1+1+1]?=some d/\W.heap[w.heap.size+1+1+1+1]?=some e:=by
 subst h;refine⟨((((((Qq _ _).alloc (Qn _) _).alloc (by simp) _).alloc (by simp;omega) _).alloc (by simp;omega) _).alloc (by simp;omega) _).drew,?_,?_,?_,?_,?_⟩
 all_goals
  show(((((w.heap.push a).push b).push c).push d).push e)[_]?=_;simp only[Array.getElem?_push,Array.size_push];repeat rw[Qj (by omega)]
  rw[Qo trivial]
abbrev Nu (q z n m:Nat):Obj:= .cells #[.slice (some ⟨q,0,none⟩) (n+8) (n+8),.slice (some ⟨z,0,none⟩) (m+8) (m+8)] 106 (0,0)
abbrev Fs (n:Nat) (t:TypeId):Obj:= .cells (madeCells #[.string ⟨#[]⟩,.int .i64 0] ((n+8)*2)) t (0,0)
theorem yK (h:(((((w.alloc a).alloc b).alloc (Fs n 108)).alloc (Fs m 110)).alloc (Nu (w.heap.size+1+1) (w.heap.size+1+1+1) n m)).drew=W\/(((((w.alloc a).alloc b).alloc (Fs m 110)).alloc (Fs n 108)).alloc (Nu (w.heap.size+1+1+1) (w.heap.size+1+1) n m)).drew=W):
 ∃I J,eE w W (w.heap.size+1+1+1+1) I J n m (λ_=>([],0)) (λ_=>([],0))/\W.heap[w.heap.size]?=some a/\W.heap[w.heap.size+1]?=some b:=by
 rcases h with h|h
 all_goals obtain⟨q,z,A,D,E,G⟩:=KN h
 ·exact⟨_,_,⟨q,by omega,by omega,by omega,by omega,by omega,by omega,G,qj D,qj E⟩,z,A⟩
 exact⟨_,_,⟨q,by omega,by omega,by omega,by omega,by omega,by omega,G,qj E,qj D⟩,z,A⟩
theorem BN {mv} (s) (w) (h1:dc lv s.levels w) (h2:dc mv s.members w) (hl:s.levels.length<=5900000000000) (hm:s.members.length<=5900000000000):
 Calls prog 17 #[lh lv mv s] w λen w'=> ∃lb g1 g2,en= .returned (.tuple #[Pq lb,.agg #[Sq g1 s.levels.length (s.levels.length+8),Iq s.dflt,Sq g2 s.members.length (s.members.length+8),.bool s.open_]])/\eE w w' lb g1 g2 s.levels.length s.members.length (fh s.levels 8) (fh s.members 8):=by
 unfold lh;obtain⟨_,a1,c1,rfl,hc1⟩:=h1;obtain⟨_,a2,c2,rfl,hc2⟩:=h2;obtain⟨ls,df,ms,op⟩:=s;simp only[] at*;have hmk1:=nh (P:=prog) 47 108 (.agg #[.string ⟨#[]⟩,Iq 0]) 2 24 underlying47 Ea .i64 .i64 (ls.length+8) (by omega) (by omega)
 have hmk2:=nh (P:=prog) 48 110 (.agg #[.string ⟨#[]⟩,Iq 0]) 2 24 underlying48 BM .i64 .i64 (ms.length+8) (by omega) (by omega)
 have q1:((ls.length+8:Nat):Int)=(ls.length:Int)+8:=by omega
 have q2:((ms.length+8:Nat):Int)=(ms.length:Int)+8:=by omega
 rw[q1] at hmk1;rw[q2] at hmk2;clear q1 q2;have hst:∀j,((w.alloc (.cells #[.slice a1 ls.length c1,Iq df,.slice a2 ms.length c2,.bool op] 50)).alloc (.cells #[.slice none 0 0,Iq 0,.slice none 0 0,.bool false] 50)).cell? ⟨w.heap.size,j,none⟩=(#[.slice a1 ls.length c1,Iq df,.slice a2 ms.length c2,.bool op]:Array Value)[j]?:=λj=>by
  rw[Qm _ w.heap.size j _ _ _ (by rw[Qu _ _ _ (by simp)];exact Qp w _)]
 have s0:=hst 0;have s1:=hst 1;have s2:=hst 2;have s3:=hst 3;clear hst;simp only[Qx,Qy,Qv] at s0 s1 s2 s3;have HC1:=Hi hc1;have HC2:=Hi hc2;clear hc1 hc2;go_enter func17,ntmps17;go_wp2_with fail;go_cut [4] (λlp wx=> ∃lb g1 g2,lp= Pq lb/\eE w wx lb g1 g2 ls.length ms.length (λ_=>([],0)) (λ_=>([],0))/\wx.heap[w.heap.size]?=some (.cells #[.slice a1 ls.length c1,Iq df,.slice a2 ms.length c2,.bool op] 50 (0,0))/\wx.heap[w.heap.size+1]?=some (.cells #[.slice none 0 0,Iq 0,.slice none 0 0,.bool false] 50 (0,0)))
 case first=>
  go_region
  all_goals go_wp2_with fail
  all_goals go_meet
  ·obtain⟨g1,g2,h⟩:=yK (.inl rfl);exact⟨_,g1,g2,rfl,h⟩
  obtain⟨g1,g2,h⟩:=yK (.inr rfl);exact⟨_,g1,g2,rfl,h⟩
 case rest=>
  obtain⟨lb,g1,g2,rfl,hLo,hS,hZ⟩:=hcut;go_wp2_with fail;have l0:wc.cell? ⟨lb,0,none⟩=_:=Qm wc lb 0 _ _ _ hLo.loan;have t0:wc.cell? ⟨w.heap.size,0,none⟩=_:=Qm wc w.heap.size 0 _ _ _ hS;simp only[Qx,Qy,Qv] at l0 t0;have hth:=hLo.row1.there (n:=(eM ls).length) (by rw[jI];omega)
  have hsrc:0<(eM ls).length-> ∃ad,a1=some ad/\ ∀j v,(eM ls)[j]?=some v->wc.cell? (ad.add j)=some v:=wP λi hi=>by
   obtain⟨b,o,e,x0,x1,x2⟩:=HC1.out i hi;exact⟨b,o,e,(hLo.bl.cell (p:=⟨b,o+i*2,none⟩) (Qk w _ x0)).trans x0,(hLo.bl.cell (p:=⟨b,o+i*2+1,none⟩) (Qk w _ x1)).trans x1,x2⟩
  have hn1:(eM ls).length=Nat.min ls.length (ls.length+8)*2:=by
   rw[jI];congr 1;exact(Nat.min_eq_left (by omega)).symm
  have H2:Hid (eE w (wc.drew.setCells g1 0 (eM ls)) lb g1 g2 ls.length ms.length (fh ls 0) (λ_=>([],0))/\(wc.drew.setCells g1 0 (eM ls)).heap[w.heap.size]?=some (.cells #[.slice a1 ls.length c1,Iq df,.slice a2 ms.length c2,.bool op] 50 (0,0))/\(wc.drew.setCells g1 0 (eM ls)).heap[w.heap.size+1]?=some (.cells #[.slice none 0 0,Iq 0,.slice none 0 0,.bool false] 50 (0,0))):=by
   have e1:=hLo.p1;refine⟨⟨jh (by omega) _ _ hLo.bl.drew,hLo.p1,hLo.p2,hLo.p3,hLo.n12,hLo.n13,hLo.n23,?_,?_,?_⟩,?_,?_⟩
   ·rw[eh (Rt hLo.n13)];exact hLo.loan
   ·have:=(hLo.row1.of_block (w':=wc.drew) rfl).copied ls (by omega)
    refine⟨this.blk,λj hj=>?_,λj hj=>?_⟩
    ·rw[this.fst j hj];unfold fh;split
     ·rfl
     rw[Qj (by omega)]
    rw[this.snd j hj];unfold fh;split
    ·rfl
    rw[Qj (by omega)]
   ·exact hLo.row2.of_block (eh (Rt hLo.n12) _ _ _)
   ·rw[eh (by omega)];exact hS
   rw[eh (by omega)];exact hZ
  clear hLo hS hZ;go_cut [4] (λlp wx=>lp= Pq lb/\wx=wc.drew.setCells g1 0 (eM ls))
  case first=>
   go_region_law ((refine pC rfl _ _ 47 47 rfl 108 underlying47 2 (by kernel_rfl) g1 0 (ls.length+8) (ls.length+8) a1 ls.length c1 (by rfl) (by rfl) (eM ls) hn1 hsrc hth.1 hth.2 (wO ls) ?_))
   all_goals (go_wp2_with fail;go_meet;exact⟨rfl,rfl⟩)
  case rest=>
   obtain⟨rfl,hwc2⟩:=hcut;rw[<-hwc2] at H2;clear hwc2 hth hsrc hn1 l0 t0;obtain⟨hLo,hS,hZ⟩:=H2.out;clear H2;go_wp2_with fail;have l0:wc.cell? ⟨lb,1,none⟩=_:=Qm wc lb 1 _ _ _ hLo.loan;have t0:wc.cell? ⟨w.heap.size,2,none⟩=_:=Qm wc w.heap.size 2 _ _ _ hS;simp only[Qx,Qy,Qv] at l0 t0;have hth:=hLo.row2.there (n:=(eM ms).length) (by rw[jI];omega)
   have hsrc:0<(eM ms).length-> ∃ad,a2=some ad/\ ∀j v,(eM ms)[j]?=some v->wc.cell? (ad.add j)=some v:=wP λi hi=>by
    obtain⟨b,o,e,x0,x1,x2⟩:=HC2.out i hi;exact⟨b,o,e,(hLo.bl.cell (p:=⟨b,o+i*2,none⟩) (Qk w _ x0)).trans x0,(hLo.bl.cell (p:=⟨b,o+i*2+1,none⟩) (Qk w _ x1)).trans x1,x2⟩
   have hn1:(eM ms).length=Nat.min ms.length (ms.length+8)*2:=by
    rw[jI];congr 1;exact(Nat.min_eq_left (by omega)).symm
   have H2:Hid (eE w (wc.drew.setCells g2 0 (eM ms)) lb g1 g2 ls.length ms.length (fh ls 0) (fh ms 0)/\(wc.drew.setCells g2 0 (eM ms)).heap[w.heap.size]?=some (.cells #[.slice a1 ls.length c1,Iq df,.slice a2 ms.length c2,.bool op] 50 (0,0))/\(wc.drew.setCells g2 0 (eM ms)).heap[w.heap.size+1]?=some (.cells #[.slice none 0 0,Iq 0,.slice none 0 0,.bool false] 50 (0,0))):=by
    have e1:=hLo.p2;refine⟨⟨jh (by omega) _ _ hLo.bl.drew,hLo.p1,hLo.p2,hLo.p3,hLo.n12,hLo.n13,hLo.n23,?_,?_,?_⟩,?_,?_⟩
    ·rw[eh (Rt hLo.n23)];exact hLo.loan
    ·exact hLo.row1.of_block (eh hLo.n12 _ _ _)
    ·have:=(hLo.row2.of_block (w':=wc.drew) rfl).copied ms (by omega)
     refine⟨this.blk,λj hj=>?_,λj hj=>?_⟩
     ·rw[this.fst j hj];unfold fh;split
      ·rfl
      rw[Qj (by omega)]
     rw[this.snd j hj];unfold fh;split
     ·rfl
     rw[Qj (by omega)]
    ·rw[eh (by omega)];exact hS
    rw[eh (by omega)];exact hZ
   clear hLo hS hZ;go_cut [4] (λlp wx=>lp= Pq lb/\wx=wc.drew.setCells g2 0 (eM ms))
   case first=>
    go_region_law ((refine pC rfl _ _ 48 48 rfl 110 underlying48 2 (by kernel_rfl) g2 0 (ms.length+8) (ms.length+8) a2 ms.length c2 (by rfl) (by rfl) (eM ms) hn1 hsrc hth.1 hth.2 (wO ms) ?_))
    all_goals (go_wp2_with fail;go_meet;exact⟨rfl,rfl⟩)
   case rest=>
    obtain⟨rfl,hwc3⟩:=hcut;rw[<-hwc3] at H2;clear hwc3 hth hsrc hn1 l0 t0 s0 s1 s2 s3 hmk1 hmk2 HC1 HC2;go_wp2_with fail;go_loopw [5] (λiv wr=> ∃i:Nat,i<=8/\iv= Iq i/\Hid (eE w wr lb g1 g2 ls.length ms.length (fh ls i) (fh ms i)/\wr.heap[w.heap.size]?=some (.cells #[.slice a1 ls.length c1,Iq df,.slice a2 ms.length c2,.bool op] 50 (0,0))/\wr.heap[w.heap.size+1]?=some (.cells #[.slice none 0 0,Iq 0,.slice none 0 0,.bool false] 50 (0,0)))) (λiv _=>8 - (intOf iv).toNat)
    case atStart=>exact⟨0,by omega,rfl,H2.out⟩
    case round=>
     obtain⟨i,hi,rfl,HI⟩:=hrel;by_cases hlt:i<8
     ·obtain⟨hLo,hS,hZ⟩:=HI.out;clear HI;have l0:wr.cell? ⟨lb,0,none⟩=_:=Qm wr lb 0 _ _ _ hLo.loan;have l1:wr.cell? ⟨lb,1,none⟩=_:=Qm wr lb 1 _ _ _ hLo.loan;have t0:wr.cell? ⟨w.heap.size,0,none⟩=_:=Qm wr w.heap.size 0 _ _ _ hS;have t2:wr.cell? ⟨w.heap.size,2,none⟩=_:=Qm wr w.heap.size 2 _ _ _ hS;simp only[Qx,Qy,Qv] at l0 l1 t0 t2;have r0:=hLo.row1.fst (ls.length+i) (by omega)
      have r1:=hLo.row1.snd (ls.length+i) (by omega)
      have rf:=hLo.row1.frz;have qn:((ls.length:Int)+(i:Int)).toNat=ls.length+i:=by omega
      have b0:(0:Int)<=(ls.length:Int)+(i:Int):=by omega
      have b1:(ls.length:Int)+(i:Int)<(ls.length:Int)+8:=by omega
      have b2:(i:Int)<8:=by omega
      have b3: ¬((ls.length:Int)+(i:Int)<0):=by omega
      have ne1:g1≠lb:=hLo.n13;have ne2:g1≠w.heap.size:=by have:=hLo.p1;omega
      have hLo1:eE w (((wr.setCell ⟨g1,(ls.length+i)*2,none⟩ (S Eb)).setCell ⟨g1,(ls.length+i)*2+1,none⟩ (Iq i)).drew) lb g1 g2 ls.length ms.length (fh ls (i+1)) (fh ms i):=by
       have e1:=hLo.p1;refine⟨((hLo.bl.setCell (by simp;omega) _).setCell (by simp;omega) _).drew,hLo.p1,hLo.p2,hLo.p3,hLo.n12,hLo.n13,hLo.n23,?_,?_,?_⟩
       ·exact((Qr _ _ _ _ (by simpa using Rt ne1)).trans (Qr _ _ _ _ (by simpa using Rt ne1))).trans hLo.loan
       ·refine(hLo.row1.put (f':=fh ls (i+1)) (j:=ls.length+i) (by omega) (x:=Eb) (y:=(i:Int)) ?_ ?_).of_block rfl
        ·unfold fh;rw[Qj (by omega),Qo (by omega),show ls.length+i - ls.length=i by omega]
        intro q hq hne;unfold fh;split
        ·rfl
        by_cases e:q<ls.length+i
        ·rw[Qo e,Qo (by omega)]
        rw[Qj e,Qj (by omega)]
       exact hLo.row2.of_block ((Qr _ _ _ _ (by simpa using Rt hLo.n12)).trans (Qr _ _ _ _ (by simpa using Rt hLo.n12)))
      have hS1:(((wr.setCell ⟨g1,(ls.length+i)*2,none⟩ (S Eb)).setCell ⟨g1,(ls.length+i)*2+1,none⟩ (Iq i)).drew).heap[w.heap.size]?=_:=((Qr _ _ _ _ (by simpa using Rt ne2)).trans (Qr _ _ _ _ (by simpa using Rt ne2))).trans hS
      have hZ1:(((wr.setCell ⟨g1,(ls.length+i)*2,none⟩ (S Eb)).setCell ⟨g1,(ls.length+i)*2+1,none⟩ (Iq i)).drew).heap[w.heap.size+1]?=_:=((Qr _ _ _ _ (by have:=hLo.p1;simp;omega)).trans (Qr _ _ _ _ (by have:=hLo.p1;simp;omega))).trans hZ
      have H3:=Hi (And.intro hLo1 (And.intro hS1 hZ1));clear hLo1 hS1 hZ1 hLo hS hZ;unfold S Eb at H3;go_wp2_with fail;go_region;go_wp2_with fail;generalize hw1:(((wr.setCell ⟨g1,(ls.length+i)*2,none⟩ (.string ⟨#[98,101,104,105,110,100]⟩)).setCell ⟨g1,(ls.length+i)*2+1,none⟩ (Iq i)).drew)=w1 at*;clear hw1 l0 l1 t0 t2 r0 r1 rf qn b0 b1 b2 b3 ne1 ne2;obtain⟨hLo,hS,hZ⟩:=H3.out;clear H3;have l0:w1.cell? ⟨lb,0,none⟩=_:=Qm w1 lb 0 _ _ _ hLo.loan;have l1:w1.cell? ⟨lb,1,none⟩=_:=Qm w1 lb 1 _ _ _ hLo.loan;have t0:w1.cell? ⟨w.heap.size,0,none⟩=_:=Qm w1 w.heap.size 0 _ _ _ hS;have t2:w1.cell? ⟨w.heap.size,2,none⟩=_:=Qm w1 w.heap.size 2 _ _ _ hS;simp only[Qx,Qy,Qv] at l0 l1 t0 t2;have r0:=hLo.row2.fst (ms.length+i) (by omega)
      have r1:=hLo.row2.snd (ms.length+i) (by omega)
      have rf:=hLo.row2.frz;have qn:((ms.length:Int)+(i:Int)).toNat=ms.length+i:=by omega
      have b0:(0:Int)<=(ms.length:Int)+(i:Int):=by omega
      have b1:(ms.length:Int)+(i:Int)<(ms.length:Int)+8:=by omega
      have ne1:g2≠lb:=hLo.n23;have ne2:g2≠w.heap.size:=by have:=hLo.p2;omega
      have hLo1:eE w (((w1.setCell ⟨g2,(ms.length+i)*2,none⟩ (S Eb)).setCell ⟨g2,(ms.length+i)*2+1,none⟩ (Iq i)).drew) lb g1 g2 ls.length ms.length (fh ls (i+1)) (fh ms (i+1)):=by
       have e1:=hLo.p2;refine⟨((hLo.bl.setCell (by simp;omega) _).setCell (by simp;omega) _).drew,hLo.p1,hLo.p2,hLo.p3,hLo.n12,hLo.n13,hLo.n23,?_,?_,?_⟩
       ·exact((Qr _ _ _ _ (by simpa using Rt ne1)).trans (Qr _ _ _ _ (by simpa using Rt ne1))).trans hLo.loan
       ·exact hLo.row1.of_block ((Qr _ _ _ _ (by simpa using hLo.n12)).trans (Qr _ _ _ _ (by simpa using hLo.n12)))
       refine(hLo.row2.put (f':=fh ms (i+1)) (j:=ms.length+i) (by omega) (x:=Eb) (y:=(i:Int)) ?_ ?_).of_block rfl
       ·unfold fh;rw[Qj (by omega),Qo (by omega),show ms.length+i - ms.length=i by omega]
       intro q hq hne;unfold fh;split
       ·rfl
       by_cases e:q<ms.length+i
       ·rw[Qo e,Qo (by omega)]
       rw[Qj e,Qj (by omega)]
      have hS1:(((w1.setCell ⟨g2,(ms.length+i)*2,none⟩ (S Eb)).setCell ⟨g2,(ms.length+i)*2+1,none⟩ (Iq i)).drew).heap[w.heap.size]?=_:=((Qr _ _ _ _ (by simpa using Rt ne2)).trans (Qr _ _ _ _ (by simpa using Rt ne2))).trans hS
      have hZ1:(((w1.setCell ⟨g2,(ms.length+i)*2,none⟩ (S Eb)).setCell ⟨g2,(ms.length+i)*2+1,none⟩ (Iq i)).drew).heap[w.heap.size+1]?=_:=((Qr _ _ _ _ (by have:=hLo.p2;simp;omega)).trans (Qr _ _ _ _ (by have:=hLo.p2;simp;omega))).trans hZ
      have H3:=Hi (And.intro hLo1 (And.intro hS1 hZ1));clear hLo1 hS1 hZ1 hLo hS hZ;unfold S Eb at H3;go_region;go_wp2_with fail;go_roundw
      case rel=>exact⟨i+1,by omega,by simp,H3.out⟩
      case measure=>simp[intOf];omega
     obtain rfl:i=8:=by omega
     obtain⟨hLo,hS,hZ⟩:=HI.out;clear HI;have l0:wr.cell? ⟨lb,0,none⟩=_:=Qm wr lb 0 _ _ _ hLo.loan;have l1:wr.cell? ⟨lb,1,none⟩=_:=Qm wr lb 1 _ _ _ hLo.loan;have t0:wr.cell? ⟨w.heap.size,0,none⟩=_:=Qm wr w.heap.size 0 _ _ _ hS;have t1:wr.cell? ⟨w.heap.size,1,none⟩=_:=Qm wr w.heap.size 1 _ _ _ hS;have t2:wr.cell? ⟨w.heap.size,2,none⟩=_:=Qm wr w.heap.size 2 _ _ _ hS;have t3:wr.cell? ⟨w.heap.size,3,none⟩=_:=Qm wr w.heap.size 3 _ _ _ hS;have z0:wr.cell? ⟨w.heap.size+1,0,none⟩=_:=Qm wr (w.heap.size+1) 0 _ _ _ hZ;have z1:wr.cell? ⟨w.heap.size+1,1,none⟩=_:=Qm wr (w.heap.size+1) 1 _ _ _ hZ;have z2:wr.cell? ⟨w.heap.size+1,2,none⟩=_:=Qm wr (w.heap.size+1) 2 _ _ _ hZ;have z3:wr.cell? ⟨w.heap.size+1,3,none⟩=_:=Qm wr (w.heap.size+1) 3 _ _ _ hZ;have zf:∀j,wr.frozen? ⟨w.heap.size+1,j,none⟩=false:=λj=>by simp[World.frozen?,hZ]
     simp only[Qx,Qy,Qv] at l0 l1 t0 t1 t2 t3 z0 z1 z2 z3;have HLo:Hid (eE w wr lb g1 g2 ls.length ms.length (fh ls 8) (fh ms 8)):=hLo;have nb2:(ls.length:Int)<=(ls.length:Int)+8:=by omega
     have nb3:(ms.length:Int)<=(ms.length:Int)+8:=by omega
     clear hLo hS hZ;go_wp2_with fail;go_region
     all_goals go_wp2_with fail
     all_goals refine Qs (v:= .tuple #[Pq lb,.agg #[Sq g1 ls.length (ls.length+8),Iq df,Sq g2 ms.length (ms.length+8),.bool op]]) (by simp[results,results17,go_sem,z0,z1,z2,z3,zf]) rfl ⟨lb,g1,g2,rfl,?_⟩
     all_goals exact((((HLo.out.set 0 _).set 1 _).set 2 _).set 3 _).drew
def Nv:List UInt8:=[111,116,104,101,114]
def Ec (q:List (List UInt8×Int)) (y:Int) (k:Nat) (j:Nat):List UInt8×Int:=if j<k then(Nv,y) else fh q 8 j
theorem eE.over1 {G I q:Nat->LB×Int} (h:eE w A D z E n m G I) (J:j<n+8) (O:q j=(x,y)) (R:∀i,i<n+8->i≠j->q i=G i):eE w ((A.setCell ⟨z,j*2,none⟩ (S x)).setCell ⟨z,j*2+1,none⟩ (Iq y)) D z E n m q I:=by
 have U:=h.p1;exact⟨(h.bl.setCell (by simp;omega) _).setCell (by simp;omega) _,h.p1,h.p2,h.p3,h.n12,h.n13,h.n23,((Qr _ _ _ _ (by simpa using Rt h.n13)).trans (Qr _ _ _ _ (by simpa using Rt h.n13))).trans h.loan,h.row1.put J O R,h.row2.of_block ((Qr _ _ _ _ (by simpa using Rt h.n12)).trans (Qr _ _ _ _ (by simpa using Rt h.n12)))⟩
theorem eE.over2 {G I q:Nat->LB×Int} (h:eE w A D E z n m G I) (J:j<m+8) (O:q j=(x,y)) (R:∀i,i<m+8->i≠j->q i=I i):eE w ((A.setCell ⟨z,j*2,none⟩ (S x)).setCell ⟨z,j*2+1,none⟩ (Iq y)) D E z n m G q:=by
 have U:=h.p2;exact⟨(h.bl.setCell (by simp;omega) _).setCell (by simp;omega) _,h.p1,h.p2,h.p3,h.n12,h.n13,h.n23,((Qr _ _ _ _ (by simpa using Rt h.n23)).trans (Qr _ _ _ _ (by simpa using Rt h.n23))).trans h.loan,h.row1.of_block ((Qr _ _ _ _ (by simpa using h.n12)).trans (Qr _ _ _ _ (by simpa using h.n12))),h.row2.put J O R⟩
def qk (D E G:Nat) (I wr:World):Prop:= ∀k,k<D->k≠E->k≠G->wr.heap[k]?=I.heap[k]?
theorem qk.over (h:qk z A D E wr) (G:g=A\/g=D) (R:z<wr.heap.size) (i j) (v u) (o):qk z A D E ((((wr.setCell ⟨g,i,none⟩ v).setCell ⟨g,j,none⟩ u).alloc o).drew):=λk I J O=>by
 have q:k≠g:=by rcases G with rfl|rfl<;>assumption
 show(((wr.setCell ⟨g,i,none⟩ v).setCell ⟨g,j,none⟩ u).alloc o).heap[k]?=_;rw[Qu _ _ _ (by simp;omega),Qr _ _ _ _ (by simpa using q),Qr _ _ _ _ (by simpa using q)]
 exact h k I J O
theorem Ft (q:List (LB×Int)) (y) (k):Ec q y (k+1) k=(Nv,y)/\(∀i,i≠k->Ec q y (k+1) i=Ec q y k i)/\Ec q y k k=fh q 8 k:=by
 refine⟨by unfold Ec;rw[Qo (by omega)],λi z=>?_,by unfold Ec;rw[Qj (by omega)]⟩
 unfold Ec;by_cases h:i<k
 ·rw[Qo h,Qo (by omega)]
 rw[Qj h,Qj (by omega)]
def I8 (w I:World) (J z A n m D:Nat) (st:Array Value) (O R:Nat->List UInt8×Int) (wr:World):Prop:=eE w wr J z A n m O R/\wr.heap[D]?=some (.cells st 50 (0,0))/\qk D z A I wr
theorem I8.over1 {w D wr E q G n m A st} {I z J:Nat->LB×Int} (h:I8 w D E q G n m A st I J wr) (ne:q≠A) {j} (O:j<n+8) {x y} (R:z j=(x,y)) (U:∀i,i<n+8->i≠j->z i=I i) (o):I8 w D E q G n m A st z J ((((wr.setCell ⟨q,j*2,none⟩ (S x)).setCell ⟨q,j*2+1,none⟩ (Iq y)).alloc o).drew):=
 have lt:=be h.2.1;⟨((h.1.over1 O R U).below ((Qq _ _).alloc (Qn _) _)).drew,(Qu _ _ _ (by simpa using lt)).trans (((Qr _ _ _ _ (by simpa using ne.symm)).trans (Qr _ _ _ _ (by simpa using ne.symm))).trans h.2.1),h.2.2.over (.inl rfl) lt _ _ _ _ _⟩
theorem I8.over2 {w D wr E G q n m A st} {I J z:Nat->LB×Int} (h:I8 w D E G q n m A st I J wr) (ne:q≠A) {j} (O:j<m+8) {x y} (R:z j=(x,y)) (U:∀i,i<m+8->i≠j->z i=J i) (o):I8 w D E G q n m A st I z ((((wr.setCell ⟨q,j*2,none⟩ (S x)).setCell ⟨q,j*2+1,none⟩ (Iq y)).alloc o).drew):=
 have lt:=be h.2.1;⟨((h.1.over2 O R U).below ((Qq _ _).alloc (Qn _) _)).drew,(Qu _ _ _ (by simpa using lt)).trans (((Qr _ _ _ _ (by simpa using ne.symm)).trans (Qr _ _ _ _ (by simpa using ne.symm))).trans h.2.1),h.2.2.over (.inr rfl) lt _ _ _ _ _⟩
theorem BO {mv} (s) (w D) (h1:dc lv s.levels w) (h2:dc mv s.members w) (hl:s.levels.length<=5900000000000) (hm:s.members.length<=5900000000000) (aa:eE w D E I J s.levels.length s.members.length (fh s.levels 8) (fh s.members 8)):
 Calls prog 20 #[Pq E,lh lv mv s] D λen w'=>en= .returned (.bool true)/\Bl w w'/\qk D.heap.size I J D w':=by
 unfold lh;obtain⟨_,a1,c1,rfl,ae⟩:=h1;obtain⟨_,a2,c2,rfl,af⟩:=h2;obtain⟨q,df,z,op⟩:=s;simp only[] at*;have aj:=Hi ae;have ak:=Hi af;have aw:=aa.bl.size;have H0:Hid (I8 w D E I J q.length z.length D.heap.size #[.slice a1 q.length c1,Iq df,.slice a2 z.length c2,.bool op] (Ec q 99 0) (fh z 8) (D.alloc (.cells #[.slice a1 q.length c1,Iq df,.slice a2 z.length c2,.bool op] 50 (0,0)))):=
  ⟨aa.below ((Qq _ _).alloc (Qn _) _),Qp D _,λk hk _ _=>Qu D _ k hk⟩
 have ah:I≠D.heap.size:=by obtain⟨cs,hc,_⟩:=aa.row1.blk;have:=be hc;omega
 have ai:J≠D.heap.size:=by obtain⟨cs,hc,_⟩:=aa.row2.blk;have:=be hc;omega
 go_enter func20,ntmps20;go_wp2;generalize am:D.alloc (.cells #[.slice a1 q.length c1,Iq df,.slice a2 z.length c2,.bool op] 50 (0,0))=wz at*;generalize ag:D.heap.size=U at*;have an:=Hi ag;go_loopw [5,6] (λov iv wr=> ∃k,k<=q.length+8/\iv= Iq k/\ov= .bool true/\Hid (I8 w D E I J q.length z.length U #[.slice a1 q.length c1,Iq df,.slice a2 z.length c2,.bool op] (Ec q 99 k) (fh z 8) wr)) (λ_ iv _=>q.length+8 - (intOf iv).toNat)
 case atStart=>exact⟨0,by omega,rfl,rfl,H0.out⟩
 case round=>
  obtain⟨k,hk,rfl,rfl,HI⟩:=hrel;have A:=HI.out;have l0:=Qm wr E 0 _ _ _ A.1.loan;have t0:=Qm wr U 0 _ _ _ A.2.1;simp only[Qx,Qy,Qv] at l0 t0;by_cases V:k<q.length+8
  ·obtain⟨o1,o2,o3⟩:=Ft q 99 k;have O:=A.1.row1.fst k V;have Y:=A.1.row1.snd k V;have rf:=A.1.row1.frz;rw[o3] at O Y;have ao:k<q.length+8:=by omega
   have b0:0<=k:=by omega
   have lg:=Qk wr _ O;have ll:=Qk wr _ l0;have lt:=Qk wr _ t0;simp only[] at lg ll lt;have n2:wr.heap.size≠I:=by omega
   have n3:wr.heap.size≠E:=by omega
   have n4:wr.heap.size≠U:=by omega
   have ap:=n2.symm;have aq:=n3.symm;have ar:=n4.symm;have R:Hid (∀o,I8 w D E I J q.length z.length U #[.slice a1 q.length c1,Iq df,.slice a2 z.length c2,.bool op] (Ec q 99 (k+1)) (fh z 8) ((((wr.setCell ⟨I,k*2,none⟩ (S Nv)).setCell ⟨I,k*2+1,none⟩ (Iq 99)).alloc o).drew)):=λo=>A.over1 ah V o1 (λi _ hi=>o2 i hi) o
   by_cases Z:k<q.length
   ·have G:fh q 8 k=q.getD k ([],0):=by unfold fh;rw[Qo Z]
    obtain⟨b,o,rfl,x0,x1,x2⟩:=aj.out k Z;have ab:=(A.1.bl.cell (Qk w _ x0)).trans x0;have au:=(A.1.bl.cell (Qk w _ x1)).trans x1;have ac:=Qk wr _ ab;simp only[] at ac;rw[G] at O Y;generalize q.getD k ([],0)=p at*;have n1:wr.heap.size≠b:=by omega
    have ad:k<q.length:=by omega
    unfold S Nv at R;go_wp2;go_region
    all_goals go_wp2_with fail
    all_goals go_roundw
    case rel=>first|exact⟨k+1,by omega,by simp,by simp,R.out _⟩|((repeat apply Exists.intro);exact⟨⟨k+1,by omega,by simp,by simp,R.out _⟩,rfl⟩)
    case measure=>simp[intOf];omega
   have G:fh q 8 k=(Eb,((k - q.length:Nat):Int)):=by unfold fh;rw[Qj Z,Qo (by omega)]
   rw[G] at O Y;simp only[] at O Y;rw[show (k - q.length)=k - q.length by omega] at Y
   have ad: ¬k<q.length:=by omega
   unfold S Eb at O;unfold S Nv at R;go_wp2;go_region
   all_goals go_wp2_with fail
   all_goals go_roundw
   case rel=>first|exact⟨k+1,by omega,by simp,by simp,R.out _⟩|((repeat apply Exists.intro);exact⟨⟨k+1,by omega,by simp,by simp,R.out _⟩,rfl⟩)
   case measure=>simp[intOf];omega
  obtain rfl:k=q.length+8:=by omega
  have hq:(q.length+8)=q.length+8:=by omega
  have H0:Hid (I8 w D E I J q.length z.length U #[.slice a1 q.length c1,Iq df,.slice a2 z.length c2,.bool op] (Ec q 99 (q.length+8)) (Ec z 9 0) wr):=A;generalize Ec q 99 (q.length+8)=f1 at*;go_wp2;go_loopw [5,8] (λov iv wr=> ∃k,k<=z.length+8/\iv= Iq k/\ov= .bool true/\Hid (I8 w D E I J q.length z.length U #[.slice a1 q.length c1,Iq df,.slice a2 z.length c2,.bool op] f1 (Ec z 9 k) wr)) (λ_ iv _=>z.length+8 - (intOf iv).toNat)
  case atStart=>exact⟨0,by omega,rfl,rfl,H0.out⟩
  case round=>
   obtain⟨k,hk,rfl,rfl,HI⟩:=hrel;have A:=HI.out;have l0:=Qm wr E 1 _ _ _ A.1.loan;have t0:=Qm wr U 2 _ _ _ A.2.1;simp only[Qx,Qy,Qv] at l0 t0;by_cases V:k<z.length+8
   ·obtain⟨o1,o2,o3⟩:=Ft z 9 k;have O:=A.1.row2.fst k V;have Y:=A.1.row2.snd k V;have rf:=A.1.row2.frz;rw[o3] at O Y;have ao:k<z.length+8:=by omega
    have b0:0<=k:=by omega
    have lg:=Qk wr _ O;have ll:=Qk wr _ l0;have lt:=Qk wr _ t0;simp only[] at lg ll lt;have n2:wr.heap.size≠J:=by omega
    have n3:wr.heap.size≠E:=by omega
    have n4:wr.heap.size≠U:=by omega
    have ap:=n2.symm;have aq:=n3.symm;have ar:=n4.symm;have R:Hid (∀o,I8 w D E I J q.length z.length U #[.slice a1 q.length c1,Iq df,.slice a2 z.length c2,.bool op] f1 (Ec z 9 (k+1)) ((((wr.setCell ⟨J,k*2,none⟩ (S Nv)).setCell ⟨J,k*2+1,none⟩ (Iq 9)).alloc o).drew)):=λo=>A.over2 ai V o1 (λi _ hi=>o2 i hi) o
    by_cases Z:k<z.length
    ·have G:fh z 8 k=z.getD k ([],0):=by unfold fh;rw[Qo Z]
     obtain⟨b,o,rfl,x0,x1,x2⟩:=ak.out k Z;have ab:=(A.1.bl.cell (Qk w _ x0)).trans x0;have au:=(A.1.bl.cell (Qk w _ x1)).trans x1;have ac:=Qk wr _ ab;simp only[] at ac;rw[G] at O Y;generalize z.getD k ([],0)=p at*;have n1:wr.heap.size≠b:=by omega
     have ad:k<z.length:=by omega
     unfold S Nv at R;go_wp2;go_region
     all_goals go_wp2_with fail
     all_goals go_roundw
     case rel=>first|exact⟨k+1,by omega,by simp,by simp,R.out _⟩|((repeat apply Exists.intro);exact⟨⟨k+1,by omega,by simp,by simp,R.out _⟩,rfl⟩)
     case measure=>simp[intOf];omega
    have G:fh z 8 k=(Eb,((k - z.length:Nat):Int)):=by unfold fh;rw[Qj Z,Qo (by omega)]
    rw[G] at O Y;simp only[] at O Y;rw[show (k - z.length)=k - z.length by omega] at Y
    have ad: ¬k<(z.length:Int):=by omega
    unfold S Eb at O;unfold S Nv at R;go_wp2;go_region
    all_goals go_wp2_with fail
    all_goals go_roundw
    case rel=>first|exact⟨k+1,by omega,by simp,by simp,R.out _⟩|((repeat apply Exists.intro);exact⟨⟨k+1,by omega,by simp,by simp,R.out _⟩,rfl⟩)
    case measure=>simp[intOf];omega
   obtain rfl:k=z.length+8:=by omega
   have hq:((z.length+8:Nat):Int)=(z.length:Int)+8:=by omega
   have HB:Hid (Below w.heap.size w wr/\qk U I J D wr):=⟨A.1.bl,A.2.2⟩;go_wp2;go_ret;exact⟨rfl,HB.out.1,by rw[an.out];exact HB.out.2⟩
theorem eE.pairs {s:Au} {mv} (h:eE w A I C D s.levels.length s.members.length (fh s.levels 8) (fh s.members 8)) (J:dc lv s.levels w) (O:dc mv s.members w):
 dc (Sq C s.levels.length (s.levels.length+8)) s.levels A/\dc (Sq D s.members.length (s.members.length+8)) s.members A:=by
 obtain⟨R,a1,c1,_,U⟩:=J;obtain⟨V,a2,c2,_,X⟩:=O;refine⟨⟨R,_,_,rfl,λi q=>?_⟩,⟨V,_,_,rfl,λi q=>?_⟩⟩
 ·obtain⟨_,_,_,_,_,E⟩:=U i q;have e:fh s.levels 8 i=s.levels.getD i ([],0):=by unfold fh;rw[Qo q]
  refine⟨C,0,rfl,?_,?_,E⟩
  ·rw[QO,h.row1.fst i (by omega),e]
  rw[QO,h.row1.snd i (by omega),e]
 obtain⟨_,_,_,_,_,E⟩:=X i q;have e:fh s.members 8 i=s.members.getD i ([],0):=by unfold fh;rw[Qo q]
 refine⟨D,0,rfl,?_,?_,E⟩
 ·rw[QO,h.row2.fst i (by omega),e]
 rw[QO,h.row2.snd i (by omega),e]
theorem Hl {mv} (l:LB) (e) (s) (w) (hW:Wd w) (hm:l.length<=maxLen) (h1:dc lv s.levels w) (h2:dc mv s.members w) (aB:s.levels.length<=5900000000000) (aC:s.members.length<=5900000000000) (hw:dn e.wants) (hF:fy (dz e s)):
 Calls prog 6 #[S l,xN e,lh lv mv s] w λen w'=>en= .returned (.bool true)/\Bl w w':=by
 have W1:=λW h=>BN s W (h1.below h) (h2.below h) aB aC
 have W2:=λ(W:World) (lv' aM:Value) (h:Bl w W) (p1:dc lv' s.levels W) (p2:dc aM s.members W)=>Hk l e s W (Wd.below hW h) hm p1 p2 hF
 have W3:=λW h=>KI l e s W hm (h1.below h) (h2.below h) hw hF
 have W4:=λ(W WX:World) (lb I J:Nat) (h:Bl w W) (hx:eE W WX lb I J s.levels.length s.members.length (fh s.levels 8) (fh s.members 8))=>BO s W WX (h1.below h) (h2.below h) aB aC hx
 have aD:Hid (∀W WX lb I J,Bl w W->eE W WX lb I J s.levels.length s.members.length (fh s.levels 8) (fh s.members 8)->dc (Sq I s.levels.length (s.levels.length+8)) s.levels WX/\dc (Sq J s.members.length (s.members.length+8)) s.members WX):=λW WX lb I J hb hx=>hx.pairs (h1.below hb) (h2.below hb)
 have hb:=jf l;have HN:=λw=>uW (cF l).1.1 hb w
 have aN:Hid (Hf=λr=> .agg #[.bool r.1,Iq r.2,Iq 0]):=rfl
 generalize ng l (dz e s)=r at*;generalize (cF l).1.1=n at*;rw[aN.out] at W2 W3;obtain⟨ra,rn⟩:=r;simp only[] at W2 W3;unfold xN lh at*;obtain⟨sn,tg,wa,nd,wh⟩:=e;obtain⟨ls,df,ms,op⟩:=s;simp only[] at*;have H0:Hid (Bl w ((w.alloc (.cells #[S sn,S tg,Iq wa,Iq nd,Iq wh] 46 (0,0))).alloc (.cells #[lv,Iq df,mv,.bool op] 50 (0,0)))/\((w.alloc (.cells #[S sn,S tg,Iq wa,Iq nd,Iq wh] 46 (0,0))).alloc (.cells #[lv,Iq df,mv,.bool op] 50 (0,0))).heap[w.heap.size]?=some (.cells #[S sn,S tg,Iq wa,Iq nd,Iq wh] 46 (0,0))/\((w.alloc (.cells #[S sn,S tg,Iq wa,Iq nd,Iq wh] 46 (0,0))).alloc (.cells #[lv,Iq df,mv,.bool op] 50 (0,0))).heap[w.heap.size+1]?=some (.cells #[lv,Iq df,mv,.bool op] 50 (0,0))):=
  ⟨((Qq _ _).alloc (Qn _) _).alloc (by simp) _,by rw[Qu _ _ _ (by simp)];exact Qp w _,by have e:=Qp (w.alloc (.cells #[S sn,S tg,Iq wa,Iq nd,Iq wh] 46 (0,0))) (.cells #[lv,Iq df,mv,.bool op] 50 (0,0));rw[Qw] at e;exact e⟩
 go_enter func6,ntmps6;go_wp2_with fail;obtain⟨af,ao,ap⟩:=H0.out;generalize ((w.alloc (.cells #[S sn,S tg,Iq wa,Iq nd,Iq wh] 46 (0,0))).alloc (.cells #[lv,Iq df,mv,.bool op] 50 (0,0)))=wz at*;apply(W1 wz af).mono;rintro en C ⟨lb,I,J,rfl,aq⟩;have aj:Bl wz C:=aq.bl;have ar:=af.trans (aj.mono af.size);have E:=(aj.block _ (be ao)).trans ao;have au:=(aj.block _ (be ap)).trans ap;have q:Bl C (C.alloc (.cells #[Sq I ls.length (ls.length+8),Iq df,Sq J ms.length (ms.length+8),.bool op] 50 (0,0))):=(Qq _ _).alloc (Qn _) _;have X:=ar.trans (q.mono ar.size);have O:=aq.below q;have aa:=(q.block _ (be E)).trans E;have ab:=(q.block _ (be au)).trans au;have ak:(C.alloc (.cells #[Sq I ls.length (ls.length+8),Iq df,Sq J ms.length (ms.length+8),.bool op] 50 (0,0))).heap[C.heap.size]?=_:=Qp C _;have H2:=Hi (And.intro O (And.intro X (And.intro aa (And.intro ab ak))));have ag:=Hi af;have c0:=Qm C w.heap.size 0 _ _ _ E;have c1:=Qm C w.heap.size 1 _ _ _ E;have c2:=Qm C w.heap.size 2 _ _ _ E;have c3:=Qm C w.heap.size 3 _ _ _ E;have c4:=Qm C w.heap.size 4 _ _ _ E;simp only[Qx,Qy,Qv] at c0 c1 c2 c3 c4;have k1:w.heap.size<C.heap.size:=be E;have k2:w.heap.size≠C.heap.size:=by omega
 have k3:C.heap.size≠w.heap.size:=by omega
 go_wp2_with fail;obtain⟨O,X,aa,ab,ak⟩:=H2.out;generalize aO:C.heap.size=bm at*;generalize (C.alloc (.cells #[Sq I ls.length (ls.length+8),Iq df,Sq J ms.length (ms.length+8),.bool op] 50 (0,0)))=w2 at*;obtain⟨p1,p2⟩:=aD.out wz w2 lb I J ag.out O;apply(W2 w2 _ _ X p1 p2).mono;rintro en z ⟨rfl,ah⟩;have av:=X.trans (ah.mono X.size);have aw:=O.below ah;have H:=(ah.block _ (be aa)).trans aa;have R:=(ah.block _ (be ab)).trans ab;have q:Bl z (z.alloc (.cells #[.bool ra,Iq rn,Iq 0] 40 (0,0))):=(Qq _ _).alloc (Qn _) _;have Y:=av.trans (q.mono av.size);have Z:=aw.below q;have am:=(q.block _ (be H)).trans H;have ac:=(q.block _ (be R)).trans R;have ad:(z.alloc (.cells #[.bool ra,Iq rn,Iq 0] 40 (0,0))).heap[z.heap.size]?=_:=Qp z _;have H4:=Hi (And.intro Z (And.intro Y (And.intro am (And.intro ac ad))));have c0:=Qm z w.heap.size 0 _ _ _ H;have c1:=Qm z w.heap.size 1 _ _ _ H;have c2:=Qm z w.heap.size 2 _ _ _ H;have c3:=Qm z w.heap.size 3 _ _ _ H;have c4:=Qm z w.heap.size 4 _ _ _ H;have d0:=Qm z (w.heap.size+1) 0 _ _ _ R;have d1:=Qm z (w.heap.size+1) 1 _ _ _ R;have d2:=Qm z (w.heap.size+1) 2 _ _ _ R;have d3:=Qm z (w.heap.size+1) 3 _ _ _ R;simp only[Qx,Qy,Qv] at c0 c1 c2 c3 c4 d0 d1 d2 d3;have k1:w.heap.size<z.heap.size:=be H;have k2:w.heap.size≠z.heap.size:=by omega
 have k3:z.heap.size≠w.heap.size:=by omega
 have j1:w.heap.size+1<z.heap.size:=be R;have j2:w.heap.size+1≠z.heap.size:=by omega
 have j3:z.heap.size≠w.heap.size+1:=by omega
 go_wp2_with fail;obtain⟨Z,Y,am,ac,ad⟩:=H4.out;generalize aP:z.heap.size=bv at*;generalize (z.alloc (.cells #[.bool ra,Iq rn,Iq 0] 40 (0,0)))=w4 at*;apply(W3 w4 Y).mono;rintro en D ⟨rfl,ai⟩;have ax:=Y.trans (ai.mono Y.size);have ay:=Z.below ai;have ae:=(ai.block _ (be ac)).trans ac;have az:=(ai.block _ (be ad)).trans ad;have q:Bl D (D.alloc (.cells #[.bool ra,Iq rn,Iq 0] 40 (0,0))):=(Qq _ _).alloc (Qn _) _;have an:=ax.trans (q.mono ax.size);have A:=ay.below q;have U:=(q.block _ (be az)).trans az;have V:(D.alloc (.cells #[.bool ra,Iq rn,Iq 0] 40 (0,0))).heap[D.heap.size]?=_:=Qp D _;have H6:=Hi (And.intro A (And.intro an (And.intro U V)));have d0:=Qm D (w.heap.size+1) 0 _ _ _ ae;have d1:=Qm D (w.heap.size+1) 1 _ _ _ ae;have d2:=Qm D (w.heap.size+1) 2 _ _ _ ae;have d3:=Qm D (w.heap.size+1) 3 _ _ _ ae;simp only[Qx,Qy,Qv] at d0 d1 d2 d3;have j1:w.heap.size+1<D.heap.size:=be ae;have j2:w.heap.size+1≠D.heap.size:=by omega
 have j3:D.heap.size≠w.heap.size+1:=by omega
 go_wp2_with fail;obtain⟨A,an,U,V⟩:=H6.out;generalize aQ:D.heap.size=bu at*;generalize (D.alloc (.cells #[.bool ra,Iq rn,Iq 0] 40 (0,0)))=w6 at*;have W7:=W4 wz w6 lb I J ag.out A;apply W7.mono;rintro en w7 ⟨rfl,aE,aA⟩;have aF:=ag.out.trans (aE.mono ag.out.size);have aG:bv≠I:=λe=>by
  obtain⟨cs,hc,_⟩:=A.row1.blk;rw[<-e,U] at hc;simp at hc
 have aH:bv≠J:=λe=>by
  obtain⟨cs,hc,_⟩:=A.row2.blk;rw[<-e,U] at hc;simp at hc
 have aI:bu≠I:=λe=>by
  obtain⟨cs,hc,_⟩:=A.row1.blk;rw[<-e,V] at hc;simp at hc
 have aJ:bu≠J:=λe=>by
  obtain⟨cs,hc,_⟩:=A.row2.blk;rw[<-e,V] at hc;simp at hc
 have aK:=(aA bv (be U) aG aH).trans U;have aL:=(aA bu (be V) aI aJ).trans V;obtain⟨⟨v0,v1,v2⟩,vf⟩:=gZ aK;obtain⟨⟨u0,u1,u2⟩,uf⟩:=gZ aL;have aR:=Hi aF;have HK:=HN w7;go_wp2_with fail;apply HK.mono;rintro en w8 ⟨rfl,rfl⟩;go_wp2_with fail;go_ret;exact⟨rfl,aR.out⟩
end Go.Proofs.YtfkdailfcmnjlaaGreatDoor
