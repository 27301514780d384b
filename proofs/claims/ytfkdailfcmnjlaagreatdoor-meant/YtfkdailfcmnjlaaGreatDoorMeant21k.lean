/-
  A part.
-/
import Derived.Test.YtfkdailfcmnjlaaGreatDoorMeant21h
import Derived.Shelf.Abstract
set_option linter.unusedVariables false
set_option linter.unusedSimpArgs false
set_option maxHeartbeats 40000000
set_option maxRecDepth 1000000
set_option maxHeartbeats 40000000
set_option maxRecDepth 1000000
namespace Go.Proofs.YtfkdailfcmnjlaaGreatDoor
open Go Go.RowKit Tryz
attribute [local go_sem ↓] Go.wp_at_zero Go.wp_at_succ
variable {w W wr w4:World} {k e size:Nat} {lv v:Value} {u:List UInt8} {o:Obj} {x:Int}
variable {c:jV}
theorem uL (hc:jC c) (w:World):Calls prog 22 #[.agg (je c)] w fun e w'=> ∃lv mv,e= .returned (tf lv mv (jJ c))∧eW lv (jJ c).levels w'∧eW mv (jJ c).members w'∧Below w.heap.size w w':=by
 obtain⟨w2,hw2⟩:∃w2,((w.alloc (.cells (je c) 37)).alloc (.cells #[.slice none 0 0,Iq 0,.slice none 0 0,.bool false] 50)).alloc (.cells #[.slice none 0 0,Iq c.df,.slice none 0 0,.bool c.op] 50)=w2:=⟨_,rfl⟩;have HI0:Hid (tV w w2 c (.slice none 0 0) (.slice none 0 0) [] []):=by
  rw[←hw2];refine⟨(((ZA _ w).alloc (Zw _) _).alloc (by simp) _).alloc (by simp;omega) _,?_,?_,?_,aam _ _ _ _,aam _ _ _ _⟩
  ·exact(ZE _ _ _ (by simp;omega)).trans ((ZE _ _ _ (by simp)).trans (Zy w _))
  ·have h:=Zy (w.alloc (.cells (je c) 37)) (.cells #[.slice none 0 0,Iq 0,.slice none 0 0,.bool false] 50)
   rw[ZB] at h;exact(ZE _ _ _ (by simp)).trans h
  ·have h:=Zy ((w.alloc (.cells (je c) 37)).alloc (.cells #[.slice none 0 0,Iq 0,.slice none 0 0,.bool false] 50)) (.cells #[.slice none 0 0,Iq c.df,.slice none 0 0,.bool c.op] 50)
   rw[ZB,ZB] at h;exact h
 have HW:=Hi hw2;unfold je at HW⊢;go_enter func22,ntmps22;go_wp2;rw[HW.out]
 go_loopw [4] (fun av wr=> ∃k:Nat,k≤3∧av= Iq k∧Hid (∃lv mv,tV w wr c lv mv (EH c k) (EI c k))) (fun av _=>3 - (intOf av).toNat)
 case atStart=>exact⟨0,by omega,rfl,_,_,HI0.out⟩
 case round=>
  obtain⟨k,hk3,rfl,HI⟩:=hrel
  by_cases hk:k<3
  ·obtain⟨lv,mv,hI⟩:=HI.out
   have hk':(k:Int)<3:=by omega
   have W1:∀w,Calls prog 43 #[Iq k] w fun e w'=>e= .returned (S (il k))∧Below w.heap.size w w':=fun w=>tN (c:=(k:Int)) (by unfold dG;omega) w
   obtain⟨c1,c2,c3⟩:=NB c hk;have q3:=(Zz wr _ (11+k) _ _ _ hI.scn).trans c3;have q1:=(Zz wr _ (5+k) _ _ _ hI.scn).trans c1;have HL:Hid (EH c (k+1)=if Ie c k then EH c k else EH c k++[(il k,IM c k)]):=rfl
   have HM:Hid (EI c (k+1)=if Ie c k then EI c k else EI c k++[(il k,IN c k)]):=rfl
   have hln:=FG c k;have hmn:=FH c k;have HL0:=Hi hI;generalize Ie c k=ab at*
   cases ab with
   |true=>
    go_wp2
    go_roundw
    case rel=>exact⟨k+1,by omega,by go_num,_,_,by rw[HL.out,HM.out];exact HL0.out⟩
    case measure=>simp[intOf];omega
   |false=>
    rw[Zt (by decide)] at HL HM
    obtain⟨la,lcap,rfl⟩:=pA HL0.out.rl;obtain⟨ma,mcap,rfl⟩:=pA HL0.out.rm;obtain⟨i0,hi,hz⟩:=ZP.1 xu;simp only[ZT] at hz;obtain⟨hz0,hz1,hz2⟩:=hz;obtain⟨j0,hj,hy⟩:=ZP.1 vh;simp only[ZT] at hy;obtain⟨hy0,hy1,hy2⟩:=hy;generalize il (k:Int)=us at*;have HW1:=Hi W1;generalize IM c k=x at*;generalize IN c k=y at*;generalize EH c k=ls at*;generalize EI c k=ms at*;obtain⟨l0,m0,_⟩:=HL0.out.cells;have HAT:Hid (∀w3,Below wr.heap.size wr w3→tV w w3 c (.slice la ls.length lcap) (.slice ma ms.length mcap) ls ms):=fun w3 h=>HL0.out.at_ h
    have KA:Hid (∀(W:World) (o:Obj) (a:Addr) (v:Value),W.cell? a=some v→(W.alloc o).cell? a=some v):=fun W o a v h=>(ZI (w:=W) (a:=a) (ZE W o a.block (Zx W _ h))).trans h
    have KS:Hid (∀(W:World) (j o:Nat) (v u:Value),W.cell? ⟨w.heap.size,j,none⟩=some v→(W.setCell ⟨w.heap.size+1+1,o,none⟩ u).cell? ⟨w.heap.size,j,none⟩=some v):=fun W j o v u h=>by
     rw[World.cell?_setCell_far _ _ _ _ (by simp only[];omega)];exact h
    have hbnd:=HL0.out.bel.size;go_wp2
    go_cut [4] (fun s4 wx=>s4= Iq k∧Hid (∃lv,tV w wx c lv (.slice ma ms.length mcap) (ls++[(us,x)]) ms))
    case first=>
     go_region_law
      (first
      |(refine step_append_lies _ (by rfl) _ _ _ (by rfl) w.heap.size 108 i0 _ 2 24 underlying47 hi hz0 hz1 hz2 (by rfl) (by decide) (.slice la ls.length lcap) ls.length (iO ls) (by rfl) (HI3.out.rl.alloc _) ⟨w3.heap.size,0,none⟩ 1 1 [S us,Iq x] (by rfl) (by rfl) (World.news_of_block (Zy w3 _)) vR (by decide) (by unfold maxLen;omega) (by omega) (by have:=hB3.size;simp;omega) (w3.heap.size+1) (by simp) ?_;intro gg cap4 w4 hown4 hgrow4 hat4 hlt4;obtain⟨⟨g1,g2⟩,g3⟩:=HI3.out.lvFar w4 hgrow4;clear g3 hat4 hlt4)
      |(go_simp;go_at_call 43;refine(W1 _).mono ?_;rintro e w3 ⟨rfl,hb3⟩;have hB3:Below wr.heap.size wr w3:=⟨hb3.os,hb3.tape,hb3.output,hb3.size,hb3.block⟩;have HI3:Hid _:=HAT.out w3 hB3;obtain⟨l3,m3,s3⟩:=HI3.out.cells;have s5:=(s3 (5+k)).trans c1;have la3:=KA.out _ (.cells #[S us,Iq x] 108) _ _ l3;clear s3 m3;dsimp only))
     all_goals
      have HN:=Hi (HI3.out.lvNext hgrow4 hown4)
      go_wp2
      go_meet
      case rel=>exact⟨rfl,_,HN.out⟩
    case rest=>
     obtain⟨rfl,HL2⟩:=hcut;obtain⟨tU,hI2⟩:=HL2.out;have W1:=HW1.out
     obtain⟨l0,m0,s0⟩:=hI2.cells;have HAT:Hid (∀w3,Below wc.heap.size wc w3→tV w w3 c tU (.slice ma ms.length mcap) (ls++[(us,x)]) ms):=fun w3 h=>hI2.at_ h
     have hbnd2:=hI2.bel.size;go_wp2
     go_region_law
      (first
      |(refine step_append_lies _ (by rfl) _ _ _ (by rfl) w.heap.size 110 j0 _ 2 24 underlying48 hj hy0 hy1 hy2 (by rfl) (by decide) (.slice ma ms.length mcap) ms.length (iO ms) (by rfl) (HI3.out.rm.alloc _) ⟨w3.heap.size,0,none⟩ 1 1 [S us,Iq y] (by rfl) (by rfl) (World.news_of_block (Zy w3 _)) vR (by decide) (by unfold maxLen;omega) (by omega) (by have:=hB3.size;simp;omega) (w3.heap.size+1) (by simp) ?_;intro gg cap4 w4 hown4 hgrow4 hat4 hlt4;obtain⟨⟨g1,g2⟩,g3⟩:=HI3.out.mbFar w4 hgrow4;clear g3 hat4 hlt4)
      |(go_simp;go_at_call 43;refine(W1 _).mono ?_;rintro e w3 ⟨rfl,hb3⟩;have hB3:Below wc.heap.size wc w3:=⟨hb3.os,hb3.tape,hb3.output,hb3.size,hb3.block⟩;have HI3:Hid _:=HAT.out w3 hB3;obtain⟨l3,m3,s3⟩:=HI3.out.cells;have s5:=(s3 (8+k)).trans c2;have la3:=KA.out _ (.cells #[S us,Iq y] 110) _ _ m3;clear s3 l3;dsimp only))
     all_goals
      have HN:=Hi (HI3.out.mbNext hgrow4 hown4)
      go_wp2
      go_roundw
      case rel=>exact⟨k+1,by omega,by go_num,_,_,by rw[HL.out,HM.out];exact HN.out⟩
      case measure=>simp[intOf];omega
  ·obtain rfl:k=3:=by omega
   rw[show((3:Nat):Int)=3 from rfl]
   go_wp2
   go_loopw [5] (fun av wr=> ∃k:Nat,k≤2∧av= Iq k∧Hid (∃lv mv,tV w wr c lv mv (tU c k) (AM c k))) (fun av _=>2 - (intOf av).toNat)
   case atStart=>exact⟨0,by omega,rfl,HI.out⟩
   case round=>
    obtain⟨k,hk3,rfl,HI⟩:=hrel
    by_cases hk:k<2
    ·obtain⟨lv,mv,hI⟩:=HI.out
     have hk':(k:Int)<2:=by omega
     have hwr:IntKind.i64.wrap (2*(k:Int))=2*(k:Int):=by rw[ZY];omega
     have W1:∀w,Calls prog 43 #[Iq (2*(k:Int))] w fun e w'=>e= .returned (S (il (2*(k:Int))))∧Below w.heap.size w w':=fun w=>tN (c:=2*(k:Int)) (by unfold dG;omega) w
     have HL:Hid (tU c (k+1)=tU c k++[(il (2*(k:Int)),77)]):=rfl;have HM:Hid (AM c (k+1)=AM c k++[(il (2*(k:Int)),4)]):=rfl;have hln:=FI c k;have hmn:=FJ c k;have HL0:=Hi hI;obtain⟨la,lcap,rfl⟩:=pA HL0.out.rl;obtain⟨ma,mcap,rfl⟩:=pA HL0.out.rm;obtain⟨i0,hi,hz⟩:=ZP.1 xu;simp only[ZT] at hz;obtain⟨hz0,hz1,hz2⟩:=hz;obtain⟨j0,hj,hy⟩:=ZP.1 vh;simp only[ZT] at hy;obtain⟨hy0,hy1,hy2⟩:=hy;generalize il (2*(k:Int))=us at*;have HW1:=Hi W1;generalize tU c k=ls at*;generalize AM c k=ms at*;obtain⟨l0,m0,_⟩:=HL0.out.cells;have HAT:Hid (∀w3,Below wr.heap.size wr w3→tV w w3 c (.slice la ls.length lcap) (.slice ma ms.length mcap) ls ms):=fun w3 h=>HL0.out.at_ h
     have KA:Hid (∀(W:World) (o:Obj) (a:Addr) (v:Value),W.cell? a=some v→(W.alloc o).cell? a=some v):=fun W o a v h=>(ZI (w:=W) (a:=a) (ZE W o a.block (Zx W _ h))).trans h
     have hbnd:=HL0.out.bel.size;go_wp2
     go_cut [5] (fun s5 wx=>s5= Iq k∧Hid (∃lv,tV w wx c lv (.slice ma ms.length mcap) (ls++[(us,77)]) ms))
     case first=>
      go_region_law
       (first
       |(refine step_append_lies _ (by rfl) _ _ _ (by rfl) w.heap.size 108 i0 _ 2 24 underlying47 hi hz0 hz1 hz2 (by rfl) (by decide) (.slice la ls.length lcap) ls.length (iO ls) (by rfl) (HI3.out.rl.alloc _) ⟨w3.heap.size,0,none⟩ 1 1 [S us,Iq 77] (by rfl) (by rfl) (World.news_of_block (Zy w3 _)) vR (by decide) (by unfold maxLen;omega) (by omega) (by have:=hB3.size;simp;omega) (w3.heap.size+1) (by simp) ?_;intro gg cap4 w4 hown4 hgrow4 hat4 hlt4;obtain⟨⟨g1,g2⟩,g3⟩:=HI3.out.lvFar w4 hgrow4;clear g3 hat4 hlt4)
       |(go_simp;go_at_call 43;refine(W1 _).mono ?_;rintro e w3 ⟨rfl,hb3⟩;have hB3:Below wr.heap.size wr w3:=⟨hb3.os,hb3.tape,hb3.output,hb3.size,hb3.block⟩;have HI3:Hid _:=HAT.out w3 hB3;obtain⟨l3,m3,s3⟩:=HI3.out.cells;have la3:=KA.out _ (.cells #[S us,Iq 77] 108) _ _ l3;clear s3 m3;dsimp only))
      all_goals
       have HN:=Hi (HI3.out.lvNext hgrow4 hown4)
       go_wp2
       go_meet
       case rel=>exact⟨rfl,_,HN.out⟩
     case rest=>
      obtain⟨rfl,HL2⟩:=hcut;obtain⟨lvx,hI2⟩:=HL2.out;have W1:=HW1.out
      obtain⟨l0,m0,s0⟩:=hI2.cells;have HAT:Hid (∀w3,Below wc.heap.size wc w3→tV w w3 c lvx (.slice ma ms.length mcap) (ls++[(us,77)]) ms):=fun w3 h=>hI2.at_ h
      have hbnd2:=hI2.bel.size;go_wp2
      go_region_law
       (first
       |(refine step_append_lies _ (by rfl) _ _ _ (by rfl) w.heap.size 110 j0 _ 2 24 underlying48 hj hy0 hy1 hy2 (by rfl) (by decide) (.slice ma ms.length mcap) ms.length (iO ms) (by rfl) (HI3.out.rm.alloc _) ⟨w3.heap.size,0,none⟩ 1 1 [S us,Iq 4] (by rfl) (by rfl) (World.news_of_block (Zy w3 _)) vR (by decide) (by unfold maxLen;omega) (by omega) (by have:=hB3.size;simp;omega) (w3.heap.size+1) (by simp) ?_;intro gg cap4 w4 hown4 hgrow4 hat4 hlt4;obtain⟨⟨g1,g2⟩,g3⟩:=HI3.out.mbFar w4 hgrow4;clear g3 hat4 hlt4)
       |(go_simp;go_at_call 43;refine(W1 _).mono ?_;rintro e w3 ⟨rfl,hb3⟩;have hB3:Below wc.heap.size wc w3:=⟨hb3.os,hb3.tape,hb3.output,hb3.size,hb3.block⟩;have HI3:Hid _:=HAT.out w3 hB3;obtain⟨l3,m3,s3⟩:=HI3.out.cells;have la3:=KA.out _ (.cells #[S us,Iq 4] 110) _ _ m3;clear s3 l3;dsimp only))
      all_goals
       have HN:=Hi (HI3.out.mbNext hgrow4 hown4)
       go_wp2
       go_roundw
       case rel=>exact⟨k+1,by omega,by go_num,_,_,by rw[HL.out,HM.out];exact HN.out⟩
       case measure=>simp[intOf];omega
    ·obtain rfl:k=2:=by omega
     obtain⟨lv,mv,hI⟩:=HI.out;have z0:=Zz wr _ 0 _ _ _ hI.blk;have z1:=Zz wr _ 1 _ _ _ hI.blk;have z2:=Zz wr _ 2 _ _ _ hI.blk;have z3:=Zz wr _ 3 _ _ _ hI.blk;have r0:=Zz wr _ 0 _ _ _ hI.res;have r1:=Zz wr _ 1 _ _ _ hI.res;have r2:=Zz wr _ 2 _ _ _ hI.res;have r3:=Zz wr _ 3 _ _ _ hI.res;have gf:∀o,wr.frozen? ⟨w.heap.size+1,o,none⟩=false:=fun o=>by simp[World.frozen?,hI.res]
     have HA:=Hi (hI.done hc);obtain⟨la,lcap,rfl⟩:=pA hI.rl;obtain⟨ma,mcap,rfl⟩:=pA hI.rm
     go_wp2
     refine ZH (v:= .agg #[.slice la (tU c 2).length lcap,Iq c.df,.slice ma (AM c 2).length mcap,.bool c.op]) (by simp[results,results22,go_sem,fg,dU,lR,r0,r1,r2,r3]) rfl ?_
     obtain⟨h1,h2,h3⟩:=HA.out (.slice la (tU c 2).length lcap) (Iq c.df) (.slice ma (AM c 2).length mcap) (.bool c.op);exact⟨_,_,rfl,h1,h2,h3⟩
end Go.Proofs.YtfkdailfcmnjlaaGreatDoor
