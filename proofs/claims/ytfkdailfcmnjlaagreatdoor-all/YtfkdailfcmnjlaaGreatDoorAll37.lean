/-
  A part.
-/
import Derived.Test.YtfkdailfcmnjlaaGreatDoorAll31
import Derived.Test.YtfkdailfcmnjlaaGreatDoorAll36
set_option linter.all false
set_option maxHeartbeats 40000000
set_option maxRecDepth 1000000
namespace Go.Proofs.YtfkdailfcmnjlaaGreatDoor
open Go Go.RowKit Tryz
attribute [local go_sem ↓] Go.wp_at_zero Go.wp_at_succ
variable {w W q A z H cs o c cv rv}
theorem M9:(prog.info? 81).map (λi=>(i.zero,i.size,i.bytes))=some (some (.pointer none),1,8):=by kernel_rfl
theorem Na:(prog.info? 64).map (λi=>(i.zero,i.size,i.bytes))=some (some (.pointer none),1,8):=by kernel_rfl
theorem iU.mid (h:iU w W A z H cs) (C:(W.alloc o).grownBy q z.ownBlock):Cq q A 0 z/\q.frozen? ⟨A,0,none⟩=false:=by
 have D:=((cI.refl (λg=>z.ownBlock=some g) W).alloc _).grown C (λk I=> .inl I)
 have E:=(D.block A (be h.blk) (iQ h.crow h.blk (by decide))).trans h.blk
 exact⟨Qm q _ 0 _ _ _ E,by simp[World.frozen?,E]⟩
theorem xl.mid (h:xl w W A H z cs c) (C:(W.alloc o).grownBy q z.ownBlock):Cq q A 1 z/\q.frozen? ⟨A,1,none⟩=false:=by
 have D:=((cI.refl (λg=>z.ownBlock=some g) W).alloc _).grown C (λk I=> .inl I)
 have E:=(D.block A (be h.blk) (iQ h.rrow h.blk (by decide))).trans h.blk
 exact⟨Qm q _ 1 _ _ _ E,by simp[World.frozen?,E]⟩
theorem tZ (h:iU w W A cv rv cs) (hE:Ef W) (hn:cs.length<=1000000000000) (b:LB):
 Calls prog 29 #[Pq A,S b] W λe w'=>e= .returned (.bool true)/\ ∃aj ak aa,iU w w' A aj ak aa/\cs.length<=aa.length/\aa.length<=cs.length+1/\(fD b≠none->0<aa.length):=by
 have H:=Ik b hE;have I:=λW=>IS b W
 have W3:=λw=>CA 7 (by decide) w
 have W4:=λw=>CA 0 (by decide) w
 unfold wX at H;unfold xo at I;obtain⟨i0,hi,am,an,ao⟩:=Ry M9;obtain⟨j0,hj,ap,aq,ar⟩:=Ry Na;have H0:=Hi h;cases ab:fD b with
 |none=>
  rw[ab] at H I;simp only[] at H I;go_enter func29,ntmps29;go_wp2_with fail;apply H.mono;rintro en w1 ⟨rfl,R⟩;have H1:=Hi (H0.out.below R);go_wp2_with fail;apply(I _).mono;rintro en J ⟨rfl,C⟩;have X:=Hi (H1.out.below C);go_wp2_with fail;apply(W3 _).mono;rintro en w3 ⟨rfl,rfl⟩;go_wp2;go_ret;exact⟨rfl,_,_,_,X.out,Qn _,Nat.le_succ _,λe=>absurd rfl e⟩
 |some ins=>
  rw[ab] at H I;simp only[] at H I;go_enter func29,ntmps29;go_wp2_with fail;apply H.mono;rintro en w1 ⟨⟨lp,cp,gi,cap,rfl,E,U⟩,R⟩;have H1:=Hi (And.intro (H0.out.below R) (And.intro E U));go_wp2_with fail;apply(I _).mono;rintro en J ⟨⟨rp,au,rfl,af⟩,C⟩;obtain⟨h1,E,U⟩:=H1.out;have V:=h1.below C;have ag:kX J ⟨b,ins,lp,cp,gi,cap,rp⟩:=⟨ab,(C.block _ (be E)).trans E,U.below C,af⟩;obtain⟨va,ac,ev⟩:=nT V.crow;subst ev;obtain⟨ra,ad,ev⟩:=nT V.rrow;subst ev;have c0:=Qm J _ 0 _ _ _ V.blk;have HC:Hid (J.ownsRow w.heap.size 81 1 (.slice va cs.length ac) cs.length (jM (cs.map lK.lp))):=V.crow;have av:=V.bel.size;have pa:=be V.blk;have pb:A≠J.heap.size:=by omega
  have pc:J.heap.size≠A:=by omega
  have X:=Hi (And.intro V ag);go_wp2_with fail;apply(W4 _).mono;rintro en w3 ⟨rfl,rfl⟩;go_upto_region 7 with(at_builtin;go_must (refine wpList_append_lies _ (by rfl) _ _ 73 (by rfl) w.heap.size 81 i0 (.pointer none) 1 8 underlying73 hi am an ao (by rfl) (by decide) _ _ _ (by rfl) (HC.out.alloc _) ⟨w3.heap.size,0,none⟩ 1 1 [Pq lp] (by rfl) (by rfl) (World.news_of_block (Qp w3 _)) (λx hx=>by simp at hx;rcases hx with rfl;rfl) (by decide) (by unfold maxLen;omega) (by omega) (by simp;omega) _ rfl ?_);intro gg ai w5 D q ae Y;have y0:=(X.out.1.mid q).1;have yf:=(X.out.1.mid q).2;have H5:Hid _:=X.out.1.half X.out.2 D q;clear D q ae Y)
  have Z:=H5.out;go_name_world O ah;rw[ah] at Z;have c1:=Qm O _ 1 _ _ _ Z.blk;have aw:Hid (O.ownsRow w.heap.size 64 1 (.slice ra cs.length ad) cs.length (jM (cs.map lK.rp))):=Z.rrow;have ax:=Z.bel.size;have az:=be Z.blk;have H7:=Hi Z;go_wp2_with (at_builtin;go_must (refine wpList_append_lies _ (by rfl) _ _ 74 (by rfl) w.heap.size 64 j0 (.pointer none) 1 8 underlying74 hj ap aq ar (by rfl) (by decide) _ _ _ (by rfl) (aw.out.alloc _) ⟨O.heap.size,0,none⟩ 1 1 [Pq rp] (by rfl) (by rfl) (World.news_of_block (Qp O _)) (λx hx=>by simp at hx;rcases hx with rfl;rfl) (by decide) (by unfold maxLen;omega) (by omega) (by simp;omega) _ rfl ?_);intro gh ay w7 D q ae Y;have y1:=(H7.out.mid q).1;have yg:=(H7.out.mid q).2;have H8:Hid _:=H7.out.full D q;clear D q ae Y)
  go_ret;exact⟨rfl,_,_,_,H8.out,by simp,by simp,λ_=>by simp⟩
end Go.Proofs.YtfkdailfcmnjlaaGreatDoor
