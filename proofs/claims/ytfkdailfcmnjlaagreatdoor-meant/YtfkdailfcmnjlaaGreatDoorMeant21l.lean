/-
  A part.
-/
import Derived.Test.YtfkdailfcmnjlaaGreatDoorMeant21h
import Derived.Shelf.Abstract
set_option linter.unusedVariables false
set_option linter.unusedSimpArgs false
set_option maxHeartbeats 40000000
set_option maxRecDepth 1000000
set_option maxHeartbeats 40000000
set_option maxRecDepth 1000000
namespace Go.Proofs.YtfkdailfcmnjlaaGreatDoor
open Go Go.RowKit Tryz
attribute [local go_sem ↓] Go.wp_at_zero Go.wp_at_succ
variable {z G E:List (List UInt8×Int)} {w W J U w4:World} {e size:Nat} {O D R Z v:Value} {s2:MS} {V I Y o:Obj}
variable {c:jV}
theorem uK (hc:jC c) (w:World):Calls prog 21 #[.agg (je c)] w fun e w'=>e= .returned (DX (oB c))∧Below w.heap.size w w':=by
 have W1:=fun w=>tN hc.sn w
 have W2:=fun w=>tN hc.tg w
 unfold DX oB je;simp only[];generalize il c.sn=us at*;generalize il c.tg=ut at*;obtain⟨D,E,G,I,wh,l0,l1,l2,i0,i1,i2,a0,a1,a2,df,op⟩:=c;simp only[] at*;clear hc;obtain⟨z,O⟩:∃z,(w.alloc (.cells #[.int .i64 D,.int .i64 E,.int .i64 G,.int .i64 I,.int .i64 wh,.int .i64 l0,.int .i64 l1,.int .i64 l2,.int .i64 i0,.int .i64 i1,.int .i64 i2,.bool a0,.bool a1,.bool a2,.int .i64 df,.bool op] 37)).alloc (.cells #[.string ⟨#[]⟩,.string ⟨#[]⟩,.int .i64 0,.int .i64 0,.int .i64 0] 46)=z:=⟨_,rfl⟩;have ab:Below w.heap.size w z:=by rw[←O];exact((ZA _ w).alloc (Zw _) _).alloc (by simp) _
 have ac:z.heap[w.heap.size]?=some (.cells #[.int .i64 D,.int .i64 E,.int .i64 G,.int .i64 I,.int .i64 wh,.int .i64 l0,.int .i64 l1,.int .i64 l2,.int .i64 i0,.int .i64 i1,.int .i64 i2,.bool a0,.bool a1,.bool a2,.int .i64 df,.bool op] 37 (0,0)):=by rw[←O];exact(ZE _ _ _ (by simp)).trans (Zy w _)
 have aa:z.heap[w.heap.size+1]?=some (.cells #[.string ⟨#[]⟩,.string ⟨#[]⟩,.int .i64 0,.int .i64 0,.int .i64 0] 46 (0,0)):=by
  rw[←O];have:=Zy (w.alloc (.cells #[.int .i64 D,.int .i64 E,.int .i64 G,.int .i64 I,.int .i64 wh,.int .i64 l0,.int .i64 l1,.int .i64 l2,.int .i64 i0,.int .i64 i1,.int .i64 i2,.bool a0,.bool a1,.bool a2,.int .i64 df,.bool op] 37)) (.cells #[.string ⟨#[]⟩,.string ⟨#[]⟩,.int .i64 0,.int .i64 0,.int .i64 0] 46);rw[ZB] at this;exact this
 have ae:z.heap.size=w.heap.size+1+1:=by rw[←O,ZB,ZB]
 have q1:=fun j=>Zz z _ j _ _ _ ac
 have af:Below (w.heap.size+1) z z∧z.cell? ⟨w.heap.size,0,none⟩=some (.int .i64 D)∧z.cell? ⟨w.heap.size,1,none⟩=some (.int .i64 E)∧z.cell? ⟨w.heap.size,2,none⟩=some (.int .i64 G)∧z.cell? ⟨w.heap.size,3,none⟩=some (.int .i64 I)∧z.cell? ⟨w.heap.size,4,none⟩=some (.int .i64 wh):=⟨ZA _ _,q1 0,q1 1,q1 2,q1 3,q1 4⟩;have KB:Hid (∀W R,(Below (w.heap.size+1) z W∧W.cell? ⟨w.heap.size,0,none⟩=some (.int .i64 D)∧W.cell? ⟨w.heap.size,1,none⟩=some (.int .i64 E)∧W.cell? ⟨w.heap.size,2,none⟩=some (.int .i64 G)∧W.cell? ⟨w.heap.size,3,none⟩=some (.int .i64 I)∧W.cell? ⟨w.heap.size,4,none⟩=some (.int .i64 wh))→Below W.heap.size W R→(Below (w.heap.size+1) z R∧R.cell? ⟨w.heap.size,0,none⟩=some (.int .i64 D)∧R.cell? ⟨w.heap.size,1,none⟩=some (.int .i64 E)∧R.cell? ⟨w.heap.size,2,none⟩=some (.int .i64 G)∧R.cell? ⟨w.heap.size,3,none⟩=some (.int .i64 I)∧R.cell? ⟨w.heap.size,4,none⟩=some (.int .i64 wh))):=fun W R hS hb=>by
  obtain⟨s0,s1,s2,s3,s4,s5⟩:=hS;refine⟨s0.trans (hb.mono (by have:=s0.size;omega)),?_,?_,?_,?_,?_⟩<;>(rw[hb.cell (Zx W _ (by assumption))];assumption)
 have KD:Hid (∀W:World,(Below (w.heap.size+1) z W∧Cq W w.heap.size 0 (.int .i64 D)∧Cq W w.heap.size 1 (.int .i64 E)∧Cq W w.heap.size 2 (.int .i64 G)∧Cq W w.heap.size 3 (.int .i64 I)∧Cq W w.heap.size 4 (.int .i64 wh))→(Below (w.heap.size+1) z W.drew∧Cq W.drew w.heap.size 0 (.int .i64 D)∧Cq W.drew w.heap.size 1 (.int .i64 E)∧Cq W.drew w.heap.size 2 (.int .i64 G)∧Cq W.drew w.heap.size 3 (.int .i64 I)∧Cq W.drew w.heap.size 4 (.int .i64 wh))):=fun W hS=>⟨hS.1.drew,hS.2⟩
 have KS:Hid (∀(W:World) (V Y Z v3 v4:Value),(Below (w.heap.size+1) z W∧Cq W w.heap.size 0 (.int .i64 D)∧Cq W w.heap.size 1 (.int .i64 E)∧Cq W w.heap.size 2 (.int .i64 G)∧Cq W w.heap.size 3 (.int .i64 I)∧Cq W w.heap.size 4 (.int .i64 wh))→(Below (w.heap.size+1) z (((((W.setCell ⟨w.heap.size+1,0,none⟩ V).setCell ⟨w.heap.size+1,1,none⟩ Y).setCell ⟨w.heap.size+1,2,none⟩ Z).setCell ⟨w.heap.size+1,3,none⟩ v3).setCell ⟨w.heap.size+1,4,none⟩ v4)∧(((((W.setCell ⟨w.heap.size+1,0,none⟩ V).setCell ⟨w.heap.size+1,1,none⟩ Y).setCell ⟨w.heap.size+1,2,none⟩ Z).setCell ⟨w.heap.size+1,3,none⟩ v3).setCell ⟨w.heap.size+1,4,none⟩ v4).cell? ⟨w.heap.size,0,none⟩=some (.int .i64 D)∧(((((W.setCell ⟨w.heap.size+1,0,none⟩ V).setCell ⟨w.heap.size+1,1,none⟩ Y).setCell ⟨w.heap.size+1,2,none⟩ Z).setCell ⟨w.heap.size+1,3,none⟩ v3).setCell ⟨w.heap.size+1,4,none⟩ v4).cell? ⟨w.heap.size,1,none⟩=some (.int .i64 E)∧(((((W.setCell ⟨w.heap.size+1,0,none⟩ V).setCell ⟨w.heap.size+1,1,none⟩ Y).setCell ⟨w.heap.size+1,2,none⟩ Z).setCell ⟨w.heap.size+1,3,none⟩ v3).setCell ⟨w.heap.size+1,4,none⟩ v4).cell? ⟨w.heap.size,2,none⟩=some (.int .i64 G)∧(((((W.setCell ⟨w.heap.size+1,0,none⟩ V).setCell ⟨w.heap.size+1,1,none⟩ Y).setCell ⟨w.heap.size+1,2,none⟩ Z).setCell ⟨w.heap.size+1,3,none⟩ v3).setCell ⟨w.heap.size+1,4,none⟩ v4).cell? ⟨w.heap.size,3,none⟩=some (.int .i64 I)∧(((((W.setCell ⟨w.heap.size+1,0,none⟩ V).setCell ⟨w.heap.size+1,1,none⟩ Y).setCell ⟨w.heap.size+1,2,none⟩ Z).setCell ⟨w.heap.size+1,3,none⟩ v3).setCell ⟨w.heap.size+1,4,none⟩ v4).cell? ⟨w.heap.size,4,none⟩=some (.int .i64 wh))):=fun W V Y Z v3 v4 hS=>by
  obtain⟨s0,s1,s2,s3,s4,s5⟩:=hS;refine⟨((((s0.setCell (by simp) _).setCell (by simp) _).setCell (by simp) _).setCell (by simp) _).setCell (by simp) _,?_,?_,?_,?_,?_⟩<;>
   (rw[World.cell?_setCell_far _ _ _ _ (by simp only[];omega),World.cell?_setCell_far _ _ _ _ (by simp only[];omega),World.cell?_setCell_far _ _ _ _ (by simp only[];omega),World.cell?_setCell_far _ _ _ _ (by simp only[];omega),World.cell?_setCell_far _ _ _ _ (by simp only[];omega)];assumption)
 have HG:Hid (∀W,Below (w.heap.size+1) z W→Below w.heap.size w W):=fun W h=>ab.trans (h.mono (by omega))
 have HR:Hid (∀W,Below z.heap.size z W→(Cq W (w.heap.size+1) 0 (.string ⟨#[]⟩)∧Cq W (w.heap.size+1) 1 (.string ⟨#[]⟩)∧Cq W (w.heap.size+1) 2 (.int .i64 0)∧Cq W (w.heap.size+1) 3 (.int .i64 0)∧Cq W (w.heap.size+1) 4 (.int .i64 0))∧ ∀o,W.frozen? ⟨w.heap.size+1,o,none⟩=false):=fun W h=>by
  have hk:=(h.block _ (be aa)).trans aa;have U:=fun j=>Zz W _ j _ _ _ hk
  exact⟨⟨U 0,U 1,U 2,U 3,U 4⟩,fun o=>by simp[World.frozen?,hk]⟩
 have HW:=Hi O;clear O ab ac aa q1 ae;go_enter func21,ntmps21;go_wp2;rw[HW.out]
 go_region_held3 (fun W=>Below (w.heap.size+1) z W∧Cq W w.heap.size 0 (.int .i64 D)∧Cq W w.heap.size 1 (.int .i64 E)∧Cq W w.heap.size 2 (.int .i64 G)∧Cq W w.heap.size 3 (.int .i64 I)∧Cq W w.heap.size 4 (.int .i64 wh)) (first|with_reducible assumption|with_reducible exact KD.out _ (by assumption)|with_reducible exact KB.out _ _ (by assumption) (by assumption)|with_reducible exact KS.out _ _ _ _ _ _ (by assumption)|go_keep)
  (first
   |(go_at_call_of 43 (Value.int IntKind.i64 D);refine(W1 _).mono ?_;rintro e w3 ⟨rfl,J⟩)
   |(go_at_call_of 43 (Value.int IntKind.i64 E);refine(W2 _).mono ?_;rintro e w4 ⟨rfl,ad⟩;obtain⟨⟨r0,r1,r2,r3,r4⟩,gf⟩:=HR.out _ (Below.trans ⟨J.os,J.tape,J.output,J.size,J.block⟩ (ad.mono J.size));have g0:=gf 0;have g1:=gf 1;have g2:=gf 2;have g3:=gf 3;have g4:=gf 4;clear gf))
 rename_i hHeld
 have ag:=Hi (HG.out _ hHeld.1);clear hHeld KB KD KS HR HG af J ad W1 W2
 go_wp2
 refine ZH (v:= .agg #[S us,S ut,.int .i64 G,.int .i64 I,.int .i64 wh]) (by simp[results,results21,go_sem,fg,dU,lR,r0,r1,r2,r3,r4]) rfl ?_
 exact⟨rfl,ag.out⟩
end Go.Proofs.YtfkdailfcmnjlaaGreatDoor
