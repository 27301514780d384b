/-
  A part.
-/
import Derived.Test.YtfkdailfcmnjlaaGreatDoorMeant21b
import Derived.Shelf.Abstract
set_option linter.unusedVariables false
set_option linter.unusedSimpArgs false
set_option maxHeartbeats 40000000
set_option maxRecDepth 1000000
set_option maxHeartbeats 40000000
set_option maxRecDepth 1000000
namespace Go.Proofs.YtfkdailfcmnjlaaGreatDoor
open Go Go.RowKit Tryz
attribute [local go_sem ↓] Go.wp_at_zero Go.wp_at_succ
variable {z G E:List (List UInt8×Int)} {w W J U w4:World} {p n k Ru lp gi e size:Nat} {O D R Z v2 lv v:Value} {s s2:MS} {b:List UInt8} {A:Bool} {V I Y o:Obj}
theorem EG {ins:List hH} {V cap:Nat} {St:Nat} {mv:Value} (e:Ev) (s:Na) (af:kO b=some ins) (ad:w.heap[lp]?=some (.cells #[Pq V] 207 (0,0))) (hm:mi w V gi cap (de b 2) (de b 1) ins) (h1:eW lv s.levels w) (h2:eW mv s.members w) (hF:eO (eD e s)) (hj:oT b ins (eD e s)=some (A,Ru,St)):
 Calls prog 53 #[Pq lp,DX e,tf lv mv s] w fun en w'=>en= .returned (vm A Ru St)∧Below w.heap.size w w':=by
 have c0:w.cell? ⟨lp,0,none⟩=some (Pq V):=by rw[Zz w lp 0 _ _ _ ad];rfl
 have aj:=be ad;have W1:∀W,Below w.heap.size w W→Calls prog 40 #[DX e,tf lv mv s] W fun en w'=>en= .returned (K9 (eD e s))∧Below W.heap.size W w':=fun W hb=>vg e s W (h1.below hb) (h2.below hb)
 have W2:∀W,Below w.heap.size w W→Calls prog 100 #[Pq V,K9 (eD e s)] W fun e w'=>e= .returned (vm A Ru St)∧Below W.heap.size W w':=fun W hb=>EF af (hm.below hb) hF hj
 obtain⟨D,E,G,I,wh⟩:=e;obtain⟨J,O,R,U⟩:=s;obtain⟨_,la,lc,rfl,_⟩:=h1;obtain⟨_,ma,mc,rfl,_⟩:=h2;unfold DX tf K9 at*;simp only[] at*;generalize (eD ⟨D,E,G,I,wh⟩ ⟨J,O,R,U⟩).getD 0 0=f0 at*;generalize (eD ⟨D,E,G,I,wh⟩ ⟨J,O,R,U⟩).getD 1 0=f1 at*;generalize (eD ⟨D,E,G,I,wh⟩ ⟨J,O,R,U⟩).getD 2 0=f2 at*;generalize (eD ⟨D,E,G,I,wh⟩ ⟨J,O,R,U⟩).getD 3 0=f3 at*;generalize (eD ⟨D,E,G,I,wh⟩ ⟨J,O,R,U⟩).getD 4 0=f4 at*;generalize (eD ⟨D,E,G,I,wh⟩ ⟨J,O,R,U⟩).getD 5 0=f5 at*;generalize (eD ⟨D,E,G,I,wh⟩ ⟨J,O,R,U⟩).getD 6 0=f6 at*;generalize (eD ⟨D,E,G,I,wh⟩ ⟨J,O,R,U⟩).getD 7 0=f7 at*;generalize (eD ⟨D,E,G,I,wh⟩ ⟨J,O,R,U⟩).getD 8 0=f8 at*;obtain⟨z,Z⟩:∃z,((w.alloc (.cells #[S D,S E,Iq G,Iq I,Iq wh] 46)).alloc (.cells #[.slice la J.length lc,Iq O,.slice ma R.length mc,.bool U] 50)).alloc (.cells #[.bool false,Iq 0,Iq 0] 40)=z:=⟨_,rfl⟩;have ab:Below w.heap.size w z:=by rw[←Z];exact(((ZA _ w).alloc (Zw _) _).alloc (by simp) _).alloc (by simp;omega) _
 have ag:z.heap[w.heap.size]?=some (.cells #[S D,S E,Iq G,Iq I,Iq wh] 46 (0,0)):=by rw[←Z];exact(ZE _ _ _ (by simp;omega)).trans ((ZE _ _ _ (by simp)).trans (Zy w _))
 have ah:z.heap[w.heap.size+1]?=some (.cells #[.slice la J.length lc,Iq O,.slice ma R.length mc,.bool U] 50 (0,0)):=by
  rw[←Z];refine(ZE _ _ _ (by simp)).trans ?_
  have:=Zy (w.alloc (.cells #[S D,S E,Iq G,Iq I,Iq wh] 46)) (.cells #[.slice la J.length lc,Iq O,.slice ma R.length mc,.bool U] 50);rw[ZB] at this;exact this
 have ac:z.heap[w.heap.size+1+1]?=some (.cells #[.bool false,Iq 0,Iq 0] 40 (0,0)):=by
  rw[←Z];have:=Zy ((w.alloc (.cells #[S D,S E,Iq G,Iq I,Iq wh] 46)).alloc (.cells #[.slice la J.length lc,Iq O,.slice ma R.length mc,.bool U] 50)) (.cells #[.bool false,Iq 0,Iq 0] 40);rw[ZB,ZB] at this;exact this
 have ak:Hid (z.heap.size=w.heap.size+1+1+1):=by show z.heap.size=_;rw[←Z,ZB,ZB,ZB]
 have q1:=fun j=>Zz z _ j _ _ _ ag
 have q2:=fun j=>Zz z _ j _ _ _ ah
 have c3:z.cell? ⟨lp,0,none⟩=some (Pq V):=by rw[ab.cell (p:=⟨lp,0,none⟩) aj];exact c0
 have am:Below (w.heap.size+1+1) z z∧z.cell? ⟨lp,0,none⟩=some (Pq V)∧z.cell? ⟨w.heap.size,0,none⟩=some (S D)∧z.cell? ⟨w.heap.size,1,none⟩=some (S E)∧z.cell? ⟨w.heap.size,2,none⟩=some (Iq G)∧z.cell? ⟨w.heap.size,3,none⟩=some (Iq I)∧z.cell? ⟨w.heap.size,4,none⟩=some (Iq wh)∧z.cell? ⟨w.heap.size+1,0,none⟩=some (.slice la J.length lc)∧z.cell? ⟨w.heap.size+1,1,none⟩=some (Iq O)∧z.cell? ⟨w.heap.size+1,2,none⟩=some (.slice ma R.length mc)∧z.cell? ⟨w.heap.size+1,3,none⟩=some (.bool U):=⟨ZA _ _,c3,q1 0,q1 1,q1 2,q1 3,q1 4,q2 0,q2 1,q2 2,q2 3⟩;have KB:Hid (∀W Y,(Below (w.heap.size+1+1) z W∧W.cell? ⟨lp,0,none⟩=some (Pq V)∧W.cell? ⟨w.heap.size,0,none⟩=some (S D)∧W.cell? ⟨w.heap.size,1,none⟩=some (S E)∧W.cell? ⟨w.heap.size,2,none⟩=some (Iq G)∧W.cell? ⟨w.heap.size,3,none⟩=some (Iq I)∧W.cell? ⟨w.heap.size,4,none⟩=some (Iq wh)∧W.cell? ⟨w.heap.size+1,0,none⟩=some (.slice la J.length lc)∧W.cell? ⟨w.heap.size+1,1,none⟩=some (Iq O)∧W.cell? ⟨w.heap.size+1,2,none⟩=some (.slice ma R.length mc)∧W.cell? ⟨w.heap.size+1,3,none⟩=some (.bool U))→Below W.heap.size W Y→(Below (w.heap.size+1+1) z Y∧Y.cell? ⟨lp,0,none⟩=some (Pq V)∧Y.cell? ⟨w.heap.size,0,none⟩=some (S D)∧Y.cell? ⟨w.heap.size,1,none⟩=some (S E)∧Y.cell? ⟨w.heap.size,2,none⟩=some (Iq G)∧Y.cell? ⟨w.heap.size,3,none⟩=some (Iq I)∧Y.cell? ⟨w.heap.size,4,none⟩=some (Iq wh)∧Y.cell? ⟨w.heap.size+1,0,none⟩=some (.slice la J.length lc)∧Y.cell? ⟨w.heap.size+1,1,none⟩=some (Iq O)∧Y.cell? ⟨w.heap.size+1,2,none⟩=some (.slice ma R.length mc)∧Y.cell? ⟨w.heap.size+1,3,none⟩=some (.bool U))):=fun W Y hS hb=>by
  obtain⟨s0,s1,s2,s3,s4,s5,s6,s7,s8,s9,an⟩:=hS;refine⟨s0.trans (hb.mono (by have:=s0.size;have:=ak.out;omega)),?_,?_,?_,?_,?_,?_,?_,?_,?_,?_⟩<;>(rw[hb.cell (Zx W _ (by assumption))];assumption)
 have HG:Hid (∀W,Below (w.heap.size+1+1) z W→Below w.heap.size w W):=fun W h=>ab.trans (h.mono (by omega))
 have V1:∀W,Below (w.heap.size+1+1) z W→_:=fun W h=>W1 W (HG.out W h)
 have V2:∀W,Below (w.heap.size+1+1) z W→_:=fun W h=>W2 W (HG.out W h)
 have HR:Hid (∀W,Below z.heap.size z W→Cq W (w.heap.size+1+1) 0 (.bool false)∧Cq W (w.heap.size+1+1) 1 (Iq 0)∧Cq W (w.heap.size+1+1) 2 (Iq 0)∧W.frozen? ⟨w.heap.size+1+1,0,none⟩=false∧W.frozen? ⟨w.heap.size+1+1,1,none⟩=false∧W.frozen? ⟨w.heap.size+1+1,2,none⟩=false):=fun W h=>by
  have hk:=(h.block _ (be ac)).trans ac;have ae:=fun j=>Zz W _ j _ _ _ hk
  exact⟨ae 0,ae 1,ae 2,by simp[World.frozen?,hk],by simp[World.frozen?,hk],by simp[World.frozen?,hk]⟩
 have KD:Hid (∀W:World,(Below (w.heap.size+1+1) z W∧Cq W lp 0 (Pq V)∧Cq W w.heap.size 0 (S D)∧Cq W w.heap.size 1 (S E)∧Cq W w.heap.size 2 (Iq G)∧Cq W w.heap.size 3 (Iq I)∧Cq W w.heap.size 4 (Iq wh)∧Cq W (w.heap.size+1) 0 (.slice la J.length lc)∧Cq W (w.heap.size+1) 1 (Iq O)∧Cq W (w.heap.size+1) 2 (.slice ma R.length mc)∧Cq W (w.heap.size+1) 3 (.bool U))→(Below (w.heap.size+1+1) z W.drew∧Cq W.drew lp 0 (Pq V)∧Cq W.drew w.heap.size 0 (S D)∧Cq W.drew w.heap.size 1 (S E)∧Cq W.drew w.heap.size 2 (Iq G)∧Cq W.drew w.heap.size 3 (Iq I)∧Cq W.drew w.heap.size 4 (Iq wh)∧Cq W.drew (w.heap.size+1) 0 (.slice la J.length lc)∧Cq W.drew (w.heap.size+1) 1 (Iq O)∧Cq W.drew (w.heap.size+1) 2 (.slice ma R.length mc)∧Cq W.drew (w.heap.size+1) 3 (.bool U))):=fun W hS=>⟨hS.1.drew,hS.2⟩
 have KS:Hid (∀(W:World) (v0 v1 v2:Value),(Below (w.heap.size+1+1) z W∧Cq W lp 0 (Pq V)∧Cq W w.heap.size 0 (S D)∧Cq W w.heap.size 1 (S E)∧Cq W w.heap.size 2 (Iq G)∧Cq W w.heap.size 3 (Iq I)∧Cq W w.heap.size 4 (Iq wh)∧Cq W (w.heap.size+1) 0 (.slice la J.length lc)∧Cq W (w.heap.size+1) 1 (Iq O)∧Cq W (w.heap.size+1) 2 (.slice ma R.length mc)∧Cq W (w.heap.size+1) 3 (.bool U))→(Below (w.heap.size+1+1) z (((W.setCell ⟨w.heap.size+1+1,0,none⟩ v0).setCell ⟨w.heap.size+1+1,1,none⟩ v1).setCell ⟨w.heap.size+1+1,2,none⟩ v2)∧(((W.setCell ⟨w.heap.size+1+1,0,none⟩ v0).setCell ⟨w.heap.size+1+1,1,none⟩ v1).setCell ⟨w.heap.size+1+1,2,none⟩ v2).cell? ⟨lp,0,none⟩=some (Pq V)∧(((W.setCell ⟨w.heap.size+1+1,0,none⟩ v0).setCell ⟨w.heap.size+1+1,1,none⟩ v1).setCell ⟨w.heap.size+1+1,2,none⟩ v2).cell? ⟨w.heap.size,0,none⟩=some (S D)∧(((W.setCell ⟨w.heap.size+1+1,0,none⟩ v0).setCell ⟨w.heap.size+1+1,1,none⟩ v1).setCell ⟨w.heap.size+1+1,2,none⟩ v2).cell? ⟨w.heap.size,1,none⟩=some (S E)∧(((W.setCell ⟨w.heap.size+1+1,0,none⟩ v0).setCell ⟨w.heap.size+1+1,1,none⟩ v1).setCell ⟨w.heap.size+1+1,2,none⟩ v2).cell? ⟨w.heap.size,2,none⟩=some (Iq G)∧(((W.setCell ⟨w.heap.size+1+1,0,none⟩ v0).setCell ⟨w.heap.size+1+1,1,none⟩ v1).setCell ⟨w.heap.size+1+1,2,none⟩ v2).cell? ⟨w.heap.size,3,none⟩=some (Iq I)∧(((W.setCell ⟨w.heap.size+1+1,0,none⟩ v0).setCell ⟨w.heap.size+1+1,1,none⟩ v1).setCell ⟨w.heap.size+1+1,2,none⟩ v2).cell? ⟨w.heap.size,4,none⟩=some (Iq wh)∧(((W.setCell ⟨w.heap.size+1+1,0,none⟩ v0).setCell ⟨w.heap.size+1+1,1,none⟩ v1).setCell ⟨w.heap.size+1+1,2,none⟩ v2).cell? ⟨w.heap.size+1,0,none⟩=some (.slice la J.length lc)∧(((W.setCell ⟨w.heap.size+1+1,0,none⟩ v0).setCell ⟨w.heap.size+1+1,1,none⟩ v1).setCell ⟨w.heap.size+1+1,2,none⟩ v2).cell? ⟨w.heap.size+1,1,none⟩=some (Iq O)∧(((W.setCell ⟨w.heap.size+1+1,0,none⟩ v0).setCell ⟨w.heap.size+1+1,1,none⟩ v1).setCell ⟨w.heap.size+1+1,2,none⟩ v2).cell? ⟨w.heap.size+1,2,none⟩=some (.slice ma R.length mc)∧(((W.setCell ⟨w.heap.size+1+1,0,none⟩ v0).setCell ⟨w.heap.size+1+1,1,none⟩ v1).setCell ⟨w.heap.size+1+1,2,none⟩ v2).cell? ⟨w.heap.size+1,3,none⟩=some (.bool U))):=fun W v0 v1 v2 hS=>by
  obtain⟨s0,s1,s2,s3,s4,s5,s6,s7,s8,s9,an⟩:=hS;refine⟨((s0.setCell (by simp) _).setCell (by simp) _).setCell (by simp) _,?_,?_,?_,?_,?_,?_,?_,?_,?_,?_⟩<;>
   (rw[World.cell?_setCell_far _ _ _ _ (by simp only[];omega),World.cell?_setCell_far _ _ _ _ (by simp only[];omega),World.cell?_setCell_far _ _ _ _ (by simp only[];omega)];assumption)
 clear W1 W2;have HW:=Hi Z;have ao:=c3;rw[←Z] at ao;clear ad hm hF hj af ag ah ac q1 q2 ab Z c3;go_enter func53,ntmps53;go_wp2;rw[HW.out];unfold vm at V2
 go_region_held3 (fun W=>Below (w.heap.size+1+1) z W∧Cq W lp 0 (Pq V)∧Cq W w.heap.size 0 (S D)∧Cq W w.heap.size 1 (S E)∧Cq W w.heap.size 2 (Iq G)∧Cq W w.heap.size 3 (Iq I)∧Cq W w.heap.size 4 (Iq wh)∧Cq W (w.heap.size+1) 0 (.slice la J.length lc)∧Cq W (w.heap.size+1) 1 (Iq O)∧Cq W (w.heap.size+1) 2 (.slice ma R.length mc)∧Cq W (w.heap.size+1) 3 (.bool U)) (first|with_reducible assumption|with_reducible exact KD.out _ (by assumption)|with_reducible exact KB.out _ _ (by assumption) (by assumption)|with_reducible exact KS.out _ _ _ _ (by assumption)|go_keep)
  (first
   |(go_at_call 40;refine(V1 _ (by exact acf (by assumption))).mono ?_;rintro e w4 ⟨rfl,aa⟩)
   |(go_at_call 100;refine(V2 _ (by exact acf (by assumption))).mono ?_;rintro e w5 ⟨rfl,ai⟩;obtain⟨r0,r1,r2,g0,g1,g2⟩:=HR.out _ (Below.trans ⟨aa.os,aa.tape,aa.output,aa.size,aa.block⟩ (ai.mono aa.size))))
 rename_i hHeld
 have ap:=Hi (HG.out _ hHeld.1);clear hHeld KB KD KS V1 V2 HR HG am aa ai
 go_wp2
 refine ZH (v:=vm A Ru St) (by simp[results,results53,go_sem,vm,fg,dU,lR,r0,r1,r2]) rfl ?_
 exact⟨rfl,ap.out⟩
variable {c:jV}
theorem xK {n:Int} (E:dG n) (w:World):Calls prog 121 #[.agg (je c),Iq n] w fun e w'=>e= .returned (Iq (NG c n))∧Below w.heap.size w w':=by
 have z:=fun w=>qo E w
 have J:=ns n;unfold NG;generalize eG n=k at*;obtain⟨O,R,U,V,wh,Y,Z,l2,i0,i1,i2,G,a1,a2,df,op⟩:=c;unfold je Ie IM;simp only[];have I:k=0∨k=1∨k=2:=by omega
 have D:Hid (∀o,Below w.heap.size w (w.alloc o)):=fun o=>(ZA _ _).alloc (Zw _) _
 rcases I with rfl|rfl|rfl
 ·cases G
  all_goals
   go_enter func121,ntmps121
   go_wp2_with (
    go_at_call 36
    apply(z _).mono;rintro e w' ⟨rfl,rfl⟩)
   go_ret;exact⟨rfl,D.out _⟩
 ·cases a1
  all_goals
   go_enter func121,ntmps121
   go_wp2_with (
    go_at_call 36
    apply(z _).mono;rintro e w' ⟨rfl,rfl⟩)
   go_ret;exact⟨rfl,D.out _⟩
 ·cases a2
  all_goals
   go_enter func121,ntmps121
   go_wp2_with (
    go_at_call 36
    apply(z _).mono;rintro e w' ⟨rfl,rfl⟩)
   go_ret;exact⟨rfl,D.out _⟩
end Go.Proofs.YtfkdailfcmnjlaaGreatDoor
