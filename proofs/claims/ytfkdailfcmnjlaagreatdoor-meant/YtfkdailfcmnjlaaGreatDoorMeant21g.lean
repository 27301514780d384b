/-
  A part.
-/
import Derived.Test.YtfkdailfcmnjlaaGreatDoorMeant21b
import Derived.Test.YtfkdailfcmnjlaaGreatDoorMeant21d
import Derived.Shelf.Abstract
set_option linter.unusedVariables false
set_option linter.unusedSimpArgs false
set_option maxHeartbeats 40000000
set_option maxRecDepth 1000000
set_option maxHeartbeats 40000000
set_option maxRecDepth 1000000
namespace Go.Proofs.YtfkdailfcmnjlaaGreatDoor
open Go Go.RowKit Tryz
attribute [local go_sem ↓] Go.wp_at_zero Go.wp_at_succ
variable {z G E:List (List UInt8×Int)} {w W J U:World} {n i k e size:Nat} {O D R Z v:Value} {s2:MS} {b u:List UInt8} {V I Y o:Obj} {x:Int}
variable {c:jV}
theorem FL {n:Int} (I:dG n) (w:World):Calls prog 122 #[.agg (je c),Iq n] w fun e w'=>e= .returned (Iq (NH c n))∧Below w.heap.size w w':=by
 have E:=fun w=>qo I w
 have z:=fun w=>xw (IN c (eG n)) w
 have R:=ns n;unfold NH;generalize eG n=k at*;generalize D:fe (IN c k)=y at*;have U:=Hi D;obtain⟨V,Y,Z,nd,wh,l0,l1,l2,i0,i1,i2,J,a1,a2,df,op⟩:=c;unfold je Ie at*;unfold IN at z;simp only[] at*;have O:k=0∨k=1∨k=2:=by omega
 have G:Hid (∀o,Below w.heap.size w (w.alloc o)):=fun o=>(ZA _ _).alloc (Zw _) _
 rcases O with rfl|rfl|rfl
 ·cases J
  all_goals
   go_enter func122,ntmps122
   go_wp2_with (first
    |(go_at_call 36;refine(E _).mono ?_;rintro e w' ⟨rfl,rfl⟩)
    |(go_at_call 123;refine(z _).mono ?_;rintro e w' ⟨rfl,rfl⟩))
   go_ret;exact⟨rfl,G.out _⟩
 ·cases a1
  all_goals
   go_enter func122,ntmps122
   go_wp2_with (first
    |(go_at_call 36;refine(E _).mono ?_;rintro e w' ⟨rfl,rfl⟩)
    |(go_at_call 123;refine(z _).mono ?_;rintro e w' ⟨rfl,rfl⟩))
   go_ret;exact⟨rfl,G.out _⟩
 ·cases a2
  all_goals
   go_enter func122,ntmps122
   go_wp2_with (first
    |(go_at_call 36;refine(E _).mono ?_;rintro e w' ⟨rfl,rfl⟩)
    |(go_at_call 123;refine(z _).mono ?_;rintro e w' ⟨rfl,rfl⟩))
   go_ret;exact⟨rfl,G.out _⟩
variable {b k:Nat} {w W w':World} {v:Nat→Value} {c:jV} {n x:Int} {m o a r:Mk} {V:Value} {z D:UInt8}
theorem OX:nT 1 1:=by
 unfold nT
 intros
 rename_i V Y gm gk gx gy D z a b m k x y G
 have O:=G.oa;have R:=G.ob;have Z:=G.la;have l2:=G.lb;have hz:=G.oz;obtain⟨p1,p2,p3,p4⟩:=G.sa;obtain⟨q1,q2,q3,q4⟩:=G.sb;have W1:=fun W:World=>D9 p4 q4 W
 have W2:=fun W:World=>l5 a [45] b (dM (a.told - b.told)) ⟨p1,p2,p3⟩ ⟨q1,q2,q3⟩ (by decide) W
 have HR:Hid (gM 1 a b m k x y=fO a [45] b (dM (a.told - b.told))):=rfl;rw[HR.out];generalize fO a [45] b (dM (a.told - b.told))=r at*;generalize (dM (a.told - b.told))=t at*;have aa:=be hz;have U:Below D z z:=ZA _ _;have E1:∀W,Below D z W→Cq W V 0 (S a.text):=fun W h=>(dk (dm O h Z)).1
 have E2:∀W,Below D z W→Cq W V 1 (S a.bare):=fun W h=>(dk (dm O h Z)).2.1
 have E3:∀W,Below D z W→Cq W V 2 (Iq a.told):=fun W h=>(dk (dm O h Z)).2.2.1
 have E4:∀W,Below D z W→Cq W V 3 (Iq (a.deep:Nat)):=fun W h=>(dk (dm O h Z)).2.2.2
 have E5:∀W,Below D z W→Cq W Y 0 (S b.text):=fun W h=>(dk (dm R h l2)).1
 have E6:∀W,Below D z W→Cq W Y 1 (S b.bare):=fun W h=>(dk (dm R h l2)).2.1
 have E7:∀W,Below D z W→Cq W Y 2 (Iq b.told):=fun W h=>(dk (dm R h l2)).2.2.1
 have E8:∀W,Below D z W→Cq W Y 3 (Iq (b.deep:Nat)):=fun W h=>(dk (dm R h l2)).2.2.2
 have KZ:Hid (∀J:World,Below z.heap.size z J→fW J D kt):=fun J h=>dm hz h aa
 have KD:Hid (∀W:World,Below D z W→Below D z W.drew):=fun W h=>h.drew
 have KA:Hid (∀(W:World) (o:Obj),Below D z W→Below D z (W.alloc o)):=fun W o h=>h.alloc (by have:=h.size;omega) _
 have KS:Hid (∀(W:World) (a:Addr) (u:Value),D≤a.block→Below D z W→Below D z (W.setCell a u)):=fun W a u h h'=>h'.setCell h _
 have KB:Hid (∀W J:World,Below D z W→Below W.heap.size W J→Below D z J):=fun W J h h'=>h.trans (h'.mono (by have:=h.size;omega))
 unfold pB at W2
 conv=>arg 2;whnf
 go_upto_region 13 with fail
 go_region_held3 (fun W=>Below D z W) (first|assumption|(repeat' first|exact U|with_reducible assumption|with_reducible apply KD.out|with_reducible apply KA.out|(with_reducible refine KS.out _ _ _ (Zw _) ?_)|exact KB.out _ _ U (by assumption)|exact KB.out _ _ (KD.out _ U) (by assumption)))
  (first
   |(go_at_call 75;refine(W1 _).mono ?_;rintro e w' ⟨rfl,rfl⟩)
   |(go_at_call 73;refine(W2 _).mono ?_;rintro e w1 ⟨rfl,I⟩;have E:Hid _:=KZ.out w1 ⟨I.os,I.tape,I.output,I.size,I.block⟩;obtain⟨z0,z1,z2,z3⟩:=dk E.out;obtain⟨f0,f1,f2,f3⟩:=jW E.out))
 all_goals
  rename_i hHeld
  first|((iterate 113 (apply Exists.intro));exact⟨rfl,by first|exact dZ E.out|exact eJ (dZ E.out),hHeld⟩)|(refine⟨?_,by first|exact dZ E.out|exact eJ (dZ E.out),hHeld⟩;(iterate 113 (apply Exists.intro));rfl)
theorem O4:nT 7 7:=by
 unfold nT
 intros
 rename_i ga gb gm gk gx gy E D a b m k x y J
 have H1:=J.ox;have H2:=J.oy;have l1:=J.lx;have l2:=J.ly;have hz:=J.oz;obtain⟨p1,p2,p3,p4⟩:=J.sx;obtain⟨q1,q2,q3,q4⟩:=J.sy;have tx:=J.tx;clear J;have W1:=fun W:World=>jr (x.told==1||y.told==1) W
 have W2:=fun W:World=>l5 x [111,114] y (dq (x.told==1||y.told==1)) ⟨p1,p2,p3⟩ ⟨q1,q2,q3⟩ (by decide) W
 have HR:Hid (gM 7 a b m k x y=fO x [111,114] y (dq (x.told==1||y.told==1))):=rfl;rw[HR.out];clear HR;generalize fO x [111,114] y (dq (x.told==1||y.told==1))=r at*;generalize (dq (x.told==1||y.told==1))=t at*;have ac:=be hz;have aa:Below E D D:=ZA _ _;have R:∀W,Below E D W→Cq W gx 0 (S x.text):=fun W h=>(dk (dm H1 h l1)).1
 have U:∀W,Below E D W→Cq W gx 1 (S x.bare):=fun W h=>(dk (dm H1 h l1)).2.1
 have O:∀W,Below E D W→Cq W gx 2 (Iq x.told):=fun W h=>(dk (dm H1 h l1)).2.2.1
 have V:∀W,Below E D W→Cq W gx 3 (Iq (x.deep:Nat)):=fun W h=>(dk (dm H1 h l1)).2.2.2
 have Y:∀W,Below E D W→Cq W gy 0 (S y.text):=fun W h=>(dk (dm H2 h l2)).1
 have Z:∀W,Below E D W→Cq W gy 1 (S y.bare):=fun W h=>(dk (dm H2 h l2)).2.1
 have E7:∀W,Below E D W→Cq W gy 2 (Iq y.told):=fun W h=>(dk (dm H2 h l2)).2.2.1
 have E8:∀W,Below E D W→Cq W gy 3 (Iq (y.deep:Nat)):=fun W h=>(dk (dm H2 h l2)).2.2.2
 have KZ:Hid (∀W':World,Below D.heap.size D W'→fW W' E kt):=fun W' h=>dm hz h ac
 have KD:Hid (∀W:World,Below E D W→Below E D W.drew):=fun W h=>h.drew
 have KA:Hid (∀(W:World) (o:Obj),Below E D W→Below E D (W.alloc o)):=fun W o h=>h.alloc (by have:=h.size;omega) _
 have KS:Hid (∀(W:World) (a:Addr) (u:Value),E≤a.block→Below E D W→Below E D (W.setCell a u)):=fun W a u h h'=>h'.setCell h _
 have KB:Hid (∀W W':World,Below E D W→Below W.heap.size W W'→Below E D W'):=fun W W' h h'=>h.trans (h'.mono (by have:=h.size;omega))
 unfold pB at W2;clear H1 H2 hz p1 p2 p3 p4 q1 q2 q3 q4;rcases tx with tx|tx
 ·have ab:(x.told==1)=false:=by rw[tx];rfl
  rw[ab] at W1;simp only[Bool.false_or] at W1;clear tx
  conv=>arg 2;whnf
  go_upto_region 25 with fail
  go_region_held3 (fun W=>Below E D W) (first|assumption|(repeat' first|exact aa|with_reducible assumption|with_reducible apply KD.out|with_reducible apply KA.out|(with_reducible refine KS.out _ _ _ (Zw _) ?_)|exact KB.out _ _ aa (by assumption)|exact KB.out _ _ (KD.out _ aa) (by assumption)))
   (first
    |(go_at_call 76;refine(W1 _).mono ?_;rintro e w' ⟨rfl,rfl⟩)
    |(go_at_call 73;refine(W2 _).mono ?_;rintro e w1 ⟨rfl,G⟩;have I:Hid _:=KZ.out w1 ⟨G.os,G.tape,G.output,G.size,G.block⟩;obtain⟨z0,z1,z2,z3⟩:=dk I.out;obtain⟨f0,f1,f2,f3⟩:=jW I.out))
  all_goals
   rename_i hHeld
   first|((iterate 113 (apply Exists.intro));exact⟨rfl,by first|exact dZ I.out|exact eJ (dZ I.out),hHeld⟩)|(refine⟨?_,by first|exact dZ I.out|exact eJ (dZ I.out),hHeld⟩;(iterate 113 (apply Exists.intro));rfl)
 ·have ab:(x.told==1)=true:=by rw[tx];rfl
  rw[ab] at W1;simp only[Bool.true_or] at W1;clear tx
  conv=>arg 2;whnf
  go_upto_region 25 with fail
  refine wp_region_held_drew (S:=fun W=>Below E D W) (by kernel_rfl) aa.drew (fun hHeld=>?_)
  refine wpAnyH_take (i:=0) (v:= .agg #[S x.text,S x.bare,Iq x.told,Iq (x.deep:Nat)]) rfl (by kernel_rfl) (by kernel_rfl) (by kernel_rfl) (fun _ _ _ h=>h) (Or.inl ⟨by rfl,fun w z=>?_⟩) hHeld ?_
  ·dsimp only at z;have s1:=R w z;have s2:=U w z;have s3:=O w z;have s4:=V w z;clear R U O V Y Z E7 E8;go_simp
  simp only[ZJ,ZF,ZG,Act.put,ZD,ZM,ZN];refine wpAnyH_take (i:=1) (v:= .agg #[S y.text,S y.bare,Iq y.told,Iq (y.deep:Nat)]) rfl (by kernel_rfl) (by kernel_rfl) (by kernel_rfl) (fun _ _ _ h=>h) (Or.inl ⟨by rfl,fun w z=>?_⟩) hHeld ?_
  ·dsimp only at z;have s5:=Y w z;have s6:=Z w z;have s7:=E7 w z;have s8:=E8 w z;clear R U O V Y Z E7 E8;go_simp
  simp only[ZJ,ZF,ZG,Act.put,ZD,ZM,ZN];refine wpAnyH_take (i:=2) (v:= .pointer (some ⟨gx,2,none⟩)) rfl (by kernel_rfl) (by kernel_rfl) (by kernel_rfl) (fun _ _ _ h=>h) (Or.inl ⟨by rfl,fun w z=>?_⟩) hHeld ?_
  ·dsimp only at z;clear R U O V Y Z E7 E8;go_simp
  simp only[ZJ,ZF,ZG,Act.put,ZD,ZM,ZN];refine wpAnyH_take (i:=3) (v:= Iq x.told) rfl (by kernel_rfl) (by kernel_rfl) (by kernel_rfl) (fun _ _ _ h=>h) (Or.inl ⟨by rfl,fun w z=>?_⟩) hHeld ?_
  ·dsimp only at z;have s3:=O w z;clear R U O V Y Z E7 E8;go_simp
  simp only[ZJ,ZF,ZG,Act.put,ZD,ZM,ZN];refine wpAnyH_take (i:=4) (v:= .bool true) rfl (by kernel_rfl) (by kernel_rfl) (by kernel_rfl) (fun _ _ _ h=>h) (Or.inl ⟨by rfl,fun w z=>?_⟩) hHeld ?_
  ·dsimp only at z;clear R U O V Y Z E7 E8;go_simp
  simp only[ZJ,ZF,ZG,Act.put,ZD,ZM,ZN];refine wpAnyH_take (i:=5) (v:= .bool true) rfl (by kernel_rfl) (by kernel_rfl) (by kernel_rfl) (fun _ _ _ h=>h) (Or.inl ⟨by rfl,fun w z=>?_⟩) hHeld ?_
  ·dsimp only at z;clear R U O V Y Z E7 E8;go_simp
  simp only[ZJ,ZF,ZG,Act.put,ZD,ZM,ZN];refine wpAnyH_take (i:=6) (v:=undef) rfl (by kernel_rfl) (by kernel_rfl) (by kernel_rfl) (fun _ _ _ h=>h) (Or.inr ⟨by rfl,rfl⟩) hHeld ?_
  simp only[ZJ,ZF,ZG,Act.put,ZD,ZM,ZN];refine wpAnyH_take (i:=7) (v:=undef) rfl (by kernel_rfl) (by kernel_rfl) (by kernel_rfl) (fun _ _ _ h=>h) (Or.inr ⟨by rfl,rfl⟩) hHeld ?_
  simp only[ZJ,ZF,ZG,Act.put,ZD,ZM,ZN];refine wpAnyH_take (i:=8) (v:=undef) rfl (by kernel_rfl) (by kernel_rfl) (by kernel_rfl) (fun _ _ _ h=>h) (Or.inr ⟨by rfl,rfl⟩) hHeld ?_
  simp only[ZJ,ZF,ZG,Act.put,ZD,ZM,ZN];refine wpAnyH_take (i:=9) (v:= .bool true) rfl (by kernel_rfl) (by kernel_rfl) (by kernel_rfl) (fun _ _ _ h=>h) (Or.inl ⟨by rfl,fun w z=>?_⟩) hHeld ?_
  ·dsimp only at z;clear R U O V Y Z E7 E8;go_simp
  simp only[ZJ,ZF,ZG,Act.put,ZD,ZM,ZN];refine wpAnyH_ready (rs:=[10]) (by kernel_rfl) (by simp) ?_
  refine AllReadyH.cons rfl (fun K hK=>?_) AllReadyH.nil
  go_simp
  apply(W1 _).mono;rintro e w2 ⟨rfl,rfl⟩
  dsimp only
  refine hK.out _ _ hHeld (fun hHeld=>?_)
  clear hK
  try simp only[ZJ,ZF,ZG,Act.put,ZD,ZM,ZN]
  refine wpAnyH_ready (rs:=[11]) (by kernel_rfl) (by simp) ?_
  refine AllReadyH.cons rfl (fun K hK=>?_) AllReadyH.nil
  go_simp
  apply(W2 _).mono;rintro e w1 ⟨rfl,G⟩
  dsimp only
  have I:=Hi (KZ.out w1 ⟨G.os,G.tape,G.output,G.size,G.block⟩);obtain⟨z0,z1,z2,z3⟩:=dk I.out;obtain⟨f0,f1,f2,f3⟩:=jW I.out;refine hK.out _ _ (KB.out _ _ hHeld G) (fun hHeld=>?_)
  clear hK G
  try simp only[ZJ,ZF,ZG,Act.put,ZD,ZM,ZN]
  refine wpAnyH_ready (rs:=[12]) (by kernel_rfl) (by simp) ?_
  refine AllReadyH.cons rfl (fun K hK=>?_) AllReadyH.nil
  go_simp
  refine hK.out _ _ (iW hHeld) (fun hHeld=>?_)
  clear hK;refine wpAnyH_done (by kernel_rfl) ?_ _
  go_wp2
  first|((iterate 113 (apply Exists.intro));exact⟨rfl,by first|exact dZ I.out|exact eJ (dZ I.out),hHeld⟩)|(refine⟨?_,by first|exact dZ I.out|exact eJ (dZ I.out),hHeld⟩;(iterate 113 (apply Exists.intro));rfl)
end Go.Proofs.YtfkdailfcmnjlaaGreatDoor
