/-
  A part.
-/
import Derived.Test.YtfkdailfcmnjlaaGreatDoorMeant21b
import Derived.Test.YtfkdailfcmnjlaaGreatDoorMeant21c
import Derived.Test.YtfkdailfcmnjlaaGreatDoorMeant21d
import Derived.Shelf.Abstract
set_option linter.unusedVariables false
set_option linter.unusedSimpArgs false
set_option maxHeartbeats 40000000
set_option maxRecDepth 1000000
set_option maxHeartbeats 40000000
set_option maxRecDepth 1000000
namespace Go.Proofs.YtfkdailfcmnjlaaGreatDoor
open Go Go.RowKit Tryz
attribute [local go_sem ↓] Go.wp_at_zero Go.wp_at_succ
variable {z G E:List (List UInt8×Int)} {w W J U:World} {i k e size:Nat} {O D R Z v2 v:Value} {s2:MS} {b u:List UInt8} {V I Y o:Obj} {x:Int}
theorem tN {c:Int} (z:dG c) (w:World):Calls prog 43 #[Iq c] w fun e w'=>e= .returned (S (il c))∧Below w.heap.size w w':=by
 have D:=fun w=>qo z w
 have I:=ns c;unfold il;generalize eG c=R at*;have E:Hid (∀o,Below w.heap.size w (w.alloc o)):=fun o=>(ZA _ _).alloc (Zw _) _
 have G:R=0∨R=1∨R=2:=by omega
 rcases G with rfl|rfl|rfl
 all_goals
  go_enter func43,ntmps43
  go_wp2_with (
   go_at_call 36
   apply(D _).mono;rintro e w' ⟨rfl,rfl⟩)
 all_goals
  go_ret;exact⟨rfl,E.out _⟩
variable {b k:Nat} {w W w':World} {v:Nat→Value} {c:jV} {x:Int} {m o a r:Mk} {V:Value} {z D:UInt8}
theorem O1:nT 5 5:=by
 unfold nT
 intros
 rename_i ga gb V Y gx gy D z a b m k x y G
 have O:=G.om;have R:=G.ok;have Z:=G.lm;have l2:=G.lk;have hz:=G.oz;obtain⟨p1,p2,p3,p4⟩:=G.sm;obtain⟨q1,q2,q3,q4⟩:=G.sk;have W1:=fun W:World=>jr (m.told==k.told) W
 have W2:=fun W:World=>l5 m [61] k (dq (m.told==k.told)) ⟨p1,p2,p3⟩ ⟨q1,q2,q3⟩ (by decide) W
 have HR:Hid (gM 5 a b m k x y=fO m [61] k (dq (m.told==k.told))):=rfl;rw[HR.out];generalize fO m [61] k (dq (m.told==k.told))=r at*;generalize (dq (m.told==k.told))=t at*;have aa:=be hz;have U:Below D z z:=ZA _ _;have E1:∀W,Below D z W→Cq W V 0 (S m.text):=fun W h=>(dk (dm O h Z)).1
 have E2:∀W,Below D z W→Cq W V 1 (S m.bare):=fun W h=>(dk (dm O h Z)).2.1
 have E3:∀W,Below D z W→Cq W V 2 (Iq m.told):=fun W h=>(dk (dm O h Z)).2.2.1
 have E4:∀W,Below D z W→Cq W V 3 (Iq (m.deep:Nat)):=fun W h=>(dk (dm O h Z)).2.2.2
 have E5:∀W,Below D z W→Cq W Y 0 (S k.text):=fun W h=>(dk (dm R h l2)).1
 have E6:∀W,Below D z W→Cq W Y 1 (S k.bare):=fun W h=>(dk (dm R h l2)).2.1
 have E7:∀W,Below D z W→Cq W Y 2 (Iq k.told):=fun W h=>(dk (dm R h l2)).2.2.1
 have E8:∀W,Below D z W→Cq W Y 3 (Iq (k.deep:Nat)):=fun W h=>(dk (dm R h l2)).2.2.2
 have KZ:Hid (∀J:World,Below z.heap.size z J→fW J D kt):=fun J h=>dm hz h aa
 have KD:Hid (∀W:World,Below D z W→Below D z W.drew):=fun W h=>h.drew
 have KA:Hid (∀(W:World) (o:Obj),Below D z W→Below D z (W.alloc o)):=fun W o h=>h.alloc (by have:=h.size;omega) _
 have KS:Hid (∀(W:World) (a:Addr) (u:Value),D≤a.block→Below D z W→Below D z (W.setCell a u)):=fun W a u h h'=>h'.setCell h _
 have KB:Hid (∀W J:World,Below D z W→Below W.heap.size W J→Below D z J):=fun W J h h'=>h.trans (h'.mono (by have:=h.size;omega))
 unfold pB at W2
 conv=>arg 2;whnf
 go_upto_region 21 with fail
 go_region_held3 (fun W=>Below D z W) (first|assumption|(repeat' first|exact U|with_reducible assumption|with_reducible apply KD.out|with_reducible apply KA.out|(with_reducible refine KS.out _ _ _ (Zw _) ?_)|exact KB.out _ _ U (by assumption)|exact KB.out _ _ (KD.out _ U) (by assumption)))
  (first
   |(go_at_call 76;refine(W1 _).mono ?_;rintro e w' ⟨rfl,rfl⟩)
   |(go_at_call 73;refine(W2 _).mono ?_;rintro e w1 ⟨rfl,I⟩;have E:Hid _:=KZ.out w1 ⟨I.os,I.tape,I.output,I.size,I.block⟩;obtain⟨z0,z1,z2,z3⟩:=dk E.out;obtain⟨f0,f1,f2,f3⟩:=jW E.out))
 all_goals
  rename_i hHeld
  first|((iterate 113 (apply Exists.intro));exact⟨rfl,by first|exact dZ E.out|exact eJ (dZ E.out),hHeld⟩)|(refine⟨?_,by first|exact dZ E.out|exact eJ (dZ E.out),hHeld⟩;(iterate 113 (apply Exists.intro));rfl)
theorem O3:nT 6 6:=by
 unfold nT
 intros
 rename_i ga gb gm gk gx gy E D a b m k x y J
 have H1:=J.ox;have H2:=J.oy;have l1:=J.lx;have l2:=J.ly;have hz:=J.oz;obtain⟨p1,p2,p3,p4⟩:=J.sx;obtain⟨q1,q2,q3,q4⟩:=J.sy;have tx:=J.tx;clear J;have W1:=fun W:World=>jr (x.told==1&&y.told==1) W
 have W2:=fun W:World=>l5 x [97,110,100] y (dq (x.told==1&&y.told==1)) ⟨p1,p2,p3⟩ ⟨q1,q2,q3⟩ (by decide) W
 have HR:Hid (gM 6 a b m k x y=fO x [97,110,100] y (dq (x.told==1&&y.told==1))):=rfl;rw[HR.out];clear HR;generalize fO x [97,110,100] y (dq (x.told==1&&y.told==1))=r at*;generalize (dq (x.told==1&&y.told==1))=t at*;have ac:=be hz;have aa:Below E D D:=ZA _ _;have R:∀W,Below E D W→Cq W gx 0 (S x.text):=fun W h=>(dk (dm H1 h l1)).1
 have U:∀W,Below E D W→Cq W gx 1 (S x.bare):=fun W h=>(dk (dm H1 h l1)).2.1
 have O:∀W,Below E D W→Cq W gx 2 (Iq x.told):=fun W h=>(dk (dm H1 h l1)).2.2.1
 have V:∀W,Below E D W→Cq W gx 3 (Iq (x.deep:Nat)):=fun W h=>(dk (dm H1 h l1)).2.2.2
 have Y:∀W,Below E D W→Cq W gy 0 (S y.text):=fun W h=>(dk (dm H2 h l2)).1
 have Z:∀W,Below E D W→Cq W gy 1 (S y.bare):=fun W h=>(dk (dm H2 h l2)).2.1
 have E7:∀W,Below E D W→Cq W gy 2 (Iq y.told):=fun W h=>(dk (dm H2 h l2)).2.2.1
 have E8:∀W,Below E D W→Cq W gy 3 (Iq (y.deep:Nat)):=fun W h=>(dk (dm H2 h l2)).2.2.2
 have KZ:Hid (∀W':World,Below D.heap.size D W'→fW W' E kt):=fun W' h=>dm hz h ac
 have KD:Hid (∀W:World,Below E D W→Below E D W.drew):=fun W h=>h.drew
 have KA:Hid (∀(W:World) (o:Obj),Below E D W→Below E D (W.alloc o)):=fun W o h=>h.alloc (by have:=h.size;omega) _
 have KS:Hid (∀(W:World) (a:Addr) (u:Value),E≤a.block→Below E D W→Below E D (W.setCell a u)):=fun W a u h h'=>h'.setCell h _
 have KB:Hid (∀W W':World,Below E D W→Below W.heap.size W W'→Below E D W'):=fun W W' h h'=>h.trans (h'.mono (by have:=h.size;omega))
 unfold pB at W2;clear H1 H2 hz p1 p2 p3 p4 q1 q2 q3 q4;rcases tx with tx|tx
 ·have ab:(x.told==1)=false:=by rw[tx];rfl
  rw[ab] at W1;simp only[acg] at W1;clear tx
  conv=>arg 2;whnf
  go_upto_region 23 with fail
  refine wp_region_held_drew (S:=fun W=>Below E D W) (by kernel_rfl) aa.drew (fun hHeld=>?_)
  refine wpAnyH_take (i:=0) (v:= .agg #[S x.text,S x.bare,Iq x.told,Iq (x.deep:Nat)]) rfl (by kernel_rfl) (by kernel_rfl) (by kernel_rfl) (fun _ _ _ h=>h) (Or.inl ⟨by rfl,fun w z=>?_⟩) hHeld ?_
  ·dsimp only at z;have s1:=R w z;have s2:=U w z;have s3:=O w z;have s4:=V w z;clear R U O V Y Z E7 E8;go_simp
  simp only[ZJ,ZF,ZG,Act.put,ZD,ZM,ZN];refine wpAnyH_take (i:=1) (v:= .agg #[S y.text,S y.bare,Iq y.told,Iq (y.deep:Nat)]) rfl (by kernel_rfl) (by kernel_rfl) (by kernel_rfl) (fun _ _ _ h=>h) (Or.inl ⟨by rfl,fun w z=>?_⟩) hHeld ?_
  ·dsimp only at z;have s5:=Y w z;have s6:=Z w z;have s7:=E7 w z;have s8:=E8 w z;clear R U O V Y Z E7 E8;go_simp
  simp only[ZJ,ZF,ZG,Act.put,ZD,ZM,ZN];refine wpAnyH_take (i:=2) (v:= .pointer (some ⟨gx,2,none⟩)) rfl (by kernel_rfl) (by kernel_rfl) (by kernel_rfl) (fun _ _ _ h=>h) (Or.inl ⟨by rfl,fun w z=>?_⟩) hHeld ?_
  ·dsimp only at z;clear R U O V Y Z E7 E8;go_simp
  simp only[ZJ,ZF,ZG,Act.put,ZD,ZM,ZN];refine wpAnyH_take (i:=3) (v:= Iq x.told) rfl (by kernel_rfl) (by kernel_rfl) (by kernel_rfl) (fun _ _ _ h=>h) (Or.inl ⟨by rfl,fun w z=>?_⟩) hHeld ?_
  ·dsimp only at z;have s3:=O w z;clear R U O V Y Z E7 E8;go_simp
  simp only[ZJ,ZF,ZG,Act.put,ZD,ZM,ZN];refine wpAnyH_take (i:=4) (v:= .bool false) rfl (by kernel_rfl) (by kernel_rfl) (by kernel_rfl) (fun _ _ _ h=>h) (Or.inl ⟨by rfl,fun w z=>?_⟩) hHeld ?_
  ·dsimp only at z;clear R U O V Y Z E7 E8;go_simp
  simp only[ZJ,ZF,ZG,Act.put,ZD,ZM,ZN];refine wpAnyH_take (i:=5) (v:= .bool false) rfl (by kernel_rfl) (by kernel_rfl) (by kernel_rfl) (fun _ _ _ h=>h) (Or.inl ⟨by rfl,fun w z=>?_⟩) hHeld ?_
  ·dsimp only at z;clear R U O V Y Z E7 E8;go_simp
  simp only[ZJ,ZF,ZG,Act.put,ZD,ZM,ZN];refine wpAnyH_take (i:=6) (v:=undef) rfl (by kernel_rfl) (by kernel_rfl) (by kernel_rfl) (fun _ _ _ h=>h) (Or.inr ⟨by rfl,rfl⟩) hHeld ?_
  simp only[ZJ,ZF,ZG,Act.put,ZD,ZM,ZN];refine wpAnyH_take (i:=7) (v:=undef) rfl (by kernel_rfl) (by kernel_rfl) (by kernel_rfl) (fun _ _ _ h=>h) (Or.inr ⟨by rfl,rfl⟩) hHeld ?_
  simp only[ZJ,ZF,ZG,Act.put,ZD,ZM,ZN];refine wpAnyH_take (i:=8) (v:=undef) rfl (by kernel_rfl) (by kernel_rfl) (by kernel_rfl) (fun _ _ _ h=>h) (Or.inr ⟨by rfl,rfl⟩) hHeld ?_
  simp only[ZJ,ZF,ZG,Act.put,ZD,ZM,ZN];refine wpAnyH_take (i:=9) (v:= .bool false) rfl (by kernel_rfl) (by kernel_rfl) (by kernel_rfl) (fun _ _ _ h=>h) (Or.inl ⟨by rfl,fun w z=>?_⟩) hHeld ?_
  ·dsimp only at z;clear R U O V Y Z E7 E8;go_simp
  simp only[ZJ,ZF,ZG,Act.put,ZD,ZM,ZN];refine wpAnyH_ready (rs:=[10]) (by kernel_rfl) (by simp) ?_
  refine AllReadyH.cons rfl (fun K hK=>?_) AllReadyH.nil
  go_simp
  apply(W1 _).mono;rintro e w2 ⟨rfl,rfl⟩
  dsimp only
  refine hK.out _ _ hHeld (fun hHeld=>?_)
  clear hK
  try simp only[ZJ,ZF,ZG,Act.put,ZD,ZM,ZN]
  refine wpAnyH_ready (rs:=[11]) (by kernel_rfl) (by simp) ?_
  refine AllReadyH.cons rfl (fun K hK=>?_) AllReadyH.nil
  go_simp
  apply(W2 _).mono;rintro e w1 ⟨rfl,G⟩
  dsimp only
  have I:=Hi (KZ.out w1 ⟨G.os,G.tape,G.output,G.size,G.block⟩);obtain⟨z0,z1,z2,z3⟩:=dk I.out;obtain⟨f0,f1,f2,f3⟩:=jW I.out;refine hK.out _ _ (KB.out _ _ hHeld G) (fun hHeld=>?_)
  clear hK G
  try simp only[ZJ,ZF,ZG,Act.put,ZD,ZM,ZN]
  refine wpAnyH_ready (rs:=[12]) (by kernel_rfl) (by simp) ?_
  refine AllReadyH.cons rfl (fun K hK=>?_) AllReadyH.nil
  go_simp
  refine hK.out _ _ (iW hHeld) (fun hHeld=>?_)
  clear hK;refine wpAnyH_done (by kernel_rfl) ?_ _
  go_wp2
  first|((iterate 113 (apply Exists.intro));exact⟨rfl,by first|exact dZ I.out|exact eJ (dZ I.out),hHeld⟩)|(refine⟨?_,by first|exact dZ I.out|exact eJ (dZ I.out),hHeld⟩;(iterate 113 (apply Exists.intro));rfl)
 ·have ab:(x.told==1)=true:=by rw[tx];rfl
  rw[ab] at W1;simp only[aaG] at W1;clear tx
  conv=>arg 2;whnf
  go_upto_region 23 with fail
  go_region_held3 (fun W=>Below E D W) (first|assumption|(repeat' first|exact aa|with_reducible assumption|with_reducible apply KD.out|with_reducible apply KA.out|(with_reducible refine KS.out _ _ _ (Zw _) ?_)|exact KB.out _ _ aa (by assumption)|exact KB.out _ _ (KD.out _ aa) (by assumption)))
   (first
    |(go_at_call 76;refine(W1 _).mono ?_;rintro e w' ⟨rfl,rfl⟩)
    |(go_at_call 73;refine(W2 _).mono ?_;rintro e w1 ⟨rfl,G⟩;have I:Hid _:=KZ.out w1 ⟨G.os,G.tape,G.output,G.size,G.block⟩;obtain⟨z0,z1,z2,z3⟩:=dk I.out;obtain⟨f0,f1,f2,f3⟩:=jW I.out))
  all_goals
   rename_i hHeld
   first|((iterate 113 (apply Exists.intro));exact⟨rfl,by first|exact dZ I.out|exact eJ (dZ I.out),hHeld⟩)|(refine⟨?_,by first|exact dZ I.out|exact eJ (dZ I.out),hHeld⟩;(iterate 113 (apply Exists.intro));rfl)
theorem O6:nT 9 9:=by
 unfold nT
 intros
 rename_i ga gb gm gk gx gy J E a b m k x y D
 have O:=D.oz;obtain⟨R,U,V,p4⟩:=D.sx;obtain⟨Y,Z,q3,q4⟩:=D.sa;obtain⟨r1,r2,r3,r4⟩:=D.sb;have W1:=fun W:World=>EL x a b ⟨R,U,V⟩ ⟨Y,Z,q3⟩ ⟨r1,r2,r3⟩ W
 have HR:Hid (gM 9 a b m k x y=Ky x a b):=rfl;rw[HR.out];generalize Ky x a b=r at*;obtain⟨x0,x1,x2,x3⟩:=dk D.ox;obtain⟨y0,y1,y2,y3⟩:=dk D.oa;obtain⟨v0,v1,v2,v3⟩:=dk D.ob;have aa:=be O;have KZ:Hid (∀G:World,Below E.heap.size E G→fW G J kt∧Below J E G):=fun G h=>⟨dm O h aa,h.mono (by omega)⟩
 unfold pB at W1
 conv=>arg 2;whnf
 go_wp2_with (go_at_call 77;go_loud (refine(W1 _).mono ?_;rintro e w1 ⟨rfl,I⟩;have z:Hid _:=KZ.out w1 I;obtain⟨z0,z1,z2,z3⟩:=dk z.out.1;obtain⟨f0,f1,f2,f3⟩:=jW z.out.1;clear I))
 first|((iterate 113 (apply Exists.intro));exact⟨rfl,by first|exact dZ z.out.1|exact eJ (dZ z.out.1),by first|exact iW z.out.2|exact(iW z.out.2).drew⟩)|(refine⟨?_,by first|exact dZ z.out.1|exact eJ (dZ z.out.1),by first|exact iW z.out.2|exact(iW z.out.2).drew⟩;(iterate 113 (apply Exists.intro));rfl)
end Go.Proofs.YtfkdailfcmnjlaaGreatDoor
