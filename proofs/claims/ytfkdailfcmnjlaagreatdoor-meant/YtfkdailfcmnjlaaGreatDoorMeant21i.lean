/-
  A part.
-/
import Derived.Test.YtfkdailfcmnjlaaGreatDoorMeant21d
import Derived.Shelf.Abstract
set_option linter.unusedVariables false
set_option linter.unusedSimpArgs false
set_option maxHeartbeats 40000000
set_option maxRecDepth 1000000
set_option maxHeartbeats 40000000
set_option maxRecDepth 1000000
namespace Go.Proofs.YtfkdailfcmnjlaaGreatDoor
open Go Go.RowKit Tryz
attribute [local go_sem ↓] Go.wp_at_zero Go.wp_at_succ
variable {b k:Nat} {W w':World} {x:Int} {m o a r:Mk} {V:Value} {z D:UInt8}
theorem OW:nT 0 0:=by
 unfold nT
 intros
 rename_i V Y gm gk gx gy D z a b m k x y G
 have O:=G.oa;have R:=G.ob;have Z:=G.la;have l2:=G.lb;have hz:=G.oz;obtain⟨p1,p2,p3,p4⟩:=G.sa;obtain⟨q1,q2,q3,q4⟩:=G.sb;have W1:=fun W:World=>G6 p4 q4 W
 have W2:=fun W:World=>l5 a [43] b (dM (a.told+b.told)) ⟨p1,p2,p3⟩ ⟨q1,q2,q3⟩ (by decide) W
 have HR:Hid (gM 0 a b m k x y=fO a [43] b (dM (a.told+b.told))):=rfl;rw[HR.out];generalize fO a [43] b (dM (a.told+b.told))=r at*;generalize (dM (a.told+b.told))=t at*;have aa:=be hz;have U:Below D z z:=ZA _ _;have E1:∀W,Below D z W→Cq W V 0 (S a.text):=fun W h=>(dk (dm O h Z)).1
 have E2:∀W,Below D z W→Cq W V 1 (S a.bare):=fun W h=>(dk (dm O h Z)).2.1
 have E3:∀W,Below D z W→Cq W V 2 (Iq a.told):=fun W h=>(dk (dm O h Z)).2.2.1
 have E4:∀W,Below D z W→Cq W V 3 (Iq (a.deep:Nat)):=fun W h=>(dk (dm O h Z)).2.2.2
 have E5:∀W,Below D z W→Cq W Y 0 (S b.text):=fun W h=>(dk (dm R h l2)).1
 have E6:∀W,Below D z W→Cq W Y 1 (S b.bare):=fun W h=>(dk (dm R h l2)).2.1
 have E7:∀W,Below D z W→Cq W Y 2 (Iq b.told):=fun W h=>(dk (dm R h l2)).2.2.1
 have E8:∀W,Below D z W→Cq W Y 3 (Iq (b.deep:Nat)):=fun W h=>(dk (dm R h l2)).2.2.2
 have KZ:Hid (∀J:World,Below z.heap.size z J→fW J D kt):=fun J h=>dm hz h aa
 have KD:Hid (∀W:World,Below D z W→Below D z W.drew):=fun W h=>h.drew
 have KA:Hid (∀(W:World) (o:Obj),Below D z W→Below D z (W.alloc o)):=fun W o h=>h.alloc (by have:=h.size;omega) _
 have KS:Hid (∀(W:World) (a:Addr) (u:Value),D≤a.block→Below D z W→Below D z (W.setCell a u)):=fun W a u h h'=>h'.setCell h _
 have KB:Hid (∀W J:World,Below D z W→Below W.heap.size W J→Below D z J):=fun W J h h'=>h.trans (h'.mono (by have:=h.size;omega))
 unfold pB at W2
 conv=>arg 2;whnf
 go_upto_region 11 with fail
 go_region_held3 (fun W=>Below D z W) (first|assumption|(repeat' first|exact U|with_reducible assumption|with_reducible apply KD.out|with_reducible apply KA.out|(with_reducible refine KS.out _ _ _ (Zw _) ?_)|exact KB.out _ _ U (by assumption)|exact KB.out _ _ (KD.out _ U) (by assumption)))
  (first
   |(go_at_call 74;refine(W1 _).mono ?_;rintro e w' ⟨rfl,rfl⟩)
   |(go_at_call 73;refine(W2 _).mono ?_;rintro e w1 ⟨rfl,I⟩;have E:Hid _:=KZ.out w1 ⟨I.os,I.tape,I.output,I.size,I.block⟩;obtain⟨z0,z1,z2,z3⟩:=dk E.out;obtain⟨f0,f1,f2,f3⟩:=jW E.out))
 all_goals
  rename_i hHeld
  first|((iterate 113 (apply Exists.intro));exact⟨rfl,by first|exact dZ E.out|exact eJ (dZ E.out),hHeld⟩)|(refine⟨?_,by first|exact dZ E.out|exact eJ (dZ E.out),hHeld⟩;(iterate 113 (apply Exists.intro));rfl)
theorem OY:nT 2 2:=by
 unfold nT
 intros
 rename_i V Y gm gk gx gy D z a b m k x y G
 have O:=G.oa;have R:=G.ob;have Z:=G.la;have l2:=G.lb;have hz:=G.oz;obtain⟨p1,p2,p3,p4⟩:=G.sa;obtain⟨q1,q2,q3,q4⟩:=G.sb;have W1:=fun W:World=>jr (decide (a.told<b.told)) W
 have W2:=fun W:World=>l5 a [60] b (dq (decide (a.told<b.told))) ⟨p1,p2,p3⟩ ⟨q1,q2,q3⟩ (by decide) W
 have HR:Hid (gM 2 a b m k x y=fO a [60] b (dq (decide (a.told<b.told)))):=rfl;rw[HR.out];generalize fO a [60] b (dq (decide (a.told<b.told)))=r at*;generalize (dq (decide (a.told<b.told)))=t at*;have aa:=be hz;have U:Below D z z:=ZA _ _;have E1:∀W,Below D z W→Cq W V 0 (S a.text):=fun W h=>(dk (dm O h Z)).1
 have E2:∀W,Below D z W→Cq W V 1 (S a.bare):=fun W h=>(dk (dm O h Z)).2.1
 have E3:∀W,Below D z W→Cq W V 2 (Iq a.told):=fun W h=>(dk (dm O h Z)).2.2.1
 have E4:∀W,Below D z W→Cq W V 3 (Iq (a.deep:Nat)):=fun W h=>(dk (dm O h Z)).2.2.2
 have E5:∀W,Below D z W→Cq W Y 0 (S b.text):=fun W h=>(dk (dm R h l2)).1
 have E6:∀W,Below D z W→Cq W Y 1 (S b.bare):=fun W h=>(dk (dm R h l2)).2.1
 have E7:∀W,Below D z W→Cq W Y 2 (Iq b.told):=fun W h=>(dk (dm R h l2)).2.2.1
 have E8:∀W,Below D z W→Cq W Y 3 (Iq (b.deep:Nat)):=fun W h=>(dk (dm R h l2)).2.2.2
 have KZ:Hid (∀J:World,Below z.heap.size z J→fW J D kt):=fun J h=>dm hz h aa
 have KD:Hid (∀W:World,Below D z W→Below D z W.drew):=fun W h=>h.drew
 have KA:Hid (∀(W:World) (o:Obj),Below D z W→Below D z (W.alloc o)):=fun W o h=>h.alloc (by have:=h.size;omega) _
 have KS:Hid (∀(W:World) (a:Addr) (u:Value),D≤a.block→Below D z W→Below D z (W.setCell a u)):=fun W a u h h'=>h'.setCell h _
 have KB:Hid (∀W J:World,Below D z W→Below W.heap.size W J→Below D z J):=fun W J h h'=>h.trans (h'.mono (by have:=h.size;omega))
 unfold pB at W2
 conv=>arg 2;whnf
 go_upto_region 15 with fail
 go_region_held3 (fun W=>Below D z W) (first|assumption|(repeat' first|exact U|with_reducible assumption|with_reducible apply KD.out|with_reducible apply KA.out|(with_reducible refine KS.out _ _ _ (Zw _) ?_)|exact KB.out _ _ U (by assumption)|exact KB.out _ _ (KD.out _ U) (by assumption)))
  (first
   |(go_at_call 76;refine(W1 _).mono ?_;rintro e w' ⟨rfl,rfl⟩)
   |(go_at_call 73;refine(W2 _).mono ?_;rintro e w1 ⟨rfl,I⟩;have E:Hid _:=KZ.out w1 ⟨I.os,I.tape,I.output,I.size,I.block⟩;obtain⟨z0,z1,z2,z3⟩:=dk E.out;obtain⟨f0,f1,f2,f3⟩:=jW E.out))
 all_goals
  rename_i hHeld
  first|((iterate 113 (apply Exists.intro));exact⟨rfl,by first|exact dZ E.out|exact eJ (dZ E.out),hHeld⟩)|(refine⟨?_,by first|exact dZ E.out|exact eJ (dZ E.out),hHeld⟩;(iterate 113 (apply Exists.intro));rfl)
theorem OZ:nT 3 3:=by
 unfold nT
 intros
 rename_i V Y gm gk gx gy D z a b m k x y G
 have O:=G.oa;have R:=G.ob;have Z:=G.la;have l2:=G.lb;have hz:=G.oz;obtain⟨p1,p2,p3,p4⟩:=G.sa;obtain⟨q1,q2,q3,q4⟩:=G.sb;have W1:=fun W:World=>jr (decide (a.told≤b.told)) W
 have W2:=fun W:World=>l5 a [60,61] b (dq (decide (a.told≤b.told))) ⟨p1,p2,p3⟩ ⟨q1,q2,q3⟩ (by decide) W
 have HR:Hid (gM 3 a b m k x y=fO a [60,61] b (dq (decide (a.told≤b.told)))):=rfl;rw[HR.out];generalize fO a [60,61] b (dq (decide (a.told≤b.told)))=r at*;generalize (dq (decide (a.told≤b.told)))=t at*;have aa:=be hz;have U:Below D z z:=ZA _ _;have E1:∀W,Below D z W→Cq W V 0 (S a.text):=fun W h=>(dk (dm O h Z)).1
 have E2:∀W,Below D z W→Cq W V 1 (S a.bare):=fun W h=>(dk (dm O h Z)).2.1
 have E3:∀W,Below D z W→Cq W V 2 (Iq a.told):=fun W h=>(dk (dm O h Z)).2.2.1
 have E4:∀W,Below D z W→Cq W V 3 (Iq (a.deep:Nat)):=fun W h=>(dk (dm O h Z)).2.2.2
 have E5:∀W,Below D z W→Cq W Y 0 (S b.text):=fun W h=>(dk (dm R h l2)).1
 have E6:∀W,Below D z W→Cq W Y 1 (S b.bare):=fun W h=>(dk (dm R h l2)).2.1
 have E7:∀W,Below D z W→Cq W Y 2 (Iq b.told):=fun W h=>(dk (dm R h l2)).2.2.1
 have E8:∀W,Below D z W→Cq W Y 3 (Iq (b.deep:Nat)):=fun W h=>(dk (dm R h l2)).2.2.2
 have KZ:Hid (∀J:World,Below z.heap.size z J→fW J D kt):=fun J h=>dm hz h aa
 have KD:Hid (∀W:World,Below D z W→Below D z W.drew):=fun W h=>h.drew
 have KA:Hid (∀(W:World) (o:Obj),Below D z W→Below D z (W.alloc o)):=fun W o h=>h.alloc (by have:=h.size;omega) _
 have KS:Hid (∀(W:World) (a:Addr) (u:Value),D≤a.block→Below D z W→Below D z (W.setCell a u)):=fun W a u h h'=>h'.setCell h _
 have KB:Hid (∀W J:World,Below D z W→Below W.heap.size W J→Below D z J):=fun W J h h'=>h.trans (h'.mono (by have:=h.size;omega))
 unfold pB at W2
 conv=>arg 2;whnf
 go_upto_region 17 with fail
 go_region_held3 (fun W=>Below D z W) (first|assumption|(repeat' first|exact U|with_reducible assumption|with_reducible apply KD.out|with_reducible apply KA.out|(with_reducible refine KS.out _ _ _ (Zw _) ?_)|exact KB.out _ _ U (by assumption)|exact KB.out _ _ (KD.out _ U) (by assumption)))
  (first
   |(go_at_call 76;refine(W1 _).mono ?_;rintro e w' ⟨rfl,rfl⟩)
   |(go_at_call 73;refine(W2 _).mono ?_;rintro e w1 ⟨rfl,I⟩;have E:Hid _:=KZ.out w1 ⟨I.os,I.tape,I.output,I.size,I.block⟩;obtain⟨z0,z1,z2,z3⟩:=dk E.out;obtain⟨f0,f1,f2,f3⟩:=jW E.out))
 all_goals
  rename_i hHeld
  first|((iterate 113 (apply Exists.intro));exact⟨rfl,by first|exact dZ E.out|exact eJ (dZ E.out),hHeld⟩)|(refine⟨?_,by first|exact dZ E.out|exact eJ (dZ E.out),hHeld⟩;(iterate 113 (apply Exists.intro));rfl)
theorem O0:nT 4 4:=by
 unfold nT
 intros
 rename_i V Y gm gk gx gy D z a b m k x y G
 have O:=G.oa;have R:=G.ob;have Z:=G.la;have l2:=G.lb;have hz:=G.oz;obtain⟨p1,p2,p3,p4⟩:=G.sa;obtain⟨q1,q2,q3,q4⟩:=G.sb;have W1:=fun W:World=>jr (a.told==b.told) W
 have W2:=fun W:World=>l5 a [61] b (dq (a.told==b.told)) ⟨p1,p2,p3⟩ ⟨q1,q2,q3⟩ (by decide) W
 have HR:Hid (gM 4 a b m k x y=fO a [61] b (dq (a.told==b.told))):=rfl;rw[HR.out];generalize fO a [61] b (dq (a.told==b.told))=r at*;generalize (dq (a.told==b.told))=t at*;have aa:=be hz;have U:Below D z z:=ZA _ _;have E1:∀W,Below D z W→Cq W V 0 (S a.text):=fun W h=>(dk (dm O h Z)).1
 have E2:∀W,Below D z W→Cq W V 1 (S a.bare):=fun W h=>(dk (dm O h Z)).2.1
 have E3:∀W,Below D z W→Cq W V 2 (Iq a.told):=fun W h=>(dk (dm O h Z)).2.2.1
 have E4:∀W,Below D z W→Cq W V 3 (Iq (a.deep:Nat)):=fun W h=>(dk (dm O h Z)).2.2.2
 have E5:∀W,Below D z W→Cq W Y 0 (S b.text):=fun W h=>(dk (dm R h l2)).1
 have E6:∀W,Below D z W→Cq W Y 1 (S b.bare):=fun W h=>(dk (dm R h l2)).2.1
 have E7:∀W,Below D z W→Cq W Y 2 (Iq b.told):=fun W h=>(dk (dm R h l2)).2.2.1
 have E8:∀W,Below D z W→Cq W Y 3 (Iq (b.deep:Nat)):=fun W h=>(dk (dm R h l2)).2.2.2
 have KZ:Hid (∀J:World,Below z.heap.size z J→fW J D kt):=fun J h=>dm hz h aa
 have KD:Hid (∀W:World,Below D z W→Below D z W.drew):=fun W h=>h.drew
 have KA:Hid (∀(W:World) (o:Obj),Below D z W→Below D z (W.alloc o)):=fun W o h=>h.alloc (by have:=h.size;omega) _
 have KS:Hid (∀(W:World) (a:Addr) (u:Value),D≤a.block→Below D z W→Below D z (W.setCell a u)):=fun W a u h h'=>h'.setCell h _
 have KB:Hid (∀W J:World,Below D z W→Below W.heap.size W J→Below D z J):=fun W J h h'=>h.trans (h'.mono (by have:=h.size;omega))
 unfold pB at W2
 conv=>arg 2;whnf
 go_upto_region 19 with fail
 go_region_held3 (fun W=>Below D z W) (first|assumption|(repeat' first|exact U|with_reducible assumption|with_reducible apply KD.out|with_reducible apply KA.out|(with_reducible refine KS.out _ _ _ (Zw _) ?_)|exact KB.out _ _ U (by assumption)|exact KB.out _ _ (KD.out _ U) (by assumption)))
  (first
   |(go_at_call 76;refine(W1 _).mono ?_;rintro e w' ⟨rfl,rfl⟩)
   |(go_at_call 73;refine(W2 _).mono ?_;rintro e w1 ⟨rfl,I⟩;have E:Hid _:=KZ.out w1 ⟨I.os,I.tape,I.output,I.size,I.block⟩;obtain⟨z0,z1,z2,z3⟩:=dk E.out;obtain⟨f0,f1,f2,f3⟩:=jW E.out))
 all_goals
  rename_i hHeld
  first|((iterate 113 (apply Exists.intro));exact⟨rfl,by first|exact dZ E.out|exact eJ (dZ E.out),hHeld⟩)|(refine⟨?_,by first|exact dZ E.out|exact eJ (dZ E.out),hHeld⟩;(iterate 113 (apply Exists.intro));rfl)
end Go.Proofs.YtfkdailfcmnjlaaGreatDoor
