/-
  A part.
-/
import Derived.Test.YtfkdailfcmnjlaaGreatDoorMeant21j
import Derived.Shelf.Abstract
set_option linter.unusedVariables false
set_option linter.unusedSimpArgs false
set_option maxHeartbeats 40000000
set_option maxRecDepth 1000000
set_option maxHeartbeats 40000000
set_option maxRecDepth 1000000
namespace Go.Proofs.YtfkdailfcmnjlaaGreatDoor
open Go Go.RowKit Tryz
attribute [local go_sem ↓] Go.wp_at_zero Go.wp_at_succ mI
variable {b p kd:Nat}
theorem Ih {w:World} {v:Nat→Value} {l:Nat→List Mk} {c:jV} (hc:jC c) {n:Int} (hn:dG n) (h3:3≤kd) (h5:kd≤5) (hT:TI b w p v l) (hb:b≤w.heap.size) (hl:∀j,j<3→(l j).length≤1000):
 Calls prog 37 #[Pq p,.agg (je c),Iq kd,Iq n] w fun e w'=>e= .returned (.tuple #[])∧ ∃(k j:Nat) (v':Nat→Value),k<9∧j=(if k<4 then 0 else if k<7 then 1 else 2)∧TI b w' p v' (EP l j (l j++[⟨dL.getD k [],dL.getD k [],(qS c).getD k 0,1⟩]))∧Below b w w':=by
 have W1:=fun w=>lH hn (n:=9) (by decide) (by decide) w
 have p1:=kX n (n:=9) (by decide)
 generalize kW n 9=k at*;have W2:=fun w=>If hc p1 w
 have HO:(nt (Pq w.heap.size)).run prog (w.alloc (.cells (je c) 37))= .ok (.agg (je c)) (w.alloc (.cells (je c) 37)):=jt _ _ _ (Zy w _) rfl;have aj:((kd:Int)==0)=false:=by simp;omega
 have ak:((kd:Int)==1)=false:=by simp;omega
 have am:((kd:Int)==2)=false:=by simp;omega
 have an:(dL.getD k []).length≤10:=by
  have h9:k=0∨k=1∨k=2∨k=3∨k=4∨k=5∨k=6∨k=7∨k=8:=by omega
  rcases h9 with rfl|rfl|rfl|rfl|rfl|rfl|rfl|rfl|rfl<;>decide
 generalize hF:dL.getD k []=I at*;generalize hV:(qS c).getD k 0=Z at*;generalize aa:je c=cs at*;have HF:=Hi hF;have HV:=Hi hV;have ao:=Hi aa;clear hF hV
 by_cases k4:k<4
 ·have i4:(k:Int)<4:=by omega
  rw[←aa] at HO W2⊢;unfold je at*;clear aa;have ag:=hl 0 (by decide)
  go_enter func37,ntmps37
  go_upto_region 7 with(first
   |(go_at_call 36;refine(W1 _).mono ?_;rintro e w' ⟨rfl,rfl⟩)
   |(go_at_call 71;refine(W2 _).mono ?_;rintro e E ⟨rfl,V⟩))
  go_name_world z O
  have R:=((ZA _ _).alloc (Zw _) _).trans (V.mono (by simp))
  have U:Below w.heap.size w z:=by rw[←O];exact R.alloc R.size _
  have G:z.heap[E.heap.size]?=some (.cells #[S I,S I,Iq Z,Iq 1] 104 (0,0)):=by rw[←O];exact Zy E _
  have ah:b≤z.heap.size:=by have:=U.size;omega
  obtain⟨va,vc,hA⟩:=hT.ready hb U.drew (j:=0) (by decide)
  have t0:Cq z p 0 (.slice va (l 0).length vc):=hA.cell;have pa:p<z.heap.size:=Zx z _ t0
  have x0:Cq z E.heap.size 0 (S I):=Zz z _ 0 _ _ _ G;have x1:Cq z E.heap.size 1 (S I):=Zz z _ 1 _ _ _ G;have x2:Cq z E.heap.size 2 (Iq Z):=Zz z _ 2 _ _ _ G;have x3:Cq z E.heap.size 3 (Iq 1):=Zz z _ 3 _ _ _ G;have HA:=Hi hA;obtain⟨i0,hi,hz⟩:=ZP.1 iJ;simp only[ZT] at hz;obtain⟨ab,ac,ad⟩:=hz;clear hA hT U O V R G;generalize E.heap.size=xp at*
  go_region_law (first
   |(refine step_append_lies _ (by rfl) _ _ _ (by rfl) b 104 i0 _ 4 48 underlying98 hi ab ac ad (by rfl) (by decide) (.slice va (l 0).length vc) (l 0).length ((l 0).flatMap yq) (by rfl) (aac HA.out.row _) ⟨z.heap.size,0,none⟩ 1 1 [S I,S I,Iq Z,Iq 1] (by rfl) (by rfl) (World.news_of_block (Zy z.drew _)) (fun x hx=>by simp at hx;rcases hx with rfl|rfl|rfl|rfl<;>rfl) (by decide) (by unfold maxLen;omega) (by omega) (by simp;omega) (z.heap.size+1) (by simp) ?_;intro gg ae w5 J D Y af;obtain⟨y0,ai⟩:=HA.out.far _ _ D;have HN:Hid _:=HA.out.put _ ⟨I,I,Z,1⟩ _ _ _ D (by rcases Y with h|h;exact .inl h;right;rw[h,ZB];rfl) J;clear J D Y))
  all_goals
   go_wp2
   go_end0
   obtain⟨⟨v',h1⟩,h2⟩:=HN.out;exact⟨rfl,k,0,v',p1,by rw[Zu k4],by rw[HF.out,HV.out];exact h1,h2⟩
 by_cases k7:k<7
 ·have i4: ¬(k:Int)<4:=by omega
  have i7:(k:Int)<7:=by omega
  rw[←aa] at HO W2⊢;unfold je at*;clear aa;have ag:=hl 1 (by decide)
  go_enter func37,ntmps37
  go_upto_region 9 with(first
   |(go_at_call 36;refine(W1 _).mono ?_;rintro e w' ⟨rfl,rfl⟩)
   |(go_at_call 71;refine(W2 _).mono ?_;rintro e E ⟨rfl,V⟩))
  go_name_world z O
  have R:=((ZA _ _).alloc (Zw _) _).trans (V.mono (by simp))
  have U:Below w.heap.size w z:=by rw[←O];exact R.alloc R.size _
  have G:z.heap[E.heap.size]?=some (.cells #[S I,S I,Iq Z,Iq 1] 104 (0,0)):=by rw[←O];exact Zy E _
  have ah:b≤z.heap.size:=by have:=U.size;omega
  obtain⟨va,vc,hA⟩:=hT.ready hb U.drew (j:=1) (by decide)
  have t0:Cq z p 1 (.slice va (l 1).length vc):=hA.cell;have pa:p<z.heap.size:=Zx z _ t0
  have x0:Cq z E.heap.size 0 (S I):=Zz z _ 0 _ _ _ G;have x1:Cq z E.heap.size 1 (S I):=Zz z _ 1 _ _ _ G;have x2:Cq z E.heap.size 2 (Iq Z):=Zz z _ 2 _ _ _ G;have x3:Cq z E.heap.size 3 (Iq 1):=Zz z _ 3 _ _ _ G;have HA:=Hi hA;obtain⟨i0,hi,hz⟩:=ZP.1 iJ;simp only[ZT] at hz;obtain⟨ab,ac,ad⟩:=hz;clear hA hT U O V R G;generalize E.heap.size=xp at*
  go_region_law (first
   |(refine step_append_lies _ (by rfl) _ _ _ (by rfl) b 104 i0 _ 4 48 underlying98 hi ab ac ad (by rfl) (by decide) (.slice va (l 1).length vc) (l 1).length ((l 1).flatMap yq) (by rfl) (aac HA.out.row _) ⟨z.heap.size,0,none⟩ 1 1 [S I,S I,Iq Z,Iq 1] (by rfl) (by rfl) (World.news_of_block (Zy z.drew _)) (fun x hx=>by simp at hx;rcases hx with rfl|rfl|rfl|rfl<;>rfl) (by decide) (by unfold maxLen;omega) (by omega) (by simp;omega) (z.heap.size+1) (by simp) ?_;intro gg ae w5 J D Y af;obtain⟨y0,ai⟩:=HA.out.far _ _ D;have HN:Hid _:=HA.out.put _ ⟨I,I,Z,1⟩ _ _ _ D (by rcases Y with h|h;exact .inl h;right;rw[h,ZB];rfl) J;clear J D Y))
  all_goals
   go_wp2
   go_end0
   obtain⟨⟨v',h1⟩,h2⟩:=HN.out;exact⟨rfl,k,1,v',p1,by rw[Zt k4,Zu k7],by rw[HF.out,HV.out];exact h1,h2⟩
 ·have i4: ¬(k:Int)<4:=by omega
  have i7: ¬(k:Int)<7:=by omega
  rw[←aa] at HO W2⊢;unfold je at*;clear aa;have ag:=hl 2 (by decide)
  go_enter func37,ntmps37
  go_upto_region 5 with(first
   |(go_at_call 36;refine(W1 _).mono ?_;rintro e w' ⟨rfl,rfl⟩)
   |(go_at_call 71;refine(W2 _).mono ?_;rintro e E ⟨rfl,V⟩))
  go_name_world z O
  have R:=((ZA _ _).alloc (Zw _) _).trans (V.mono (by simp))
  have U:Below w.heap.size w z:=by rw[←O];exact R.alloc R.size _
  have G:z.heap[E.heap.size]?=some (.cells #[S I,S I,Iq Z,Iq 1] 104 (0,0)):=by rw[←O];exact Zy E _
  have ah:b≤z.heap.size:=by have:=U.size;omega
  obtain⟨va,vc,hA⟩:=hT.ready hb U.drew (j:=2) (by decide)
  have t0:Cq z p 2 (.slice va (l 2).length vc):=hA.cell;have pa:p<z.heap.size:=Zx z _ t0
  have x0:Cq z E.heap.size 0 (S I):=Zz z _ 0 _ _ _ G;have x1:Cq z E.heap.size 1 (S I):=Zz z _ 1 _ _ _ G;have x2:Cq z E.heap.size 2 (Iq Z):=Zz z _ 2 _ _ _ G;have x3:Cq z E.heap.size 3 (Iq 1):=Zz z _ 3 _ _ _ G;have HA:=Hi hA;obtain⟨i0,hi,hz⟩:=ZP.1 iJ;simp only[ZT] at hz;obtain⟨ab,ac,ad⟩:=hz;clear hA hT U O V R G;generalize E.heap.size=xp at*
  go_region_law (first
   |(refine step_append_lies _ (by rfl) _ _ _ (by rfl) b 104 i0 _ 4 48 underlying98 hi ab ac ad (by rfl) (by decide) (.slice va (l 2).length vc) (l 2).length ((l 2).flatMap yq) (by rfl) (aac HA.out.row _) ⟨z.heap.size,0,none⟩ 1 1 [S I,S I,Iq Z,Iq 1] (by rfl) (by rfl) (World.news_of_block (Zy z.drew _)) (fun x hx=>by simp at hx;rcases hx with rfl|rfl|rfl|rfl<;>rfl) (by decide) (by unfold maxLen;omega) (by omega) (by simp;omega) (z.heap.size+1) (by simp) ?_;intro gg ae w5 J D Y af;obtain⟨y0,ai⟩:=HA.out.far _ _ D;have HN:Hid _:=HA.out.put _ ⟨I,I,Z,1⟩ _ _ _ D (by rcases Y with h|h;exact .inl h;right;rw[h,ZB];rfl) J;clear J D Y))
  all_goals
   go_wp2
   go_end0
   obtain⟨⟨v',h1⟩,h2⟩:=HN.out;exact⟨rfl,k,2,v',p1,by rw[Zt k4,Zt k7],by rw[HF.out,HV.out];exact h1,h2⟩
end Go.Proofs.YtfkdailfcmnjlaaGreatDoor
