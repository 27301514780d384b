/-
  A part.
-/
import Derived.Test.YtfkdailfcmnjlaaGreatDoorMeant21k
import Derived.Test.YtfkdailfcmnjlaaGreatDoorMeant21l
import Derived.Test.YtfkdailfcmnjlaaGreatDoorMeant21n
import Derived.Deep.CutBlock
set_option linter.unusedVariables false
set_option linter.unusedSimpArgs false
set_option maxHeartbeats 40000000
set_option maxRecDepth 1000000
namespace Go.Proofs.YtfkdailfcmnjlaaGreatDoor
open Go Go.RowKit Tryz
attribute [local go_sem ↓] Go.wp_at_zero Go.wp_at_succ
def im:Nat→Code→Code
 |0,c=>c
 |n+1,.seq _ b=>im n b
 |_,c=>c
def JR (R:World→Prop):Exit→Act→World→Prop
 | .normal,a,w=>a.defers=[]∧R w
 | .ret,a,w=>a.defers=[]∧R w
 |_,_,_=>False
variable {a:Act} {w:World} {p kd b:Nat} {r m k y:Mk} {v:Nat→Value} {l:Nat→List Mk} {n x:Int}
theorem iG {P:Program} {c:Code} {R:Act→World→Prop} {Q:Exit→Act→World→Prop} (h:Code.wp P c (JN R) a w) (E:∀z w',R z w'→Q .normal z w'):Code.wp P c Q a w:=
 wp_mono h (fun e z w' D=>by
  cases e with
  |normal=>exact E _ _ D
  |_=>exact D.elim)
theorem ES {R:World→Prop} {Post:Ending→World→Prop} (hp:∀w,R w→Post (.returned (.tuple #[])) w) {e:Exit} (h:JR R e a w):bodyPost prog f38 Post e a w:=by
 cases e with
 |normal=>exact⟨h.1,_,results_none rfl _ _ _,hp _ h.2⟩
 |ret=>exact⟨h.1,_,results_none rfl _ _ _,hp _ h.2⟩
 |_=>exact h.elim
theorem KI (z:dG n):dG (n.tdiv 3):=by
 unfold dG at*
 by_cases h:0≤n
 ·rw[abz h];omega
 ·have e:n.tdiv 3= -((-n) / 3):=by rw[←abz (by omega),Int.neg_tdiv,Int.neg_neg]
  rw[e];omega
def xL:Mk:=⟨[48],[48,48],0,1⟩
def xM:Mk:=⟨[110,111,110,101],[110,111,110,101],0,1⟩
def ET:Mk:=⟨jL,jL,1,1⟩
theorem KJ (h:ya 116 x):x=0∨x=1:=h.2 rfl
theorem NR (kd : Nat) {a b x:Mk} (ha : oE a) (hb : oE b) (hm : oE m) (hk : oE k) (hx : oE x) (hy : oE y) : (gM kd a b m k x y).text.length ≤ 100000 ∧ (gM kd a b m k x y).bare.length ≤ 100000 ∧ (gM kd a b m k x y).deep ≤ 100000 := by
  obtain ⟨a1, a2, a3, _⟩ := ha;obtain ⟨b1, b2, b3, _⟩ := hb;obtain ⟨m1, m2, m3, _⟩ := hm;obtain ⟨k1, k2, k3, _⟩ := hk;obtain ⟨x1, x2, x3, _⟩ := hx;obtain ⟨y1, y2, y3, _⟩ := hy;have h2 :∀ (p q : Mk) (s : List UInt8) (t : Int), p.text.length ≤ 1000 → p.bare.length ≤ 1000 → p.deep ≤ 100 → q.text.length ≤ 1000 → q.bare.length ≤ 1000 → q.deep ≤ 100 → s.length ≤ 10 → (fO p s q t).text.length ≤ 100000 ∧ (fO p s q t).bare.length ≤ 100000 ∧ (fO p s q t).deep ≤ 100000 := fun p q s t _ _ _ _ _ _ _ => by
    unfold fO;refine ⟨?_, ?_, ?_⟩
    · simp; omega
    · simp; omega
    · simp only []; omega
  unfold gM
  repeat' split
  all_goals first
    | exact h2 _ _ _ _ (by assumption) (by assumption) (by assumption) (by assumption) (by assumption) (by assumption) (by decide)
    | (refine ⟨?_, ?_, ?_⟩
       · simp [nZ, Ky, sH, kD, kF]; omega
       · simp [nZ, Ky, sH, kD, kF]; omega
       · simp only [Ky]; omega)
end Go.Proofs.YtfkdailfcmnjlaaGreatDoor
namespace Go.Proofs.YtfkdailfcmnjlaaGreatDoor
open Go Go.RowKit Tryz
attribute [local go_sem ↓] Go.wp_at_zero Go.wp_at_succ mI
def xN (v:Value) (zs:List Int) (w:World):Prop:=zs.length≤maxLen∧ ∃(a:Option Addr) (cap:Nat),v= .slice a zs.length cap∧ ∀i,i<zs.length→ ∃b o,a=some ⟨b,o,none⟩∧w.cell? ⟨b,o+i,none⟩=some (Iq (zs.getD i 0))
def xO (c:jV) (b p:Nat) (G wr:World) (k:Nat):Prop:= ∃v l,TI b wr p v l∧rN (qS c) l∧(∀j,j<3→(l j).length≤k)∧Below b G wr
end Go.Proofs.YtfkdailfcmnjlaaGreatDoor
namespace Go.Proofs.YtfkdailfcmnjlaaGreatDoor
open Go Go.RowKit Tryz
attribute [local go_sem ↓] Go.wp_at_zero Go.wp_at_succ
def ju (k:Nat):Code→Option Code
 | .loop c=>ju k c
 | .seq a b=>match ju k a with
  |some c=>some c
  |none=>ju k b
 | .block n c=>if n=k then some c else ju k c
 | .scope c=>ju k c
 | .cond _ a b=>match ju k a with
  |some c=>some c
  |none=>ju k b
 |_=>none
def ml:Code→Code
 | .seq a _=>a
 |c=>c
variable {z w G:World} {g j p i n r E:Nat} {m:Mk} {al:Bool} {fl:List Int} {q:List (Mk×Bool)}
theorem iX {u:Value} (h:Below g z w):Below g z (w.setCell ⟨g,j,none⟩ u):=h.setCell (p:=⟨g,j,none⟩) (Zw _) _
def mA (w:World) (g:Nat) (t b:List UInt8) (al:Bool) (r:Nat):Prop:=w.heap[g]?=some (.cells #[S t,S b,.bool al,Iq (r:Nat),Iq 0] 42 (0,0))
theorem NT:((f16.body.bind (ju 3)).getD .skip)= .seq (ml ((f16.body.bind (ju 3)).getD .skip)) (.seq (ml (im 1 ((f16.body.bind (ju 3)).getD .skip))) (.seq (ml (im 2 ((f16.body.bind (ju 3)).getD .skip))) (.seq (ml (im 3 ((f16.body.bind (ju 3)).getD .skip))) (.seq (ml (im 4 ((f16.body.bind (ju 3)).getD .skip))) (im 5 ((f16.body.bind (ju 3)).getD .skip)))))):=by kernel_rfl
theorem Il (q:List (Mk×Bool)):∀n,(eT q n).2=0→(eT q n).1=false:=by
 induction q with
 |nil=>intro n _;rfl
 |cons x q ih=>
  intro n h;rw[eT] at h⊢
  by_cases z:x.1.told=1
  ·rw[Zu z] at h;simp at h
  ·rw[Zt z] at h⊢;exact ih _ h
theorem Mn (q:List (Mk×Bool)):∀n,(eT q n).2≤n+q.length:=by
 induction q with
 |nil=>intro n;simp[eT]
 |cons x q ih=>
  intro n;rw[eT]
  by_cases z:x.1.told=1
  ·rw[Zu z];simp
  ·rw[Zt z];have:=ih (n+1);simp;omega
theorem Im (q:List (Mk×Bool)) (m:Mk) (E:Bool):(eT (q++[(m,E)]) 0).1=(if m.told=1∧(eT q 0).2=0 then E else(eT q 0).1)∧(eT (q++[(m,E)]) 0).2=(if m.told=1∧(eT q 0).2=0 then q.length+1 else(eT q 0).2):=by
 rw[Eg]
 by_cases z:(eT q 0).2=0
 ·rw[Zu z]
  by_cases D:m.told=1
  ·rw[Zu D,Zu ⟨D,z⟩,Zu ⟨D,z⟩];simp
  ·rw[Zt D,Zt (fun h=>D h.1),Zt (fun h=>D h.1)]
   exact⟨(Il q 0 z).symm,z.symm⟩
 ·rw[Zt z,Zt (fun h=>z h.2),Zt (fun h=>z h.2)]
  exact⟨rfl,rfl⟩
theorem zo (b:Bool):(ik b).length≤9:=by cases b<;>decide
theorem NU (z:qj fl q) (E:q.length≤3):(gh q).length≤10000∧(gK q).length≤10000:=by
 cases q with
 |nil=>exact⟨ZL _,ZL _⟩
 |cons r q=>
  obtain⟨I,J⟩:=uE (fl:=fl) q (fun r G=>z r (by simp[G]))
  have D:=z r (by simp)
  have O:=D.text;have R:=D.bare;have U:=zo r.2;simp at E;constructor
  ·simp[gh,mK,ek,xY];omega
  ·simp[gK,mK,ek];omega
theorem zp (q:List (Mk×Bool)) (r:Mk×Bool) (h:q≠[]):gh (q++[r])=gh q++ik r.2++r.1.text++[59,10]∧gK (q++[r])=gK q++ik r.2++[10]++r.1.bare++[32,59]:=by
 rw[Ed h,Ee h];simp
theorem xP (r:Mk×Bool):gh ([]++[r])=gh []++[108,101,116,32,102,105,114,115,116,32,61,32]++r.1.text++[59,10]++ik r.2++[102,105,114,115,116,59,10]∧gK ([]++[r])=gK []++[108,101,116,32,102,105,114,115,116,61]++r.1.bare++[59]++ik r.2++[40,102,105,114,115,116,41,59]:=by
 simp[gh,gK,vk,qi,mK,ek,xY]
def EU (w:World) (p:Nat) (lt:List Mk):Prop:= ∀i,i<lt.length→ ∃g cap,w.cell? ⟨p,2,none⟩=some (.slice (some ⟨g,0,none⟩) lt.length cap)∧w.cell? ⟨g,i*4,none⟩=some (S (lt.getD i kt).text)∧w.cell? ⟨g,i*4+1,none⟩=some (S (lt.getD i kt).bare)∧w.cell? ⟨g,i*4+2,none⟩=some (Iq (lt.getD i kt).told)∧w.cell? ⟨g,i*4+3,none⟩=some (Iq ((lt.getD i kt).deep:Nat))
def Az (fl:List Int) (D:Nat) (J wr:World) (q:List (Mk×Bool)):Prop:=qj fl q∧mA wr D (gh q) (gK q) (eT q 0).1 (eT q 0).2∧Below D J wr
end Go.Proofs.YtfkdailfcmnjlaaGreatDoor
namespace Go.Proofs.YtfkdailfcmnjlaaGreatDoor
open Go Go.RowKit Tryz
attribute [local go_sem ↓] Go.wp_at_zero Go.wp_at_succ mI
variable {b p k U:Nat} {w W z:World} {l:List UInt8} {c:jV} {D a1 a2 I G E:Value} {t:TypeId}
theorem MR.truths {v:Nat→Value} {l:Nat→List Mk} (h:TI b w p v l):EU w p (l 2):=fun i G=>by
 have z:=h.row 2 (by decide)
 have I:0<(l 2).length:=by omega
 obtain⟨g,cap,D,_,_⟩:=World.ownsRow.form z I;have E:MR b w (.slice (some ⟨g,0,none⟩) (l 2).length cap) (l 2):=by rw[←D];exact z
 obtain⟨c0,c1,c2,c3⟩:=MR.cells E G;exact⟨g,cap,by rw[←D];exact h.cell.2.2.1,c0,c1,c2,c3⟩
theorem AA {z:Nat} (h:W.heap[z]?=some (.cells #[I,G,E] t (0,0))):(((W.setCell ⟨z,0,none⟩ D).setCell ⟨z,1,none⟩ a1).setCell ⟨z,2,none⟩ a2).heap[z]?=some (.cells #[D,a1,a2] t (0,0)):=by
 have J:(W.setCell ⟨z,0,none⟩ D).heap[z]?=some (.cells #[D,G,E] t (0,0)):=by rw[ZK W z 0 _ _ _ h];rfl
 have O:((W.setCell ⟨z,0,none⟩ D).setCell ⟨z,1,none⟩ a1).heap[z]?=some (.cells #[D,a1,E] t (0,0)):=by rw[ZK _ z 1 _ _ _ J];rfl
 rw[ZK _ z 2 _ _ _ O];rfl
theorem mJ {z:Nat} (h:W.heap[z]?=some (.cells #[D,E,G] t (0,0))):Cq W z 0 D∧Cq W z 1 E∧Cq W z 2 G∧W.frozen? ⟨z,0,none⟩=false∧W.frozen? ⟨z,1,none⟩=false∧W.frozen? ⟨z,2,none⟩=false:=
 ⟨Zz W _ 0 _ _ _ h,Zz W _ 1 _ _ _ h,Zz W _ 2 _ _ _ h,by simp[World.frozen?,h],by simp[World.frozen?,h],by simp[World.frozen?,h]⟩
end Go.Proofs.YtfkdailfcmnjlaaGreatDoor
