/-
  A part.
-/
import Derived.Test.YtfkdailfcmnjlaaGreatDoorMeant12
import Derived.Lib.LaidTab
import Derived.Lib.AppendIntMem
set_option linter.unusedVariables false
set_option linter.unusedSimpArgs false
set_option maxHeartbeats 40000000
set_option maxRecDepth 1000000
set_option maxHeartbeats 40000000
set_option maxRecDepth 1000000
namespace Go.Proofs.YtfkdailfcmnjlaaGreatDoor
open Go Go.RowKit Tryz
attribute [local go_sem ↓] Go.wp_at_zero Go.wp_at_succ
variable {bs : Nat}
def Tb (w:World):Prop:=Lib.TabIs prog w "internal/strconv.uint64pow10" .u64 Lib.pow10Tab
theorem OT:prog.globalNamed "internal/strconv.uint64pow10"=some 2:=by kernel_rfl
theorem Tb.below {w w':World} (h:Tb w) (E:Below w.heap.size w w'):Tb w':=by
 unfold Tb Lib.TabIs World.var? at*;rw[OT] at*;simp only[Option.bind_some] at*;have D:2<w.heap.size:=by
  rcases aaL 2 w.heap.size with z|z
  ·exact z
  ·rw[aa9 z] at h;simp at h
 rw[E.block _ D];exact h
end Go.Proofs.YtfkdailfcmnjlaaGreatDoor
set_option maxHeartbeats 40000000
set_option maxRecDepth 1000000
namespace Go.Proofs.YtfkdailfcmnjlaaGreatDoor
open Go Go.RowKit Tryz
attribute [local go_sem ↓] Go.wp_at_zero Go.wp_at_succ
variable {bs : Nat}
structure qN (L:List Pt):Prop where
 tokw:∀k,k<L.length→iK (L.getD k dh).tok
 short:∀k,k<L.length→(L.getD k dh).tok.text.length≤1000
 num:∀k,k<L.length→(L.getD k dh).tok.k=110→eP (L.getD k dh).tok.text≤9223372036854775807
 few:L.length≤5000
end Go.Proofs.YtfkdailfcmnjlaaGreatDoor
set_option maxHeartbeats 40000000
set_option maxRecDepth 1000000
namespace Go.Proofs.YtfkdailfcmnjlaaGreatDoor
open Go Go.RowKit Tryz
variable {bs : Nat}
theorem LG {l:List Nat} {j:Nat} (h:j<l.length):l.getD j 0∈l:=by rw[Zs,Zv h];exact ZV h
end Go.Proofs.YtfkdailfcmnjlaaGreatDoor
namespace Go.Proofs.YtfkdailfcmnjlaaGreatDoor
open Go Go.RowKit Tryz
def ee:List dY→List Int→List Int
 |x::r,t::ts=>if x.name=[] then ee r ts else t::ee r ts
 |_,_=>[]
variable {t:Tok}
theorem tA (xs : List dY) (x : dY) (t : Int) :∀ (vals : List Int), vals.length = xs.length → ee (xs ++ [x]) (vals ++ [t]) = if x.name = [] then ee xs vals else ee xs vals ++ [t] := by
  induction xs with
  | nil => intro vals h; obtain rfl : vals = [] := by simpa using h
           simp [ee]
  | cons y r ih =>
    intro vals h
    cases vals with
    | nil => simp at h
    | cons u vals =>
      have := ih vals (by simpa using h)
      simp only [aaZ, ee, this]
      split <;> split <;> simp
theorem qg (xs:List dY):∀(vals:List Int),vals.length=xs.length→(ee xs vals).length=(gA xs).length:=by
 induction xs with
 |nil=>intro vals h;simp[ee,gA]
 |cons y r ih=>
  intro vals h
  cases vals with
  |nil=>simp at h
  |cons u vals=>
   have:=ih vals (by simpa using h)
   rw[ee,gA];split<;>simp[this]
theorem D3 (s:List UInt8) (I:s≠[]) (xs:List dY):∀(vals:List Int),vals.length≤xs.length→0≤dN xs s vals.length→(ee (xs.take vals.length) vals).getD (dP (gA (xs.take vals.length)) s).toNat 0=vals.getD (dN xs s vals.length).toNat 0:=by
 induction xs with
 |nil=>intro vals h z;simp[dN] at z
 |cons x r ih=>
  intro vals h z
  cases vals with
  |nil=>simp[dN] at z
  |cons u vals=>
   rw[Z7] at*;rw[dN] at z⊢;rw[aaR,ee,gA]
   by_cases G:x.name=[]
   ·have D: ¬(x.name==s)=true:=by rw[G];simpa using I
    rw[Zt D] at z⊢;rw[Zu G,Zu G]
    by_cases E:dN r s vals.length<0
    ·rw[Zu E] at z;omega
    ·rw[Zt E]
     rw[ih vals (by simpa using h) (by omega),show(dN r s vals.length+1).toNat=(dN r s vals.length).toNat+1 from by omega,ZX]
   ·rw[Zt G,Zt G,dP]
    by_cases D:(x.name==s)=true
    ·rw[Zu D,Zu D];rfl
    ·rw[Zt D] at z⊢
     rw[Zt D]
     by_cases E:dN r s vals.length<0
     ·rw[Zu E] at z;omega
     ·have J: ¬dP (gA (r.take vals.length)) s<0:=fun h=>E ((ub s I r _).1 h)
      rw[Zt E,Zt J,show(dN r s vals.length+1).toNat=(dN r s vals.length).toNat+1 from by omega,show(dP (gA (r.take vals.length)) s+1).toNat=(dP (gA (r.take vals.length)) s).toNat+1 from by omega,ZX,ZX]
      exact ih vals (by simpa using h) (by omega)
theorem D4:∀x∈dI.drop 20,(27≤kn x→dP dL x=((kn x - 27:Nat):Int))∧(kn x<27→dP dL x<0)∧(22≤kn x→kn x≤26→dP dX x=((kn x - 22:Nat):Int))∧(kn x<22→dP dX x<0)∧((x==jL)=decide (kn x=20))∧20≤kn x∧kn x≤35:=by decide
def MH (fl:List Int) (k:Nat):Int:=if 27≤k then fl.getD (k - 27) 0 else if 22≤k then((k - 22:Nat):Int) else dq (decide (k=20))
theorem xl (h:iK t) (G:gR t=true) (I:t.k≠110) (E:t.k≠111):t.text∈dI.drop 20∧da t=kn t.text∧20≤da t∧da t≤35:=by
 rw[ui h] at G;have J:20≤da t∧da t≤35:=by
  unfold oN at G;simp only[ab0,abb,acj] at G;rcases G with(D|D)|D
  ·exfalso
   rcases h.cases with z|z|z|⟨z,O⟩
   ·exact I z
   ·exact E z
   ·unfold da at D;rw[Zt I,Zt E,Zu z] at D;simp at D
   ·rw[fK z] at D;have:=oe _ O;unfold kn at D;omega
  ·exact absurd (jQ.1 D) E
  ·exact D
 rcases h.cases with z|z|z|⟨z,O⟩
 ·exact absurd z I
 ·exact absurd z E
 ·exfalso;unfold da at J;rw[Zt I,Zt E,Zu z] at J;omega
 ·have U:=fK z
  refine⟨?_,U,J⟩;have R:∀x∈dI.drop 3,20≤kn x→x∈dI.drop 20:=by decide
  exact R _ O (by omega)
theorem GU {xs:List dY} {vals fl:List Int} (h:iK t) (I:gR t=true) (E:t.k≠110) (G:t.k≠111):mr xs vals fl t=MH fl (da t):=by
 obtain⟨J,O,_⟩:=xl h I E G;obtain⟨a1,a2,a3,a4,a5,a6,a7⟩:=D4 _ J;unfold mr MH;rw[Zt E,Zt G,O]
 by_cases z:27≤kn t.text
 ·have e:=a1 z
  rw[Zu (by omega),Zu z,e,abx]
 ·have e:=a2 (by omega)
  rw[Zt (by omega),Zt z]
  by_cases D:22≤kn t.text
  ·have e:=a3 D (by omega)
   rw[Zu (by omega),Zu D,e]
  ·have e:=a4 (by omega)
   rw[Zt (by omega),Zt D,a5]
end Go.Proofs.YtfkdailfcmnjlaaGreatDoor
set_option maxHeartbeats 40000000
set_option maxRecDepth 1000000
namespace Go.Proofs.YtfkdailfcmnjlaaGreatDoor
open Go Go.RowKit Tryz
attribute [local go_sem ↓] Go.wp_at_zero Go.wp_at_succ
variable {bs : Nat}
structure rK (w:World) (tb:Nat) (fl:List Int) (v:Value):Prop where
 fields:∀i,i<9→w.cell? ⟨tb,i,none⟩=some (Iq (fl.getD i 0))
 lets:w.cell? ⟨tb,9,none⟩=some v
variable {w w':World} {z:Nat} {fl l:List Int} {v:Value}
theorem rK.lt (h:rK w z fl v):z<w.heap.size:=Zx w _ h.lets
theorem rK.below (h:rK w z fl v) (D:Below w.heap.size w w'):rK w' z fl v:=
 ⟨fun i E=>by rw[D.cell (p:=⟨z,i,none⟩) h.lt];exact h.fields i E,by rw[D.cell (p:=⟨z,9,none⟩) h.lt];exact h.lets⟩
def xm (w:World) (a:Option Addr) (l:List Int):Prop:= ∀j,j<l.length→ ∃g,a=some ⟨g,0,none⟩∧w.cell? ⟨g,j,none⟩=some (Iq (l.getD j 0))
theorem xm.below {a:Option Addr} (h:xm w a l) (z:Below w.heap.size w w'):xm w' a l:=fun j D=>by
 obtain⟨g,e,c⟩:=h j D;exact⟨g,e,by rw[z.cell (p:=⟨g,j,none⟩) (Zx w _ c)];exact c⟩
theorem sj (k:Nat) (w:World) (I:k≤100):Calls prog 171 #[Iq k] w fun e w'=>e= .returned (.tuple #[Iq (if 27≤k∧k≤35 then k - 27 else 0:Nat),.bool (decide (27≤k∧k≤35))])∧w'=w:=by
 have D:∀W,Calls prog 226 #[Iq k,Iq 27,Iq 35] W fun e w'=>e= .returned (.tuple #[Iq (if 27≤k∧k≤35 then k - 27 else 0:Nat),.bool (decide (27≤k∧k≤35))])∧w'=W:=fun W=>by
  by_cases h:27≤k∧k≤35
  ·have E:=h.1
   have z:Hid ((if 27≤k∧k≤35 then k - 27 else 0:Nat)=k - 27∧decide (27≤k∧k≤35)=true):=⟨by rw[Zu h],aad h⟩
   generalize (if 27≤k∧k≤35 then k - 27 else 0:Nat)=r at*
   generalize decide (27≤k∧k≤35)=q at*;go_enter func226,ntmps226
   go_wp2
   refine ZH (v:= .tuple #[Iq ((k:Int) - 27),.bool true]) (by simp[results,results226,go_sem]) rfl ⟨?_,rfl⟩
   rw[z.out.1,z.out.2,show((k - 27:Nat):Int)=(k:Int) - 27 by omega]
  ·have z:Hid ((if 27≤k∧k≤35 then k - 27 else 0:Nat)=0∧decide (27≤k∧k≤35)=false):=⟨by rw[Zt h],Z4 h⟩
   generalize (if 27≤k∧k≤35 then k - 27 else 0:Nat)=r at*
   generalize decide (27≤k∧k≤35)=q at*
   by_cases E:k<27
   ·clear h
    go_enter func226,ntmps226
    go_wp2
    refine ZH (v:= .tuple #[Iq 0,.bool false]) (by simp[results,results226,go_sem]) rfl ⟨?_,rfl⟩
    rw[z.out.1,z.out.2];rfl
   ·have G:35<k:=by omega
    go_enter func226,ntmps226
    go_wp2
    refine ZH (v:= .tuple #[Iq 0,.bool false]) (by simp[results,results226,go_sem]) rfl ⟨?_,rfl⟩
    rw[z.out.1,z.out.2];rfl
 generalize (if 27≤k∧k≤35 then k - 27 else 0:Nat)=r at*
 generalize decide (27≤k∧k≤35)=q at*;go_enter func171,ntmps171;go_wp2_with fail;apply(D _).mono;rintro e J ⟨rfl,rfl⟩;go_wp2;refine ZH (v:= .tuple #[Iq r,.bool q]) (by simp[results,results171,go_sem]) rfl ⟨rfl,rfl⟩
theorem yV (k:Nat) (w:World) (I:k≤100):Calls prog 172 #[Iq k] w fun e w'=>e= .returned (.tuple #[Iq (if 22≤k∧k≤26 then k - 22 else 0:Nat),.bool (decide (22≤k∧k≤26))])∧w'=w:=by
 have D:∀W,Calls prog 226 #[Iq k,Iq 22,Iq 26] W fun e w'=>e= .returned (.tuple #[Iq (if 22≤k∧k≤26 then k - 22 else 0:Nat),.bool (decide (22≤k∧k≤26))])∧w'=W:=fun W=>by
  by_cases h:22≤k∧k≤26
  ·have E:=h.1
   have z:Hid ((if 22≤k∧k≤26 then k - 22 else 0:Nat)=k - 22∧decide (22≤k∧k≤26)=true):=⟨by rw[Zu h],aad h⟩
   generalize (if 22≤k∧k≤26 then k - 22 else 0:Nat)=r at*
   generalize decide (22≤k∧k≤26)=q at*;go_enter func226,ntmps226
   go_wp2
   refine ZH (v:= .tuple #[Iq ((k:Int) - 22),.bool true]) (by simp[results,results226,go_sem]) rfl ⟨?_,rfl⟩
   rw[z.out.1,z.out.2,show((k - 22:Nat):Int)=(k:Int) - 22 by omega]
  ·have z:Hid ((if 22≤k∧k≤26 then k - 22 else 0:Nat)=0∧decide (22≤k∧k≤26)=false):=⟨by rw[Zt h],Z4 h⟩
   generalize (if 22≤k∧k≤26 then k - 22 else 0:Nat)=r at*
   generalize decide (22≤k∧k≤26)=q at*
   by_cases E:k<22
   ·clear h
    go_enter func226,ntmps226
    go_wp2
    refine ZH (v:= .tuple #[Iq 0,.bool false]) (by simp[results,results226,go_sem]) rfl ⟨?_,rfl⟩
    rw[z.out.1,z.out.2];rfl
   ·have G:26<k:=by omega
    go_enter func226,ntmps226
    go_wp2
    refine ZH (v:= .tuple #[Iq 0,.bool false]) (by simp[results,results226,go_sem]) rfl ⟨?_,rfl⟩
    rw[z.out.1,z.out.2];rfl
 generalize (if 22≤k∧k≤26 then k - 22 else 0:Nat)=r at*
 generalize decide (22≤k∧k≤26)=q at*;go_enter func172,ntmps172;go_wp2_with fail;apply(D _).mono;rintro e J ⟨rfl,rfl⟩;go_wp2;refine ZH (v:= .tuple #[Iq r,.bool q]) (by simp[results,results172,go_sem]) rfl ⟨rfl,rfl⟩
end Go.Proofs.YtfkdailfcmnjlaaGreatDoor
namespace Go.Proofs.YtfkdailfcmnjlaaGreatDoor
open Go Go.RowKit Tryz
attribute [local go_sem ↓] Go.wp_at_zero Go.wp_at_succ
structure nj (w:World) (b:Nat) (k:Nat) (pl:Int) (n:Int) (nm:List UInt8) (u:Value) (l:Int):Prop where
 c0:w.cell? ⟨b,0,none⟩=some (Iq k)
 c1:w.cell? ⟨b,1,none⟩=some (Iq pl)
 c2:w.cell? ⟨b,2,none⟩=some (Iq n)
 c3:w.cell? ⟨b,3,none⟩=some (S nm)
 c4:w.cell? ⟨b,4,none⟩=some u
 c5:w.cell? ⟨b,5,none⟩=some (Iq l)
variable {w w':World} {b k n d tb U g E G J O Y Z b2:Nat} {pl l I R v1 v2:Int} {nm x its:List UInt8} {u:Value} {z:Nat→Nat} {a V:Option Addr} {lv fl vals:List Int} {L:List Pt}
theorem nj.below {n:Int} (h:nj w b k pl n nm u l) (z:Below w.heap.size w w'):nj w' b k pl n nm u l:=by
 have D:=Zx w _ h.c0;have e:∀j,w'.cell? ⟨b,j,none⟩=w.cell? ⟨b,j,none⟩:=fun j=>z.cell (p:=⟨b,j,none⟩) D
 exact⟨(e 0).trans h.c0,(e 1).trans h.c1,(e 2).trans h.c2,(e 3).trans h.c3,(e 4).trans h.c4,(e 5).trans h.c5⟩
def ph (w:World) (u:Value) (n:Nat) (D:Nat→Nat):Prop:= ∃a cap,u= .slice a n cap∧ ∀j,j<n→ ∃g,a=some ⟨g,0,none⟩∧w.cell? ⟨g,j,none⟩=some (Pq (D j))
theorem ph.below (h:ph w u n z) (D:Below w.heap.size w w'):ph w' u n z:=by
 obtain⟨a,cap,e,h⟩:=h;refine⟨a,cap,e,fun j E=>?_⟩
 obtain⟨g,e,c⟩:=h j E;exact⟨g,e,by rw[D.cell (p:=⟨g,j,none⟩) (Zx w _ c)];exact c⟩
def pK:Nat→World→Nat→Tr→Prop
 |0,_,_,_=>False
 |d+1,w,b,t=> ∃(pl:Int) (nm:List UInt8) (u:Value) (z:Nat→Nat),nj w b t.k pl t.n nm u t.l∧ph w u t.kids.length z∧ ∀j,j<t.kids.length→pK d w (z j) (t.kid j)
theorem pK.below {d:Nat}:∀{w w':World} {b:Nat} {t:Tr},pK d w b t→Below w.heap.size w w'→pK d w' b t:=by
 induction d with
 |zero=>intro w w' b t h;exact h.elim
 |succ d ih=>
  intro w w' b t h z;obtain⟨pl,nm,u,D,E,G,h3⟩:=h;exact⟨pl,nm,u,D,E.below z,G.below z,fun j I=>ih (h3 j I) z⟩
theorem pK.up:∀{w:World} {b:Nat} {t:Tr},pK d w b t→ ∀{e:Nat},d≤e→pK e w b t:=by
 induction d with
 |zero=>intro w b t h;exact h.elim
 |succ d ih=>
  intro w b t h e I;obtain⟨e,rfl⟩:∃q,e=q+1:=⟨e - 1,by omega⟩
  obtain⟨pl,nm,u,z,D,E,h3⟩:=h;exact⟨pl,nm,u,z,D,E,fun j G=>ih (h3 j G) (by omega)⟩
theorem yj {cap:Nat} {n:Int} (O:dR k) (hc:nj w b k pl n nm u l) (hT:rK w tb fl (.slice a lv.length cap)) (E:xm w a lv) (aa:lv.length≤2000) (G:k=2→0≤l∧l.toNat<lv.length):
 Calls prog 127 #[Pq tb,Pq b] w fun e w'=>e= .returned (Iq (if k=1 then n else if k=2 then lv.getD l.toNat 0 else lq fl k))∧Below w.heap.size w w':=by
 have J:=ZA w.heap.size w;obtain⟨c0,c1,c2,c3,c4,c5⟩:=hc;obtain⟨I,tl⟩:=hT
 by_cases k1:k=1
 ·subst k1
  rw[Zu rfl];clear I G E;go_enter func127,ntmps127;go_wp2;go_ret;exact⟨rfl,J⟩
 rw[Zt k1]
 by_cases k2:k=2
 ·subst k2
  rw[Zu rfl];obtain⟨h0,h3⟩:=G rfl;obtain⟨g,rfl,hg⟩:=E l.toNat h3;have e:l=(l.toNat:Int):=by omega
  have h4:l<(lv.length:Int):=by omega
  generalize lv.getD l.toNat 0=r at*;generalize l.toNat=q at*;subst e;clear I G E;go_enter func127,ntmps127;go_wp2
  go_region_held (fun w'=>w'.cell? ⟨tb,9,none⟩=some (Sq g lv.length cap)∧w'.cell? ⟨b,5,none⟩=some (Iq q)∧w'.cell? ⟨g,q,none⟩=some (Iq r)) (go_keep) (fail)
  go_wp2;go_ret;exact⟨rfl,J.drew⟩
 rw[Zt k2];have ab:20≤k∧k≤35:=by unfold dR at O;omega
 have WF:=sj k w (by omega)
 have z:=yV k w (by omega)
 have ac:((k:Int)==(1:Int))=false:=by
  have: ¬((k:Int)=1):=by omega
  simpa using this
 have ad:((k:Int)==(2:Int))=false:=by
  have: ¬((k:Int)=2):=by omega
  simpa using this
 by_cases R:27≤k
 ·have hf:=I (k - 27) (by omega)
  have D:Hid (lq fl k=fl.getD (k - 27) 0):=by show _=_;unfold lq;rw[Zu R]
  rw[Zu (by omega),aad (by omega)] at WF
  have ae:k - 27<9:=by omega
  generalize fl.getD (k - 27) 0=r at*;generalize lq fl k=q at*;generalize k - 27=m at*;clear z I E G O;go_enter func127,ntmps127;go_wp2_with fail;apply WF.mono;rintro e w1 ⟨rfl,rfl⟩;clear WF;go_wp2;go_ret;exact⟨by rw[D.out];rfl,J⟩
 ·rw[Zt (by omega),Z4 (by omega)] at WF
  by_cases Y:22≤k
  ·have D:Hid (lq fl k=((k - 22:Nat):Int)):=by show _=_;unfold lq;rw[Zt R,Zu Y]
   rw[Zu (by omega),aad (by omega)] at z
   generalize lq fl k=q at*;generalize k - 22=m at*;clear I E G O;go_enter func127,ntmps127;go_wp2_with fail;apply WF.mono;rintro e w1 ⟨rfl,rfl⟩;clear WF;go_wp2_with fail;apply z.mono;rintro e w2 ⟨rfl,rfl⟩;clear z;go_wp2;go_ret;exact⟨by rw[D.out];rfl,J⟩
  ·rw[Zt (by omega),Z4 (by omega)] at z
   have D:Hid (lq fl k=dq (decide (k=20))):=by show _=_;unfold lq;rw[Zt R,Zt Y]
   generalize lq fl k=q at*
   by_cases Z:k=20
   ·subst Z
    have U:=fun W=>iw true W
    have V:Hid (q=dq true):=by show _=_;rw[D.out];rfl
    clear D;generalize dq true=r at*;clear I E G O;go_enter func127,ntmps127;go_wp2_with fail;apply WF.mono;rintro e w1 ⟨rfl,rfl⟩;clear WF;go_wp2_with fail;apply z.mono;rintro e w2 ⟨rfl,rfl⟩;clear z;go_wp2_with fail;apply(U _).mono;rintro e w3 ⟨rfl,rfl⟩;clear U;go_wp2;go_ret;exact⟨by rw[V.out];rfl,J⟩
   ·have af:((k:Int)==(20:Int))=false:=by
     have: ¬((k:Int)=20):=by omega
     simpa using this
    have U:=fun W=>iw false W
    have V:Hid (q=dq false):=by show _=_;rw[D.out,Z4 Z]
    clear D;generalize dq false=r at*;clear I E G O;go_enter func127,ntmps127;go_wp2_with fail;apply WF.mono;rintro e w1 ⟨rfl,rfl⟩;clear WF;go_wp2_with fail;apply z.mono;rintro e w2 ⟨rfl,rfl⟩;clear z;go_wp2_with fail;apply(U _).mono;rintro e w3 ⟨rfl,rfl⟩;clear U;go_wp2;go_ret;exact⟨by rw[V.out];rfl,J⟩
theorem yl (E:fL k) {a b:Int} (z:dG a) (D:dG b) (w:World):Calls prog 126 #[Iq k,Iq a,Iq b] w fun e w'=>e= .returned (Iq (sZ k a b))∧w'=w:=by
 rcases E with rfl|rfl|rfl|rfl|rfl|rfl|rfl
 ·have h:=iL (x:=[43]) (by decide) z D w
  rw[show kn [43]=6 from by decide] at h;exact h
 ·have h:=iL (x:=[45]) (by decide) z D w
  rw[show kn [45]=7 from by decide] at h;exact h
 ·have h:=iL (x:=[61]) (by decide) z D w
  rw[show kn [61]=8 from by decide] at h;exact h
 ·have h:=iL (x:=[60,61]) (by decide) z D w
  rw[show kn [60,61]=9 from by decide] at h;exact h
 ·have h:=iL (x:=[60]) (by decide) z D w
  rw[show kn [60]=10 from by decide] at h;exact h
 ·have h:=iL (x:=[111,114]) (by decide) z D w
  rw[show kn [111,114]=17 from by decide] at h;exact h
 ·have h:=iL (x:=[97,110,100]) (by decide) z D w
  rw[show kn [97,110,100]=18 from by decide] at h;exact h
theorem GV {cap:Nat} {J:Int} (O:fL k) (c0:w.cell? ⟨b,0,none⟩=some (Iq k)) (c4:w.cell? ⟨b,4,none⟩=some (Sq g 2 cap)) (V:w.cell? ⟨g,0,none⟩=some (Pq E)) (Y:w.cell? ⟨g,1,none⟩=some (Pq G)) (h0:dG I) (h1:dG J)
 (W1:∀z,Below w.heap.size w z→Calls prog 78 #[Pq U,Pq E] z fun e w'=>e= .returned (Iq I)∧Below z.heap.size z w')
 (W2:∀z,Below w.heap.size w z→Calls prog 78 #[Pq U,Pq G] z fun e w'=>e= .returned (Iq J)∧Below z.heap.size z w'):
 Calls prog 78 #[Pq U,Pq b] w fun e w'=>e= .returned (Iq (sZ k I J))∧Below w.heap.size w w':=by
 have W3:=fun W=>yl O h0 h1 W
 have n3:((k:Int)==(19:Int))=false:=by
  have: ¬((k:Int)=19):=by unfold fL at O;omega
  simpa using this
 have n4:((k:Int)==(14:Int))=false:=by
  have: ¬((k:Int)=14):=by unfold fL at O;omega
  simpa using this
 have Z:Hid (∀w',Below w.heap.size w w'→(w'.cell? ⟨b,4,none⟩=some (Sq g 2 cap)∧w'.cell? ⟨g,0,none⟩=some (Pq E)∧w'.cell? ⟨g,1,none⟩=some (Pq G)∧w'.cell? ⟨b,0,none⟩=some (Iq k))):=fun w' h=>by
  rw[h.cell (p:=⟨b,4,none⟩) (Zx w _ c4),h.cell (p:=⟨g,0,none⟩) (Zx w _ V),h.cell (p:=⟨g,1,none⟩) (Zx w _ Y),h.cell (p:=⟨b,0,none⟩) (Zx w _ c0)];exact⟨c4,V,Y,c0⟩
 generalize sZ k I J=q at*;go_enter func78,ntmps78;go_wp2
 go_region_held3 (fun w'=>w'.cell? ⟨b,4,none⟩=some (Sq g 2 cap)∧w'.cell? ⟨g,0,none⟩=some (Pq E)∧w'.cell? ⟨g,1,none⟩=some (Pq G)∧w'.cell? ⟨b,0,none⟩=some (Iq k)) (first|exact Z.out _ R|exact Z.out _ D|go_keep) ((first|(go_at_call 126;refine(W3 _).mono ?_;rintro e w6 ⟨rfl,aa⟩;subst aa)|(go_at_call 78;refine(W2 _ D).mono ?_;rintro e w7 ⟨rfl,ab⟩;have R:=D.trans (ab.mono D.size))|(go_at_call 78;refine(W1 _ (ZA _ _).drew).mono ?_;rintro e w5 ⟨rfl,ac⟩;have D:Below w.heap.size w w5:=(ZA _ _).drew.trans ac)))
 all_goals rename_i hHeld
 all_goals clear hHeld
 all_goals go_wp2_with fail
 all_goals go_ret
 all_goals exact⟨rfl,R⟩
theorem GW {cap:Nat} {z:Int} (c0:Cq w b 0 (Iq 19)) (c4:Cq w b 4 (Sq g 1 cap)) (U:Cq w g 0 (Pq G)) (I:z=0∨z=1)
 (J:∀D,Below w.heap.size w D→Calls prog 78 #[Pq E,Pq G] D fun e w'=>e= .returned (Iq z)∧Below D.heap.size D w'):
 Calls prog 78 #[Pq E,Pq b] w fun e w'=>e= .returned (Iq (1 - z))∧Below w.heap.size w w':=by
 have O:=fun W=>A9 I W
 generalize 1 - z=q at*;go_enter func78,ntmps78;go_wp2_with fail;apply(J _ (ZA _ _)).mono;rintro e D ⟨rfl,R⟩;go_wp2_with fail;apply(O _).mono;rintro e V ⟨rfl,rfl⟩;go_wp2;go_ret;exact⟨rfl,R⟩
theorem JO {cap:Nat} (c0:w.cell? ⟨b,0,none⟩=some (Iq 14)) (c4:w.cell? ⟨b,4,none⟩=some (Sq g 3 cap)) (E:w.cell? ⟨g,0,none⟩=some (Pq Y)) (G:w.cell? ⟨g,1,none⟩=some (Pq Z)) (I:w.cell? ⟨g,2,none⟩=some (Pq b2))
 (U:∀z,Below w.heap.size w z→Calls prog 78 #[Pq O,Pq Y] z fun e w'=>e= .returned (Iq R)∧Below z.heap.size z w')
 (W2:∀z,Below w.heap.size w z→Calls prog 78 #[Pq O,Pq Z] z fun e w'=>e= .returned (Iq v1)∧Below z.heap.size z w')
 (W3:∀z,Below w.heap.size w z→Calls prog 78 #[Pq O,Pq b2] z fun e w'=>e= .returned (Iq v2)∧Below z.heap.size z w'):
 Calls prog 78 #[Pq O,Pq b] w fun e w'=>e= .returned (Iq (if R=1 then v1 else v2))∧Below w.heap.size w w':=by
 have KF:Hid (∀w',Below w.heap.size w w'→(w'.cell? ⟨b,4,none⟩=some (Sq g 3 cap)∧w'.cell? ⟨g,0,none⟩=some (Pq Y)∧w'.cell? ⟨g,1,none⟩=some (Pq Z)∧w'.cell? ⟨g,2,none⟩=some (Pq b2))):=fun w' h=>by
  rw[h.cell (p:=⟨b,4,none⟩) (Zx w _ c4),h.cell (p:=⟨g,0,none⟩) (Zx w _ E),h.cell (p:=⟨g,1,none⟩) (Zx w _ G),h.cell (p:=⟨g,2,none⟩) (Zx w _ I)];exact⟨c4,E,G,I⟩
 by_cases V:R=1
 ·subst V
  rw[Zu rfl];go_enter func78,ntmps78;go_wp2_with fail;apply(U _ (ZA _ _)).mono;rintro e z ⟨rfl,D⟩;obtain⟨c4,E,G,I⟩:=KF.out z D;go_wp2_with fail;apply(W2 _ D).mono;rintro e w2 ⟨rfl,J⟩;have HB:=Hi (D.trans (J.mono D.size));go_wp2;go_ret;exact⟨rfl,HB.out⟩
 ·rw[Zt V]
  have aa:(R==(1:Int))=false:=by simpa using V
  go_enter func78,ntmps78;go_wp2_with fail;apply(U _ (ZA _ _)).mono;rintro e z ⟨rfl,D⟩;obtain⟨c4,E,G,I⟩:=KF.out z D;go_wp2_with fail;apply(W3 _ D).mono;rintro e w2 ⟨rfl,J⟩;have HB:=Hi (D.trans (J.mono D.size));go_wp2;go_ret;exact⟨rfl,HB.out⟩
theorem D5 {cap:Nat} {n:Int} (z:dR k) (G:nj w b k pl n nm (.slice V 0 Y) l) (I:rK w E fl (.slice a lv.length cap)) (J:xm w a lv) (O:lv.length≤2000) (R:k=2→0≤l∧l.toNat<lv.length):
 Calls prog 78 #[Pq E,Pq b] w fun e w'=>e= .returned (Iq (if k=1 then n else if k=2 then lv.getD l.toNat 0 else lq fl k))∧Below w.heap.size w w':=by
 have U:=yj z G I J O R;have n3:((k:Int)==(19:Int))=false:=by
  have: ¬((k:Int)=19):=by unfold dR at z;omega
  simpa using this
 have n4:((k:Int)==(14:Int))=false:=by
  have: ¬((k:Int)=14):=by unfold dR at z;omega
  simpa using this
 obtain⟨c0,c1,c2,c3,c4,c5⟩:=G
 generalize (if k=1 then n else if k=2 then lv.getD l.toNat 0 else lq fl k)=q at*
 go_enter func78,ntmps78;go_wp2_with fail;apply U.mono;rintro e w1 ⟨rfl,D⟩;have Z:=Hi D;go_wp2;go_ret;exact⟨rfl,Z.out⟩
theorem yW {lt:List Nat} (hV:kR lt lv) (hF:eO fl) (ah:lt.length≤lv.length) (ab:lv.length≤2000):∀{t:Tr} {w:World} {V b cap:Nat} {a:Option Addr},pK d w b t→iC d t→dx lt d t≠0→rK w V fl (.slice a lv.length cap)→xm w a lv→
 Calls prog 78 #[Pq V,Pq b] w fun e w'=>e= .returned (Iq (fu lv fl d t))∧Below w.heap.size w w':=by
 induction d with
 |zero=>intro t w V b cap a h;exact h.elim
 |succ d ih=>
  intro t w V b cap a h hw E hT hL;obtain⟨pl,nm,u,bl,G,I,hk⟩:=h;obtain⟨au,cu,rfl,I⟩:=I;have aa:=nM hw E;have U:∀j,j<t.kids.length→(t.kid j∈t.kids):=fun j J=>by unfold Tr.kid;rw[Zs,Zv J];exact ZV J
  have W:∀j (J:j<t.kids.length),∀Y,Below w.heap.size w Y→Calls prog 78 #[Pq V,Pq (bl j)] Y fun e w'=>e= .returned (Iq (fu lv fl d (t.kid j)))∧Below Y.heap.size Y w':=fun j J Y hb=>
   ih ((hk j J).below hb) (hw.2 _ (U j J)) (aa _ (U j J)) (hT.below hb) (hL.below hb)
  have Z:∀j (J:j<t.kids.length),qc (dx lt d (t.kid j)) (fu lv fl d (t.kid j)):=fun j J=>kS hV hF (hw.2 _ (U j J)) (aa _ (U j J))
  rw[fu];rcases hw.1 with⟨O,D,hn,hl⟩|⟨O,x,D⟩|⟨O,x,y,z,D⟩|⟨O,x,y,D⟩
  ·rw[D] at G⊢
   have h2:t.k=2→0≤t.l∧t.l.toNat<lv.length:=fun h2=>by
    refine⟨hl h2,?_⟩;rw[dx,Zu D] at E;unfold eE at E;rw[Zt (by omega),Zu h2] at E
    have:t.l.toNat<lt.length:=by
     by_cases e:t.l.toNat<lt.length
     ·exact e
     ·exfalso;apply E
      rw[Zs,ZQ (by omega)];rfl
    omega
   exact D5 O G hT hL ab h2
  ·have R:t.kids.length=1:=by rw[D];rfl
   rw[R] at G I;obtain⟨g,rfl,d0⟩:=I 0 (by omega)
   have e0:t.kid 0=x:=by unfold Tr.kid;rw[D];rfl
   have c0:=G.c0;rw[O] at c0;have ac:fu lv fl d (t.kid 0)=0∨fu lv fl d (t.kid 0)=1:=by
    have h:=Z 0 (by omega)
    refine h.2 ?_;rw[dx,D,Zt (by simp)] at E
    simp only[ZS,aai,eF] at E;rw[e0]
    by_cases e:dx lt d x=2
    ·exact e
    ·rw[Zt e] at E;exact absurd rfl E
   have h:=GW c0 G.c4 d0 ac (W 0 (by omega))
   rw[e0] at h;rw[D];exact h
  ·have R:t.kids.length=3:=by rw[D];rfl
   rw[R] at G I;obtain⟨g,rfl,d0⟩:=I 0 (by omega)
   obtain⟨g1,e1,d1⟩:=I 1 (by omega)
   obtain⟨g2,e2,d2⟩:=I 2 (by omega)
   simp at e1 e2;rw[←e1] at d1;rw[←e2] at d2;have q0:t.kid 0=x:=by unfold Tr.kid;rw[D];rfl
   have q1:t.kid 1=y:=by unfold Tr.kid;rw[D];rfl
   have q2:t.kid 2=z:=by unfold Tr.kid;rw[D];rfl
   have c0:=G.c0;rw[O] at c0;have h:=JO c0 G.c4 d0 d1 d2 (W 0 (by omega)) (W 1 (by omega)) (W 2 (by omega))
   rw[q0,q1,q2] at h;rw[D];exact h
  ·have R:t.kids.length=2:=by rw[D];rfl
   rw[R] at G I;obtain⟨g,rfl,d0⟩:=I 0 (by omega)
   obtain⟨g1,e1,d1⟩:=I 1 (by omega)
   simp at e1;rw[←e1] at d1;have q0:t.kid 0=x:=by unfold Tr.kid;rw[D];rfl
   have q1:t.kid 1=y:=by unfold Tr.kid;rw[D];rfl
   have h:=GV O G.c0 G.c4 d0 d1 (Z 0 (by omega)).1 (Z 1 (by omega)).1 (W 0 (by omega)) (W 1 (by omega))
   rw[q0,q1] at h;rw[D];exact h
def hU (ix:List UInt8→Int) (L:List Pt):Nat→Nat→Tr
 |0,_=>gI
 |f+1,i=>⟨da (L.getD i dh).tok,dz (L.getD i dh).tok,if da (L.getD i dh).tok=2 then ix (di (L.getD i dh).tok) else 0,(L.getD i dh).subs.map (hU ix L f)⟩
theorem GX (h:jw w u n z):ph w u n z:=by
 obtain⟨a,e,h⟩:=h.slice;refine⟨a,n,e,fun j D=>?_⟩
 obtain⟨g,e,E⟩:=h j D;exact⟨g,e,mV E j D⟩
theorem kid_map (ix:List UInt8→Int) (L:List Pt) (f:Nat) (l:List Nat) (j:Nat) (h:j<l.length) (k:Nat) (n a:Int):Tr.kid ⟨k,n,a,l.map (hU ix L f)⟩ j=hU ix L f (l.getD j 0):=by
 unfold Tr.kid;simp[Zs,h]
theorem ey.tr {ix:List UInt8→Int} (f:Nat):∀{D i b:Nat},eK f L D i→ey J L (N1 ix) w i b→pK f w b (hU ix L f i):=by
 induction f with
 |zero=>intro D i b h;exact h.elim
 |succ f ih=>
  intro D i b O R;obtain⟨u,n,U,hi,aa,G,V,Y,Z⟩:=R.inv;obtain⟨⟨c0,c1,c2,c3,c4,c5⟩,_⟩:=kL V;have E:=jX _ O.2.2;unfold N1 at G;rw[hU];refine⟨_,_,u,U,⟨c0,c1,c2,c3,c4,by rw[←G];exact c5⟩,by simpa using GX Y,fun j hj=>?_⟩
  have z:j<(L.getD i dh).subs.length:=by simpa using hj
  rw[kid_map _ _ _ _ _ z];obtain⟨ab,I⟩:=E _ (LG z);exact ih I (Z j z)
theorem GY {z:List Nat} (J:0∉z) (h:(k=19∧z.length=1)∨(k=14∧z.length=3)∨(fL k∧z.length=2)):eF k z=fU k z:=by
 rcases h with⟨rfl,E⟩|⟨rfl,E⟩|⟨I,E⟩
 ·match z,E with
  |[a],_=>simp[eF,fU,gq]
 ·match z,E with
  |[a,b,c],_=>
   simp only[eF,fU,gq,abl,ZX,List.drop_succ_cons,abQ,List.all_cons,List.all_nil]
   by_cases G:a=2
   ·by_cases D:b=c
    ·simp[G,D]
    ·simp[G,D,aa7 D]
   ·simp[G]
 ·match z,E with
  |[a,b],_=>
   simp at J;unfold fL at I;rcases I with rfl|rfl|rfl|rfl|rfl|rfl|rfl
   ·simp[eF,fU,gq]
   ·simp[eF,fU,gq]
   ·simp only[eF,fU,gq,abl,List.all_cons,List.all_nil]
    by_cases D:a=b
    ·subst D;simp;omega
    ·simp[D,aa7 D]
   ·simp[eF,fU,gq]
   ·simp[eF,fU,gq]
   ·simp[eF,fU,gq]
   ·simp[eF,fU,gq]
theorem GZ (lt:List Nat) (n l:Int) (h:20≤k∧k≤35):eE lt ⟨k,n,l,[]⟩=rC k:=by
 unfold eE rC mx;simp only[]
 (repeat' split)<;>omega
theorem G0:∀x∈([[43],[45],[60],[60,61],[61],[111,114],[97,110,100]]:List (List UInt8)),kn x=6∨kn x=7∨kn x=8∨kn x=9∨kn x=10∨kn x=17∨kn x=18:=by decide
theorem JP (h:x∈([[43],[45],[60],[60,61],[61],[111,114],[97,110,100]]:List (List UInt8))) (a b:Int):sZ (kn x) a b=n9 x a b:=by
 simp only[ZU,aal,abk] at h;rcases h with rfl|rfl|rfl|rfl|rfl|rfl|rfl
 ·rw[show kn [43]=6 from by decide];rfl
 ·rw[show kn [45]=7 from by decide];rfl
 ·rw[show kn [60]=10 from by decide];rfl
 ·rw[show kn [60,61]=9 from by decide];rfl
 ·rw[show kn [61]=8 from by decide];rfl
 ·rw[show kn [111,114]=17 from by decide];rfl
 ·rw[show kn [97,110,100]=18 from by decide];rfl
structure LH (xs:List dY) (its:List UInt8) (vals fl:List Int) (L:List Pt) (f i:Nat):Prop where
 wf:iC f (hU (dP (gA xs)) L f i)
 ty:dx (fw (xs.take its.length) its) f (hU (dP (gA xs)) L f i)=fh (eU xs its L f i)
 ev:fu (ee (xs.take vals.length) vals) fl f (hU (dP (gA xs)) L f i)=iH xs vals fl L f i
theorem MI {xs:List dY} (hW:∀k,k<L.length→iK (L.getD k dh).tok) (ai:∀c∈its,me c) (ak:its.length≤xs.length) (am:vals.length=its.length) (hN:∀k,k<L.length→(L.getD k dh).tok.k=110→eP (L.getD k dh).tok.text≤9223372036854775807) (f:Nat):
 ∀{lo i:Nat},eK f L lo i→pW xs its.length L lo (i+1)→eU xs its L f i≠0→LH xs its vals fl L f i:=by
 induction f with
 |zero=>intro lo i h;exact h.elim
 |succ f ih=>
  intro lo i hT hG U;have aj:=lM _ hT.2.2;have E:∀j∈(L.getD i dh).subs,eU xs its L f j≠0∧me (eU xs its L f j)∧LH xs its vals fl L f j:=fun j D=>by
   obtain⟨an,h1,h2,h3⟩:=aj j D;have ae:pW xs its.length L an (j+1):=fun q a b=>hG q (by omega) (by omega)
   have O:eU xs its L f j≠0:=fun e=>by
    rw[eU] at U;rw[Zu (by rw[aaa,←e];exact aaS D)] at U
    exact U rfl
   refine⟨O,?_,ih h3 ae O⟩;rcases qy hW ai f h3 ae with h|h
   ·exact absurd h O
   ·exact h
  have ao:((L.getD i dh).subs.map (hU (dP (gA xs)) L f)).map (dx (fw (xs.take its.length) its) f)=(L.getD i dh).subs.map fun j=>fh (eU xs its L f j):=by
   rw[aa4];exact Z5 fun j D=>(E j D).2.2.ty
  have ap:((L.getD i dh).subs.map (hU (dP (gA xs)) L f)).map (fu (ee (xs.take vals.length) vals) fl f)=(L.getD i dh).subs.map (iH xs vals fl L f):=by
   rw[aa4];exact Z5 fun j D=>(E j D).2.2.ev
  have aq:((L.getD i dh).subs.map (eU xs its L f)).contains 0=false:=by
   rw[aa5];intro e
   rw[aaa,aav] at e;obtain⟨j,D,e⟩:=e;exact(E j D).1 e
  have Y:eU xs its L (f+1) i=UInt8.ofNat (fY xs its (L.getD i dh).tok ((L.getD i dh).subs.map (eU xs its L f))):=by
   rw[eU,Zt (by rw[aq];simp)]
  have af:∀c∈(L.getD i dh).subs.map (hU (dP (gA xs)) L f),iC f c:=fun c hc=>by
   obtain⟨j,D,rfl⟩:=aav.1 hc;exact(E j D).2.2.wf
  have hz:0∉(L.getD i dh).subs.map fun j=>fh (eU xs its L f j):=fun e=>by
   obtain⟨j,D,e⟩:=aav.1 e;exact(E j D).1 ((mP (.inr (E j D).2.1)).1 e)
  rw[show eU xs its L (f+1) i=_ from Y] at U
  have over:∀(I:(L.getD i dh).subs≠[]),((da (L.getD i dh).tok=19∧(L.getD i dh).subs.length=1)∨(da (L.getD i dh).tok=14∧(L.getD i dh).subs.length=3)∨(fL (da (L.getD i dh).tok)∧(L.getD i dh).subs.length=2))→(∀l:List Int,l.length=(L.getD i dh).subs.length→BI (da (L.getD i dh).tok) (ig (ee (xs.take vals.length) vals) fl (hU (dP (gA xs)) L (f+1) i)) l=rD (L.getD i dh).tok.text (mr xs vals fl (L.getD i dh).tok) l)→LH xs its vals fl L (f+1) i:=fun I z au=>by
   refine⟨⟨?_,af⟩,?_,?_⟩
   ·rw[hU]
    rcases z with⟨h1,h2⟩|⟨h1,h2⟩|⟨h1,h2⟩
    ·exact .inr (.inl ⟨h1,by obtain⟨a,e⟩:=aaP.1 h2;exact⟨_,by rw[e];rfl⟩⟩)
    ·exact .inr (.inr (.inl ⟨h1,by obtain⟨a,b,c,e⟩:=uj h2;exact⟨_,_,_,by rw[e];rfl⟩⟩))
    ·exact .inr (.inr (.inr ⟨h1,by obtain⟨a,b,e⟩:=zM h2;exact⟨_,_,by rw[e];rfl⟩⟩))
   ·rw[Y,(zO hT.2.1 I fun j D=>(E j D).2.1).1,hU,dx]
    simp only[ab3];rw[Zt I,ao];exact GY hz (by simpa using z)
   ·have e:=au ((L.getD i dh).subs.map (iH xs vals fl L f)) (by simp)
    rw[iH,←e,fu]
    conv=>lhs;rw[hU]
    simp only[ap];rfl
  rcases hT.2.1 with⟨ha,hs⟩|⟨hw,G⟩|⟨hw,G⟩|⟨m,_,D,G⟩
  ·
    have ab:=hW i hT.1;rw[hs] at U;have ac:(hU (dP (gA xs)) L (f+1) i).kids=[]:=by rw[hU];show List.map _ _=[];rw[hs];rfl
    have Z:dR (da (L.getD i dh).tok)→(da (L.getD i dh).tok=1→dG (dz (L.getD i dh).tok))→(da (L.getD i dh).tok=2→0≤dP (gA xs) (di (L.getD i dh).tok))→
     eE (fw (xs.take its.length) its) (hU (dP (gA xs)) L (f+1) i)=fh (UInt8.ofNat (fY xs its (L.getD i dh).tok []))→ig (ee (xs.take vals.length) vals) fl (hU (dP (gA xs)) L (f+1) i)=mr xs vals fl (L.getD i dh).tok→LH xs its vals fl L (f+1) i:=fun k1 k2 k3 k4 k5=>by
     refine⟨⟨.inl ⟨k1,ac,k2,fun e=>?_⟩,af⟩,?_,?_⟩
     ·rw[hU] at e⊢
      simp only[] at e⊢;rw[Zu e];exact k3 e
     ·rw[Y,hs,aai,←k4,dx,Zu ac]
     ·rw[iH,hs,fu]
      rw[ac];exact k5
    by_cases I:(L.getD i dh).tok.k=110
    ·have z:da (L.getD i dh).tok=1:=by unfold da;rw[Zu I]
     have hm:=hN i hT.1 I;refine Z (.inl z) (fun _=>?_) (fun e=>by omega) ?_ ?_
     ·unfold dz dG;rw[Zu I];omega
     ·have e:fY xs its (L.getD i dh).tok []=110:=by unfold fY;rw[Zu I]
      rw[e,hU];unfold eE;simp only[];rw[Zu z];rfl
     ·rw[hU];unfold ig mr dz;simp only[];rw[Zu z,Zu I,Zu I]
    by_cases V:(L.getD i dh).tok.k=111
    ·have z:da (L.getD i dh).tok=2:=jQ.2 V
     obtain⟨O,h0⟩:=hG i hT.le (by omega) V
     have av: ¬dP (gA (xs.take its.length)) (L.getD i dh).tok.text<0:=fun h=>by have:=(ub _ O xs its.length).1 h;omega
     have ad:=wg its.length (xs:=xs) (s:=(L.getD i dh).tok.text) (by omega)
     have aa:di (L.getD i dh).tok=(L.getD i dh).tok.text:=by unfold di;rw[Zu V]
     refine Z (.inr (.inl z)) (fun e=>by omega) (fun _=>by rw[aa,ad];omega) ?_ ?_
     ·have e:fY xs its (L.getD i dh).tok []=(its.getD (dN xs (L.getD i dh).tok.text its.length).toNat 0).toNat:=by
       unfold fY;rw[Zt (by omega),Zu V]
      rw[e,abi,hU];unfold eE;simp only[];rw[Zt (by omega),Zu z,Zu z,aa,ad]
      exact yv _ O xs its ak h0
     ·rw[hU]
      unfold ig mr;simp only[];rw[Zt (by omega),Zu z,Zu z,Zt I,Zu V,aa,ad]
      rw[←am] at h0⊢;exact D3 _ O xs vals (by omega) h0
    ·obtain⟨hm,z,ag,ah⟩:=xl ab ha I V
     refine Z (.inr (.inr ⟨ag,ah⟩)) (fun e=>by omega) (fun e=>by omega) ?_ ?_
     ·rw[(zN xs its ab ha V).1,hU,hs]
      exact GZ _ _ _ ⟨ag,ah⟩
     ·rw[GU ab ha I V,hU]
      unfold ig;simp only[];rw[Zt (by omega),Zt (by omega)];rfl
  ·obtain⟨e,z⟩:=jP hw
   have R:da (L.getD i dh).tok=19:=by rw[fK z,e];decide
   refine over (by intro h;rw[h] at G;simp at G) (.inl ⟨R,G⟩) fun l J=>?_
   rw[G] at J;obtain⟨a,rfl⟩:=aaP.1 J;rfl
  ·obtain⟨e,z⟩:=jP hw
   have R:da (L.getD i dh).tok=14:=by rw[fK z,e];decide
   refine over (by intro h;rw[h] at G;simp at G) (.inr (.inl ⟨R,G⟩)) fun l J=>?_
   rw[G] at J;obtain⟨a,b,c,rfl⟩:∃a b c,l=[a,b,c]:=by
    match l,J with
    |[a,b,c],_=>exact⟨a,b,c,rfl⟩
   rfl
  ·obtain⟨e,z⟩:=oO D
   have R:=fK z;refine over (by intro h;rw[h] at G;simp at G) (.inr (.inr ⟨by rw[R];exact G0 _ e,G⟩)) fun l J=>?_
   rw[G] at J;obtain⟨a,b,rfl⟩:∃a b,l=[a,b]:=by
    match l,J with
    |[a,b],_=>exact⟨a,b,rfl⟩
   show sZ _ _ _=n9 _ _ _
   rw[R];exact JP e a b
end Go.Proofs.YtfkdailfcmnjlaaGreatDoor
