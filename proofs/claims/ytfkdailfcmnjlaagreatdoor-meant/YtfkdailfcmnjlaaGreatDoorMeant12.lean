/-
  A part.
-/
import Derived.Test.YtfkdailfcmnjlaaGreatDoorMeant11
import Derived.Deep.OwnRows
set_option linter.unusedVariables false
set_option linter.unusedSimpArgs false
set_option maxHeartbeats 40000000
set_option maxRecDepth 1000000
set_option maxHeartbeats 40000000
set_option maxRecDepth 1000000
namespace Go.Proofs.YtfkdailfcmnjlaaGreatDoor
open Go Go.RowKit Tryz
attribute [local go_sem ↓] Go.wp_at_zero Go.wp_at_succ
variable {bs : Nat}
variable {L:List Pt} {N:Tok→Int→Prop} {i b n m:Nat} {a:Option Addr} {w:World}
theorem BY {cap:Nat} (hC:ey bs L N w i b) (ho:(L.getD i dh).tok.k≠111) (hs:(L.getD i dh).subs=[]):
 Calls prog 111 #[Pq b,.slice a n cap] w fun e w'=>e= .returned (Iq (rC (da (L.getD i dh).tok)))∧Below w.heap.size w w':=by
 obtain⟨u,n,bl,hi,hlo,hn,hb,hu,hs'⟩:=hC.inv;obtain⟨⟨c0,c1,c2,c3,c4,c5⟩,cf⟩:=kL hb;have hk3:((da (L.getD i dh).tok:Int)==(2:Int))=false:=by
  have: ¬((da (L.getD i dh).tok:Int)=2):=fun e=>ho (jQ.1 (by omega))
  simpa using this
 have hu0:u= .slice none 0 0:=by
  rw[hs] at hu;rcases hu with hu|hu
  ·exact hu.2
  ·simp at hu
 subst hu0;have HI:=wO (da (L.getD i dh).tok) w (zQ _);clear hb hu hs' hn hs ho;generalize rC (da (L.getD i dh).tok)=r at*;generalize da (L.getD i dh).tok=kd at*;go_enter func111,ntmps111;go_wp2_with fail;apply HI.mono;rintro e w' ⟨rfl,rfl⟩;clear HI;go_wp2;go_ret;exact⟨rfl,ZA _ _⟩
theorem yU:(prog.info? 220).map (fun i=>(i.zero,i.size,i.bytes))=some (some (Iq 0),1,8):=by kernel_rfl
theorem BZ {cap:Nat} (F:Nat→Nat) (hF:∀j,F j≤3) (hC:ey bs L N w i b) (ho:(L.getD i dh).tok.k≠111) (hsh:rq (L.getD i dh)) (hn0:(L.getD i dh).subs≠[])
 (hI:∀j∈(L.getD i dh).subs,∀(bj:Nat) (w1:World),ey bs L N w1 j bj→Below w.heap.size w w1→Calls prog 111 #[Pq bj,.slice a m cap] w1 fun e w'=>e= .returned (Iq (F j))∧Below w1.heap.size w1 w'):
 Calls prog 111 #[Pq b,.slice a m cap] w fun e w'=>e= .returned (Iq (if((L.getD i dh).subs.map F).contains 0 then 0 else fU (da (L.getD i dh).tok) ((L.getD i dh).subs.map F):Nat))∧Below w.heap.size w w':=by
 obtain⟨u,n,bl,hi,hlo,hn,hb,hu,hs⟩:=hC.inv;obtain⟨⟨c0,c1,c2,c3,c4,c5⟩,cf⟩:=kL hb;have hk3:((da (L.getD i dh).tok:Int)==(2:Int))=false:=by
  have: ¬((da (L.getD i dh).tok:Int)=2):=fun e=>ho (jQ.1 (by omega))
  simpa using this
 obtain⟨hkk,hk14⟩:=DT hsh hn0;have hn3:(L.getD i dh).subs.length≤3:=by
  rcases hsh with⟨_,h1⟩|⟨_,h1⟩|⟨_,h1⟩|⟨m,_,_,h1⟩
  ·rw[h1];simp
  all_goals omega
 have hn1:0<(L.getD i dh).subs.length:=abj.2 hn0;have hn2: ¬(L.getD i dh).subs.length=0:=by omega
 obtain⟨au,rfl,ha⟩:=hu.slice;obtain⟨g,rfl,hg⟩:=ha 0 hn1;have HI:=Hi hI;have HS:=Hi hs;have HG:=Hi hg;have HKK:=Hi hkk;have HK14:=Hi hk14;generalize da (L.getD i dh).tok=kd at*;generalize (L.getD i dh).subs=js at*;have hmk:=run_make_row' (P:=prog) 219 220 (Iq 0) 8 underlying219 yU rfl .i64 .i64 js.length (by omega) (by omega)
 generalize hr:(if(js.map F).contains 0=true then 0 else fU kd (js.map F))=r at*
 have HR:=Hi hr;have n4:=World.new_ne w _ c4;have hmade:∀j,j<js.length→(w.alloc (.cells (madeCells #[Iq 0] js.length) 220)).cell? ⟨w.heap.size,j,none⟩=some (Iq 0):=fun j hj=>by
  rw[Zz _ _ j _ _ _ (Zy w _)];rw[←abT,toList_madeCells_one];simp[hj]
 have hblk:∃cs,(w.alloc (.cells (madeCells #[Iq 0] js.length) 220)).heap[w.heap.size]?=some (.cells cs 220 (0,0)):=⟨_,Zy w _⟩;have hbw0:Below w.heap.size w (w.alloc (.cells (madeCells #[Iq 0] js.length) 220)):=(ZA _ _).alloc (Zw _) _;have c4':(w.alloc (.cells (madeCells #[Iq 0] js.length) 220)).cell? ⟨b,4,none⟩=_:=(hbw0.cell (p:=⟨b,4,none⟩) (Zx w _ c4)).trans c4;have HM:=Hi hmade;have HB:=Hi hblk;have HB0:=Hi hbw0;go_enter func111,ntmps111;go_wp2_with fail;generalize hgu:w.heap.size=gu at*;generalize w.alloc (.cells (madeCells #[Iq 0] js.length) 220)=wz at*;have HGU:=Hi hgu
 go_loopw [44] (fun kv wr=> ∃k,k≤js.length∧kv= Iq k∧Hid (∃cs,wr.heap[gu]?=some (.cells cs 220 (0,0)))∧Hid (∀j,j<js.length→wr.cell? ⟨gu,j,none⟩=some (Iq (if j<k then F (js.getD j 0) else 0:Nat)))∧Below gu w wr) (fun kv _=>js.length - (intOf kv).toNat)
 case atStart=>exact⟨0,ZL _,rfl,HB.out,fun j hj=>by simpa using HM.out j hj,HB0.out⟩
 case round=>
  obtain⟨k,hk,rfl,HBK,HCL,hbw⟩:=hrel
  by_cases hlt:k<js.length
  ·have hg':wr.heap[g]?=_:=(hbw.block g (by rw[←HGU.out];exact be HG.out)).trans HG.out
   have hcell:=mV hg' k hlt;have hmem:js.getD k 0∈js:=by rw[Zs,Zv hlt];exact ZV hlt
   have hbw':Below w.heap.size w wr:=by rw[HGU.out];exact hbw
   have W1:=HI.out (js.getD k 0) hmem (bl k) wr ((HS.out k hlt).grow hbw') hbw;have hF3:=hF (js.getD k 0);generalize hfx:F (js.getD k 0)=fx at W1 hF3;have HFX:=Hi hfx;go_wp2_with fail;apply W1.mono;rintro e w1 ⟨rfl,hb1⟩;obtain⟨cs,hcs⟩:=HBK.out;have hlg:=be hcs;have hcs1:w1.heap[gu]?=some (.cells cs 220 (0,0)):=(hb1.block _ hlg).trans hcs;have hcl1:∀j,j<js.length→w1.cell? ⟨gu,j,none⟩=some (Iq (if j<k then F (js.getD j 0) else 0:Nat)):=fun j hj=>by
    rw[hb1.cell (p:=⟨gu,j,none⟩) hlg];exact HCL.out j hj
   have hck:=hcl1 k hlt;have hfz:∀j,w1.frozen? ⟨gu,j,none⟩=false:=fun j=>by simp[World.frozen?,hcs1]
   have HCL1:=Hi hcl1;have HCS1:=Hi hcs1;have hbw1:Below gu w w1:=hbw.trans (hb1.mono (by rw[←HGU.out];exact hbw.size))
   go_wp2_with fail
   go_roundw
   case rel=>
    refine⟨k+1,by omega,by simp,⟨_,ZK _ _ _ _ _ _ HCS1.out⟩,fun j hj=>?_,?_⟩
    ·by_cases e:j=k
     ·subst e
      rw[World.cell?_setCell_same' w1 ⟨gu,j,none⟩ _ (by rw[HCL1.out j hj];rfl),Zu (by omega),HFX.out]
     ·have h1:=HCL1.out j hj
      rw[abC (w:=w1) (a:=⟨gu,k,none⟩) (b:=⟨gu,j,none⟩) (h:=by intro h;injection h with _ h2;omega),h1]
      simp only[show(j<k+1)=(j<k) from propext (by omega)]
    ·exact hbw1.setCell (Zw _) _
   case measure=>simp[intOf];omega
  ·have hke:k=js.length:=by omega
   subst hke;have hcl:∀j,j<(js.map F).length→Cq wr gu j (Iq ((js.map F).getD j 0))∧(js.map F).getD j 0≤100:=fun j hj=>by
    have hj':j<js.length:=by simpa using hj
    have h1:=HCL.out j hj';rw[Zu hj'] at h1;have e:(js.map F).getD j 0=F (js.getD j 0):=by simp[Zs,hj']
    rw[e];exact⟨h1,by have:=hF (js.getD j 0);omega⟩
   have W1:=wP (js.map F) 0 gu js.length wr (by simp;omega) (fun j hj=>(hcl j hj).1)
   have W2:=zU kd (js.map F) gu wr (by simpa using hn3) (by simpa using hn1) HKK.out (fun _=>trivial) (by simpa using HK14.out) hcl
   simp only[aaA] at W1 W2;have HBW:=Hi hbw;have c0':=(hbw.cell (p:=⟨b,0,none⟩) (by rw[←HGU.out];exact Zx w _ c0)).trans c0
   generalize fU kd (js.map F)=ov at*
   cases hct:(js.map F).contains 0 with
   |true=>
    rw[hct] at W1;have HE:Hid (r=0):=by show _=_;rw[←HR.out,hct,Zu rfl]
    go_wp2_with fail;apply W1.mono;rintro e w' ⟨rfl,rfl⟩;go_wp2;go_ret;exact⟨eV (by rw[HE.out];rfl),by rw[HGU.out];exact HBW.out⟩
   |false=>
    rw[hct] at W1;have HE:Hid (r=ov):=by show _=_;rw[←HR.out,hct];rfl
    go_wp2_with fail;apply W1.mono;rintro e w' ⟨rfl,rfl⟩;go_wp2_with fail;apply W2.mono;rintro e w2 ⟨rfl,hb2⟩;go_wp2;go_ret;exact⟨eV (by rw[HE.out]),by rw[HGU.out];exact HBW.out.trans (hb2.mono (by rw[←HGU.out];exact HBW.out.size))⟩
end Go.Proofs.YtfkdailfcmnjlaaGreatDoor
set_option maxHeartbeats 40000000
set_option maxRecDepth 1000000
namespace Go.Proofs.YtfkdailfcmnjlaaGreatDoor
open Go Go.RowKit Tryz
variable {bs : Nat}
variable {L:List Pt} {xs r:List dY} {its:List UInt8} {x:dY} {fr i t:Nat}
theorem xg {js:List Nat} {F:Nat→UInt8} (D:∀j∈js,F j=0∨me (F j)):(js.map fun j=>fh (F j)).contains 0=(js.map F).contains 0:=by
 rw[aaH,aaa,aaa,aav,aav];constructor
 ·rintro⟨j,z,e⟩;exact⟨j,z,(mP (D j z)).1 e⟩
 ·rintro⟨j,z,e⟩;exact⟨j,z,(mP (D j z)).2 e⟩
theorem GR:fh 0=0:=by decide
theorem B6 (hW:∀k,k<L.length→iK (L.getD k dh).tok) (ab:∀c∈its,me c) (ac:its.length≤xs.length) (ag:xs.length≤1001) (f:Nat):∀{U i b cap:Nat} {a:Option Addr} {w:World},eK f L U i→pW xs its.length L U (i+1)→ey bs L (N1 (dP (gA xs))) w i b→DS w a (fw (xs.take its.length) its)→
 Calls prog 111 #[Pq b,.slice a (fw (xs.take its.length) its).length cap] w fun e w'=>e= .returned (Iq (fh (eU xs its L f i)))∧Below w.heap.size w w':=by
 have V:=oG (xs.take its.length) its (by simp;omega)
 induction f with
 |zero=>intro U i b cap a w h;exact h.elim
 |succ f ih=>
  intro U i b cap a w D hG hC hS
  by_cases E:(L.getD i dh).tok.k=111
  ·obtain⟨Y,I⟩:=hG i D.le (by omega) E
   have Z: ¬dP (gA (xs.take its.length)) (L.getD i dh).tok.text<0:=fun h=>by have:=(ub _ Y xs its.length).1 h;omega
   have J:=wg its.length (xs:=xs) (s:=(L.getD i dh).tok.text) (by omega)
   have ad:(dP (gA (xs.take its.length)) (L.getD i dh).tok.text).toNat<(fw (xs.take its.length) its).length:=by
    rw[V];rcases zP (gA (xs.take its.length)) (L.getD i dh).tok.text with h|h
    ·omega
    ·rw[h] at Z;exact absurd (by simp[dP]) Z
   refine DU (its:=its) D hC hS ?_ E (by rw[J];omega) (by rw[J];exact ad) ?_
   ·rw[V]
    have:=vE (xs.take its.length);simp at this;omega
   ·rw[J,yv _ Y xs its ac I,eU,rR D.2.1 E]
    have e:fY xs its (L.getD i dh).tok ([].map (eU xs its L f))=(its.getD (dN xs (L.getD i dh).tok.text its.length).toNat 0).toNat:=by
     unfold fY;rw[Zt (by omega),Zu E]
    rw[e,abi];rfl
  ·by_cases O:(L.getD i dh).subs=[]
   ·have ha:gR (L.getD i dh).tok=true:=by
     rcases D.2.1 with⟨z,_⟩|⟨_,z⟩|⟨_,z⟩|⟨n,_,_,z⟩
     ·exact z
     all_goals (rw[O] at z;simp at z)
    have z:=(zN xs its (hW i D.1) ha E).1;have e:fh (eU xs its L (f+1) i)=rC (da (L.getD i dh).tok):=by
     rw[eU,O,←z];rfl
    rw[e];exact BY hC E O
   ·have R:=lM _ D.2.2
    have aa:∀j∈(L.getD i dh).subs,eU xs its L f j=0∨me (eU xs its L f j):=fun j G=>by
     obtain⟨ae,z,h2,h3⟩:=R j G;exact qy hW ab f h3 (fun q a b=>hG q (by omega) (by omega))
    have z:=BZ (a:=a) (m:=(fw (xs.take its.length) its).length) (cap:=cap) (fun j=>fh (eU xs its L f j)) (fun j=>BC _) hC E D.2.1 O (fun j G bj w1 af hb=>by
     obtain⟨ae,z,h2,h3⟩:=R j G;exact ih h3 (fun q a b=>hG q (by omega) (by omega)) af (hS.grow hb))
    have e:(if(((L.getD i dh).subs.map fun j=>fh (eU xs its L f j)).contains 0)=true then 0 else fU (da (L.getD i dh).tok) ((L.getD i dh).subs.map fun j=>fh (eU xs its L f j)))=fh (eU xs its L (f+1) i):=by
     rw[xg aa,eU]
     cases hc:((L.getD i dh).subs.map (eU xs its L f)).contains 0 with
     |true=>rw[Zu rfl,Zu rfl];exact GR.symm
     |false=>
      rw[Zt (by simp),Zt (by simp)]
      refine(zO D.2.1 O (F:=eU xs its L f) fun j G=>?_).1.symm
      rcases aa j G with I|I
      ·exfalso
       have:((L.getD i dh).subs.map (eU xs its L f)).contains 0=true:=by rw[aaa,←I];exact aaS G
       rw[hc] at this;simp at this
      ·exact I
    rw[e] at z;exact z
theorem kj (D:ic L) (z:jk L fr x.top) (hp:x.top+1=x.parts) (h:eM xs L (x::r) fr i=none):
 pW xs i L fr (x.top+1)∧eM xs L r x.parts (i+1)=none:=by
 have G:=(eK.res (xs:=xs) (n:=i) D.up z.fit).1;rw[we D z hp] at h
 by_cases I:x.name≠[]∧0≤dP (gA (xs.take i)) x.name
 ·rw[Zu I] at h;simp at h
 ·rw[Zt I] at h
  cases J:kr (nF xs i) (x.top+1) L x.top with
  |some p=>rw[J] at h;simp at h
  |none=>
   rw[J] at G h;refine⟨fun q h2 h3 O=>⟨D.own q (by have:=z.fit.lt;omega) O,(zz _ _ _ G).2 q h2 (by have:=z.fit.le;omega) O⟩,h⟩
theorem B7 {c:UInt8} (D:c=eU xs its L (x.top+1) x.top) (E:t=fh c) (z:c=0∨me c):
 fA xs L (x::r) its=if t=0∨(x.name=[]∧t≠2) then some x.pl else fA xs L r (its++[c]):=by
 rw[fA,←D,E];have G:c.toNat=0↔fh c=0:=by rcases z with rfl|rfl|rfl|rfl<;>decide
 have I:c.toNat=116↔fh c=2:=by rcases z with rfl|rfl|rfl|rfl<;>decide
 simp only[G,ne_eq,I]
end Go.Proofs.YtfkdailfcmnjlaaGreatDoor
set_option maxHeartbeats 40000000
set_option maxRecDepth 1000000
namespace Go.Proofs.YtfkdailfcmnjlaaGreatDoor
open Go Go.RowKit Tryz
attribute [local go_sem ↓] Go.wp_at_zero Go.wp_at_succ
variable {bs : Nat}
variable {w:World} {base:Nat} {v:Value}
theorem Nh {l:List Nat} (h:w.ownsRow base 220 1 v l.length (l.map fun(n:Nat)=>Value.int .i64 n)):∃a cap,v= .slice a l.length cap∧DS w a l:=by
 obtain⟨R,h⟩:=h;rcases h with⟨rfl,G⟩|⟨g,cap,z,rfl,U,I,V,Y,h3,J⟩
 ·exact⟨none,0,by rw[G],fun k E=>by omega⟩
 ·refine⟨_,cap,rfl,fun k E=>⟨g,rfl,?_⟩⟩
  rw[Zz w g k _ _ _ I];have O:z[k]?=(z.toList.take (l.length*1))[k]?:=by
   rw[aaD (by omega)];simp
  rw[O,J];simp[E,Zs]
theorem GS {L:List Pt} (hL:ic L) (hW:∀k,k<L.length→iK (L.getD k dh).tok) {xs:List dY} {ys:List (Tok×Tok×Nat×Int)} (hrow:w.ownsRow base 163 10 v ys.length (dV ys)) (hy:ys.length≤1001)
 (hit:dQ (ey bs L (N1 (dP (gA xs))) w) xs ys) (htr:fB L xs 0) (hnm:eM xs L xs 0 0=none):
 Calls prog 59 #[v] w fun e w'=>e= .returned (Gz (fA xs L xs []))∧Below w.heap.size w w':=by
 obtain⟨a,cap,rfl,hcell⟩:=lD hrow;obtain⟨i0,hi,hz0,hz1,hz2⟩:=abF yU;have hlen:=Hi hit.len;have hlx:Hid (xs.length≤1001):=by show _≤_;rw[←hit.len];exact hy
 have HC:=Hi hcell;have HT:=Hi hit;have HTR:=Hi htr;have HL:=Hi hL;have HNM:=Hi hnm;have HW:=Hi hW;clear hrow hcell hit htr hL hnm hW;go_enter func59,ntmps59;go_wp2
 go_loopw [4,10] (fun lv kv wr=> ∃k fr its,k≤ys.length∧kv= Iq k∧Hid (fA xs L xs []=fA xs L (xs.drop k) its)∧Hid (its.length=k∧ ∀c∈its,me c)∧Hid (eM xs L (xs.drop k) fr k=none)∧Hid (fB L (xs.drop k) fr)∧Hid (dQ (ey bs L (N1 (dP (gA xs))) w) (xs.drop k) (ys.drop k))∧wr.ownsRow w.heap.size 220 1 lv (fw (xs.take k) its).length ((fw (xs.take k) its).map fun(n:Nat)=>Value.int .i64 n)∧Below w.heap.size w wr) (fun _ kv _=>ys.length - (intOf kv).toNat)
 case atStart=>exact⟨0,0,[],ZL _,rfl,rfl,⟨rfl,by simp⟩,HNM.out,HTR.out,HT.out,aam _ _ _ _,ZA _ _⟩
 case round=>
  obtain⟨k,fr,its,hk,rfl,HM,HIS,HNM2,HTR2,HIT2,hown,hbw⟩:=hrel
  by_cases hlt:k<ys.length
  ·have hltx:k<xs.length:=by rw[←hlen.out];exact hlt
   obtain⟨hisl,hisy⟩:=HIS.out;have hll:=oG (xs.take k) its (by rw[hisl];simp;omega)
   have hgl:=vE (xs.take k);have hgl2:(fw (xs.take k) its).length≤k:=by rw[hll];exact Z8 hgl (by simp;omega)
   clear hll hgl;have ht2:=HTR2.out;have hi2:=HIT2.out;have hn2:=HNM2.out;rw[fF hltx eh] at ht2 hi2 hn2;rw[fF hltx eh] at HM;rw[fF hlt (ff,ff,0,0)] at hi2;obtain⟨g,rfl,⟨gcs,hgc⟩,hcells⟩:=HC.out k hlt;have HTX:=Hi (qC hltx eh);generalize xs.getD k eh=x at*;generalize ys.getD k (ff,ff,0,0)=y at*;obtain⟨⟨hCd,hO⟩,hi2⟩:=hi2;obtain⟨hTr,hpt,ht2⟩:=ht2;obtain⟨hgv,hn2⟩:=kj HL.out hTr hpt hn2;obtain⟨t0,u0,b,wh⟩:=y;simp only[] at hCd hO;have hct:∀j,j<10→wr.cell? ⟨g,k*10+j,none⟩=(fC (t0,u0,b,wh))[j]?:=fun j hj=>by
    rw[hbw.cell (p:=⟨g,k*10+j,none⟩) (be hgc)];exact hcells j hj
   have c0:=hct 0 (by omega)
   have c1:=hct 1 (by omega)
   have c2:=hct 2 (by omega)
   have c3:=hct 3 (by omega)
   have c4:=hct 4 (by omega)
   have c5:=hct 5 (by omega)
   have c6:=hct 6 (by omega)
   have c7:=hct 7 (by omega)
   have c8:=hct 8 (by omega)
   have c9:=hct 9 (by omega)
   simp[fC] at c0 c1 c2 c3 c4 c5 c6 c7 c8 c9;have hTF:=hTr.fit;obtain⟨al,capl,rfl,hSt⟩:=Nh hown;have hb0:Below wr.heap.size wr (wr.alloc (.cells #[Iq (da t0),Iq t0.pl,Iq (dz t0),S (di t0),Iq (da u0),Iq u0.pl,Iq (dz u0),S (di u0),Iq wh,Pq b] 163 (0,0))):=(ZA _ _).alloc (Zw _) _;have hbw0:Below w.heap.size w (wr.alloc (.cells #[Iq (da t0),Iq t0.pl,Iq (dz t0),S (di t0),Iq (da u0),Iq u0.pl,Iq (dz u0),S (di u0),Iq wh,Pq b] 163 (0,0))):=hbw.alloc hbw.size _;have hgv':pW xs its.length L fr (x.top+1):=by rw[hisl];exact hgv
   have hSt':DS (wr.alloc (.cells #[Iq (da t0),Iq t0.pl,Iq (dz t0),S (di t0),Iq (da u0),Iq u0.pl,Iq (dz u0),S (di u0),Iq wh,Pq b] 163 (0,0))) al (fw (xs.take its.length) its):=by rw[hisl];exact hSt.grow hb0
   have W1:=B6 (cap:=capl) HW.out hisy (by rw[hisl];omega) hlx.out (x.top+1) hTF hgv' (hCd.grow hbw0) hSt'
   rw[hisl] at W1;have hty:=qy (xs:=xs) HW.out hisy (x.top+1) hTF hgv';have HST:=Hi (B7 (r:=xs.drop (k+1)) rfl rfl hty);have htc:=BC (eU xs its L (x.top+1) x.top);have hty2:Hid (fh (eU xs its L (x.top+1) x.top)≠0→me (eU xs its L (x.top+1) x.top)):=fun h=>by
    rcases hty with h0|h0
    ·exact absurd (by rw[h0];decide) h
    ·exact h0
   have hown0:=dn hown hb0;have hz0':(wr.alloc (.cells #[Iq (da t0),Iq t0.pl,Iq (dz t0),S (di t0),Iq (da u0),Iq u0.pl,Iq (dz u0),S (di u0),Iq wh,Pq b] 163 (0,0))).heap[wr.heap.size]?=_:=Zy wr _;have HTR3:=Hi ht2;have HIT3:=Hi hi2;have HNM3:=Hi hn2;have hFw:=Hi hbw0;have hOwn:=Hi hown0;have HIL:=Hi hisl;have HIY:=Hi hisy;unfold yh at hO;have hp1:t0.pl=x.pl:=by rcases hO with hO|hO<;>exact hO.2.2.1
   have hp0':=Hi hp1;clear hp1 hTr hTF hCd ht2 hi2 hct hcells hSt hbw hown hb0 hbw0 hgc HTR2 HIT2 HNM2 hown0 HTR HT HNM hgv hgv' hSt' hty hisl hisy hn2 HIS;generalize hkd0:da t0=kd at*;generalize u0.pl=m5 at*;generalize di u0=s7 at*;generalize t0.pl=p0 at*;generalize dz t0=m2 at*;generalize di t0=s3 at*;generalize da u0=m4 at*;generalize dz u0=m6 at*;generalize htyc:eU xs its L (x.top+1) x.top=tc at*;clear htyc;generalize htt:fh tc=tt at*;have HTT:=Hi htt;clear htt;generalize hlts:fw (xs.take k) its=lts at*;have HLT:=Hi hlts;clear hlts;rcases hO with hO|hO
   ·have hkd:kd=11:=hO.2.1
    subst hkd;have HNE:=Hi hO.1
    skip
    clear hO hkd0;go_wp2_with fail;apply W1.mono;rintro e w1 ⟨rfl,hb1⟩;clear W1 c0 c1 c2 c3 c4 c5 c6 c7 c8 c9;have hz1':=(hb1.block _ (be hz0')).trans hz0';have hBw:=Hi (hFw.out.trans (hb1.mono hFw.out.size));have hown1:=dn hOwn.out hb1;have hs1:=hBw.out.size;obtain⟨⟨z0,z1,z2,z3,z4,z5,z6,z7,z8,z9⟩,zf⟩:=eo hz1';clear hz1' hz0' hb1 hFw hOwn;generalize wr.heap.size=bi at*
    by_cases h0:tt=0
    ·subst h0
     go_wp2;refine ZH (v:= .tuple #[Iq p0,.bool false]) (by simp[results,results59,go_sem]) rfl ⟨?_,hBw.out⟩
     rw[HM.out,HST.out,Zu (by simp),←hp0'.out];rfl
    ·have h02:((tt:Int)==(0:Int))=false:=by
      have: ¬((tt:Int)=0):=by omega
      simpa using this
     have H0:=Hi h0;clear h0
     go_wp2_with (
      at_builtin
      go_must (refine wpList_append_lies _ (by rfl) _ _ 219 (by rfl) w.heap.size 220 i0 (Iq 0) 1 8 underlying219 hi hz0 hz1 hz2 (by rfl) (by decide) _ _ _ (by rfl) (hown1.alloc _) ⟨w1.heap.size,0,none⟩ 1 1 [Iq tt] (by rfl) (by rfl) (World.news_of_block (Zy w1 _)) (fun x hx=>by simp at hx;rcases hx with rfl;rfl) (by decide) (by unfold maxLen;omega) (by omega) (by simp;omega) _ rfl ?_)
      intro g3 cap3 w3 hown3 hgrow3 hat hlt3)
     refine⟨⟨k+1,x.parts,its++[tc],by omega,by simp,?_,⟨by simp[HIL.out],?_⟩,HNM3.out,HTR3.out,HIT3.out,?_,rT hBw.out hown1 hgrow3⟩,by simp[intOf];omega⟩
     ·show _=_
      rw[HM.out,HST.out,Zt (fun e=>by rcases e with e|e;exact H0.out e;exact HNE.out e.1)]
     ·intro c hc
      simp at hc;rcases hc with hc|rfl
      ·exact HIY.out c hc
      ·exact hty2.out H0.out
     ·have e:fw (xs.take (k+1)) (its++[tc])=lts++[tt]:=by
       rw[HTX.out,pO _ _ _ _ (by rw[HIL.out];simp;omega),Zt HNE.out,HLT.out,HTT.out]
      rw[e];simpa using hown3
   ·have hkd:((kd:Int)==(11:Int))=false:=by
     have h1:=hO.2.1;have: ¬((kd:Int)=11):=by split at h1<;>omega
     simpa using this
    have HNE:=Hi hO.1;have hkd2:((kd:Int) !=(11:Int))=true:=by simpa using hkd
    clear hO hkd0;go_wp2_with fail;apply W1.mono;rintro e w1 ⟨rfl,hb1⟩;clear W1 c0 c1 c2 c3 c4 c5 c6 c7 c8 c9;have hz1':=(hb1.block _ (be hz0')).trans hz0';have hBw:=Hi (hFw.out.trans (hb1.mono hFw.out.size));have hown1:=dn hOwn.out hb1;obtain⟨⟨z0,z1,z2,z3,z4,z5,z6,z7,z8,z9⟩,zf⟩:=eo hz1';clear hz1' hz0' hb1 hFw hOwn;generalize wr.heap.size=bi at*
    by_cases h0:tt=0
    ·subst h0
     go_wp2;refine ZH (v:= .tuple #[Iq p0,.bool false]) (by simp[results,results59,go_sem]) rfl ⟨?_,hBw.out⟩
     rw[HM.out,HST.out,Zu (by simp),←hp0'.out];rfl
    ·have h02:((tt:Int)==(0:Int))=false:=by
      have: ¬((tt:Int)=0):=by omega
      simpa using this
     have H0:=Hi h0;clear h0
     by_cases h2:tt=2
     ·subst h2
      clear h02;go_wp2;refine⟨⟨k+1,x.parts,its++[tc],by omega,by simp,?_,⟨by simp[HIL.out],?_⟩,HNM3.out,HTR3.out,HIT3.out,?_,hBw.out⟩,by simp[intOf];omega⟩
      ·show _=_
       rw[HM.out,HST.out,Zt (fun e=>by rcases e with e|e;exact absurd e (by decide);simp at e)]
      ·intro c hc
       simp at hc;rcases hc with hc|rfl
       ·exact HIY.out c hc
       ·exact hty2.out H0.out
      ·have e:fw (xs.take (k+1)) (its++[tc])=lts:=by
        rw[HTX.out,pO _ _ _ _ (by rw[HIL.out];simp;omega),Zu HNE.out,HLT.out]
       rw[e];exact hown1
     ·have h22:((tt:Int)==(2:Int))=false:=by
       have: ¬((tt:Int)=2):=by omega
       simpa using this
      have H2:=Hi h2;clear h2;go_wp2;refine ZH (v:= .tuple #[Iq p0,.bool false]) (by simp[results,results59,go_sem]) rfl ⟨?_,hBw.out⟩
      rw[HM.out,HST.out,Zu (.inr ⟨HNE.out,H2.out⟩),←hp0'.out];rfl
  ·have hke:k=ys.length:=by omega
   subst hke;have hm:Hid (fA xs L xs []=none):=by
    have:=HM.out;rw[aab (by rw[hlen.out];exact Zw _)] at this
    exact this
   go_wp2;refine ZH (v:= .tuple #[Iq 0,.bool true]) (by simp[results,results59,go_sem]) rfl ⟨?_,hbw⟩
   rw[hm.out];rfl
end Go.Proofs.YtfkdailfcmnjlaaGreatDoor
set_option maxHeartbeats 40000000
set_option maxRecDepth 1000000
namespace Go.Proofs.YtfkdailfcmnjlaaGreatDoor
open Go Go.RowKit Tryz
variable {bs : Nat}
structure Ft (ts:List Tok) (a:Nat):Prop where
 sorted:vZ ts
 tokw:∀t∈ts,iK t
 own:∀t∈ts,t.k=111→t.text≠[]
 from_:∀t∈ts,a≤t.pl
 pos:0<ts.length
 fin:da (dc ts (ts.length - 1))=0
variable {base g F:Nat} {ts:List Tok}
theorem pd (t:Tok) (ts:List Tok) (n:Nat):dc (t::ts) (n+1)=dc ts n:=by unfold dc;simp
theorem xh (t:Tok) (ts:List Tok):dc (t::ts) 0=t:=by unfold dc;simp
theorem qL (l:List UInt8) (f:Nat):∀(a:Nat) (ts:List Tok),a≤l.length→l.length - a<f→nx f l a=(ts,none)→Ft ts a∧ts.length≤l.length - a+1:=by
 induction f with
 |zero=>intro a ts _ h;omega
 |succ f ih=>
  intro a ts R hf h;have h1:=sF lL l a;have h2:=mu lL l a R;rw[nx] at h
  by_cases U:l.length≤eA lL l a
  ·rw[Zu U] at h;simp at h;subst h
   refine⟨⟨?_,?_,?_,?_,by simp,by simp[dc,da]⟩,by simp⟩
   ·intro m n Y D;simp at D;omega
   ·intro t E;simp at E;subst E;exact .inr (.inr (.inl rfl))
   ·intro t E;simp at E;subst E;simp
   ·intro t E;simp at E;subst E;exact R
  ·rw[Zt U] at h
   cases I:ji l (eA lL l a) with
   |none=>rw[I] at h;simp at h
   |some t=>
    rw[I] at h;simp only[ZT] at h;obtain⟨rfl,D⟩:=h;obtain⟨V,w2,Z,w4⟩:=oJ (by omega) I
    obtain⟨G,i2⟩:=ih (eA lL l a+t.text.length) (nx f l (eA lL l a+t.text.length)).1 (by omega) (by omega) (by rw[←D])
    generalize (nx f l (eA lL l a+t.text.length)).1=J at*;have O:∀n,n<J.length→eA lL l a+t.text.length≤(dc J n).pl:=fun n D=>G.from_ _ (jx D)
    refine⟨⟨?_,?_,?_,?_,by simp,?_⟩,by simp;omega⟩
    ·intro m n Y D
     cases n with
     |zero=>omega
     |succ n=>
      simp at D;rw[pd]
      cases m with
      |zero=>rw[xh,Z];have:=O n D;omega
      |succ m=>rw[pd];exact G.sorted m n (by omega) D
    ·intro u z;simp at z;rcases z with rfl|z
     ·exact Jf l _ (by omega) _ I
     ·exact G.tokw u z
    ·intro u z;simp at z;rcases z with rfl|z
     ·intro _ e;rw[e] at V;simp at V
     ·exact G.own u z
    ·intro u z;simp at z;rcases z with rfl|z
     ·omega
     ·have:=G.from_ u z;omega
    ·have hp:=G.pos
     have e:(t::J).length - 1=(J.length - 1)+1:=by simp;omega
     rw[e,pd];exact G.fin
theorem DZ {w:World} {cap:Nat} (hp:0<ts.length) (h:w.ownsRow base 160 4 (Sq g ts.length cap) ts.length (oM ts)):
 (∃cs,w.heap[g]?=some (.cells cs 160 (0,0)))∧ ∀i,i<ts.length→Cq w g (i*4) (Iq (da (dc ts i)))∧Cq w g (i*4+1) (Iq (dc ts i).pl)∧Cq w g (i*4+2) (Iq (dz (dc ts i)))∧Cq w g (i*4+3) (S (di (dc ts i))):=by
 obtain⟨hl,h⟩:=h;rcases h with⟨O,_⟩|⟨g',R,D,e,hb,G,h1,h2,h3,U⟩
 ·simp at O
 ·simp only[aak,ZR,aaJ] at e
  obtain⟨⟨rfl,_⟩,_,rfl⟩:=e;refine⟨⟨D,G⟩,fun i V=>?_⟩
  have z:∀j,j<4→w.cell? ⟨g,i*4+j,none⟩=(yE (dc ts i))[j]?:=fun j hj=>by
   rw[Zz w g (i*4+j) _ _ _ G];have Y:D[i*4+j]?=(D.toList.take (ts.length*4))[i*4+j]?:=by
    rw[aaD (by omega)];simp
   rw[Y,U];have:∀(ts:List Tok) (k:Nat),k<ts.length→(oM ts)[k*4+j]?=(yE (dc ts k))[j]?:=by
    intro ts
    induction ts with
    |nil=>intro k E;simp at E
    |cons y ys ih=>
     intro k E;have I:oM (y::ys)=yE y++oM ys:=rfl;have Z:(yE y).length=4:=rfl
     cases k with
     |zero=>rw[I,aah (by omega),xh];simp
     |succ k=>
      rw[I,aaf (by omega),Z,show(k+1)*4+j - 4=k*4+j from by omega,ih k (by simpa using E),pd]
   exact this ts i V
  exact⟨z 0 (by omega),z 1 (by omega),z 2 (by omega),z 3 (by omega)⟩
theorem qM {R:rP} (z:Ft ts 0) (Z:ts.length≤1001) (h:fs F ts g 0 [] []=some R) (U:R.ok=true):
 fB R.L R.xs 0∧ic R.L∧(∀k,k<R.L.length→iK (R.L.getD k dh).tok):=by
 obtain⟨V,D,h3,h4⟩:=uY z.sorted g 0 [] [] R rfl ⟨by simp,by simp,by simp⟩ (by simp) (by omega) h U
 refine⟨V,⟨D.2.1,fun k E Y=>z.own _ (D.2.2 k E) Y,by omega⟩,fun k E=>z.tokw _ (D.2.2 k E)⟩
end Go.Proofs.YtfkdailfcmnjlaaGreatDoor
namespace Go.Proofs.YtfkdailfcmnjlaaGreatDoor
open Go Go.RowKit Tryz
attribute [local go_sem ↓] Go.wp_at_zero Go.wp_at_succ
structure xi (bs:Nat) (L:List Pt) (xs:List dY) (base:Nat) (v:Value) (ys:List (Tok×Tok×Nat×Int)) (w:World):Prop where
 row:w.ownsRow base 163 10 v ys.length (dV ys)
 few:ys.length≤1001
 items:dQ (ey bs L (N1 (dP (gA xs))) w) xs ys
 trees:fB L xs 0
 parts:ic L
 tokw:∀k,k<L.length→iK (L.getD k dh).tok
 names:eM xs L xs 0 0=none
 types:fA xs L xs []=none
 numb:sT 0 0 xs ys
 many:ir L xs 0 0=none
def Fu (er pl:Nat) (L:List Pt) (xs:List dY) (w:World) (e:Ending) (w':World):Prop:=
 Below w.heap.size w w'∧ ∃v,e= .returned (.tuple #[v,Iq er,Iq pl])∧(er=0→ ∃D ys,w.heap.size≤D∧xi D L xs w.heap.size v ys w')
theorem D0 (l:List UInt8) (w:World) (h:1000<l.length) (z:l.length≤maxLen) (L:List Pt) (xs:List dY):Calls prog 32 #[S l] w (Fu 1 0 L xs w):=by
 unfold maxLen at z;go_enter func32,ntmps32;go_wp2;refine ZH (v:= .tuple #[.slice none 0 0,Iq 1,Iq 0]) (by simp[results,results32,go_sem]) rfl ?_
 exact⟨ZA _ _,_,rfl,fun e=>by simp at e⟩
theorem D2 (l:List UInt8) (w:World) (hW:Wd w) (h:l.length≤1000) (ts:List Tok) (p:Nat) (D:nx (l.length+1) l 0=(ts,some p)) (L:List Pt) (xs:List dY):Calls prog 32 #[S l] w (Fu 2 p L xs w):=by
 have z:=yF l w hW h;unfold wI at z;rw[D] at z;simp only[] at z;go_enter func32,ntmps32;go_wp2_with fail;apply z.mono;rintro e G ⟨E,rfl⟩;go_wp2;refine ZH (v:= .tuple #[.slice none 0 0,Iq 2,Iq p]) (by simp[results,results32,go_sem]) rfl ?_
 exact⟨E,_,rfl,fun e=>by simp at e⟩
theorem dQ.grow {z:Nat} {L:List Pt} {N:Tok→Int→Prop} {w w':World} (D:Below w.heap.size w w') {xs:List dY} {ys:List (Tok×Tok×Nat×Int)} (h:dQ (ey z L N w) xs ys):dQ (ey z L N w') xs ys:=h.mono fun _ _ h=>h.grow D
theorem B8 (l:List UInt8) (w:World) (hW:Wd w) (h:l.length≤1000) (ts:List Tok) (hx:nx (l.length+1) l 0=(ts,none)) {F g:Nat} {R:rP} (hR:fs F ts g 0 [] []=some R):
 Calls prog 32 #[S l] w (Fu (eC ts R).1 (eC ts R).2 R.L R.xs w):=by
 obtain⟨aw,aE⟩:=qL l (l.length+1) 0 ts (ZL _) (by omega) hx
 have HS:=yF l w hW h;unfold wI at HS;rw[hx] at HS;simp only[] at HS;have HR:=Hi hR;have E:=Hi aw;have aj:ts.length≤1001:=by omega
 have hV:Hid (eC ts R=eC ts R):=rfl;generalize hv:eC ts R=vd at*;have HV:=Hi hv;go_enter func32,ntmps32;go_wp2_with fail;apply HS.mono;rintro e w1 ⟨ax,gw,cap,rfl,ad⟩;obtain⟨ak,am⟩:=DZ E.out.pos ad;have W1:=Gw (F:=F) (cl:=cap) (w:=w1) E.out.tokw E.out.own E.out.pos aj E.out.fin ak am HR.out;have z:=Hi ax;go_wp2_with fail;apply W1.mono;rintro e w2 ⟨ae,⟨ok,rfl⟩|⟨ok,v,ys,rfl,af,aa,ay,az⟩⟩
 ·clear W1
  have I:Hid (vd=(3,(dc ts R.i).pl)):=by show _=_;rw[←HV.out];unfold eC;rw[Zu ok]
  have D:=Hi (z.out.trans (ae.mono z.out.size));generalize (dc ts R.i).pl=pp at*;go_wp2;refine ZH (v:= .tuple #[.slice none 0 0,Iq 3,Iq pp]) (by simp[results,results32,go_sem]) rfl ?_
  rw[I.out];exact⟨D.out,_,rfl,fun e=>by simp at e⟩
 ·clear W1
  obtain⟨an,ao,aA⟩:=qM E.out aj HR.out ok;have ab:dQ (ey w1.heap.size R.L (N0 (dP (gA R.xs))) w2) R.xs ys:=ay.mono fun i b hc=>hc.toS fun k hk=> .inl rfl
  have U:=Lu ao.few aa af ab an az;have D:=Hi (z.out.trans (ae.mono z.out.size));have ap:=Hi an;have aq:Hid (ic R.L):=ao;have aB:=Hi aA;have aC:=Hi ab;have ar:Hid (w2.ownsRow w.heap.size 163 10 v ys.length (dV ys)):=by
   obtain⟨q1,q2⟩:=aa;refine⟨q1,?_⟩;rcases q2 with q2|⟨g',c',aF,q3,q4,q5⟩
   ·exact .inl q2
   ·exact .inr ⟨g',c',aF,q3,Z8 z.out.size q4,q5⟩
  have ag:=Hi ok;have au:Hid (w.heap.size≤w1.heap.size):=z.out.size
  cases hm:ir R.L R.xs 0 0 with
  |some p=>
   rw[hm] at U;have I:Hid (vd=(4,p)):=by show _=_;rw[←HV.out];unfold eC;rw[Zt (by rw[ag.out];simp),hm]
   unfold Gz at U;go_wp2_with fail;apply U.mono;rintro e w3 ⟨rfl,G⟩;go_wp2;refine ZH (v:= .tuple #[.slice none 0 0,Iq 4,Iq p]) (by simp[results,results32,go_sem]) rfl ?_
   rw[I.out];exact⟨D.out.trans (G.mono D.out.size),_,rfl,fun e=>by simp at e⟩
  |none=>
   rw[hm] at U;have HM:=Hi hm;unfold Gz at U;go_wp2_with fail;apply U.mono;rintro e w3 ⟨rfl,G⟩;have J:=dn ar.out G;have W3:=BB aq.out J af (aC.out.grow G) ap.out;have V:=Hi (D.out.trans (G.mono D.out.size));have ah:=Hi J;go_wp2_with fail;apply W3.mono;rintro e w4 (⟨p,hn,rfl,hf⟩|⟨hn,rfl,hf,ac⟩)
   ·clear W3
    have I:Hid (vd=(5,p)):=by show _=_;rw[←HV.out];unfold eC;rw[Zt (by rw[ag.out];simp),HM.out];simp only[];rw[hn]
    go_wp2;refine ZH (v:= .tuple #[.slice none 0 0,Iq 5,Iq p]) (by simp[results,results32,go_sem]) rfl ?_
    rw[I.out];exact⟨V.out.trans (hf.below au.out V.out.size),_,rfl,fun e=>by simp at e⟩
   ·clear W3
    have O:=oS ah.out (by decide) hf
    have Y:=GS aq.out aB.out O af ac ap.out hn;have ai:Hid (Below w.heap.size w w4):=V.out.trans ((hf.mono fun _ _ _ _ h=>h.1:RF (SB w1.heap.size) w3 w4).below au.out V.out.size)
    have aD:=Hi ac;have HN:=Hi hn;have av:=Hi O
    cases ht:fA R.xs R.L R.xs [] with
    |some p=>
     rw[ht] at Y;have I:Hid (vd=(6,p)):=by show _=_;rw[←HV.out];unfold eC;rw[Zt (by rw[ag.out];simp),HM.out];simp only[];rw[HN.out];simp only[];rw[ht]
     unfold Gz at Y;go_wp2_with fail;apply Y.mono;rintro e w5 ⟨rfl,Z⟩;go_wp2;refine ZH (v:= .tuple #[.slice none 0 0,Iq 6,Iq p]) (by simp[results,results32,go_sem]) rfl ?_
     rw[I.out];exact⟨ai.out.trans (Z.mono ai.out.size),_,rfl,fun e=>by simp at e⟩
    |none=>
     rw[ht] at Y;have I:Hid (vd=(0,0)):=by show _=_;rw[←HV.out];unfold eC;rw[Zt (by rw[ag.out];simp),HM.out];simp only[];rw[HN.out];simp only[];rw[ht]
     have aG:=Hi ht;unfold Gz at Y;go_wp2_with fail;apply Y.mono;rintro e w5 ⟨rfl,Z⟩;go_wp2;refine ZH (v:= .tuple #[v,Iq 0,Iq 0]) (by simp[results,results32,go_sem]) rfl ?_
     rw[I.out];exact⟨ai.out.trans (Z.mono ai.out.size),_,rfl,fun _=>⟨w1.heap.size,ys,au.out,dn av.out Z,af,aD.out.grow Z,ap.out,aq.out,aB.out,HN.out,aG.out,az,HM.out⟩⟩
theorem uC (l:List UInt8) (w:World) (hW:Wd w) (I:l.length≤maxLen):Calls prog 32 #[S l] w (Fu (du l).1.1 (du l).1.2 (du l).2.1 (du l).2.2 w):=by
 unfold du
 by_cases D:1000<l.length
 ·rw[Zu D];exact D0 l w D I _ _
 ·rw[Zt D]
  cases E:(nx (l.length+1) l 0).2 with
  |some p=>exact D2 l w hW (by omega) (nx (l.length+1) l 0).1 p (by rw[←E]) _ _
  |none=>
   have z:nx (l.length+1) l 0=((nx (l.length+1) l 0).1,none):=by rw[←E]
   obtain⟨O,U,V,J,Y⟩:=zI l (by omega) (l.length+1) 0 _ (ZL _) (by omega) z
   generalize (nx (l.length+1) l 0).1=ts at*;obtain⟨R,G⟩:=nH (F:=16*ts.length+8) (Zw _) J (ts.length+1) 0 [] [] (by omega)
   have e:pF ts=R:=by unfold pF;rw[G];rfl
   rw[e];exact B8 l w hW (by omega) ts z G
theorem xj (l:List UInt8):(du l).1.1≤6:=by
 unfold du
 split
 ·simp
 ·split
  ·simp
  ·unfold eC
   repeat' split
   all_goals simp
theorem xk (l:List UInt8) (w:World) (hW:Wd w) (D:l.length≤maxLen):Calls prog 11 #[S l] w fun e w'=>e= .returned (.tuple #[Iq (du l).1.1,Iq (du l).1.2])∧Below w.heap.size w w':=by
 have z:=uC l w hW D;generalize (du l).1.1=n at*;generalize (du l).1.2=k at*;generalize (du l).2.1=L at*;generalize (du l).2.2=xs at*;go_enter func11,ntmps11;go_wp2_with fail;apply z.mono;rintro e G ⟨E,v,rfl,_⟩;go_wp2;refine ZH (v:= .tuple #[Iq n,Iq k]) (by simp[results,results11,go_sem]) rfl ?_
 exact⟨rfl,E⟩
end Go.Proofs.YtfkdailfcmnjlaaGreatDoor
