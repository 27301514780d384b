/-
  A part.
-/
import Derived.Test.YtfkdailfcmnjlaaGreatDoorMeant27
import Derived.Shelf.SlicesQ.Reverse
import Derived.Ground.SlgnProg
set_option linter.unusedVariables false
set_option linter.unusedSimpArgs false
set_option maxHeartbeats 40000000
set_option maxRecDepth 1000000
namespace Go.Proofs
open Go.Shelf
def YtfkdailfcmnjlaaGreatDoor.reverseItem_ren:Go.Shelf.Ren:=⟨fun | 35 => 178 | n => n, fun | 22 => 84 | 23 => 163 | 3 => 3 | 4 => 4 | 0 => 0 | n => n, fun | n => n⟩
theorem YtfkdailfcmnjlaaGreatDoor.reverseItem:Go.Proofs.SlLaysE0.n35 Tryz.prog YtfkdailfcmnjlaaGreatDoor.reverseItem_ren:={
 mixed:=by kernel_rfl
 f35:=⟨Tryz.f178.name, by decide, Tryz.func178.trans (congrArg some (by kernel_rfl))⟩
 t0:=Tryz.underlying0
 a0:=Tryz.isAgg0
 z0:=Tryz.sizeOf0
 v0:=Tryz.zeroValue0
 t3:=Tryz.underlying3
 a3:=Tryz.isAgg3
 z3:=Tryz.sizeOf3
 v3:=Tryz.zeroValue3
 t4:=Tryz.underlying4
 a4:=Tryz.isAgg4
 z4:=Tryz.sizeOf4
 v4:=Tryz.zeroValue4
 t22:=Tryz.underlying84
 a22:=Tryz.isAgg84
 z22:=Tryz.sizeOf84
 v22:=Tryz.zeroValue84 }
end Go.Proofs
namespace Go.Proofs.YtfkdailfcmnjlaaGreatDoor
open Go Go.RowKit Tryz
open Go.Sort (HoldsK putRowK flatK size_flatK get_flatK holdsK_putRowK holdsK_ahead)
variable {i base g:Nat} {ys:List Yt}
theorem KV [Inhabited Yt] (ys : List Yt) (h : i < ys.length) : ys.toArray[i]! = ys.getD i CY := by
  rw [getElem!_pos ys.toArray i (by simpa using h), Zs, Zv h]; simp
theorem qY (y:Yt):(fC y).length=10:=rfl
theorem IA (y:Yt):∀v∈fC y,v.oneCell'=true:=fun v z=>by
 unfold fC at z;simp only[ZU,aal,abk] at z;rcases z with rfl|rfl|rfl|rfl|rfl|rfl|rfl|rfl|rfl|rfl<;>rfl
theorem IB [Inhabited Yt] {w : World} {cap:Nat} (h : w.ownsRow base 163 10 (Sq g ys.length cap) ys.length (dV ys)) : HoldsK fC 10 w g 0 ys.toArray := by
  intro t ht;rw [size_flatK] at ht;simp only [acm] at ht;have hth := Iz h (o := 0) (m := ys.length * 10) (by omega) t ht
  rw [aaq] at hth ⊢;refine ⟨?_, hth.2⟩;obtain ⟨a, cap', e, hc⟩ := lD h;simp only [aak, abf] at e;obtain ⟨rfl, rfl⟩ := e;have hd : t / 10 < ys.length := by omega
  obtain ⟨g', e, _, hj⟩ := hc (t / 10) hd;simp only [ZR, aaJ, aby] at e;subst e;have := hj (t % 10) (Nat.mod_lt _ (by decide))
  rw [Nat.div_add_mod' t 10] at this;rw [this, get_flatK _ _ _ _ (by simpa using ht), KV ys hd]
  have hl : t % 10 < (fC (ys.getD (t / 10) CY)).length := by rw [qY]; exact Nat.mod_lt _ (by decide)
  show (fC (ys.getD (t / 10) CY))[t % 10]? = some ((fC (ys.getD (t / 10) CY))[t % 10]!)
  rw [Zv hl, getElem!_pos (fC (ys.getD (t / 10) CY)) (t % 10) hl]
theorem IC [Inhabited Yt] {w : World} {cap:Nat} (h : HoldsK fC 10 w g 0 ys.toArray) : l6 w (Sq g ys.length cap) ys := by
  refine ⟨_, cap, rfl, fun k hk => ⟨g, rfl, ?_, fun j hj => ?_⟩⟩
  · have := (h.cell (i := k) (c := 0) (by simpa using hk) (by decide)).1
    exact Zx w _ this
  · have := (h.cell (i := k) (c := j) (by simpa using hk) hj).1
    rw [aaq, KV ys hk] at this;rw [this, Zv (by rw [qY]; exact hj), getElem!_pos _ _ (by rw [qY]; exact hj)]
theorem C0 [Inhabited Yt] {w:World} {n:Nat} {d:Array Yt}:dt (fun b=>b=g) w (putRowK fC 10 (Sort.ahead w n) g 0 d):=by
 refine⟨rfl,rfl,rfl,by unfold putRowK;rw[Sort.size_putRow];exact Zw _,fun i hi hn=>?_⟩
 unfold putRowK Sort.putRow Sort.mapBlock Sort.ahead;simp only[Array.getElem?_modify];rw[Zt (fun e=>hn e.symm)]
theorem C5 {w:World} {v:Value} (h:w.ownsRow base 163 10 v ys.length (dV ys)) (hl:ys.length≤1001):
 Calls prog 178 #[v] w fun e w'=>e= .returned (.tuple #[])∧dt (fun g=>v.ownBlock=some g) w w'∧l6 w' v ys.reverse:=by
 have:Inhabited Yt:=⟨CY⟩
 obtain⟨a,cap,ev⟩:=tS h;subst ev
 by_cases h0:ys.length=0
 ·have:ys=[]:=aap h0
  subst this;apply(AnyQ.slices_Reverse_empty reverseItem a cap w).mono;rintro e w' ⟨rfl,rfl⟩;exact⟨rfl,dt.refl _ _,l6.of_row h⟩
 ·obtain⟨g,c2,ev,_,_⟩:=World.ownsRow.form h (by omega)
  simp only[aak,abf] at ev;obtain⟨rfl,rfl⟩:=ev;have H:=IB h;apply(AnyQ.slices_Reverse reverseItem 10 isAgg163 sizeOf163 fC qY IA g 0 cap ys.toArray w H (by simp;omega)).mono
  rintro e w' ⟨rfl,n,rfl⟩;refine⟨rfl,(C0 (w:=w) (n:=n) (g:=g)).weak (fun i _ hi=>by rw[hi];rfl),?_⟩
  have h2:=holdsK_putRowK fC 10 (Sort.ahead w n) g 0 ys.toArray ys.toArray.reverse (holdsK_ahead fC 10 w n g 0 _ H) (by simp)
  have e:ys.toArray.reverse=ys.reverse.toArray:=by simp
  rw[e] at h2⊢;have h3:=IC (cap:=cap) h2;rw[ab7] at h3;obtain⟨a,c,e1,e2⟩:=h3;exact⟨a,c,e1,e2⟩
end Go.Proofs.YtfkdailfcmnjlaaGreatDoor
namespace Go.Proofs.YtfkdailfcmnjlaaGreatDoor
open Go Go.RowKit Tryz
attribute [local go_sem ↓] Go.wp_at_zero Go.wp_at_succ
variable {xs:List fV} {ys:List Yt} {v:Value} {nm D:List Bool} {gg b j:Nat}
theorem iZ.turn {F:Nat→Prop} {d:Nat} {w:World} (h:iZ F d w xs ys):iZ F d w xs.reverse ys.reverse:=by
 have D:=h.1;refine⟨by simp[D],fun j z=>?_⟩
 rw[ab7] at z;have e:∀{α:Type} (l:List α) (d:α) (j:Nat),j<l.length→l.reverse.getD j d=l.getD (l.length - 1 - j) d:=fun l d j z=>by
  rw[Zs,Zs,List.getElem?_reverse z]
 rw[e _ _ _ z,e _ _ _ (by omega),D]
 exact h.2 _ (by omega)
structure vC (F:Nat→Prop) (d:Nat) (w wr:World) (v:Value) (ks:List fV) (zs:List Yt) (nm:List Bool):Prop where
 row:wr.ownsRow (w.heap.size+1) 163 10 v zs.length (dV zs)
 bel:Below w.heap.size w wr
 its:iZ F d w ks zs
 nms:tT wr w.heap.size nm
 big:w.heap.size+1≤wr.heap.size
theorem vC.noted {F:Nat→Prop} {d:Nat} {w wr E:World} {ks:List fV} {zs:List Yt} (h:vC F d w wr v ks zs nm) (G:dt (fun g=>g=w.heap.size) wr E) (I:tT E w.heap.size D):vC F d w E v ks zs D:=
 ⟨dE h.row (fun k z=>G.block k (h.row.lt k z).2 (fun e=>by have:=(h.row.lt k z).1;omega)),h.bel.trans (G.below h.bel.size (fun k _ z=>by rw[z];exact Zw _)),h.its,I,Z8 h.big G.size⟩
theorem vC.next {F:Nat→Prop} {d:Nat} {w z D:World} {ks:List fV} {zs:List Yt} {x:fV} {y:Yt} {cap:Nat} {o:Obj} (h:vC F d w z v ks zs nm) (R:Oh F d w x y)
 (G:D.ownsRow (w.heap.size+1) 163 10 (Sq gg (zs.length+1) cap) (zs.length+1) (dV zs++fC y)) (E:(z.alloc o).grownBy D v.ownBlock):vC F d w D (Sq gg (zs.length+1) cap) (ks++[x]) (zs++[y]) nm:=by
 have I:=((dt.refl (fun g=>v.ownBlock=some g) z).alloc _).grown E (fun k U=> .inl U)
 refine⟨?_,h.bel.trans (I.below h.bel.size (fun g _ V=>by have:=(h.row.lt g V).1;omega)),h.its.snoc R,⟨h.nms.1,fun j J=>?_⟩,Z8 h.big I.size⟩
 ·rw[nJ,ZC]
  exact G
 ·have O:=I.block w.heap.size (by have:=h.big;omega) (fun e=>by have:=(h.row.lt _ e).1;omega)
  exact⟨by rw[ZI (w:=z) (a:=⟨w.heap.size,j,none⟩) O];exact(h.nms.2 j J).1,by rw[aao (w:=z) (a:=⟨w.heap.size,j,none⟩) O];exact(h.nms.2 j J).2⟩
theorem Pe {w:World} {cs:Array Value} {t:TypeId} (h:w.heap[b]?=some (.cells cs t (0,0))):w.frozen? ⟨b,j,none⟩=false:=by simp[World.frozen?,h]
theorem ID (w:World):tT (w.alloc (.cells #[.bool false,.bool false,.bool false,.bool false,.bool false,.bool false,.bool false,.bool false,.bool false,.bool false] 275)) w.heap.size Fk:=by
 have z:=Zy w (.cells #[.bool false,.bool false,.bool false,.bool false,.bool false,.bool false,.bool false,.bool false,.bool false,.bool false] 275);refine⟨rfl,fun j D=>⟨?_,Pe z⟩⟩
 rw[Zz _ _ j _ _ _ z];have:j=0∨j=1∨j=2∨j=3∨j=4∨j=5∨j=6∨j=7∨j=8∨j=9:=by omega
 rcases this with rfl|rfl|rfl|rfl|rfl|rfl|rfl|rfl|rfl|rfl<;>rfl
theorem IE {F:Nat→Prop} {d:Nat} {w:World} (hv:l6 w v ys) (hI:iZ F d w xs ys) (hl:ys.length≤1001) (hW:∀j,j<ys.length→iC d (xs.getD j nw).c∧(∃lt:List Nat,lt.length=10∧dx lt d (xs.getD j nw).c≠0)∧((xs.getD j nw).kind=11→(xs.getD j nw).wh<10)):
 Calls prog 131 #[v] w fun e w'=> ∃v' ak,e= .returned v'∧l6 w' v' ak∧iZ F d w (iU d xs).1 ak∧Below w.heap.size w w'∧ak.length≤ys.length:=by
 obtain⟨a,cap,rfl,hq⟩:=hv;have HQ:=Hi hq;have HW:=Hi hW;have HI:Hid (iZ F d w xs ys):=hI;have H0:Hid (vC F d w (w.alloc (.cells #[.bool false,.bool false,.bool false,.bool false,.bool false,.bool false,.bool false,.bool false,.bool false,.bool false] 275)) (.slice none 0 0) (iU d (xs.drop ys.length)).1.reverse [] (iU d (xs.drop ys.length)).2):=by
  show vC _ _ _ _ _ _ _ _
  rw[aab (by rw[hI.1];exact Zw _)]
  exact⟨aam _ _ _ _,(ZA _ _).alloc (Zw _) _,iZ.nil,ID w,by simp⟩
 obtain⟨i0,hi,ar,au,av⟩:=abF oR;clear hq hI hW;go_enter func131,ntmps131;go_wp2_with fail
 go_loopw [4,5] (fun vv iv wr=> ∃(k:Nat) (zs:List Yt),k≤ys.length∧iv= Iq ((k:Int) - 1)∧zs.length≤ys.length - k∧Hid (vC F d w wr vv (iU d (xs.drop k)).1.reverse zs (iU d (xs.drop k)).2)) (fun _ iv _=>(intOf iv+1).toNat)
 case atStart=>exact⟨ys.length,[],Zw _,by go_num,by simp,H0.out⟩
 case round=>
  obtain⟨k,zs,aG,rfl,aH,HX⟩:=hrel
  cases k with
  |succ m=>
   have ah:m<ys.length:=by omega
   have em:((m+1:Nat):Int) - 1=(m:Int):=by omega
   rw[em];clear em;have hX:=HX.out;obtain⟨g,rfl,am,aa⟩:=HQ.out m ah;have ab:=HI.out.2 m ah;obtain⟨aw,⟨lt,aB,ax⟩,Z⟩:=HW.out m ah;have hE:iU d (xs.drop m)=if(xs.getD m nw).kind=11∧(iU d (xs.drop (m+1))).2.getD (xs.getD m nw).wh false=false then iU d (xs.drop (m+1)) else((xs.getD m nw)::(iU d (xs.drop (m+1))).1,jd d (xs.getD m nw).c (iU d (xs.drop (m+1))).2):=by
    rw[AD (by rw[HI.out.1];exact ah) nw,iU]
   generalize iU d (xs.drop (m+1))=U at*;generalize xs.getD m nw=x at*;generalize ys.getD m CY=y at*;obtain⟨E,u0,b,wh⟩:=y;have ay:=Hi ab;have V:=ab.kd;have az:=ab.wh;simp only[] at V az;obtain⟨va,an,ev⟩:=tS hX.row;obtain rfl:=ev;have ao:=hX.bel;have ac:∀j,j<10→wr.cell? ⟨g,m*10+j,none⟩=(fC (E,u0,b,wh))[j]?:=fun j hj=>by
    rw[ao.cell (p:=⟨g,m*10+j,none⟩) am];exact aa j hj
   have c0:Cq wr g (m*10) (Iq (da E)):=ac 0 (by omega)
   have c8:Cq wr g (m*10+8) (Iq wh):=ac 8 (by omega)
   have c9:Cq wr g (m*10+9) (Pq b):=ac 9 (by omega)
   have aI:(0:Int)≤(m:Int)∧(m:Int)<(ys.length:Int):=by omega
   have aC:Hid (fH (fun g=>g=w.heap.size) d wr b x.c):=(ab.tr.more (fun g hg e=>by omega)).below ao
   have W1:=OJ aB d aw ax aC.out hX.nms;have Y:=Hi hX;have HE:=Hi hE;have aA:Hid (∀j,j<10→wr.cell? ⟨g,m*10+j,none⟩=(fC (E,u0,b,wh))[j]?):=ac;have ai:Hid (g<w.heap.size):=am;clear ac aa hX ab am hE aw ax ao;subst az
   by_cases J:x.kind=11
   ·have aD:((da E:Int)==11)=true:=by rw[V,J];rfl
    have aE:=Z J;have n8:=(Y.out.nms.2 x.wh aE).1;have aK:(0:Int)≤(x.wh:Int)∧(x.wh:Int)<10:=by omega
    cases aj:U.2.getD x.wh false
    ·have ad:Hid (iU d (xs.drop m)=U):=by show _=_;rw[HE.out,Zu ⟨J,aj⟩]
     rw[aj] at n8;clear V J Z HE W1;go_wp2_with fail
     go_roundw
     case rel=>exact⟨m,zs,by omega,by go_num,by omega,by rw[ad.out];exact Y.out⟩
     case measure=>simp[intOf]
    ·have ad:Hid (iU d (xs.drop m)=(x::U.1,jd d x.c U.2)):=by show _=_;rw[HE.out,Zt (fun e=>by rw[aj] at e;simp at e)]
     rw[aj] at n8;clear V J Z HE;go_wp2_with fail;apply W1.mono;rintro e D ⟨rfl,O,ae⟩;have R:=Hi (Y.out.noted O ae);have ap:Hid (D.ownsRow (w.heap.size+1) 163 10 (.slice va zs.length an) zs.length (dV zs)):=R.out.row;have aF:=R.out.big;have z:∀j,j<10→D.cell? ⟨g,m*10+j,none⟩=(fC (E,u0,b,(x.wh:Int)))[j]?:=fun j hj=>by
      rw[ZI (w:=wr) (a:=⟨g,m*10+j,none⟩) (O.block g (by have:=Y.out.bel.size;have:=ai.out;omega) (fun e=>by have:=ai.out;omega))];exact aA.out j hj
     have d0:Cq D g (m*10) (Iq (da E)):=z 0 (by omega)
     have d1:Cq D g (m*10+1) (Iq E.pl):=z 1 (by omega)
     have d2:Cq D g (m*10+2) (Iq (dz E)):=z 2 (by omega)
     have d3:Cq D g (m*10+3) (S (di E)):=z 3 (by omega)
     have d4:Cq D g (m*10+4) (Iq (da u0)):=z 4 (by omega)
     have d5:Cq D g (m*10+5) (Iq u0.pl):=z 5 (by omega)
     have d6:Cq D g (m*10+6) (Iq (dz u0)):=z 6 (by omega)
     have d7:Cq D g (m*10+7) (S (di u0)):=z 7 (by omega)
     have d8:Cq D g (m*10+8) (Iq (x.wh:Nat)):=z 8 (by omega)
     have d9:Cq D g (m*10+9) (Pq b):=z 9 (by omega)
     clear W1 O ae z c0 c8 c9
     go_wp2_with (at_builtin;go_must (refine wpList_append_lies _ (by rfl) _ _ 84 (by rfl) (w.heap.size+1) 163 i0 (.agg #[Iq 0,Iq 0,Iq 0,.string ⟨#[]⟩,Iq 0,Iq 0,Iq 0,.string ⟨#[]⟩,Iq 0,.pointer none]) 10 96 underlying84 hi ar au av (by rfl) (by decide) _ _ _ (by rfl) (ap.out.alloc _) ⟨D.heap.size,0,none⟩ 1 1 [Iq (da E),Iq E.pl,Iq (dz E),S (di E),Iq (da u0),Iq u0.pl,Iq (dz u0),S (di u0),Iq (x.wh:Nat),Pq b] (by rfl) (by rfl) (World.news_of_block (Zy D _)) (fun x hx=>by simp at hx;rcases hx with rfl|rfl|rfl|rfl|rfl|rfl|rfl|rfl|rfl|rfl<;>rfl) (by decide) (by unfold maxLen;omega) (by omega) (by simp;omega) _ rfl ?_);intro gg af w5 G I aq ag;have HN:Hid (vC F d w w5 (Sq gg (zs.length+1) af) (U.1.reverse++[x]) (zs++[(E,u0,b,(x.wh:Int))]) (jd d x.c U.2)):=R.out.next ay.out G I;clear G I aq ag)
     go_roundw
     case rel=>exact⟨m,zs++[(E,u0,b,(x.wh:Int))],by omega,by go_num,by simp;omega,by rw[ad.out];simp only[List.reverse_cons];exact HN.out⟩
     case measure=>simp[intOf]
   ·have aD:((da E:Int)==11)=false:=by rw[V];simp;omega
    have ad:Hid (iU d (xs.drop m)=(x::U.1,jd d x.c U.2)):=by show _=_;rw[HE.out,Zt (fun e=>J e.1)]
    clear V J Z HE;go_wp2_with fail;apply W1.mono;rintro e D ⟨rfl,O,ae⟩;have R:=Hi (Y.out.noted O ae);have ap:Hid (D.ownsRow (w.heap.size+1) 163 10 (.slice va zs.length an) zs.length (dV zs)):=R.out.row;have aF:=R.out.big;have z:∀j,j<10→D.cell? ⟨g,m*10+j,none⟩=(fC (E,u0,b,(x.wh:Int)))[j]?:=fun j hj=>by
     rw[ZI (w:=wr) (a:=⟨g,m*10+j,none⟩) (O.block g (by have:=Y.out.bel.size;have:=ai.out;omega) (fun e=>by have:=ai.out;omega))];exact aA.out j hj
    have d0:Cq D g (m*10) (Iq (da E)):=z 0 (by omega)
    have d1:Cq D g (m*10+1) (Iq E.pl):=z 1 (by omega)
    have d2:Cq D g (m*10+2) (Iq (dz E)):=z 2 (by omega)
    have d3:Cq D g (m*10+3) (S (di E)):=z 3 (by omega)
    have d4:Cq D g (m*10+4) (Iq (da u0)):=z 4 (by omega)
    have d5:Cq D g (m*10+5) (Iq u0.pl):=z 5 (by omega)
    have d6:Cq D g (m*10+6) (Iq (dz u0)):=z 6 (by omega)
    have d7:Cq D g (m*10+7) (S (di u0)):=z 7 (by omega)
    have d8:Cq D g (m*10+8) (Iq (x.wh:Nat)):=z 8 (by omega)
    have d9:Cq D g (m*10+9) (Pq b):=z 9 (by omega)
    clear W1 O ae z c0 c8 c9
    go_wp2_with (at_builtin;go_must (refine wpList_append_lies _ (by rfl) _ _ 84 (by rfl) (w.heap.size+1) 163 i0 (.agg #[Iq 0,Iq 0,Iq 0,.string ⟨#[]⟩,Iq 0,Iq 0,Iq 0,.string ⟨#[]⟩,Iq 0,.pointer none]) 10 96 underlying84 hi ar au av (by rfl) (by decide) _ _ _ (by rfl) (ap.out.alloc _) ⟨D.heap.size,0,none⟩ 1 1 [Iq (da E),Iq E.pl,Iq (dz E),S (di E),Iq (da u0),Iq u0.pl,Iq (dz u0),S (di u0),Iq (x.wh:Nat),Pq b] (by rfl) (by rfl) (World.news_of_block (Zy D _)) (fun x hx=>by simp at hx;rcases hx with rfl|rfl|rfl|rfl|rfl|rfl|rfl|rfl|rfl|rfl<;>rfl) (by decide) (by unfold maxLen;omega) (by omega) (by simp;omega) _ rfl ?_);intro gg af w5 G I aq ag;have HN:Hid (vC F d w w5 (Sq gg (zs.length+1) af) (U.1.reverse++[x]) (zs++[(E,u0,b,(x.wh:Int))]) (jd d x.c U.2)):=R.out.next ay.out G I;clear G I aq ag)
    go_roundw
    case rel=>exact⟨m,zs++[(E,u0,b,(x.wh:Int))],by omega,by go_num,by simp;omega,by rw[ad.out];simp only[List.reverse_cons];exact HN.out⟩
    case measure=>simp[intOf]
  |zero=>
   have HR:Hid (vC F d w wr u4 (iU d xs).1.reverse zs (iU d xs).2):=HX.out;have W1:=C5 HR.out.row (by omega)
   clear HX;go_wp2_with fail;apply W1.mono;rintro e D ⟨rfl,ho,hr⟩;have HF:Hid (l6 D u4 zs.reverse∧iZ F d w (iU d xs).1 zs.reverse∧Below w.heap.size w D):=by
    refine⟨hr,?_,HR.out.bel.trans (ho.below HR.out.bel.size (fun k _ hk=>by have:=(HR.out.row.lt k hk).1;omega))⟩
    have:=HR.out.its.turn
    rwa [List.reverse_reverse] at this
   clear ho hr W1;go_wp2;go_ret;exact⟨_,zs.reverse,rfl,HF.out.1,HF.out.2.1,HF.out.2.2,by rw[ab7];omega⟩
end Go.Proofs.YtfkdailfcmnjlaaGreatDoor
set_option maxHeartbeats 40000000
set_option maxRecDepth 1000000
namespace Go.Proofs.YtfkdailfcmnjlaaGreatDoor
open Go Go.RowKit Tryz
def Gx (F:Nat→Prop) (U:Nat) (lv V:Value) (E:Nat→Prop) (g:Nat):Prop:=E g∨g=U∨lv.ownBlock=some g∨V.ownBlock=some g∨F g
structure rO (F:Nat→Prop) (n:Int) (d:Nat) (w wr:World) (lv kv:Value) (lets:List Tr) (bs:List Nat) (ks:List fV) (zs:List Yt) (E:Nat→Prop):Prop where
 blk:wr.heap[w.heap.size]?=some (.cells #[Iq n,lv] 237 (0,0))
 len:bs.length=lets.length
 lrow:wr.ownsRow (w.heap.size+1) 161 1 lv lets.length (vB bs)
 krow:wr.ownsRow (w.heap.size+1) 163 10 kv zs.length (dV zs)
 bel:Below w.heap.size w wr
 ltr:∀j,j<lets.length→fH (Gx F w.heap.size lv kv E) d wr (bs.getD j 0) (lets.getD j gI)
 its:iZ (Gx F w.heap.size lv kv E) d wr ks zs
 old:∀g,F g→g<w.heap.size
 off:∀g,E g→w.heap.size+1≤g∧g<wr.heap.size∧lv.ownBlock≠some g∧kv.ownBlock≠some g
variable {F : Nat → Prop} {n : Int} {d : Nat} {w wr w1 w5 : World} {lv kv : Value} {lets : List Tr} {bs : List Nat} {ks : List fV} {zs : List Yt} {E : Nat → Prop}
theorem rO.big (h:rO F n d w wr lv kv lets bs ks zs E):w.heap.size+1≤wr.heap.size:=be h.blk
theorem rO.apart (h:rO F n d w wr lv kv lets bs ks zs E) {g:Nat} (h1:lv.ownBlock=some g):kv.ownBlock≠some g:=fun h2=>by
 obtain⟨c1,e1⟩:=dF h.lrow h1;obtain⟨c2,e2⟩:=dF h.krow h2;rw[e1] at e2;simp at e2
theorem rO.lt (h:rO F n d w wr lv kv lets bs ks zs E):∀g,Gx F w.heap.size lv kv E g→g<wr.heap.size:=fun g hg=>by
 have:=h.big;rcases hg with hg|hg|hg|hg|hg
 ·exact(h.off g hg).2.1
 ·omega
 ·exact(h.lrow.lt g hg).2
 ·exact(h.krow.lt g hg).2
 ·have:=h.old g hg;omega
theorem rO.ge (h:rO F n d w wr lv kv lets bs ks zs E):∀g,Gx F w.heap.size lv kv E g→w.heap.size≤g∨F g:=fun g hg=>by
 rcases hg with hg|hg|hg|hg|hg
 ·have:=(h.off g hg).1;omega
 ·omega
 ·have:=(h.lrow.lt g hg).1;omega
 ·have:=(h.krow.lt g hg).1;omega
 ·exact .inr hg
theorem rO.below (h:rO F n d w wr lv kv lets bs ks zs E) (hb:Below wr.heap.size wr w1):rO F n d w w1 lv kv lets bs ks zs E:=
 ⟨(hb.block _ (be h.blk)).trans h.blk,h.len,dn h.lrow hb,dn h.krow hb,h.bel.trans (hb.mono h.bel.size),fun j hj=>(h.ltr j hj).below hb,h.its.map (fun _ _ t=>t.below hb),h.old,fun g hg=>by
  obtain⟨a,b,c⟩:=h.off g hg;exact⟨a,aau b hb.size,c⟩⟩
theorem rO.item (h:rO F n d w wr lv kv lets bs ks zs (fun _=>False)) (o:Obj):rO F n d w (wr.alloc o) lv kv lets bs ks zs (fun g=>g=wr.heap.size):=by
 have hb:Below wr.heap.size wr (wr.alloc o):=(ZA _ _).alloc (Zw _) _;have hg:∀g,g<wr.heap.size→Gx F w.heap.size lv kv (fun g=>g=wr.heap.size) g→Gx F w.heap.size lv kv (fun _=>False) g:=fun g hg hx=>by
  rcases hx with hx|hx
  ·omega
  ·exact .inr hx
 refine⟨(hb.block _ (be h.blk)).trans h.blk,h.len,dn h.lrow hb,dn h.krow hb,h.bel.trans (hb.mono h.bel.size),fun j hj=>((h.ltr j hj).more hg).below hb,h.its.map (fun _ _ t=>(t.more hg).below hb),h.old,fun g e=>?_⟩
 subst e;exact⟨h.big,by simp,fun e=>by have:=(h.lrow.lt _ e).2;omega,fun e=>by have:=(h.krow.lt _ e).2;omega⟩
theorem rO.only (h:rO F n d w wr lv kv lets bs ks zs E) (ho:dt E wr w1):rO F n d w w1 lv kv lets bs ks zs E:=by
 have hg:dt (Gx F w.heap.size lv kv E) wr w1:=ho.weak (fun i _ hi=> .inl hi)
 refine⟨(ho.block _ (be h.blk) (fun e=>by have:=(h.off _ e).1;omega)).trans h.blk,h.len,dE h.lrow (fun k hk=>ho.block k (h.lrow.lt k hk).2 (fun e=>(h.off _ e).2.2.1 hk)),dE h.krow (fun k hk=>ho.block k (h.krow.lt k hk).2 (fun e=>(h.off _ e).2.2.2 hk)),h.bel.trans (ho.below h.bel.size (fun k _ hk=>by have:=(h.off k hk).1;omega)),fun j hj=>(h.ltr j hj).only hg,h.its.map (fun _ _ t=>t.only hg),h.old,fun g hg=>?_⟩
 obtain⟨a,b,c⟩:=h.off g hg;exact⟨a,aau b ho.size,c⟩
theorem rO.free (h:rO F n d w wr lv kv lets bs ks zs E):rO F n d w wr lv kv lets bs ks zs (fun _=>False):=by
 have hg:∀g,g<wr.heap.size→Gx F w.heap.size lv kv (fun _=>False) g→Gx F w.heap.size lv kv E g:=fun g _ hx=>by
  rcases hx with hx|hx
  ·exact hx.elim
  ·exact .inr hx
 exact⟨h.blk,h.len,h.lrow,h.krow,h.bel,fun j hj=>(h.ltr j hj).more hg,h.its.map (fun _ _ t=>t.more hg),h.old,fun g e=>e.elim⟩
theorem rO.rw (h:rO F n d w wr lv kv lets bs ks zs E):nD (Gx F w.heap.size lv kv E) wr w.heap.size n lv (fun j=>bs.getD j 0) d lets:=by
 refine⟨Zz wr _ 0 _ _ _ h.blk,Zz wr _ 1 _ _ _ h.blk,?_,h.ltr⟩;obtain⟨va,vcap,ev⟩:=tS h.lrow;subst ev;refine⟨va,vcap,rfl,fun j hj=>?_⟩
 obtain⟨g,c2,ev,_,_⟩:=World.ownsRow.form h.lrow (by omega)
 simp only[aak,abf] at ev;obtain⟨rfl,rfl⟩:=ev;refine⟨g,rfl,fun hx=>hx,?_⟩
 rw[aa1 h.lrow j (by omega)]
 unfold vB
 show(bs.map fun b=>(Value.pointer (some ⟨b,0,none⟩)))[j]?=some (Value.pointer (some ⟨bs.getD j 0,0,none⟩))
 rw[aaj,Zs,Zv (by rw[h.len];exact hj)]
 rfl
end Go.Proofs.YtfkdailfcmnjlaaGreatDoor
set_option maxHeartbeats 40000000
set_option maxRecDepth 1000000
namespace Go.Proofs.YtfkdailfcmnjlaaGreatDoor
open Go Go.RowKit Tryz
variable {F : Nat → Prop} {n : Int} {d : Nat} {w wr w1 w5 : World} {lv kv : Value} {lets : List Tr} {bs : List Nat} {ks : List fV} {zs : List Yt} {E : Nat → Prop}
variable {gg b b' m:Nat} {t c:Tr} {o:Obj} {x:fV} {fl lv':List Int} {lt':List Nat}
theorem C6 {F G:Nat→Prop} (ho:dt F w1 w5) (hat:F gg∨w1.heap.size≤gg) (hG:∀g,G g→F g∨g=gg) (h:fH F d w1 b t):fH G d w5 b t:=by
 have h1:fH (fun g=>F g∨g=gg) d w1 b t:=h.more (fun g hg hx=>by
  rcases hx with hx|hx
  ·exact hx
  ·subst hx
   rcases hat with h2|h2
   ·exact h2
   ·omega)
 exact(h1.only (w':=w5) (ho.weak (fun i _ hi=> .inl hi))).more (fun g _ hx=>hG g hx)
theorem rO.addLet (h:rO F n d w w1 lv kv lets bs ks zs E) {cap:Nat} (ht:fH (Gx F w.heap.size lv kv E) d w1 b' c)
 (hown:w5.ownsRow (w.heap.size+1) 161 1 (Sq gg (lets.length+1) cap) (lets.length+1) (vB bs++[Pq b'])) (hgrow:(w1.alloc o).grownBy w5 lv.ownBlock) (hat:lv.ownBlock=some gg∨gg=w1.heap.size+1):
 rO F n d w (w5.setCell ⟨w.heap.size,1,none⟩ (Sq gg (lets.length+1) cap)) (Sq gg (lets.length+1) cap) kv (lets++[c]) (bs++[b']) ks zs E:=by
 have ho5:dt (fun g=>lv.ownBlock=some g) w1 w5:=((dt.refl (fun g=>lv.ownBlock=some g) w1).alloc _).grown hgrow (fun k hk=> .inl hk)
 have hl5:=ho5.block _ (be h.blk) (fun e=>by have:=(h.lrow.lt _ e).1;omega)
 have ho:dt (fun g=>g=w.heap.size∨lv.ownBlock=some g) w1 (w5.setCell ⟨w.heap.size,1,none⟩ (Sq gg (lets.length+1) cap)):=(ho5.weak (fun i _ hi=> .inr hi)).setCell (.inl (.inl rfl)) _
 have hoG:dt (Gx F w.heap.size lv kv E) w1 (w5.setCell ⟨w.heap.size,1,none⟩ (Sq gg (lets.length+1) cap)):=ho.weak (fun i _ hi=>by
  rcases hi with hi|hi
  ·exact .inr (.inl hi)
  ·exact .inr (.inr (.inl hi)))
 have hgw:=(hown.lt gg rfl).1;have step:∀{b:Nat} {t:Tr},fH (Gx F w.heap.size lv kv E) d w1 b t→fH (Gx F w.heap.size (Sq gg (lets.length+1) cap) kv E) d (w5.setCell ⟨w.heap.size,1,none⟩ (Sq gg (lets.length+1) cap)) b t:=fun{b t} hx=>by
  refine C6 (gg:=gg) hoG ?_ ?_ hx
  ·rcases hat with e|e
   ·exact .inl (.inr (.inr (.inl e)))
   ·right;omega
  ·intro g hg
   rcases hg with hg|hg|hg|hg|hg
   ·exact .inl (.inl hg)
   ·exact .inl (.inr (.inl hg))
   ·right;simp[Value.ownBlock] at hg;exact hg.symm
   ·exact .inl (.inr (.inr (.inr (.inl hg))))
   ·exact .inl (.inr (.inr (.inr (.inr hg))))
 refine⟨?_,by simp[h.len],?_,?_,?_,?_,?_,h.old,?_⟩
 ·rw[ZK w5 w.heap.size 1 _ _ _ (hl5.trans h.blk)]
  rfl
 ·have h2:=Z9 hown (a:=⟨w.heap.size,1,none⟩) (by
   intro e;simp[Value.ownBlock] at e
   omega) (Sq gg (lets.length+1) cap)
  unfold vB at h2⊢;rw[ZC,aag];exact h2
 ·exact dE h.krow (fun k hk=>ho.block k (h.krow.lt k hk).2 (fun e=>by
   rcases e with e|e
   ·have:=(h.krow.lt k hk).1;omega
   ·exact h.apart e hk))
 ·exact h.bel.trans (ho.below h.bel.size (fun k _ hk=>by
   rcases hk with hk|hk
   ·omega
   ·have:=(h.lrow.lt k hk).1;omega))
 ·intro j hj
  by_cases e:j<lets.length
  ·rw[kU e,kU (by rw[h.len];exact e)]
   exact step (h.ltr j e)
  ·have e2:j=lets.length:=by simp at hj;omega
   subst e2;have e3:(bs++[b']).getD lets.length 0=b':=by rw[←h.len];exact iM
   rw[iM,e3];exact step ht
 ·exact h.its.map (fun _ _ t=>step t)
 ·intro g hg
  obtain⟨a,b,c,e⟩:=h.off g hg;refine⟨a,aau b ho.size,fun q=>?_,e⟩
  simp[Value.ownBlock] at q;subst q;rcases hat with q|q
  ·exact c q
  ·omega
theorem rO.keep (h:rO F n d w w1 lv kv lets bs ks zs E) {cap:Nat} {y:Yt} (ht:Oh (Gx F w.heap.size lv kv E) d w1 x y)
 (hown:w5.ownsRow (w.heap.size+1) 163 10 (Sq gg (zs.length+1) cap) (zs.length+1) (dV zs++fC y)) (hgrow:(w1.alloc o).grownBy w5 kv.ownBlock) (hat:kv.ownBlock=some gg∨gg=w1.heap.size+1):
 rO F n d w w5 lv (Sq gg (zs.length+1) cap) lets bs (ks++[x]) (zs++[y]) E:=by
 have ho:dt (fun g=>kv.ownBlock=some g) w1 w5:=((dt.refl (fun g=>kv.ownBlock=some g) w1).alloc _).grown hgrow (fun k hk=> .inl hk)
 have hoG:dt (Gx F w.heap.size lv kv E) w1 w5:=ho.weak (fun i _ hi=> .inr (.inr (.inr (.inl hi))))
 have step:∀{b:Nat} {t:Tr},fH (Gx F w.heap.size lv kv E) d w1 b t→fH (Gx F w.heap.size lv (Sq gg (zs.length+1) cap) E) d w5 b t:=fun{b t} hx=>by
  refine C6 (gg:=gg) hoG ?_ ?_ hx
  ·rcases hat with e|e
   ·exact .inl (.inr (.inr (.inr (.inl e))))
   ·right;omega
  ·intro g hg
   rcases hg with hg|hg|hg|hg|hg
   ·exact .inl (.inl hg)
   ·exact .inl (.inr (.inl hg))
   ·exact .inl (.inr (.inr (.inl hg)))
   ·right;simp[Value.ownBlock] at hg;exact hg.symm
   ·exact .inl (.inr (.inr (.inr (.inr hg))))
 refine⟨(ho.block _ (be h.blk) (fun e=>by have:=(h.krow.lt _ e).1;omega)).trans h.blk,h.len,dE h.lrow (fun k hk=>ho.block k (h.lrow.lt k hk).2 (fun e=>h.apart hk e)),?_,h.bel.trans (ho.below h.bel.size (fun k _ hk=>by have:=(h.krow.lt k hk).1;omega)),fun j hj=>step (h.ltr j hj),?_,h.old,?_⟩
 ·rw[nJ,ZC]
  exact hown
 ·exact(h.its.map (fun _ _ t=>step t)).snoc ⟨ht.kd,ht.wh,step ht.tr⟩
 ·intro g hg
  obtain⟨a,b,c,e⟩:=h.off g hg;refine⟨a,aau b ho.size,c,fun q=>?_⟩
  simp[Value.ownBlock] at q;subst q;rcases hat with q|q
  ·exact e q
  ·omega
theorem Mx {p:ny} {d:Nat} (Z:eO fl) {r:List fV} {lets:List Tr} {lt:List Nat} {lv:List Int} (h:ti p lets m lt lt' lv lv' fl) (E:pJ d lt (x::r)) (z:oj m (x::r)):
 ∃J U tU V,ti p (if x.kind=11 then lets++[lr p lets d x.c] else lets) (if x.kind=11 then m+1 else m) J U tU V fl∧pJ d J r∧oj (if x.kind=11 then m+1 else m) r:=by
 obtain⟨I,O,hk⟩:=E;have Y:=wW h.ok h.has' Z I O;have hv:=kS h.has Z I O;rcases hk with⟨D,R,E⟩|⟨ac,ad,R,E⟩
 ·have z:x.wh=m∧oj (m+1) r:=by
   rcases z with z|z
   ·exact z.2
   ·exact absurd D z.1
  obtain⟨hm,z⟩:=z;rw[hm] at R E;have ae:=h.llt;obtain⟨n1,n2⟩:=uZ h (by omega) (c:=lr p lets d x.c) (ty:=dx lt d x.c) (v:=fu lv fl d x.c) (fun hs _=>by
   have G:iC 1 (lr p lets d x.c):=by
    cases d with
    |zero=>exact I.elim
    |succ d=>exact⟨Y.wf.1,by rw[hs];simp⟩
   have hd:1≤d:=by
    cases d with
    |zero=>exact I.elim
    |succ d=>omega
   refine⟨G,?_,?_⟩
   ·rw[←nK G hd,Y.ty]
   ·rw[←qd G hd,Y.ev]) hv
  rw[Zu D,Zu D]
  by_cases hi:p.inl=true∧(lr p lets d x.c).kids=[]
  ·exact⟨_,_,_,_,n1 hi,E,z⟩
  ·exact⟨_,_,_,_,n2 hi,E,z⟩
 ·have D:x.kind≠11:=by omega
  have z:oj m r:=by
   rcases z with z|z
   ·exact absurd z.1 D
   ·exact z.2
  rw[Zt D,Zt D];exact⟨_,_,_,_,h,E,z⟩
theorem Oa {z:Int} (D:eO fl) {lets:List Tr} {lt:List Nat} {lv:List Int} (h:ti (dy z) lets m lt lt' lv lv' fl) (E:lets.length≤1000):N8 z lets lt lt' lv lv' fl:=
 ⟨h.ok,h.has',D,fun i G=>by
  by_cases e:i<lets.length
  ·exact e
  ·exact absurd (h.late i (by rw[←h.len];omega)) G,E⟩
end Go.Proofs.YtfkdailfcmnjlaaGreatDoor
namespace Go.Proofs.YtfkdailfcmnjlaaGreatDoor
open Go Go.RowKit Tryz
attribute [local go_sem ↓] Go.wp_at_zero Go.wp_at_succ
structure Pf (F:Nat→Prop) (n:Int) (d:Nat) (fl:List Int) (xs:List fV) (w wr:World) (lv kv:Value) (lets:List Tr) (bs:List Nat) (ks:List fV) (zs:List Yt) (k:Nat):Prop where
 mem:rO F n d w wr lv kv lets bs ks zs (fun _=>False)
 zk:zs.length≤k
 lk:lets.length≤k
 inv:∃m lt lt' lvs lvs',ti (dy n) lets m lt lt' lvs lvs' fl∧pJ d lt (xs.drop k)∧oj m (xs.drop k)
 eq:ks++th (dy n) d lets (xs.drop k)=th (dy n) d [] xs
variable {fl:List Int} {xs L l:List fV} {D w':World} {z O:List Nat} {Z G J v a U a1 a2 a3 a4 a5 a6 a7:Value} {o:Obj} {it b lp k base:Nat} {ys:List Yt} {j jmp:Bool}
theorem KW {F:Nat→Prop} {n:Int} {d:Nat} {w:World} (D:∀g,F g→g<w.heap.size) (E:pJ d eZ xs) (G:oj 0 xs):Pf F n d fl xs w (w.alloc (.cells #[Iq n,.slice none 0 0] 237)) (.slice none 0 0) (.slice none 0 0) [] [] [] [] 0:=by
 have z:∀i,eZ.getD i 0≠0→False:=fun i h=>h (iz i)
 refine⟨⟨Zy w _,rfl,aam _ _ _ _,aam _ _ _ _,(ZA _ _).alloc (Zw _) _,fun j I=>by simp at I,iZ.nil,D,fun g e=>e.elim⟩,Zw _,Zw _,⟨0,eZ,eZ,jR,jR,⟨⟨fun i h=>(z i h).elim,fun i h=>(z i h).elim⟩,fun i h=>(z i h).elim,fun i h=>(z i h).elim,rfl,fun i _=>iz i,rfl,rfl,rfl,rfl,fun i h=>(z i h).elim⟩,E,G⟩,rfl⟩
theorem FO {F:Nat→Prop} {n:Int} {d:Nat} {w z:World} {lv:Value} {lets:List Tr} {bs:List Nat} {ks:List fV} {zs:List Yt} {E:Nat→Prop} (h:rO F n d w D lv Z lets bs ks zs E) (G:(D.alloc o).grownBy z lv.ownBlock):Cq z w.heap.size 1 lv∧z.frozen? ⟨w.heap.size,1,none⟩=false:=by
 have U:=((dt.refl (fun g=>lv.ownBlock=some g) D).alloc _).grown G (fun k hk=> .inl hk)
 have V:=(U.block _ (be h.blk) (fun e=>by have:=(h.lrow.lt _ e).1;omega)).trans h.blk
 exact⟨Zz z _ 1 _ _ _ V,Pe V⟩
theorem KY {F:Nat→Prop} {n:Int} {d:Nat} {w z G:World} {lv:Value} {lets:List Tr} {ks:List fV} {zs:List Yt} {E:Nat→Prop} (_h:rO F n d w z lv J lets O ks zs E) (D:(z.alloc o).grownBy G lv.ownBlock) (R:it<z.heap.size) (U:lv.ownBlock≠some it):G.heap[it]?=z.heap[it]?:=by
 have I:=((dt.refl (fun g=>lv.ownBlock=some g) z).alloc _).grown D (fun k V=> .inl V)
 exact I.block it R U
theorem K0 {F:Nat→Prop} {n:Int} {d:Nat} {w:World} {lv:Value} {lets:List Tr} {ks:List fV} {zs:List Yt} {E:Nat→Prop} {c:Tr} (h:rO F n d w D lv G (lets++[c]) (z++[b]) ks zs E):fH (Gx F w.heap.size lv G E) d D b c:=by
 have:=h.ltr lets.length (by simp)
 have I:z.length=lets.length:=by have:=h.len;simpa using this
 have J:(z++[b]).getD lets.length 0=b:=by rw[←I];exact iM
 rw[iM,J] at this;exact this
theorem uR {d:Nat}:∀{l:List fV} {lt:List Nat},pJ d lt l→lt.length=10→ ∀j,j<l.length→iC d (l.getD j nw).c∧(∃lt:List Nat,lt.length=10∧dx lt d (l.getD j nw).c≠0)∧((l.getD j nw).kind=11→(l.getD j nw).wh<10)
 |[],lt,_,_,j,G=>by simp at G
 |x::r,lt,h,D,j,G=>by
  obtain⟨R,I,J⟩:=h
  cases j with
  |zero=>
   refine⟨R,⟨lt,D,I⟩,fun O=>?_⟩
   have U:x.kind=11:=O;rcases J with⟨_,z,_⟩|⟨z,_⟩
   ·rw[D] at z;exact z
   ·omega
  |succ j=>
   have E:j<r.length:=by simpa using G
   rcases J with⟨_,_,z⟩|⟨_,_,_,z⟩
   ·exact uR z (by simpa using D) j E
   ·exact uR z D j E
theorem C7 {F:Nat→Prop} {n:Int} {d:Nat} (hF:eO fl) {w:World} (hv:l6 w v ys) (hI:iZ F d w xs ys) (a0:∀g,F g→g<w.heap.size) (hl:ys.length≤1000) (ad:pJ d eZ xs) (hS:oj 0 xs):
 Calls prog 91 #[v,Iq n] w fun e w'=> ∃v' aN,e= .returned v'∧l6 w' v' aN∧iZ F d w' (pI (dy n) d xs) aN∧Below w.heap.size w w'∧aN.length≤ys.length:=by
 obtain⟨a,cap,rfl,hq⟩:=hv;have HQ:=Hi hq;have HI:Hid (iZ F d w xs ys):=hI;have HF:Hid (eO fl):=hF;have H0:Hid (Pf F n d fl xs w (w.alloc (.cells #[Iq n,.slice none 0 0] 237)) (.slice none 0 0) (.slice none 0 0) [] [] [] [] 0):=KW a0 ad hS;have a8:=Hi (And.intro ad hS);obtain⟨i0,hi,aO,aP,aQ⟩:=abF oR;obtain⟨j0,hj,bv,bw,bx⟩:=abF zq;clear hq hI ad hS hF a0;go_enter func91,ntmps91;go_wp2_with fail
 go_loopw [6,14] (fun kv iv wr=> ∃(k:Nat) (lv:Value) (lets:List Tr) (bs:List Nat) (ks:List fV) (zs:List Yt),k≤ys.length∧iv= Iq k∧Hid (Pf F n d fl xs w wr lv kv lets bs ks zs k)) (fun _ iv _=>ys.length - (intOf iv).toNat)
 case atStart=>exact⟨0,_,_,_,_,_,ZL _,rfl,H0.out⟩
 case round=>
  obtain⟨k,lv,lets,bs,ks,zs,bI,rfl,HX⟩:=hrel
  by_cases aR:k<ys.length
  ·have J:=HX.out
   have hE:=J.eq;obtain⟨mm,lt,lt',bJ,bH,aF,ad,aS⟩:=J.inv;obtain⟨g,rfl,a9,ax⟩:=HQ.out k aR;have ay:=HI.out.2 k aR;have bK:=J.lk;have bL:=J.zk;rw[AD (by rw[HI.out.1];exact aR) nw] at hE ad aS
   obtain⟨aT,ba⟩:∃aT,∃an af tU ag,ti (dy n) (if(xs.getD k nw).kind=11 then lets++[lr (dy n) lets d (xs.getD k nw).c] else lets) aT an af tU ag fl∧pJ d an (xs.drop (k+1))∧oj aT (xs.drop (k+1)):=⟨_,Mx HF.out aF ad aS⟩
   have bb:=Hi ba;generalize xs.getD k nw=x at*;generalize ys.getD k CY=y at*;obtain⟨z,u0,b,wh⟩:=y;have bM:=Hi ay;have aU:=ay.kd;have bc:=ay.wh;simp only[] at aU bc;subst bc;have ah:=Hi aU;clear aU;obtain⟨va,aq,ev⟩:=tS J.mem.krow;obtain rfl:=ev;obtain⟨la,ar,ev⟩:=tS J.mem.lrow;obtain rfl:=ev;have bd:=J.mem.bel;have O:∀j,j<10→wr.cell? ⟨g,k*10+j,none⟩=(fC (z,u0,b,(x.wh:Int)))[j]?:=fun j hj=>by
    rw[bd.cell (p:=⟨g,k*10+j,none⟩) a9];exact ax j hj
   have c0:wr.cell? ⟨g,k*10,none⟩=some (Iq (da z)):=O 0 (by omega)
   have c1:wr.cell? ⟨g,k*10+1,none⟩=some (Iq z.pl):=O 1 (by omega)
   have c2:wr.cell? ⟨g,k*10+2,none⟩=some (Iq (dz z)):=O 2 (by omega)
   have c3:wr.cell? ⟨g,k*10+3,none⟩=some (S (di z)):=O 3 (by omega)
   have c4:wr.cell? ⟨g,k*10+4,none⟩=some (Iq (da u0)):=O 4 (by omega)
   have c5:wr.cell? ⟨g,k*10+5,none⟩=some (Iq u0.pl):=O 5 (by omega)
   have c6:wr.cell? ⟨g,k*10+6,none⟩=some (Iq (dz u0)):=O 6 (by omega)
   have c7:wr.cell? ⟨g,k*10+7,none⟩=some (S (di u0)):=O 7 (by omega)
   have c8:wr.cell? ⟨g,k*10+8,none⟩=some (Iq (x.wh:Nat)):=O 8 (by omega)
   have c9:wr.cell? ⟨g,k*10+9,none⟩=some (Pq b):=O 9 (by omega)
   have bN:(0:Int)≤(k:Int)∧(k:Int)<(ys.length:Int):=by omega
   have au:(wr.alloc (jZ z u0 (x.wh:Int) (Pq b))).heap[wr.heap.size]?=some (jZ z u0 (x.wh:Int) (Pq b)):=Zy wr _;have ai:=J.mem.item (jZ z u0 (x.wh:Int) (Pq b));unfold jZ at au ai;generalize bf:wr.alloc (.cells #[Iq (da z),Iq z.pl,Iq (dz z),S (di z),Iq (da u0),Iq u0.pl,Iq (dz u0),S (di u0),Iq (x.wh:Nat),Pq b] 163 (0,0))=w1 at*;have bg:=Hi bf;have bh:fH (Gx F w.heap.size (.slice la lets.length ar) (.slice va zs.length aq) (fun g=>g=wr.heap.size)) d w1 b x.c:=(ay.tr.more (fun g hg hx=>by rcases ai.ge g hx with q|q;omega;exact q)).below ai.bel
   have W1:=KR (Oa HF.out aF (by omega)) d d ai.lt ai.rw ad.1 ad.2.1 bh
   have bi:=Hi ai;have aj:=Hi au;have HE:=Hi hE;obtain⟨⟨z0,z1,z2,z3,z4,z5,z6,z7,z8,z9⟩,zf⟩:=eo au;clear O ax J bd ay au HX a9 bf hE ba aF ad aS ai bh
   go_upto_region 6 with fail
   rw[bg.out]
   go_upto_region 7 with(first|(go_at_call 128;refine W1.mono ?_;rintro e w2 ⟨⟨b',rfl,bj⟩,az⟩;have q9:w2.cell? ⟨wr.heap.size,9,none⟩=some (Pq b):=by{rw[az.cell (p:=⟨wr.heap.size,9,none⟩) (be aj.out)];exact z9};have qf:w2.frozen? ⟨wr.heap.size,9,none⟩=false:=by{rw[aao (w:=w1) (a:=⟨wr.heap.size,9,none⟩) (az.block _ (be aj.out))];exact zf 9}))
   have ae:=(bi.out.below az).only ((dt.refl (fun g=>g=wr.heap.size) w2).setCell (o:=9) (.inl rfl) (Pq b'))
   have aA:=bj.only (((dt.refl (fun g=>g=wr.heap.size) w2).setCell (o:=9) (.inl rfl) (Pq b')).weak (fun i _ hi=>Or.inl hi))
   have ak:(w2.setCell ⟨wr.heap.size,9,none⟩ (Pq b')).heap[wr.heap.size]?=some (.cells #[Iq (da z),Iq z.pl,Iq (dz z),S (di z),Iq (da u0),Iq u0.pl,Iq (dz u0),S (di u0),Iq (x.wh:Nat),Pq b'] 163 (0,0)):=by
    rw[ZK w2 wr.heap.size 9 _ _ _ ((az.block _ (be aj.out)).trans aj.out)];rfl
   generalize w2.setCell ⟨wr.heap.size,9,none⟩ (Pq b')=R at*;clear z0 z1 z2 z3 z4 z5 z6 z7 z8 z9 zf c0 c1 c2 c3 c4 c5 c6 c7 c8 c9 q9 qf W1 bj az bi aj bg;obtain⟨⟨s0,s1,s2,s3,s4,s5,s6,s7,s8,s9⟩,sf⟩:=eo ak;have bz:=Hi ae;have bA:=Hi aA;have av:=Hi ak
   by_cases U:x.kind=11
   ·have bB:((da z:Int)==11)=true:=by rw[ah.out,U];rfl
    have aa:=Hi bb.out;rw[Zu U] at aa;have hD:Below R.heap.size R R.drew:=(ZA _ _).drew;have ab:=Hi (ae.below hD);have bu:=Hi (aA.below hD);have bC:Hid (R.drew.ownsRow (w.heap.size+1) 161 1 (.slice la lets.length ar) lets.length (vB bs)):=ab.out.lrow;have r1:=Zz R _ 1 _ _ _ ae.blk;have rf:R.frozen? ⟨w.heap.size,1,none⟩=false:=Pe ae.blk;have bO:=ae.big;have ao:Hid (th (dy n) d lets (x::List.drop (k+1) xs)=if jh n 1=true∧(lr (dy n) lets d x.c).kids=[] then th (dy n) d (lets++[lr (dy n) lets d x.c]) (List.drop (k+1) xs) else⟨x.kind,x.wh,lr (dy n) lets d x.c⟩::th (dy n) d (lets++[lr (dy n) lets d x.c]) (List.drop (k+1) xs)):=by
     show _=_
     rw[th,Zu U]
     by_cases q:jh n 1=true∧(lr (dy n) lets d x.c).kids=[]
     ·rw[Zu q,Zu ⟨q.1,U,q.2⟩]
     ·rw[Zt q,Zt (fun e=>q ⟨e.1,e.2.2⟩)]
    have aJ:Hid (decide (da z=11)=true):=by show _=_;rw[ah.out];exact aad U
    have pa:w.heap.size<R.heap.size:=by omega
    have ia:=be ak
    clear ae aA ak U hD
    go_upto_region 8 with fail
    go_region_law (first
     |(refine step_append_lies _ (by rfl) _ _ _ (by rfl) (w.heap.size+1) 161 j0 _ 1 8 underlying227 hj bv bw bx (by rfl) (by decide) (.slice la lets.length ar) lets.length (vB bs) (by rfl) (aac bC.out _) ⟨R.heap.size,0,none⟩ 1 1 [Pq b'] (by rfl) (by rfl) (World.news_of_block (Zy R.drew _)) (fun x hx=>by simp at hx;rcases hx with rfl;rfl) (by decide) (by unfold maxLen;omega) (by omega) (by simp;omega) (R.heap.size+1) (by simp) ?_;intro aV aG w5 E D V ac;have y1:=(FO ab.out D).1;have yf:=(FO ab.out D).2;have bD:Hid _:=KY ab.out D (be av.out) (ab.out.off _ rfl).2.2.1;have aB:Hid _:=ab.out.addLet bu.out E D (by rcases V with h|h;exact .inl h;right;rw[h];rfl);clear E D V ac))
    all_goals
     have aH:(w5.setCell ⟨w.heap.size,1,none⟩ (Sq aV (lets.length+1) aG)).heap[wr.heap.size]?=_:=(ZO _ _ _ _ (by have:=(ab.out.off _ rfl).1;simp only[];omega)).trans (bD.out.trans av.out)
     have aw:=Hi aH;generalize w5.setCell ⟨w.heap.size,1,none⟩ (Sq aV (lets.length+1) aG)=w6 at*;generalize Value.slice (some ⟨aV,0,none⟩) (lets.length+1) aG=bP at*;have aW:=Hi (K0 aB.out);have W2:=vq (kd:=da z) (wh:=x.wh) (a1:= Iq z.pl) (a2:= Iq (dz z)) (a3:=S (di z)) (a4:= Iq (da u0)) (a5:= Iq u0.pl) (a6:= Iq (dz u0)) (a7:=S (di u0)) rfl rfl rfl rfl rfl rfl rfl aB.out.rw aW.out;rw[aJ.out,aaG] at W2;clear s0 s1 s2 s3 s4 s5 s6 s7 s8 s9 sf r1 rf y1 yf;obtain⟨⟨s0,s1,s2,s3,s4,s5,s6,s7,s8,s9⟩,sf⟩:=eo aH;clear aH
     cases aC:jh n 1
     ·have am:Hid (th (dy n) d lets (x::List.drop (k+1) xs)=⟨x.kind,x.wh,lr (dy n) lets d x.c⟩::th (dy n) d (lets++[lr (dy n) lets d x.c]) (List.drop (k+1) xs)):=by
       show _=_
       rw[ao.out,Zt (fun e=>by rw[aC] at e;simp at e)]
      rw[aC,acg] at W2;clear ao aJ
      go_upto_region 9 with fail
      go_upto_region 10 with(first|(go_at_call 129;refine W2.mono ?_;rintro e Y ⟨rfl,G⟩))
      have I:=Hi (aB.out.below G);have aD:=Hi (aW.out.below G);have Z:=(G.block _ (be aw.out)).trans aw.out;obtain⟨⟨p0,p1,p2,p3,p4,p5,p6,p7,p8,p9⟩,pf⟩:=eo Z;have aE:Hid (Y.ownsRow (w.heap.size+1) 163 10 (.slice va zs.length aq) zs.length (dV zs)):=I.out.krow;have bk:=I.out.big;clear Z G W2 s0 s1 s2 s3 s4 s5 s6 s7 s8 s9 sf
      go_wp2_with (at_builtin;go_must (refine wpList_append_lies _ (by rfl) _ _ 84 (by rfl) (w.heap.size+1) 163 i0 (.agg #[Iq 0,Iq 0,Iq 0,.string ⟨#[]⟩,Iq 0,Iq 0,Iq 0,.string ⟨#[]⟩,Iq 0,.pointer none]) 10 96 underlying84 hi aO aP aQ (by rfl) (by decide) _ _ _ (by rfl) (aE.out.alloc _) ⟨Y.heap.size,0,none⟩ 1 1 [Iq (da z),Iq z.pl,Iq (dz z),S (di z),Iq (da u0),Iq u0.pl,Iq (dz u0),S (di u0),Iq (x.wh:Nat),Pq b'] (by rfl) (by rfl) (World.news_of_block (Zy Y _)) (fun x hx=>by simp at hx;rcases hx with rfl|rfl|rfl|rfl|rfl|rfl|rfl|rfl|rfl|rfl<;>rfl) (by decide) (by unfold maxLen;omega) (by omega) (by simp;omega) _ rfl ?_);intro gg aX w8 E D V ac;have HN:Hid _:=(I.out.keep (x:=⟨x.kind,x.wh,lr (dy n) lets d x.c⟩) (y:=(z,u0,b',(x.wh:Int))) ⟨ah.out,rfl,aD.out⟩ E D (by rcases V with h|h;exact .inl h;right;rw[h,ZB])).free;clear E D V ac)
      go_roundw
      case rel=>
       obtain⟨an,af,tU,ag,i1,i2,i3⟩:=aa.out;exact⟨k+1,_,_,_,_,_,by omega,by go_num,⟨HN.out,by simp;omega,by simp;omega,⟨_,_,_,_,_,i1,i2,i3⟩,by rw[←HE.out,am.out];simp⟩⟩
      case measure=>simp[intOf];omega
     ·by_cases ap:(lr (dy n) lets d x.c).kids=[]
      ·have am:Hid (th (dy n) d lets (x::List.drop (k+1) xs)=th (dy n) d (lets++[lr (dy n) lets d x.c]) (List.drop (k+1) xs)):=by
        show _=_
        rw[ao.out,Zu ⟨aC,ap⟩]
       rw[aC,aaG,aad ap] at W2;clear ao aJ ap
       go_wp2_with (first|(go_at_call 129;refine W2.mono ?_;rintro e Y ⟨rfl,G⟩))
       have I:=Hi (aB.out.below G).free;clear G W2
       go_roundw
       case rel=>
        obtain⟨an,af,tU,ag,i1,i2,i3⟩:=aa.out;exact⟨k+1,_,_,_,_,_,by omega,by go_num,⟨I.out,by omega,by simp;omega,⟨_,_,_,_,_,i1,i2,i3⟩,by rw[←HE.out,am.out]⟩⟩
       case measure=>simp[intOf];omega
      ·have am:Hid (th (dy n) d lets (x::List.drop (k+1) xs)=⟨x.kind,x.wh,lr (dy n) lets d x.c⟩::th (dy n) d (lets++[lr (dy n) lets d x.c]) (List.drop (k+1) xs)):=by
        show _=_
        rw[ao.out,Zt (fun e=>ap e.2)]
       rw[aC,aaG,Z4 ap] at W2;clear ap;clear ao aJ
       go_upto_region 9 with fail
       go_upto_region 10 with(first|(go_at_call 129;refine W2.mono ?_;rintro e Y ⟨rfl,G⟩))
       have I:=Hi (aB.out.below G);have aD:=Hi (aW.out.below G);have Z:=(G.block _ (be aw.out)).trans aw.out;obtain⟨⟨p0,p1,p2,p3,p4,p5,p6,p7,p8,p9⟩,pf⟩:=eo Z;have aE:Hid (Y.ownsRow (w.heap.size+1) 163 10 (.slice va zs.length aq) zs.length (dV zs)):=I.out.krow;have bk:=I.out.big;clear Z G W2 s0 s1 s2 s3 s4 s5 s6 s7 s8 s9 sf
       go_wp2_with (at_builtin;go_must (refine wpList_append_lies _ (by rfl) _ _ 84 (by rfl) (w.heap.size+1) 163 i0 (.agg #[Iq 0,Iq 0,Iq 0,.string ⟨#[]⟩,Iq 0,Iq 0,Iq 0,.string ⟨#[]⟩,Iq 0,.pointer none]) 10 96 underlying84 hi aO aP aQ (by rfl) (by decide) _ _ _ (by rfl) (aE.out.alloc _) ⟨Y.heap.size,0,none⟩ 1 1 [Iq (da z),Iq z.pl,Iq (dz z),S (di z),Iq (da u0),Iq u0.pl,Iq (dz u0),S (di u0),Iq (x.wh:Nat),Pq b'] (by rfl) (by rfl) (World.news_of_block (Zy Y _)) (fun x hx=>by simp at hx;rcases hx with rfl|rfl|rfl|rfl|rfl|rfl|rfl|rfl|rfl|rfl<;>rfl) (by decide) (by unfold maxLen;omega) (by omega) (by simp;omega) _ rfl ?_);intro gg aX w8 E D V ac;have HN:Hid _:=(I.out.keep (x:=⟨x.kind,x.wh,lr (dy n) lets d x.c⟩) (y:=(z,u0,b',(x.wh:Int))) ⟨ah.out,rfl,aD.out⟩ E D (by rcases V with h|h;exact .inl h;right;rw[h,ZB])).free;clear E D V ac)
       go_roundw
       case rel=>
        obtain⟨an,af,tU,ag,i1,i2,i3⟩:=aa.out;exact⟨k+1,_,_,_,_,_,by omega,by go_num,⟨HN.out,by simp;omega,by simp;omega,⟨_,_,_,_,_,i1,i2,i3⟩,by rw[←HE.out,am.out];simp⟩⟩
       case measure=>simp[intOf];omega
   ·have bB:((da z:Int)==11)=false:=by rw[ah.out];simp;omega
    have am:Hid (th (dy n) d lets (x::List.drop (k+1) xs)=⟨x.kind,x.wh,lr (dy n) lets d x.c⟩::th (dy n) d lets (List.drop (k+1) xs)):=by
     show _=_
     rw[th,Zt U,Zt (fun e=>U e.2.1)]
    have aa:=Hi bb.out;rw[Zt U] at aa;have W2:=vq (kd:=da z) (wh:=x.wh) (a1:= Iq z.pl) (a2:= Iq (dz z)) (a3:=S (di z)) (a4:= Iq (da u0)) (a5:= Iq u0.pl) (a6:= Iq (dz u0)) (a7:=S (di u0)) rfl rfl rfl rfl rfl rfl rfl ae.rw aA;have bl:decide (da z=11)=false:=by rw[ah.out];exact Z4 U
    rw[bl,acg,Bool.and_false] at W2;clear ae aA ak bl U
    go_upto_region 9 with fail
    go_upto_region 10 with(first|(go_at_call 129;refine W2.mono ?_;rintro e Y ⟨rfl,G⟩))
    have I:=Hi (bz.out.below G);have aD:=Hi (bA.out.below G);have Z:=(G.block _ (be av.out)).trans av.out;obtain⟨⟨p0,p1,p2,p3,p4,p5,p6,p7,p8,p9⟩,pf⟩:=eo Z;have aE:Hid (Y.ownsRow (w.heap.size+1) 163 10 (.slice va zs.length aq) zs.length (dV zs)):=I.out.krow;have bk:=I.out.big;clear Z G W2 s0 s1 s2 s3 s4 s5 s6 s7 s8 s9 sf
    go_wp2_with (at_builtin;go_must (refine wpList_append_lies _ (by rfl) _ _ 84 (by rfl) (w.heap.size+1) 163 i0 (.agg #[Iq 0,Iq 0,Iq 0,.string ⟨#[]⟩,Iq 0,Iq 0,Iq 0,.string ⟨#[]⟩,Iq 0,.pointer none]) 10 96 underlying84 hi aO aP aQ (by rfl) (by decide) _ _ _ (by rfl) (aE.out.alloc _) ⟨Y.heap.size,0,none⟩ 1 1 [Iq (da z),Iq z.pl,Iq (dz z),S (di z),Iq (da u0),Iq u0.pl,Iq (dz u0),S (di u0),Iq (x.wh:Nat),Pq b'] (by rfl) (by rfl) (World.news_of_block (Zy Y _)) (fun x hx=>by simp at hx;rcases hx with rfl|rfl|rfl|rfl|rfl|rfl|rfl|rfl|rfl|rfl<;>rfl) (by decide) (by unfold maxLen;omega) (by omega) (by simp;omega) _ rfl ?_);intro gg aX w8 E D V ac;have HN:Hid _:=(I.out.keep (x:=⟨x.kind,x.wh,lr (dy n) lets d x.c⟩) (y:=(z,u0,b',(x.wh:Int))) ⟨ah.out,rfl,aD.out⟩ E D (by rcases V with h|h;exact .inl h;right;rw[h,ZB])).free;clear E D V ac)
    go_roundw
    case rel=>
     obtain⟨an,af,tU,ag,i1,i2,i3⟩:=aa.out;exact⟨k+1,_,_,_,_,_,by omega,by go_num,⟨HN.out,by simp;omega,by omega,⟨_,_,_,_,_,i1,i2,i3⟩,by rw[←HE.out,am.out];simp⟩⟩
    case measure=>simp[intOf];omega
  ·obtain rfl:k=ys.length:=by omega
   have J:=HX.out;have hE:ks=th (dy n) d [] xs:=by
    have:=J.eq;rw[aab (by rw[HI.out.1];exact Zw _)] at this
    simpa [th] using this
   have bm:Hid (iZ F d wr ks zs):=J.mem.its.map (fun _ _ t=>t.more (fun _ _ e=> .inr (.inr (.inr (.inr e)))))
   have HR:Hid (l6 wr u6 zs):=l6.of_row J.mem.krow;have HB:Hid (Below w.heap.size w wr):=J.mem.bel;have HZ:Hid (zs.length≤ys.length):=J.zk;have bo:Hid (pJ d eZ (jF ks)):=by
    have hz:∀i,eZ.getD i 0≠0→False:=fun i h=>h (iz i)
    have i1:=(wX (p:=dy n) (d:=d) HF.out (lets:=[]) (m:=0) (lt:=eZ) (lt':=eZ) (lv:=jR) (lv':=jR) ⟨⟨fun i h=>(hz i h).elim,fun i h=>(hz i h).elim⟩,fun i h=>(hz i h).elim,fun i h=>(hz i h).elim,rfl,fun i _=>iz i,rfl,rfl,rfl,rfl,fun i h=>(hz i h).elim⟩ a8.out.1 a8.out.2).1
    rw[←hE] at i1;exact(tp (fl:=fl) (lv:=jR) i1).1
   have aK:Hid (pI (dy n) d xs=if jh n 4=true then(iU d (jF ks)).1 else ks):=by
    show _=_
    rw[hE];rfl
   have D1:=fP 4 (Zz wr _ 0 _ _ _ J.mem.blk:Cq wr w.heap.size 0 (Iq n));clear J HX hE
   cases h4:jh n 4
   ·rw[h4] at D1
    have aI:Hid (pI (dy n) d xs=ks):=by show _=_;rw[aK.out,Zt (by rw[h4];decide)]
    clear aK bo h4;go_wp2_with fail;apply D1.mono;rintro e w' ⟨rfl,aY⟩;subst aY;clear D1;go_wp2;go_ret;exact⟨_,zs,rfl,HR.out,by rw[aI.out];exact bm.out,HB.out,HZ.out⟩
   ·rw[h4] at D1
    have aI:Hid (pI (dy n) d xs=(iU d (jF ks)).1):=by show _=_;rw[aK.out,Zu h4]
    have V1:=fun(_:Unit)=>CZ HR.out bm.out (by have:=HZ.out;omega)
    clear aK h4;go_wp2_with fail;apply D1.mono;rintro e w' ⟨rfl,aY⟩;subst aY;clear D1;go_wp2_with fail;apply(V1 ()).mono;rintro e Y ⟨v7,bE,rfl,kp,bp⟩;have V2:=IE (F:=F) (l6.of_row kp.row) (kp.its.map (fun _ _ t=>t.below kp.bel)) (by have:=HZ.out;omega) (fun j hj=>uR bo.out rfl j (by rw[kp.its.1];exact hj))
    have bq:Hid (Below w.heap.size w Y):=HB.out.trans (kp.bel.mono HB.out.size);have bF:Hid (bE.length≤zs.length):=bp;clear V1 kp bp;go_wp2_with fail;apply V2.mono;rintro e w8 ⟨v8,aL,rfl,br,bt,aZ,bG⟩;have aM:Hid (l6 w8 v8 aL∧iZ F d w8 (iU d (jF ks)).1 aL∧Below w.heap.size w w8∧aL.length≤ys.length):=⟨br,bt.map (fun _ _ t=>t.below aZ),bq.out.trans (aZ.mono bq.out.size),by have:=HZ.out;have:=bF.out;omega⟩
    clear V2 br bt aZ bG;go_wp2;go_ret;exact⟨_,aL,rfl,aM.out.1,by rw[aI.out];exact aM.out.2.1,aM.out.2.2.1,aM.out.2.2.2⟩
theorem l6.only {w:World} {b c:Value} {T:TypeId} {z:Nat×Nat} (h:l6 w v ys) (E:dt (fun g=>g=lp) w w') (O:w.heap[lp]?=some (.cells #[.bool j,a,b,c] T z)):l6 w' v ys:=by
 obtain⟨q,cap,e,R⟩:=h;refine⟨q,cap,e,fun k U=>?_⟩
 obtain⟨g,e,V,G⟩:=R k U;have I: ¬g=lp:=fun e=>by
  subst e;have D:=G 0 (by omega)
  have Y:=Zz w g (k*10+0) _ _ _ O;rw[Y] at D
  cases k with
  |zero=>
   have D:=D
   cases D
  |succ k=>
   rw[aaC,ZQ (by simp;omega)] at D
   have D:=D
   cases D
 refine⟨g,e,by have:=E.size;omega,fun j J=>?_⟩
 rw[ZI (w:=w) (a:=⟨g,k*10+j,none⟩) (E.block g V I)];exact G j J
theorem xU {d:Nat}:∀{l:List fV} {lt:List Nat},pJ d lt l→lt.length=10→ ∀x∈l,(x.kind=11∨x.kind=12∨x.kind=13)∧x.wh≤255
 |[],_,_,_=>by simp
 |x::r,lt,h,G=>by
  obtain⟨J,O,h3⟩:=h;intro y z;simp only[ZU] at z;rcases h3 with⟨D,I,E⟩|⟨D,_,I,E⟩
  ·rcases z with rfl|z
   ·exact⟨.inl D,by omega⟩
   ·exact xU E (by simpa using G) y z
  ·rcases z with rfl|z
   ·exact⟨.inr D,I⟩
   ·exact xU E G y z
structure K1 (d:Nat) (L:List fV) (w2 wr:World) (lp:Nat) (jmp:Bool) (vi:Value) (k:Nat):Prop where
 ly:AL (fun g=>g=lp) w2 wr lp jmp vi (ko jmp d (L.take k) []) (sE jmp d (L.take k) 0) (uO (L.take k) 0)
theorem K1.below {d:Nat} {L:List fV} {z wr w':World} {lp:Nat} {jmp:Bool} {D:Value} {k:Nat} (h:K1 d L z wr lp jmp D k) (E:Below wr.heap.size wr w'):K1 d L z w' lp jmp D k:=⟨h.ly.below E⟩
theorem K1.next {d:Nat} {L:List fV} {E wr w':World} {lp:Nat} {jmp:Bool} {G:Value} {k:Nat} {x:fV} (h:K1 d L E wr lp jmp G k) (z:L[k]?=some x) (I:ez wr w' lp jmp G (ko jmp d (L.take k) []++iE jmp d x (ko jmp d (L.take k) []).length) (max (sE jmp d (L.take k) 0) (iD jmp d x)) (if x.kind=11 then x.wh+1 else uO (L.take k) 0)):∃D,K1 d L E w' lp jmp D (k+1):=by
 obtain⟨D,J,_⟩:=h.ly.next I;refine⟨D,⟨?_⟩⟩;rw[EY z,Iv z,Iw z];exact J
theorem K1.lay {d:Nat} (hd:d≤24) {wr:World} {x:fV} (h:K1 d L D wr lp jmp U k) (E:L[k]?=some x) (I:pJ d eZ L) (hn:gY d L≤200) (hl:L.length≤30) (V:fH (fun g=>g=lp) d D b x.c) (Y:a1.oneCell'=true) (Z:a2.oneCell'=true) (o3:a3.oneCell'=true) (o4:a4.oneCell'=true) (o5:a5.oneCell'=true) (o6:a6.oneCell'=true) (o7:a7.oneCell'=true):
 Calls prog 92 #[Pq lp,.agg #[Iq x.kind,a1,a2,a3,a4,a5,a6,a7,Iq x.wh,Pq b]] wr fun e w'=>e= .returned (.tuple #[])∧ ∃v',K1 d L D w' lp jmp v' (k+1):=by
 have G:x∈L:=List.mem_of_getElem? E;obtain⟨hk,hw⟩:=xU I rfl x G;have z:=AF I;have hs:=uQ (jmp:=jmp) (d:=d) (L:=L.take k) (l:=[]) (fun y hy=>z y (abB hy))
 have hi:=KU (jmp:=jmp) (z x G);have J:=Ix (d:=d) L (k+1);rw[qX E] at J;have e2:gY d (L.take k++[x])=gY d (L.take k)+fz d x.c:=by simp[gY]
 have ab:(L.take k).length≤30:=by rw[abE];omega
 have ac:sE jmp d (L.take k) 0≤24:=by rw[AE];have:=Af jmp d (L.take k);omega
 simp only[aas] at hs;exact(CX Y Z o3 o4 o5 o6 o7 hk hw (z x G) V h.ly (by omega) (by omega) (by omega)).mono fun e w' O=>⟨O.1,h.next E O.2⟩
theorem AH {n:Int} {d:Nat} (hd:d≤24) {w:World} (hv:l6 w v ys) (hI:iZ (fun g=>w.heap.size≤g) d w l ys) (hT:pJ d eZ l) (hS:oj 0 l) (hn:gY d l≤200) (hl:l.length≤30):
 Calls prog 44 #[v,Iq n] w fun e w'=>e= .returned (S (lG (dy n) d l))∧Below w.heap.size w w':=by
 have aI:l.length=ys.length:=hI.1;obtain⟨L,hL⟩:∃L,pI (dy n) d l=L:=⟨_,rfl⟩;obtain⟨ls,ad⟩:∃ls,ko (dy n).jmp d L []++[⟨18,0,0⟩]=ls:=⟨_,rfl⟩;obtain⟨Y,R,I,J,U,aw,ax,ay⟩:=Iy hd hT hS hn hl hL ad;have ej:(dy n).jmp=jh n 8:=rfl;have eb:jh n 8=(bits .and .i64 n 8 !=0):=rfl;have G:Below w.heap.size w (w.alloc (.cells #[.bool (jh n 8),.slice none 0 0,Iq 0,Iq 0] 194)):=(ZA _ _).alloc (Zw _) _;have aa:(w.alloc (.cells #[.bool (jh n 8),.slice none 0 0,Iq 0,Iq 0] 194)).heap[w.heap.size]?=some (.cells #[.bool (jh n 8),.slice none 0 0,Iq 0,Iq 0] 194 (0,0)):=Zy w _;generalize ag:w.alloc (.cells #[.bool (jh n 8),.slice none 0 0,Iq 0,Iq 0] 194)=wA at*;have Z:=be aa;have W1:=C7 (F:=fun g=>g=w.heap.size) (n:=n) my (hv.below G) (hI.map fun _ _ t=>(t.more (fun g _ (e:g=w.heap.size)=>by omega)).below G) (fun g (e:g=w.heap.size)=>by omega) (by omega) hT hS
 have HW:=Hi ag;rw[hL] at W1
 clear ag hI hv;have HB:=Hi aa;go_enter func44,ntmps44;go_wp2_with fail;rw[←eb,HW.out];apply W1.mono;rintro e w2 ⟨v',E,rfl,hr,hi,ae,aL⟩;obtain⟨a,cap,rfl,hq⟩:=hr;go_wp2_with fail;have V:=(ae.block _ Z).trans HB.out;have az:Hid (l6 w2 (.slice a E.length cap) E):=⟨a,cap,rfl,hq⟩;have aA:=Hi hi;have au:=Hi V;have ah:Hid (Below w.heap.size w w2):=G.trans (ae.mono G.size);have aB:Hid (K1 d L w2 w2 w.heap.size (jh n 8) (.slice none 0 0) 0):=⟨⟨⟨V,aam _ _ _ _⟩,.inl rfl,fun g hg=>by simp[Value.ownBlock] at hg,dt.refl _ _⟩⟩
 have ai:=Hi (And.intro Y (And.intro R (And.intro I (And.intro J U))));have aj:=Hi ad;have aM:L.length=E.length:=hi.1;clear V hq hi W1 ae G aa HW HB Y I R J U ad Z;go_wp2_with fail
 go_loopw [17] (fun(iv:Value) wr=> ∃(k:Nat) (vi:Value),k≤E.length∧iv= Iq k∧Hid (K1 d L w2 wr w.heap.size (jh n 8) vi k)) (fun iv _=>E.length - (intOf iv).toNat)
 case atStart=>exact⟨0,_,ZL _,rfl,aB.out⟩
 case round=>
  obtain⟨k,vi,hk,rfl,HX⟩:=hrel
  by_cases Z:k<E.length
  ·have hX:=HX.out
   obtain⟨a2,aJ,e2,ak⟩:=l6.only az.out hX.ly.bel au.out;simp only[aak,abf] at e2;obtain⟨rfl,rfl⟩:=e2;obtain⟨g,rfl,aC,z⟩:=ak k Z;have ab:=aA.out.2 k Z;have am:L[k]?=some (L.getD k nw):=by rw[Zs,Zv (by omega)];rfl
   generalize L.getD k nw=x at*;generalize E.getD k CY=y at*;obtain⟨O,u0,b,wh⟩:=y;have an:da O=x.kind:=ab.kd;have aD:wh=(x.wh:Int):=ab.wh;have ao:fH (fun g=>g=w.heap.size) d w2 b x.c:=ab.tr
   subst aD;have c0:Cq wr g (k*10) (Iq x.kind):=by rw[←an];exact z 0 (by omega)
   have c1:Cq wr g (k*10+1) (Iq O.pl):=z 1 (by omega)
   have c2:Cq wr g (k*10+2) (Iq (dz O)):=z 2 (by omega)
   have c3:Cq wr g (k*10+3) (S (di O)):=z 3 (by omega)
   have c4:Cq wr g (k*10+4) (Iq (da u0)):=z 4 (by omega)
   have c5:Cq wr g (k*10+5) (Iq u0.pl):=z 5 (by omega)
   have c6:Cq wr g (k*10+6) (Iq (dz u0)):=z 6 (by omega)
   have c7:Cq wr g (k*10+7) (S (di u0)):=z 7 (by omega)
   have c8:Cq wr g (k*10+8) (Iq (x.wh:Nat)):=z 8 (by omega)
   have c9:Cq wr g (k*10+9) (Pq b):=z 9 (by omega)
   have aN:(0:Int)≤(k:Int)∧(k:Int)<(E.length:Int):=by omega
   have G:Below wr.heap.size wr (wr.alloc (.cells #[Iq x.kind,Iq O.pl,Iq (dz O),S (di O),Iq (da u0),Iq u0.pl,Iq (dz u0),S (di u0),Iq (x.wh:Nat),Pq b] 163)):=(ZA _ _).alloc (Zw _) _;have W2:=(hX.below G).lay hd am aw ax ay ao (a1:= Iq O.pl) (a2:= Iq (dz O)) (a3:=S (di O)) (a4:= Iq (da u0)) (a5:= Iq u0.pl) (a6:= Iq (dz u0)) (a7:=S (di u0)) rfl rfl rfl rfl rfl rfl rfl;clear z ab am ao hX HX G ak aC an;go_wp2_with fail;apply W2.mono;rintro e D ⟨rfl,v3,h3⟩;have HN:=Hi h3;clear W2 h3 c0 c1 c2 c3 c4 c5 c6 c7 c8 c9;go_wp2
   go_roundw
   case rel=>exact⟨k+1,v3,by omega,by go_num,HN.out⟩
   case measure=>simp[intOf];omega
  ·obtain rfl:k=E.length:=by omega
   have hX:=HX.out;have ac:=hX.ly;rw[aay (by omega)] at ac
   obtain⟨Y,R,I,J,U⟩:=ai.out;have af:(ko (jh n 8) d L []).length+1=ls.length:=by rw[←aj.out];simp[ej]
   have W2:=jU 18 0 ac.at_ (by omega)
   have ap:=Hi ac;clear hX HX ac Y R I J U;go_wp2_with fail;apply W2.mono;rintro e D ⟨rfl,aq⟩;obtain⟨v3,h3,_⟩:=ap.out.next aq;have e3:ko (jh n 8) d L []++[⟨18,0,0⟩]=ls:=aj.out;rw[e3] at h3;obtain⟨Y,R,I,J,U⟩:=ai.out;rw[ej] at Y J;have W3:=fun W (hb:Below D.heap.size D W)=>Ib (dep:=sE (jh n 8) d L 0) (cells:=uO L 0) (h3.below hb).at_.ins (by omega) I (by omega) (by omega)
   rw[Y] at W3;obtain⟨va,av,aE⟩:=tS h3.at_.row;subst aE;have P1:∀W,Below D.heap.size D W→Cq W w.heap.size 1 (.slice va ls.length av):=fun W hb=>Zz W _ 1 _ _ _ (h3.below hb).at_.blk
   have P2:∀W,Below D.heap.size D W→Cq W w.heap.size 2 (Iq (sE (jh n 8) d L 0:Nat)):=fun W hb=>Zz W _ 2 _ _ _ (h3.below hb).at_.blk
   have P3:∀W,Below D.heap.size D W→Cq W w.heap.size 3 (Iq (uO L 0:Nat)):=fun W hb=>Zz W _ 3 _ _ _ (h3.below hb).at_.blk
   have HF:Hid (Below w.heap.size w D):=ah.out.trans (h3.bel.below ah.out.size (fun k _ hk=>by have hk:k=w.heap.size:=hk;omega))
   have aF:Below D.heap.size D D:=ZA _ _;have KD:Hid (∀W:World,Below D.heap.size D W→Below D.heap.size D W.drew):=fun W h=>h.drew
   have KB:Hid (∀W W':World,Below D.heap.size D W→Below W.heap.size W W'→Below D.heap.size D W'):=fun W W' h h'=>h.trans (h'.mono h.size)
   clear W2 aq h3 e3 Y R I J U ap af;generalize ar:lG (dy n) d l=cb at*;have aG:=Hi ar;clear ar;generalize sE (jh n 8) d L 0=dp at*;generalize uO L 0=cl at*;go_wp2
   go_region_held3 (fun W=>Below D.heap.size D W) (first|assumption|exact KB.out _ _ (by assumption) aH|exact KD.out _ aF|exact KD.out _ (by assumption)|go_keep)
    (first
     |(go_at_call 94;refine(W3 _ (by assumption)).mono ?_;rintro e w4 ⟨rfl,aH⟩))
   all_goals
    rename_i hHeld
    go_wp2;go_ret;exact⟨by rw[aG.out];rfl,HF.out.trans (hHeld.mono HF.out.size)⟩
theorem AI {z:Nat} {L:List Pt} {xs:List dY} {w:World} {n:Int} (h:xi z L xs base v ys w) (D:nq L xs):
 Calls prog 44 #[v,Iq n] w fun e w'=>e= .returned (S (lG (dy n) 24 (xt L xs)))∧Below w.heap.size w w':=by
 obtain⟨E,G,h3⟩:=Mw h D;exact AH (Zw _) E G h3.ty h3.seq (by rw[h3.cnt];exact h3.few.1) (by rw[h3.len];exact h3.few.2)
def jK (l:List UInt8) (n:Int):List UInt8:=if(du l).1.1=0 then lG (dy n) 24 (xt (du l).2.1 (du l).2.2) else[]
theorem pE (l:List UInt8) (m:Int) (w:World) (hW:Wd w) (hm:l.length≤maxLen):Calls prog 23 #[S l,Iq m] w fun e w'=>e= .returned (.tuple #[S (jK l m),Iq (du l).1.1,Iq (du l).1.2])∧Below w.heap.size w w':=by
 have U:=uC l w hW hm;have J:Hid ((du l).1.1=0→nq (du l).2.1 (du l).2.2):=sq l;have E:Hid (jK l m=if(du l).1.1=0 then lG (dy m) 24 (xt (du l).2.1 (du l).2.2) else[]):=rfl
 have O:Hid ((du l).1.1=0→(du l).1.2=0):=yX l;have hb:=xj l;generalize jK l m=r at*;generalize (du l).1.1=n at*;generalize (du l).1.2=k at*;generalize (du l).2.1=L at*;generalize (du l).2.2=xs at*;go_enter func23,ntmps23;go_wp2_with fail;apply U.mono;rintro e w1 ⟨G,v,rfl,R⟩
 by_cases z:n=0
 ·obtain⟨bs,ys,ac,V⟩:=R z
  have Y:=J.out z;have Z:=AI (n:=m) V Y;have D:Hid (r=lG (dy m) 24 (xt L xs)):=by show _=_;rw[E.out,Zu z]
  have aa:=Hi (O.out z);have I:=Hi G;subst z;generalize lG (dy m) 24 (xt L xs)=pr at*;go_wp2_with fail;apply Z.mono;rintro e w2 ⟨rfl,ab⟩;go_wp2;refine ZH (v:= .tuple #[S pr,Iq 0,Iq 0]) (by simp[results,results23,go_sem]) rfl ?_
  exact⟨by rw[D.out,aa.out];rfl,I.out.trans (ab.mono I.out.size)⟩
 ·have e1:((n:Int)==0)=false:=by
   have: ¬(n:Int)=0:=by omega
   simpa using this
  have e2:((n:Int) !=0)=true:=by
   have: ¬(n:Int)=0:=by omega
   simpa using this
  have D:Hid (r=[]):=by show _=_;rw[E.out,Zt z]
  have I:=Hi G;go_wp2;refine ZH (v:= .tuple #[S [],Iq n,Iq k]) (by simp[results,results23,go_sem]) rfl ?_
  exact⟨by rw[D.out],I.out⟩
theorem FP (n:Int) (k:Nat) (J:BitVec.ofInt 64 15&&&BitVec.ofInt 64 k=BitVec.ofInt 64 k):bits .and .i64 (bits .and .i64 n 15) k=bits .and .i64 n k:=by
 have h:BitVec.ofInt 64 (bits .and .i64 n 15)=BitVec.ofInt 64 n&&&BitVec.ofInt 64 15:=by
  have e:bits .and .i64 n 15=IntKind.i64.wrap ((BitVec.ofInt 64 n&&&BitVec.ofInt 64 15).toNat):=rfl;have R:(BitVec.ofInt 64 n&&&BitVec.ofInt 64 15).toNat≤15:=by
   rw[BitVec.toNat_and];exact Z8 Nat.and_le_right (by decide)
  have O:IntKind.i64.wrap ((BitVec.ofInt 64 n&&&BitVec.ofInt 64 15).toNat)=(((BitVec.ofInt 64 n&&&BitVec.ofInt 64 15).toNat:Nat):Int):=by
   rw[ZY];omega
  rw[e,O,BitVec.ofInt_natCast,BitVec.ofNat_toNat,BitVec.setWidth_eq]
 have e:bits .and .i64 (bits .and .i64 n 15) k=IntKind.i64.wrap ((BitVec.ofInt 64 (bits .and .i64 n 15)&&&BitVec.ofInt 64 k).toNat):=rfl;rw[e,h,BitVec.and_assoc,J];rfl
theorem Ob (n:Int):dy (bits .and .i64 n 15)=dy n:=by
 unfold dy jh;rw[FP n 1 (by decide),FP n 2 (by decide),FP n 4 (by decide),FP n 8 (by decide)]
theorem Oc (l:List UInt8) (n:Int):jK l (bits .and .i64 n 15)=jK l n:=by
 unfold jK;rw[Ob]
theorem IF (l:List UInt8) (n:Int) (D:(du l).1.1=0):∃ins,kO (jK l n)=some ins∧(jK l n).length≤13*(du l).2.1.length+2*(du l).2.2.length+5∧ ∀fl,gG fl→ ∃s,oT (jK l n) ins fl=some ((jH l fl).1,(jH l fl).2,s):=by
 have z:=MJ (sq l D) (D8 l D);obtain⟨ins,Z,I,h3⟩:=GP (p:=dy n) (d:=24) (Zw _) z.ty z.seq (by rw[z.cnt];exact z.few.1) (by rw[z.len];exact z.few.2)
 unfold jK jH;rw[Zu D];refine⟨ins,Z,by rw[z.cnt,z.len] at I;exact I,fun fl J=>?_⟩
 obtain⟨s,hs⟩:=h3 fl (tB J);refine⟨s,?_⟩;rw[Zu D,hs,z.mean fl J]
end Go.Proofs.YtfkdailfcmnjlaaGreatDoor
