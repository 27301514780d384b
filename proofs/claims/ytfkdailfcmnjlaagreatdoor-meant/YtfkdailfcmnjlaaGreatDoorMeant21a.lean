/-
  A part.
-/
import Derived.Test.YtfkdailfcmnjlaaGreatDoorMeant19
import Derived.Shelf.Abstract
set_option linter.unusedVariables false
set_option linter.unusedSimpArgs false
set_option maxHeartbeats 40000000
set_option maxRecDepth 1000000
set_option maxHeartbeats 40000000
set_option maxRecDepth 1000000
namespace Go.Proofs.YtfkdailfcmnjlaaGreatDoor
open Go Go.RowKit Tryz
attribute [local go_sem ↓] Go.wp_at_zero Go.wp_at_succ
def vm (a:Bool) (r s:Nat):Value:= .agg #[.bool a,Iq r,Iq s]
variable {z G E l:List (List UInt8×Int)} {w W J wr U w4:World} {p n i f q k Ru rb base e size g:Nat} {vs vc O D R Z v2 lv v lv':Value} {fl st:List Int} {s s2:MS} {b u:List UInt8} {C:Nat→Option Kn} {A:Bool} {V I Y o:Obj} {xs:List Value} {x:Int}
theorem NA {z:Nat} (h:1≤z∧z≤18) (args:Array Value) (w:World):(callFunc (MN z) args).run prog w= .ok (.enter (MN z) args) w:=by
 have e:z=1∨z=2∨z=3∨z=4∨z=5∨z=6∨z=7∨z=8∨z=9∨z=10∨z=11∨z=12∨z=13∨z=14∨z=15∨z=16∨z=17∨z=18:=by omega
 rcases e with rfl|rfl|rfl|rfl|rfl|rfl|rfl|rfl|rfl|rfl|rfl|rfl|rfl|rfl|rfl|rfl|rfl|rfl
 ·exact enters_of func192 (by kernel_rfl) rfl args w
 ·exact enters_of func192 (by kernel_rfl) rfl args w
 ·exact enters_of func192 (by kernel_rfl) rfl args w
 ·exact enters_of func193 (by kernel_rfl) rfl args w
 ·exact enters_of func194 (by kernel_rfl) rfl args w
 ·exact enters_of func195 (by kernel_rfl) rfl args w
 ·exact enters_of func196 (by kernel_rfl) rfl args w
 ·exact enters_of func197 (by kernel_rfl) rfl args w
 ·exact enters_of func198 (by kernel_rfl) rfl args w
 ·exact enters_of func199 (by kernel_rfl) rfl args w
 ·exact enters_of func200 (by kernel_rfl) rfl args w
 ·exact enters_of func201 (by kernel_rfl) rfl args w
 ·exact enters_of func202 (by kernel_rfl) rfl args w
 ·exact enters_of func203 (by kernel_rfl) rfl args w
 ·exact enters_of func204 (by kernel_rfl) rfl args w
 ·exact enters_of func205 (by kernel_rfl) rfl args w
 ·exact enters_of func206 (by kernel_rfl) rfl args w
 ·exact enters_of func207 (by kernel_rfl) rfl args w
def CO (w:World) (p n:Nat):Nat:=match w.cell? ⟨p,12,none⟩,w.cell? ⟨p,11,none⟩ with
 |some (.bool false),some (.int _ v)=>n+1 - v.toNat
 |_,_=>0
theorem FE {G:Value} (h:gj w p vs G fl s):CO w p n=if s.ended then 0 else n+1 - s.next.toNat:=by
 have z:=fun j=>Zz w p j _ _ _ h.blk
 have D:Cq w p 12 (.bool s.ended):=z 12;have E:Cq w p 11 (Iq s.next):=z 11;unfold CO;rw[D,E]
 cases s.ended<;>rfl
def Ay (ins:List hH) (fl:List Int) (cells:Nat) (C:Nat→Option Kn) (A:Bool) (Ru St:Nat) (s:MS):Prop:=
 (s.ended=false∧ ∃(i:Nat) (k:Kn) (st:List Int) (f q:Nat),s.st=st.reverse∧s.next=i∧s.stp=q∧i<ins.length∧C i=some k∧yi k cells st s.cl∧st.length≤24∧q≤i∧rV ins fl f i st s.cl q=some (A,Ru,St))∨
 (s.ended=true∧s.al=A∧s.ru=Ru∧s.stp=St)
theorem Ic {G:MS} {ins:List hH} {cells J:Nat} {k:Kn} {St:Nat} (h:gj W p vs vc fl G) (af:G.st=st.reverse) (ag:G.next=((i+1:Nat):Int)) (I:G.stp=((q+1:Nat):Int)) (aa:G.ended=false) (ah:gV b ins) (ai:de b 2=cells) (ap:J≤24) (hF:eO fl) (hG:Good ins J 0 C) (R:i<ins.length) (aj:C i=some k) (ab:yi k cells st G.cl) (ao:st.length≤24) (aq:q≤i) (z:rV ins fl f i st G.cl q=some (A,Ru,St)):
 Calls prog (MN (ins.getD i dw).op) #[Pq p,fI (ins.getD i dw).op (ins.getD i dw).n (jf ins (ins.getD i dw)) ((ins.getD i dw).pl:Nat)] W fun e w'=>e= .returned (.tuple #[])∧ ∃U,dH W w' p vs vc fl U∧Ay ins fl cells C A Ru St U∧(if U.ended then 0 else ins.length+1 - U.next.toNat)<ins.length+1 - i:=by
 have V:=wS (ah.each _ (kP R));rw[ai] at V;have ak:=lN b 2;obtain⟨f',rfl⟩:∃f',f=f'+1:=by
  cases f with
  |zero=>simp[rV] at z
  |succ f'=>exact⟨f',rfl⟩
 rw[rV,Zu R] at z;obtain⟨k',ac,ar,Y⟩:=hG i (ZL _) R k aj
 by_cases D:(ins.getD i dw).op=17∨(ins.getD i dw).op=18
 ·rw[Zu D] at z
  simp only[ZR,ZT] at z;obtain⟨r1,r2,r3⟩:=z;obtain⟨n0,_,_⟩:=V.two (by rcases D with e|e<;>rw[e]<;>rfl)
  rcases D with e|e
  ·rw[e]
   have hA:A=true:=by rw[←r1,e];rfl
   apply(EB 17 (ins.getD i dw).n _ _ h).mono;rintro e' w' ⟨rfl,O⟩;refine⟨rfl,_,O,.inr ⟨rfl,hA.symm,?_,?_⟩,by simp;omega⟩
   ·simp only[];rw[←r2];omega
   ·simp only[];rw[I,←r3]
  ·rw[e]
   have hA:A=false:=by rw[←r1,e];rfl
   apply(Hz 18 (ins.getD i dw).n _ _ h).mono;rintro e' w' ⟨rfl,O⟩;refine⟨rfl,_,O,.inr ⟨rfl,hA.symm,?_,?_⟩,by simp;omega⟩
   ·simp only[];rw[←r2];omega
   ·simp only[];rw[I,←r3]
 ·rw[Zt D] at z
  obtain⟨st',cl',j,hs,E,hj,am⟩:=yN V hF ab ac D;rw[hs] at z;have ad:=Fj (ins:=ins) (i:=i) hj am D;obtain⟨t,e,h1,h2,h3⟩:=Y _ ad;obtain⟨kq,e2,e3,e4⟩:=h3 k' rfl;have ae:yi kq cells st' cl':=⟨by rw[e3];exact E.typ,E.cel.less e4,E.len⟩
  have an:st'.length≤24:=by rw[E.typ.len];omega
  apply(H6 (jf ins (ins.getD i dw)) h V ab ac af rfl (by omega) (by omega) hs D).mono
  rintro e' w' ⟨rfl,O⟩;have Z:(if j then jf ins (ins.getD i dw) else G.next)=(t:Int):=by
   cases j with
   |true=>
    have e:gN ins (ins.getD i dw)=some t:=e;rw[Zu rfl];unfold jf;rw[Zu (hj rfl),e];rfl
   |false=>
    have e:(if i+1<ins.length then some (i+1) else none)=some t:=e
    rw[Zt (by decide),ag]
    split at e
    ·simp at e;rw[←e]
    ·cases e
  rw[Z] at O;refine⟨rfl,_,O,.inl ⟨aa,t,kq,st',f',q+1,rfl,rfl,I,h2,e2,ae,an,by omega,?_⟩,?_⟩
  ·cases j with
   |true=>
    have e:gN ins (ins.getD i dw)=some t:=e;simp only[] at z;rw[e] at z;exact z
   |false=>
    have e:(if i+1<ins.length then some (i+1) else none)=some t:=e
    simp only[] at z
    split at e
    ·simp at e;rw[←e];exact z
    ·cases e
  ·simp only[]
   rw[aa];simp;omega
structure CP (w wr:World) (p db rb g0 sz:Nat) (vc:Value) (ins:List hH) (fl:List Int) (cells:Nat) (C:Nat→Option Kn) (A:Bool) (Ru St:Nat) (vs:Value) (s:MS):Prop where
 mac:gj wr p vs vc fl s
 bel:Below w.heap.size w wr
 tab:∀j v,AJ[j]?=some v→wr.cell? ⟨db,j,none⟩=some v
 res:wr.heap[rb]?=some (.cells #[.bool false,Iq 0,Iq 0] 40 (0,0))
 foot:∀b,fq p vs vc b→b=p∨b=g0∨sz≤b
 siz:sz≤wr.heap.size
 sta:Ay ins fl cells C A Ru St s
theorem CP.apart {O V:Nat} {ins:List hH} {cells:Nat} {St:Nat} {I:Value} (Y:CP w wr p O rb V (O+1) D ins fl cells C A Ru St vs s) (Z:∀b,fq p I D b→fq p vs D b∨wr.heap.size<b) (ho:dH J U p I D fl s2) {b:Nat} (hb:b≤wr.heap.size) (aa:b<J.heap.size) (hp:b≠p) (hg:b≠V) (z:b<O+1∨b=wr.heap.size):U.heap[b]?=J.heap[b]?:=by
 refine ho.only.block b aa (fun hf=>?_)
 rcases Z b hf with h|h
 ·rcases Y.foot b h with E|E|E
  ·exact hp E
  ·exact hg E
  ·rcases z with z|z
   ·omega
   ·have:=Y.mac.lt h;omega
 ·omega
theorem CP.next {Y:World} {z J:Nat} {ins:List hH} {cells:Nat} {St:Nat} (D:CP w wr p z rb J (z+1) O ins fl cells C A Ru St vs s) (af:J<z∧p<z∧rb<J) (ai:J+1=p∧w.heap.size+1=rb) (U:∀b,fq p R O b→fq p vs O b∨wr.heap.size<b)
 (E:dH ((((wr.alloc o).drew.setCell ⟨p,11,none⟩ Z).setCell ⟨p,15,none⟩ v2)).drew Y p R O fl s2) (ac:Ay ins fl cells C A Ru St s2):∃V,CP w Y p z rb J (z+1) O ins fl cells C A Ru St V s2:=by
 have aa:((((wr.alloc o).drew.setCell ⟨p,11,none⟩ Z).setCell ⟨p,15,none⟩ v2)).drew.heap.size=wr.heap.size+1:=by simp[World.drew]
 have ag:z<wr.heap.size:=by have:=D.siz;omega
 have I:∀b,b<z+1→b≠p→b≠J→Y.heap[b]?=wr.heap[b]?:=fun b G h1 h2=>by
  rw[D.apart U E (by omega) (by omega) h1 h2 (.inl G)]
  show(((wr.alloc o).drew.setCell ⟨p,11,none⟩ Z).setCell ⟨p,15,none⟩ v2).heap[b]?=_
  rw[ZO _ _ _ _ (by simpa using h1),ZO _ _ _ _ (by simpa using h1)]
  exact ZE wr o b (by omega)
 have ab:∀b,fq p R O b→w.heap.size≤b:=fun b G=>by
  rcases U b G with h|h
  ·rcases D.foot b h with h'|h'|h'<;>omega
  ·omega
 have ad:Below w.heap.size w Y:=by
  have q1:Below w.heap.size w ((((wr.alloc o).drew.setCell ⟨p,11,none⟩ Z).setCell ⟨p,15,none⟩ v2)).drew:=(((D.bel.alloc D.bel.size _).drew.setCell (by simp;omega) _).setCell (by simp;omega) _).drew
  exact q1.trans (E.only.below q1.size (fun b _ G=>ab b G))
 obtain⟨V,hm,ae,hf⟩:=E;refine⟨V,hm,ad,fun j v hv=>?_,?_,fun b G=>?_,?_,ac⟩
 ·rw[ZI (w:=wr) (a:=⟨z,j,none⟩) (I z (by omega) (by omega) (by omega))];exact D.tab j v hv
 ·rw[I rb (by omega) (by omega) (by omega)];exact D.res
 ·rcases hf b G with h|h
  ·rcases U b h with h|h
   ·exact D.foot b h
   ·right;right;omega
  ·rw[aa] at h;right;right;omega
 ·have:=ae.size
  rw[aa] at this;omega
def eG (c:Int):Nat:=((if c<0 then -(c+1) else c) %3).toNat
theorem ns (c:Int):eG c<3:=by unfold eG;omega
def il (c:Int):List UInt8:=[[97],[98],[]].getD (eG c) []
structure jV where
 sn:Int
 tg:Int
 wa:Int
 nd:Int
 wh:Int
 l0:Int
 l1:Int
 l2:Int
 i0:Int
 i1:Int
 i2:Int
 a0:Bool
 a1:Bool
 a2:Bool
 df:Int
 op:Bool
def je (c:jV):Array Value:= #[Iq c.sn,Iq c.tg,Iq c.wa,Iq c.nd,Iq c.wh,Iq c.l0,Iq c.l1,Iq c.l2,Iq c.i0,Iq c.i1,Iq c.i2,.bool c.a0,.bool c.a1,.bool c.a2,Iq c.df,.bool c.op]
structure jC (c:jV):Prop where
 sn:dG c.sn
 tg:dG c.tg
 nd:dG c.nd
 wh:dG c.wh
 l0:dG c.l0
 l1:dG c.l1
 l2:dG c.l2
 i0:dG c.i0
 i1:dG c.i1
 i2:dG c.i2
 df:dG c.df
def oB (c:jV):Ev:=⟨il c.sn,il c.tg,c.wa,c.nd,c.wh⟩
variable {c:jV}
def IM (c:jV) (i:Nat):Int:=if i=0 then c.l0 else if i=1 then c.l1 else c.l2
def IN (c:jV) (i:Nat):Int:=if i=0 then c.i0 else if i=1 then c.i1 else c.i2
def Ie (c:jV) (i:Nat):Bool:=if i=0 then c.a0 else if i=1 then c.a1 else c.a2
def EH (c:jV):Nat→List (List UInt8×Int)
 |0=>[]
 |k+1=>if Ie c k then EH c k else EH c k++[(il k,IM c k)]
def EI (c:jV):Nat→List (List UInt8×Int)
 |0=>[]
 |k+1=>if Ie c k then EI c k else EI c k++[(il k,IN c k)]
def tU (c:jV):Nat→List (List UInt8×Int)
 |0=>EH c 3
 |k+1=>tU c k++[(il (2*(k:Int)),77)]
def AM (c:jV):Nat→List (List UInt8×Int)
 |0=>EI c 3
 |k+1=>AM c k++[(il (2*(k:Int)),4)]
def jJ (c:jV):Na:=⟨tU c 2,c.df,AM c 2,c.op⟩
structure tV (w wr:World) (c:jV) (lv mv:Value) (ls ms:List (List UInt8×Int)):Prop where
 bel:Below w.heap.size w wr
 scn:wr.heap[w.heap.size]?=some (.cells (je c) 37 (0,0))
 res:wr.heap[w.heap.size+1]?=some (.cells #[.slice none 0 0,Iq 0,.slice none 0 0,.bool false] 50 (0,0))
 blk:wr.heap[w.heap.size+1+1]?=some (.cells #[lv,Iq c.df,mv,.bool c.op] 50 (0,0))
 rl:wr.ownsRow w.heap.size 108 2 lv ls.length (iO ls)
 rm:wr.ownsRow w.heap.size 110 2 mv ms.length (iO ms)
theorem tV.at_ {D:World} {mv:Value} (h:tV w wr c lv mv E G) (z:Below wr.heap.size wr D):tV w D c lv mv E G:=
 ⟨h.bel.trans (z.mono h.bel.size),(z.block _ (be h.scn)).trans h.scn,(z.block _ (be h.res)).trans h.res,(z.block _ (be h.blk)).trans h.blk,dn h.rl z,dn h.rm z⟩
theorem kZ {cs:Array Value} {ty:TypeId} {z:Nat×Nat} (h:w.ownsRow base e size v n xs) (G:w.heap[k]?=some (.cells cs ty z)) (E:ty≠e):some k≠v.ownBlock:=fun I=>by
 obtain⟨J,D⟩:=dF h I.symm;rw[G] at D;simp at D;exact E D.2.1
theorem vn (l:List (List UInt8×Int)) (x:List UInt8×Int):iO (l++[x])=iO l++[S x.1,Iq x.2]:=by simp[iO]
theorem tV.grown {w E w4:World} {c:jV} {lv mv:Value} {U V:List (List UInt8×Int)} (h:tV w E c lv mv U V) {I:Obj} {v:Value} (D:(E.alloc I).grownBy w4 v.ownBlock) (Y:∀k,v.ownBlock=some k→w.heap.size≤k) (J:∀k cs ty z,E.heap[k]?=some (.cells cs ty z)→ty=37∨ty=50→some k≠v.ownBlock):
 Below w.heap.size w w4∧w4.heap[w.heap.size]?=some (.cells (je c) 37 (0,0))∧w4.heap[w.heap.size+1]?=some (.cells #[.slice none 0 0,Iq 0,.slice none 0 0,.bool false] 50 (0,0))∧w4.heap[w.heap.size+1+1]?=some (.cells #[lv,Iq c.df,mv,.bool c.op] 50 (0,0)):=by
 have G:Below w.heap.size w (E.alloc I):=h.bel.alloc h.bel.size _;have O:∀k o,E.heap[k]?=some o→some k≠v.ownBlock→w4.heap[k]?=some o:=fun k o R Z=>((D.block _ (by rw[ZB];have:=be R;omega) Z).trans (ZE E I _ (be R))).trans R
 exact⟨abZ G D G.size Y,O _ _ h.scn (J _ _ _ _ h.scn (.inl rfl)),O _ _ h.res (J _ _ _ _ h.res (.inr rfl)),O _ _ h.blk (J _ _ _ _ h.blk (.inr rfl))⟩
theorem CQ (h:w.ownsRow base 108 2 v n xs):∀k cs ty z,w.heap[k]?=some (.cells cs ty z)→ty=37∨ty=50→some k≠v.ownBlock:=fun k cs ty z D E=>kZ h D (by rcases E with rfl|rfl<;>decide)
theorem CR (h:w.ownsRow base 110 2 v n xs):∀k cs ty z,w.heap[k]?=some (.cells cs ty z)→ty=37∨ty=50→some k≠v.ownBlock:=fun k cs ty z D E=>kZ h D (by rcases E with rfl|rfl<;>decide)
theorem tV.lvNext {mv:Value} (h:tV w J c lv mv E G) (z:(J.alloc V).grownBy w4 lv.ownBlock)
 (D:w4.ownsRow w.heap.size 108 2 lv' (E.length+1) (iO E++[S u,Iq x])):tV w (w4.setCell ⟨w.heap.size+1+1,0,none⟩ lv') c lv' mv (E++[(u,x)]) G:=by
 obtain⟨Y,Z,g3,O⟩:=h.grown z (fun k R=>(h.rl.lt k R).1) (CQ h.rl)
 have I:w4.ownsRow w.heap.size 110 2 mv G.length (iO G):=dE h.rm (fun k R=>by
  obtain⟨cs,U⟩:=dF h.rm R;exact((z.block _ (by rw[ZB];have:=be U;omega) (kZ h.rl U (by decide))).trans (ZE J V _ (be U))))
 refine⟨Y.setCell (by simp only[];omega) _,?_,?_,?_,?_,?_⟩
 ·rw[ZO _ _ _ _ (by simp only[];omega)];exact Z
 ·rw[ZO _ _ _ _ (by simp only[];omega)];exact g3
 ·rw[ZK w4 _ 0 _ _ _ O];rfl
 ·rw[ZC,vn]
  exact Z9 D (a:=⟨w.heap.size+1+1,0,none⟩) (fun e=>kZ D O (by decide) e.symm) _
 ·exact Z9 I (a:=⟨w.heap.size+1+1,0,none⟩) (fun e=>kZ I O (by decide) e.symm) _
theorem tV.mbNext {O:World} {mv:Value} {I:List (List UInt8×Int)} (h:tV w O c lv mv G I) (z:(O.alloc Y).grownBy w4 mv.ownBlock)
 (E:w4.ownsRow w.heap.size 110 2 D (I.length+1) (iO I++[S u,Iq x])):tV w (w4.setCell ⟨w.heap.size+1+1,2,none⟩ D) c lv D G (I++[(u,x)]):=by
 obtain⟨Z,g2,g3,R⟩:=h.grown z (fun k U=>(h.rm.lt k U).1) (CR h.rm)
 have J:w4.ownsRow w.heap.size 108 2 lv G.length (iO G):=dE h.rl (fun k U=>by
  obtain⟨cs,V⟩:=dF h.rl U;exact((z.block _ (by rw[ZB];have:=be V;omega) (kZ h.rm V (by decide))).trans (ZE O Y _ (be V))))
 refine⟨Z.setCell (by simp only[];omega) _,?_,?_,?_,?_,?_⟩
 ·rw[ZO _ _ _ _ (by simp only[];omega)];exact g2
 ·rw[ZO _ _ _ _ (by simp only[];omega)];exact g3
 ·rw[ZK w4 _ 2 _ _ _ R];rfl
 ·exact Z9 J (a:=⟨w.heap.size+1+1,2,none⟩) (fun e=>kZ J R (by decide) e.symm) _
 ·rw[ZC,vn]
  exact Z9 E (a:=⟨w.heap.size+1+1,2,none⟩) (fun e=>kZ E R (by decide) e.symm) _
theorem zl {cap:Nat} (h:w.ownsRow base e 2 (Sq g z.length cap) z.length (iO z)) (I:z.length≤maxLen) (E:∀i,i<z.length→dG (z.getD i ([],0)).2):eW (Sq g z.length cap) z w:=by
 have G:∀j,j<z.length*2→w.cell? ⟨g,j,none⟩=(iO z)[j]?:=fun j J=>h.cellAt j J
 refine⟨I,_,_,rfl,fun i D=>⟨g,0,rfl,?_,?_,E i D⟩⟩
 ·rw[aaq,G _ (by omega)];exact(za z i D).1
 ·rw[aaq,G _ (by omega)];exact(za z i D).2
theorem pA (h:w.ownsRow base e size v n xs):∃a cap,v= .slice a n cap:=by
 rcases h.2 with⟨h,z⟩|⟨g,c,_,h,_⟩
 ·exact⟨none,0,by rw[h,z]⟩
 ·exact⟨_,_,h⟩
theorem tV.lvFar {z:World} {mv:Value} (h:tV w z c lv mv E G):∀w4,(z.alloc I).grownBy w4 lv.ownBlock→(w4.cell? ⟨w.heap.size+1+1,0,none⟩=some lv∧w4.frozen? ⟨w.heap.size+1+1,0,none⟩=false)∧ ∀j,w4.cell? ⟨w.heap.size,j,none⟩=(je c)[j]?:=fun w4 J=>by
 obtain⟨_,O,_,D⟩:=h.grown J (fun k R=>(h.rl.lt k R).1) (CQ h.rl)
 exact⟨⟨by rw[Zz w4 _ 0 _ _ _ D];rfl,by simp[World.frozen?,D]⟩,fun j=>Zz w4 _ j _ _ _ O⟩
theorem tV.mbFar {z:World} {mv:Value} (h:tV w z c lv mv E G):∀w4,(z.alloc I).grownBy w4 mv.ownBlock→(w4.cell? ⟨w.heap.size+1+1,2,none⟩=some mv∧w4.frozen? ⟨w.heap.size+1+1,2,none⟩=false)∧ ∀j,w4.cell? ⟨w.heap.size,j,none⟩=(je c)[j]?:=fun w4 J=>by
 obtain⟨_,O,_,D⟩:=h.grown J (fun k R=>(h.rm.lt k R).1) (CR h.rm)
 exact⟨⟨by rw[Zz w4 _ 2 _ _ _ D];rfl,by simp[World.frozen?,D]⟩,fun j=>Zz w4 _ j _ _ _ O⟩
theorem tV.cells {w z:World} {c:jV} {lv mv:Value} {D E:List (List UInt8×Int)} (h:tV w z c lv mv D E):Cq z (w.heap.size+1+1) 0 lv∧Cq z (w.heap.size+1+1) 2 mv∧ ∀j,z.cell? ⟨w.heap.size,j,none⟩=(je c)[j]?:=
 ⟨Zz z _ 0 _ _ _ h.blk,Zz z _ 2 _ _ _ h.blk,fun j=>Zz z _ j _ _ _ h.scn⟩
theorem NB (c:jV) (z:k<3):(je c)[5+k]?=some (Iq (IM c k))∧(je c)[8+k]?=some (Iq (IN c k))∧(je c)[11+k]?=some (.bool (Ie c k)):=by
 have:k=0∨k=1∨k=2:=by omega
 rcases this with rfl|rfl|rfl<;>exact⟨rfl,rfl,rfl⟩
theorem FG (c:jV):∀k,(EH c k).length≤k:=fun k=>by
 induction k with
 |zero=>simp[EH]
 |succ k ih=>rw[EH];split<;>(try rw[ZC,abu])<;>omega
theorem FH (c:jV):∀k,(EI c k).length≤k:=fun k=>by
 induction k with
 |zero=>simp[EI]
 |succ k ih=>rw[EI];split<;>(try rw[ZC,abu])<;>omega
theorem FI (c:jV):∀k,(tU c k).length≤k+3:=fun k=>by
 induction k with
 |zero=>exact FG c 3
 |succ k ih=>rw[tU,ZC,abu];omega
theorem FJ (c:jV):∀k,(AM c k).length≤k+3:=fun k=>by
 induction k with
 |zero=>exact FH c 3
 |succ k ih=>rw[AM,ZC,abu];omega
theorem NC (D:jC c):∀k,∀p∈EH c k,dG p.2:=fun k=>by
 induction k with
 |zero=>intro p z;simp[EH] at z
 |succ k ih=>
  intro p z;rw[EH] at z
  split at z
  ·exact ih p z
  ·rcases aar.1 z with z|z
   ·exact ih p z
   ·simp at z;subst z;show dG (IM c k);unfold IM;split
    ·exact D.l0
    ·split
     ·exact D.l1
     ·exact D.l2
theorem ND (D:jC c):∀k,∀p∈EI c k,dG p.2:=fun k=>by
 induction k with
 |zero=>intro p z;simp[EI] at z
 |succ k ih=>
  intro p z;rw[EI] at z
  split at z
  ·exact ih p z
  ·rcases aar.1 z with z|z
   ·exact ih p z
   ·simp at z;subst z;show dG (IN c k);unfold IN;split
    ·exact D.i0
    ·split
     ·exact D.i1
     ·exact D.i2
theorem EJ (D:jC c):∀k,∀p∈tU c k,dG p.2:=fun k=>by
 induction k with
 |zero=>exact NC D 3
 |succ k ih=>
  intro p z;rw[tU] at z;rcases aar.1 z with z|z
  ·exact ih p z
  ·simp at z;subst z;show dG 77;unfold dG;omega
theorem NF (D:jC c):∀k,∀p∈AM c k,dG p.2:=fun k=>by
 induction k with
 |zero=>exact ND D 3
 |succ k ih=>
  intro p z;rw[AM] at z;rcases aar.1 z with z|z
  ·exact ih p z
  ·simp at z;subst z;show dG 4;unfold dG;omega
theorem FK (h:∀p∈l,dG p.2):∀i,i<l.length→dG (l.getD i ([],0)).2:=fun i z=>by
 rw[Zs,Zv z];exact h _ (ZV z)
theorem CS (h:w.ownsRow base e 2 v n xs) (z:some p≠v.ownBlock) (D E G I:Value):((((w.setCell ⟨p,0,none⟩ D).setCell ⟨p,1,none⟩ E).setCell ⟨p,2,none⟩ G).setCell ⟨p,3,none⟩ I).ownsRow base e 2 v n xs:=
 Z9 (Z9 (Z9 (Z9 h (a:=⟨p,0,none⟩) (aa7 z) _) (a:=⟨p,1,none⟩) (aa7 z) _) (a:=⟨p,2,none⟩) (aa7 z) _) (a:=⟨p,3,none⟩) (aa7 z) _
theorem tV.done {mv:Value} (h:tV w wr c lv mv (tU c 2) (AM c 2)) (I:jC c):∀z D E G:Value,
 eW lv (tU c 2) ((((wr.setCell ⟨w.heap.size+1,0,none⟩ z).setCell ⟨w.heap.size+1,1,none⟩ D).setCell ⟨w.heap.size+1,2,none⟩ E).setCell ⟨w.heap.size+1,3,none⟩ G)∧eW mv (AM c 2) ((((wr.setCell ⟨w.heap.size+1,0,none⟩ z).setCell ⟨w.heap.size+1,1,none⟩ D).setCell ⟨w.heap.size+1,2,none⟩ E).setCell ⟨w.heap.size+1,3,none⟩ G)∧Below w.heap.size w ((((wr.setCell ⟨w.heap.size+1,0,none⟩ z).setCell ⟨w.heap.size+1,1,none⟩ D).setCell ⟨w.heap.size+1,2,none⟩ E).setCell ⟨w.heap.size+1,3,none⟩ G):=fun z D E G=>by
 have R:=CS h.rl (kZ h.rl h.res (by decide)) z D E G
 have U:=CS h.rm (kZ h.rm h.res (by decide)) z D E G
 have Y:=FI c 2;have Z:=FJ c 2;have J:0<(tU c 2).length:=by rw[tU,ZC];simp
 have O:0<(AM c 2).length:=by rw[AM,ZC];simp
 obtain⟨g,cap,rfl,_,_⟩:=h.rl.form J;obtain⟨g',V,rfl,_,_⟩:=h.rm.form O;refine⟨zl R (by unfold maxLen;omega) (FK (EJ I 2)),zl U (by unfold maxLen;omega) (FK (NF I 2)),?_⟩
 exact(((h.bel.setCell (by simp) _).setCell (by simp) _).setCell (by simp) _).setCell (by simp) _
theorem vR:∀v∈[S u,Value.int .i64 x],v.oneCell'=true:=by
 intro v z;simp at z;rcases z with rfl|rfl<;>rfl
def NG (c:jV) (n:Int):Int:=if Ie c (eG n)=false then IM c (eG n) else if eG n≠1 then 77 else c.df
def NH (c:jV) (n:Int):Int:=if Ie c (eG n)=false then fe (IN c (eG n)) else if eG n≠1 then 4 else 0
def yq (m:Mk):List Value:=[S m.text,S m.bare,Iq m.told,Iq (m.deep:Nat)]
def pB (m:Mk):Value:= .agg #[S m.text,S m.bare,Iq m.told,Iq (m.deep:Nat)]
def kt:Mk:=⟨[],[],0,0⟩
theorem NI (l:List Mk) (i:Nat) (h:i<l.length):(l.flatMap yq)[i*4]?=some (S (l.getD i kt).text)∧(l.flatMap yq)[i*4+1]?=some (S (l.getD i kt).bare)∧(l.flatMap yq)[i*4+2]?=some (Iq (l.getD i kt).told)∧(l.flatMap yq)[i*4+3]?=some (Iq ((l.getD i kt).deep:Nat)):=by
 induction l generalizing i with
 |nil=>simp at h
 |cons m l ih=>
  cases i with
  |zero=>simp[yq]
  |succ i=>
   have:=ih i (by simpa using h)
   rw[show(i+1)*4=i*4+4 from by omega]
   simp only[abh,yq,aaZ,aaF,ZX];exact⟨this.1,this.2.1,this.2.2.1,this.2.2.2⟩
def MR (b:Nat) (w:World) (v:Value) (l:List Mk):Prop:=w.ownsRow b 104 4 v l.length (l.flatMap yq)
theorem MR.cells {b:Nat} {w:World} {g cap:Nat} {l:List Mk} (h:MR b w (Sq g l.length cap) l) {i:Nat} (D:i<l.length):w.cell? ⟨g,i*4,none⟩=some (S (l.getD i kt).text)∧w.cell? ⟨g,i*4+1,none⟩=some (S (l.getD i kt).bare)∧w.cell? ⟨g,i*4+2,none⟩=some (Iq (l.getD i kt).told)∧w.cell? ⟨g,i*4+3,none⟩=some (Iq ((l.getD i kt).deep:Nat)):=by
 obtain⟨E,G,I,J⟩:=NI l i D;have z:∀j,j<l.length*4→w.cell? ⟨g,j,none⟩=(l.flatMap yq)[j]?:=fun j O=>h.cellAt j O
 exact⟨by rw[z _ (by omega)];exact E,by rw[z _ (by omega)];exact G,by rw[z _ (by omega)];exact I,by rw[z _ (by omega)];exact J⟩
def lZ (l:List Mk) (n:Int) (o:Mk):Mk:=if l.length=0 then o else l.getD (l.length - 1 - kW n l.length) kt
def fO (a:Mk) (x:List UInt8) (b:Mk) (t:Int):Mk:=⟨[40]++a.text++[32]++x++[32]++b.text++[41],[40]++a.bare++[41]++x++[40]++b.bare++[41],t,max a.deep b.deep+1⟩
def xV (m:Mk):Obj:= .cells #[S m.text,S m.bare,Iq m.told,Iq (m.deep:Nat)] 104
def Ky (x a b:Mk):Mk:=⟨sH++x.text++kD++a.text++kF++b.text++[41],[105,102,40]++x.bare++[41,116,104,101,110,40]++a.bare++[41,101,108,115,101,40]++b.bare++[41],if x.told=1 then a.told else b.told,max (max x.deep a.deep) b.deep+1⟩
def qS (c:jV):List Int:=[NG c c.sn,NG c c.tg,c.nd,c.wh,NH c c.sn,NH c c.tg,fe c.wa,dq (eG c.sn==eG c.tg),dq c.op]
variable {Y Z k:Nat}
theorem EN:(prog.info? 37).map (·.size)=some 16:=by kernel_rfl
def nt (p:Value):Sem Value:=Instr.loadAt 37 p
theorem mI (p:Value):Instr.loadAt 37 p=nt p:=rfl
theorem jt (W:World) (g:Nat) (cs:Array Value) (h:W.heap[g]?=some (.cells cs 37 (0,0))) (z:cs.size=16):(nt (Pq g)).run prog W= .ok (.agg cs) W:=by
 unfold nt;simp only[Instr.loadAt,Instr.sureAddr,Sem.run_bind,Sem.run_pure,Result.andThen_ok,run_loadVar_row W g 37 37 cs (0,0) _ h underlying37 rfl (by rw[z];exact EN)]
def EP {α:Type} (f:Nat→α) (j:Nat) (x:α):Nat→α:=fun i=>if i=j then x else f i
variable {i j b p gg:Nat} {w w' I w4 z:World} {v:Nat→Value} {l:Nat→List Mk} {o' E G:Obj} {m:Mk} {n:Int}
theorem oC {α:Type} (f:Nat→α) (j:Nat) (x:α):EP f j x j=x:=by unfold EP;rw[Zu rfl]
theorem lK {α:Type} (f:Nat→α) (h:i≠j) (x:α):EP f j x i=f i:=by unfold EP;rw[Zt h]
structure TI (b:Nat) (w:World) (p:Nat) (v:Nat→Value) (l:Nat→List Mk):Prop where
 blk:w.heap[p]?=some (.cells #[v 0,v 1,v 2] 100 (0,0))
 row:∀j,j<3→MR b w (v j) (l j)
 ne:∀i j,i<3→j<3→i≠j→ ∀g,(v i).ownBlock=some g→(v j).ownBlock≠some g
 pb:b≤p
theorem TI.below (h:TI b w p v l) (z:Below w.heap.size w w'):TI b w' p v l:=
 ⟨(z.block _ (be h.blk)).trans h.blk,fun j D=>dn (h.row j D) z,h.ne,h.pb⟩
theorem TI.cell (h:TI b w p v l):Cq w p 0 (v 0)∧Cq w p 1 (v 1)∧Cq w p 2 (v 2)∧ ∀o,w.frozen? ⟨p,o,none⟩=false:=
 ⟨Zz w p 0 _ _ _ h.blk,Zz w p 1 _ _ _ h.blk,Zz w p 2 _ _ _ h.blk,fun o=>by simp[World.frozen?,h.blk]⟩
theorem TI.put (h:TI b I p v l) (hj:j<3) {cap:Nat} (J:(I.alloc o').grownBy w4 (v j).ownBlock) (z:(v j).ownBlock=some gg∨gg=I.heap.size+1)
 (R:w4.ownsRow b 104 4 (.slice (some ⟨gg,0,none⟩) ((l j).length+1) cap) ((l j).length+1) ((l j).flatMap yq++yq m)):
 TI b (w4.setCell ⟨p,j,none⟩ (.slice (some ⟨gg,0,none⟩) ((l j).length+1) cap)) p (EP v j (.slice (some ⟨gg,0,none⟩) ((l j).length+1) cap)) (EP l j (l j++[m])):=by
 have hk:∀k o,I.heap[k]?=some o→some k≠(v j).ownBlock→w4.heap[k]?=some o:=fun k o ho hn=>((J.block _ (by rw[ZB];have:=be ho;omega) hn).trans (ZE I o' _ (be ho))).trans ho
 have U:w4.heap[p]?=some (.cells #[v 0,v 1,v 2] 100 (0,0)):=hk _ _ h.blk (kZ (h.row j hj) h.blk (by decide))
 have ab:∀i,i<3→i≠j→MR b w4 (v i) (l i):=fun i D E=>dE (h.row i D) (fun k ac=>by
  obtain⟨cs,hc⟩:=dF (h.row i D) ac;exact((J.block _ (by rw[ZB];have:=be hc;omega) (fun e=>h.ne i j D hj E k ac e.symm)).trans (ZE I o' _ (be hc))))
 generalize hV:Value.slice (some ⟨gg,0,none⟩) ((l j).length+1) cap=V at*;have ad:V.ownBlock=some gg:=by rw[←hV];rfl
 refine⟨?_,fun i D=>?_,fun i Y D O E g G=>?_,h.pb⟩
 ·rw[ZK w4 _ j _ _ _ U]
  have e3:j=0∨j=1∨j=2:=by omega
  rcases e3 with rfl|rfl|rfl<;>rfl
 ·by_cases e:i=j
  ·subst e
   rw[oC,oC];have:=Z9 R (a:=⟨p,i,none⟩) (fun Z=>kZ R U (by decide) Z.symm) V
   unfold MR;rw[ZC,List.flatMap_append]
   simpa using this
  ·rw[lK _ e,lK _ e]
   have hr:=ab i D e;exact Z9 hr (a:=⟨p,j,none⟩) (fun Z=>kZ hr U (by decide) Z.symm) V
 ·have aa:∀q,q<3→(v q).ownBlock≠some (I.heap.size+1):=fun q hq Z=>by
   obtain⟨cs,hc⟩:=dF (h.row q hq) Z;have:=be hc;omega
  by_cases e:i=j
  ·subst e
   rw[oC] at G;rw[lK _ (aa7 E)];rw[ad] at G;simp at G;subst G;rcases z with z|z
   ·exact h.ne i Y D O E _ z
   ·rw[z];exact aa Y O
  ·rw[lK _ e] at G
   by_cases e2:Y=j
   ·subst e2
    rw[oC,ad];intro e3;simp at e3;subst e3;rcases z with z|z
    ·exact h.ne i Y D O E _ G z
    ·rw[z] at G;exact aa i D G
   ·rw[lK _ e2];exact h.ne i Y D O E g G
theorem TI.far {E:World} (h:TI b E p v l) (I:j<3) (D:(E.alloc G).grownBy w4 (v j).ownBlock):Cq w4 p 0 (v 0)∧Cq w4 p 1 (v 1)∧Cq w4 p 2 (v 2)∧ ∀o,w4.frozen? ⟨p,o,none⟩=false:=by
 have z:=((D.block _ (by rw[ZB];have:=be h.blk;omega) (kZ (h.row j I) h.blk (by decide))).trans (ZE E G _ (be h.blk))).trans h.blk
 exact⟨Zz w4 p 0 _ _ _ z,Zz w4 p 1 _ _ _ z,Zz w4 p 2 _ _ _ z,fun o=>by simp[World.frozen?,z]⟩
theorem TI.keep (h:TI b z p v l) (O:j<3) (R:b≤z.heap.size) (D:(z.alloc E).grownBy w4 (v j).ownBlock) (V:Value):Below b z (w4.setCell ⟨p,j,none⟩ V):=by
 have G:Below b z (z.alloc E):=(ZA _ _).alloc R _;exact(abZ G D (by rw[ZB];omega) (fun k U=>((h.row j O).lt k U).1)).setCell h.pb _
theorem iJ:(prog.info? 104).map (fun i=>(i.zero,i.size,i.bytes))=some (some (.agg #[.string ⟨#[]⟩,.string ⟨#[]⟩,Iq 0,Iq 0]),4,48):=by kernel_rfl
def Ig (j:Nat):UInt8:=if j=0 then 110 else if j=1 then 109 else 116
def rN (fl:List Int) (l:Nat→List Mk):Prop:= ∀j,j<3→ ∀m∈l j,gW fl (Ig j) m
theorem rN.put {fl:List Int} (h:rN fl l) (E:gW fl (Ig j) m):rN fl (EP l j (l j++[m])):=fun i D q z=>by
 by_cases e:i=j
 ·subst e
  rw[oC] at z;rcases aar.1 z with z|z
  ·exact h i D q z
  ·simp at z;subst z;exact E
 ·rw[lK _ e] at z;exact h i D q z
structure AP (b:Nat) (w w1:World) (p:Nat) (v:Nat→Value) (l:Nat→List Mk) (j:Nat) (va:Option Addr) (vc:Nat):Prop where
 cell:w1.cell? ⟨p,j,none⟩=some (.slice va (l j).length vc)
 row:w1.ownsRow b 104 4 (.slice va (l j).length vc) (l j).length ((l j).flatMap yq)
 far:∀O w5,(w1.alloc O).grownBy w5 (Value.slice va (l j).length vc).ownBlock→w5.cell? ⟨p,j,none⟩=some (.slice va (l j).length vc)∧w5.frozen? ⟨p,j,none⟩=false
 put:∀O (m:Mk) gg cap' w5,(w1.alloc O).grownBy w5 (Value.slice va (l j).length vc).ownBlock→((Value.slice va (l j).length vc).ownBlock=some gg∨gg=(w1.alloc O).heap.size)→w5.ownsRow b 104 4 (.slice (some ⟨gg,0,none⟩) ((l j).length+1) cap') ((l j).length+1) ((l j).flatMap yq++[S m.text,S m.bare,Iq m.told,Iq (m.deep:Nat)])→
  (∃v',TI b (w5.setCell ⟨p,j,none⟩ (.slice (some ⟨gg,0,none⟩) ((l j).length+1) cap')) p v' (EP l j (l j++[m])))∧Below b w (w5.setCell ⟨p,j,none⟩ (.slice (some ⟨gg,0,none⟩) ((l j).length+1) cap'))
theorem TI.ready (h:TI b w p v l) (hb:b≤w.heap.size) (J:Below w.heap.size w I) (E:j<3):∃R U,AP b w I p v l j R U:=by
 have D:=h.below J;have hs:=J.size;obtain⟨R,U,z⟩:=pA (D.row j E);have Z:j=0∨j=1∨j=2:=by omega
 refine⟨R,U,?_,?_,fun O V Y=>?_,fun O m gg aa V Y ha ho=>?_⟩
 ·obtain⟨c0,c1,c2,_⟩:=D.cell
  rcases Z with rfl|rfl|rfl
  ·rw[c0,z]
  ·rw[c1,z]
  ·rw[c2,z]
 ·have:=D.row j E
  unfold MR at this;rw[z] at this;exact this
 ·obtain⟨c0,c1,c2,c3⟩:=D.far E (w4:=V) (by rw[z];exact Y)
  refine⟨?_,c3 _⟩;rcases Z with rfl|rfl|rfl
  ·rw[c0,z]
  ·rw[c1,z]
  ·rw[c2,z]
 ·have G:(I.alloc O).grownBy V (v j).ownBlock:=by rw[z];exact Y
  refine⟨⟨_,D.put E G (by rw[z];rw[ZB] at ha;exact ha) ho⟩,?_⟩
  exact(J.mono hb).trans (D.keep E (by omega) G _)
variable {b p k j kd g gz B:Nat} {w W w0 w':World} {v:Nat→Value} {l:Nat→List Mk} {c:jV} {n x:Int} {fl:List Int} {m o a r:Mk} {V:Value} {z D ty:UInt8}
theorem NJ (z:jC c) (k:Nat):dG (IM c k):=by
 unfold IM;split
 ·exact z.l0
 ·split
  ·exact z.l1
  ·exact z.l2
theorem Kz (z:jC c) (n:Int):dG (NG c n):=by
 unfold NG;split
 ·exact NJ z _
 ·split
  ·unfold dG;omega
  ·exact z.df
theorem zm (x:Int):dG (fe x):=by unfold fe dG;split<;>omega
theorem KE (n:Int):dG (NH c n):=by
 unfold NH;split
 ·exact zm _
 ·split<;>(unfold dG;omega)
theorem qT (h:dG x):ya 110 x:=⟨h,fun e=>by cases e⟩
theorem vS (h:dG x):ya 109 x:=⟨h,fun e=>by cases e⟩
theorem KG (z:jC c) (Y:k<9):gW (qS c) (Ig (if k<4 then 0 else if k<7 then 1 else 2)) ⟨dL.getD k [],dL.getD k [],(qS c).getD k 0,1⟩:=by
 have D:k=0∨k=1∨k=2∨k=3∨k=4∨k=5∨k=6∨k=7∨k=8:=by omega
 have O:dL.getD k []∈nO:=by rcases D with rfl|rfl|rfl|rfl|rfl|rfl|rfl|rfl|rfl<;>decide
 have R:MK (dL.getD k [])=Ig (if k<4 then 0 else if k<7 then 1 else 2):=by rcases D with rfl|rfl|rfl|rfl|rfl|rfl|rfl|rfl|rfl<;>decide
 have U:dP dL (dL.getD k [])=k:=by rcases D with rfl|rfl|rfl|rfl|rfl|rfl|rfl|rfl|rfl<;>decide
 have V:ya (MK (dL.getD k [])) ((qS c).getD k 0):=by
  rcases D with rfl|rfl|rfl|rfl|rfl|rfl|rfl|rfl|rfl
  ·exact qT (Kz z _)
  ·exact qT (Kz z _)
  ·exact qT z.nd
  ·exact qT z.wh
  ·exact vS (KE _)
  ·exact vS (KE _)
  ·exact vS (zm _)
  ·exact fm _ _
  ·exact fm _ _
 have:=vP (fl:=qS c) O (v:=(qS c).getD k 0) (by rw[U,Zu (by omega)];rfl) V
 rw[R] at this;exact this
theorem zn (J:k<5):gW fl 109 ⟨dX.getD k [],dX.getD k [],k,1⟩:=by
 have z:k=0∨k=1∨k=2∨k=3∨k=4:=by omega
 have E:dX.getD k []∈nO:=by rcases z with rfl|rfl|rfl|rfl|rfl<;>decide
 have D:MK (dX.getD k [])=109:=by rcases z with rfl|rfl|rfl|rfl|rfl<;>decide
 have G: ¬0≤dP dL (dX.getD k []):=by rcases z with rfl|rfl|rfl|rfl|rfl<;>decide
 have I:dP dX (dX.getD k [])=k:=by rcases z with rfl|rfl|rfl|rfl|rfl<;>decide
 have:=vP (fl:=fl) E (v:=(k:Int)) (by rw[Zt G,I,Zu (by omega)]) (by rw[D];exact vS (by unfold dG;omega))
 rw[D] at this;exact this
theorem CT (D:k<2):gW fl 116 ⟨[ky,jL].getD k [],[ky,jL].getD k [],k,1⟩:=by
 have z:k=0∨k=1:=by omega
 rcases z with rfl|rfl
 ·exact vP (fl:=fl) (x:=ky) (by decide) (v:=0) (by rfl) (fm 116 false)
 ·exact vP (fl:=fl) (x:=jL) (by decide) (v:=1) (by rfl) (fm 116 true)
theorem qU (m:Mk):∀i,i<3→(EP l j (l j++[m]) i).length≤(l i).length+1:=fun i _=>by
 by_cases e:i=j
 ·subst e;rw[oC];simp
 ·rw[lK _ e];omega
def vT (c:jV) (b p:Nat) (w:World) (l:Nat→List Mk) (e:Ending) (w':World):Prop:=e= .returned (.tuple #[])∧ ∃(I:Nat→Value) (z:Nat→List Mk),TI b w' p I z∧rN (qS c) z∧(∀j,j<3→(z j).length≤(l j).length+1)∧Below b w w'
def fW (w:World) (g:Nat) (m:Mk):Prop:=w.heap[g]?=some (.cells #[S m.text,S m.bare,Iq m.told,Iq (m.deep:Nat)] 104 (0,0))
theorem nu (h:g=W.heap.size):fW (W.alloc (.cells #[S m.text,S m.bare,Iq m.told,Iq (m.deep:Nat)] 104)) g m:=by
 subst h;exact Zy W _
theorem pC {o:Obj} (h:fW W g m):fW (W.alloc o) g m:=(ZE W o g (be h)).trans h
theorem eJ (h:fW W g m):fW W.drew g m:=h
def oD (k:Nat):Code→Option Code
 | .region n G d=>if n=k then some (.region n G d) else none
 | .loop c=>oD k c
 | .seq a b=>match oD k a with
  |some c=>some c
  |none=>oD k b
 | .block _ c=>oD k c
 | .scope c=>oD k c
 | .cond _ a b=>match oD k a with
  |some c=>some c
  |none=>oD k b
 |_=>none
def JN (R:Act→World→Prop):Exit→Act→World→Prop
 | .normal,a,w=>R a w
 |_,_,_=>False
variable {b_ c_ e_ f_ g_ h_ i_ j_ k_ s_ t_ u_ v_ w_ x_ y_ z_ A_ B_ C_ D_ E_ F_ G_ H_ I_ J_ K_ L_ M_ N_ O_ P_ Q_ R_ S_ T_ U_ V_ W_ X_ Y_ Z_ _a _b _c _d _e _f _g _h _i _j _k _l _m _n _p _q _r _s _t _u _v _w _x _y _z _A _B _C _D _E _F _G _H _I _J _K _L _M _N _O _P _Q _R _S _T _U _V _W _X _Y _Z _0 _1 _2 _3 _4 _5 _6 _7 _8 _9 a'1 b'1 c'1 d'1 e'1 f'1 g'1 h'1 i'1 j'1 k'1 l'1 m'1 n'1 o'1 p'1 q'1 r'1 s'1 t'1 u'1 v'1 w'1 x'1 y'1 z'1 A'1 B'1 C'1 D'1 E'1 F'1 G'1 H'1 I'1 J'1 K'1 L'1 M'1 N'1 O'1 P'1 Q'1 R'1 S'1 T'1 U'1 V'1 W'1 X'1 Y'1 Z'1 a? b? c? d? e? f? g? h? i? j? k? l? m? n? o? p? q? r? s? t? u? v? w? x? y? z? A? B? C? D? E? F? G? H? I? J? K? L? M? N? O? P? Q? R? S? T? U? V? W? X? Y? Z? Z' Y' X' V' U' T' S':Value}
theorem qV (D:rN fl l) (E:j<3) (n:Int) (G:gW fl (Ig j) o):gW fl (Ig j) (lZ (l j) n o):=by
 unfold lZ
 by_cases h:(l j).length=0
 ·rw[Zu h];exact G
 ·rw[Zt h]
  have I:=kX n (n:=(l j).length) (by omega)
  have z:(l j).length - 1 - kW n (l j).length<(l j).length:=by omega
  rw[Zs,Zv z];exact D j E _ (ZV z)
theorem FM (fl:List Int):gW fl 110 ⟨[48],[48,48],0,1⟩:=JX (fl:=fl) (k:=0) (by decide)
theorem FN (fl:List Int):gW fl 109 ⟨[110,111,110,101],[110,111,110,101],0,1⟩:=zn (fl:=fl) (k:=0) (by decide)
theorem KH (fl:List Int):gW fl 116 ⟨jL,jL,1,1⟩:=CT (fl:=fl) (k:=1) (by decide)
def gM (kd:Nat) (a b m k x y:Mk):Mk:=
 if kd=0 then fO a [43] b (dM (a.told+b.told)) else if kd=1 then fO a [45] b (dM (a.told - b.told))
 else if kd=2 then fO a [60] b (dq (decide (a.told<b.told))) else if kd=3 then fO a [60,61] b (dq (decide (a.told≤b.told)))
 else if kd=4 then fO a [61] b (dq (a.told==b.told)) else if kd=5 then fO m [61] k (dq (m.told==k.told))
 else if kd=6 then fO x [97,110,100] y (dq (x.told==1&&y.told==1)) else if kd=7 then fO x [111,114] y (dq (x.told==1||y.told==1))
 else if kd=8 then⟨nZ++x.text++[41],[110,111,116,40]++x.bare++[41],1 - x.told,x.deep+1⟩ else Ky x a b
def gJ (kd:Nat):Nat:=if kd=0∨kd=1∨8<kd then 0 else 2
theorem nN {b:Mk} {w:Nat×List UInt8} (I:gW fl z a) (J:gW fl D b) (O:w∈pQ) (E:∀xs its,uT xs its ⟨w.1,w.2,0⟩ [z,D]=Oe w.2) (R:ya (Oe w.2) (n9 w.2 a.told b.told))
 (U:(fO a w.2 b (n9 w.2 a.told b.told)).deep≤12) (V:(fO a w.2 b (n9 w.2 a.told b.told)).text.length≤140) (G:(fO a w.2 b (n9 w.2 a.told b.told)).bare.length≤140):gW fl (Oe w.2) (fO a w.2 b (n9 w.2 a.told b.told)):=by
 unfold fO at*;refine LN I J O E U ?_ ?_ R
 ·simp at V;omega
 ·simp at G;omega
theorem OD {fl:List Int} {kd:Nat} {a b m k x y:Mk} (G:gW fl 110 a) (I:gW fl 110 b) (U:gW fl 109 m) (V:gW fl 109 k) (J:gW fl 116 x) (O:gW fl 116 y)
 (D:(gM kd a b m k x y).deep≤12) (E:(gM kd a b m k x y).text.length≤140) (z:(gM kd a b m k x y).bare.length≤140):gW fl (Ig (gJ kd)) (gM kd a b m k x y):=by
 have R:kd=0∨kd=1∨kd=2∨kd=3∨kd=4∨kd=5∨kd=6∨kd=7∨kd=8∨9≤kd:=by omega
 rcases R with rfl|rfl|rfl|rfl|rfl|rfl|rfl|rfl|rfl|R
 ·exact nN (w:=(115,[43])) G I (by decide) (fun xs its=>rfl) (qT (lS _)) D E z
 ·exact nN (w:=(115,[45])) G I (by decide) (fun xs its=>rfl) (qT (lS _)) D E z
 ·exact nN (w:=(115,[60])) G I (by decide) (fun xs its=>rfl) (fm _ _) D E z
 ·exact nN (w:=(115,[60,61])) G I (by decide) (fun xs its=>rfl) (fm _ _) D E z
 ·exact nN (w:=(115,[61])) G I (by decide) (fun xs its=>rfl) (fm _ _) D E z
 ·exact nN (w:=(115,[61])) U V (by decide) (fun xs its=>rfl) (fm _ _) D E z
 ·exact nN (w:=(107,[97,110,100])) J O (by decide) (fun xs its=>rfl) (fm _ _) D E z
 ·exact nN (w:=(107,[111,114])) J O (by decide) (fun xs its=>rfl) (fm _ _) D E z
 ·have e:gM 8 a b m k x y=⟨nZ++x.text++[41],[110,111,116,40]++x.bare++[41],1 - x.told,x.deep+1⟩:=rfl
  rw[e] at D E z⊢;refine Np J D ?_ ?_
  ·simp[nZ] at E;omega
  ·simp at z;omega
 ·have e:gM kd a b m k x y=Ky x a b:=by
   unfold gM;rw[Zt (by omega),Zt (by omega),Zt (by omega),Zt (by omega),Zt (by omega),Zt (by omega),Zt (by omega),Zt (by omega),Zt (by omega)]
  have Y:gJ kd=0:=by unfold gJ;rw[Zu (by omega)]
  rw[e] at D E z⊢;rw[Y];unfold Ky at*;refine Oz J G I D ?_ ?_
  ·simp[sH,kD,kF] at E;omega
  ·simp at z;omega
def tO:Code→Option Code
 | .loop c=>tO c
 | .seq a b=>match tO a with
  |some c=>some c
  |none=>tO b
 | .block n c=>some (.block n c)
 | .scope c=>tO c
 | .cond _ a b=>match tO a with
  |some c=>some c
  |none=>tO b
 |_=>none
def oE (m:Mk):Prop:=m.text.length≤1000∧m.bare.length≤1000∧m.deep≤100∧dG m.told
theorem gW.small (h:gW fl ty m):oE m:=by
 have z:=h.text;have D:=h.bare;have h3:=h.deep;exact⟨by omega,by omega,by omega,h.told.1⟩
structure Pr (w:World) (ga gb gm gk gx gy gz:Nat) (a b m k x y:Mk):Prop where
 oa:fW w ga a
 ob:fW w gb b
 om:fW w gm m
 ok:fW w gk k
 ox:fW w gx x
 oy:fW w gy y
 oz:fW w gz kt
 la:ga<gz
 lb:gb<gz
 lm:gm<gz
 lk:gk<gz
 lx:gx<gz
 ly:gy<gz
 sa:oE a
 sb:oE b
 sm:oE m
 sk:oE k
 sx:oE x
 sy:oE y
 tx:x.told=0∨x.told=1
 ty:y.told=0∨y.told=1
theorem dk (h:fW w g m):Cq w g 0 (S m.text)∧Cq w g 1 (S m.bare)∧Cq w g 2 (Iq m.told)∧Cq w g 3 (Iq (m.deep:Nat)):=
 ⟨Zz w _ 0 _ _ _ h,Zz w _ 1 _ _ _ h,Zz w _ 2 _ _ _ h,Zz w _ 3 _ _ _ h⟩
theorem jW (h:fW w g m):w.frozen? ⟨g,0,none⟩=false∧w.frozen? ⟨g,1,none⟩=false∧w.frozen? ⟨g,2,none⟩=false∧w.frozen? ⟨g,3,none⟩=false:=by
 unfold fW at h;exact⟨by simp[World.frozen?,h],by simp[World.frozen?,h],by simp[World.frozen?,h],by simp[World.frozen?,h]⟩
theorem dm (h:fW w g m) (z:Below B w w') (D:g<B):fW w' g m:=(z.block _ D).trans h
theorem dZ (h:fW w g m):fW ((((w.setCell ⟨g,0,none⟩ (S r.text)).setCell ⟨g,1,none⟩ (S r.bare)).setCell ⟨g,2,none⟩ (Iq r.told)).setCell ⟨g,3,none⟩ (Iq (r.deep:Nat))) g r:=by
 have z:=ZK w g 0 _ _ (S r.text) h;have D:=ZK _ g 1 _ _ (S r.bare) z;have h3:=ZK _ g 2 _ _ (Iq r.told) D;exact ZK _ g 3 _ _ (Iq (r.deep:Nat)) h3
theorem iW {z:World} (h:Below g z w):Below g z ((((w.setCell ⟨g,0,none⟩ (S r.text)).setCell ⟨g,1,none⟩ (S r.bare)).setCell ⟨g,2,none⟩ (Iq r.told)).setCell ⟨g,3,none⟩ (Iq (r.deep:Nat))):=
 (((h.setCell (Zw _) _).setCell (Zw _) _).setCell (Zw _) _).setCell (Zw _) _
def nT (kd:Nat) (ki:Int):Prop:= ∀{a_ b_ c_ d_ e_ f_ g_ h_ i_ j_ k_ s_ t_ u_ v_ w_ x_ y_ z_ A_ B_ C_ D_ E_ F_ G_ H_ I_ J_ K_ L_ M_ N_ O_ P_ Q_ R_ S_ T_ U_ V_ W_ X_ Y_ Z_ _a _b _c _d _e _f _g _h _i _j _k _l _m _n _p _q _r _s _t _u _v _w _x _y _z _A _B _C _D _E _F _G _H _I _J _K _L _M _N _O _P _Q _R _S _T _U _V _W _X _Y _Z _0 _1 _2 _3 _4 _5 _6 _7 _8 _9 a'1 b'1 c'1 d'1 e'1 f'1 g'1 h'1 i'1 j'1 k'1 l'1 m'1 n'1 o'1 p'1 q'1 r'1 s'1 t'1 u'1 v'1 w'1 x'1 y'1 z'1 A'1 B'1 C'1 D'1 E'1 F'1 G'1 H'1 I'1 J'1 K'1 L'1 M'1 N'1 O'1 P'1 Q'1 R'1 S'1 T'1 U'1 V'1 W'1 X'1 Y'1 Z'1 a? b? c? d? e? f? g? h? i? j? k? l? m? n? o? p? q? r? s? t? u? v? w? x? y? z? A? B? C? D? E? F? G? H? I? J? K? L? M? N? O? P? Q? R? S? T? U? V? W? X? Y? Z? Z' Y' X' V' U' T' S':Value} {ga gb gm gk gx gy gz:Nat} {w0:World} {a b m k x y:Mk},Pr w0 ga gb gm gk gx gy gz a b m k x y→
 Code.wp prog ((f38.body.bind tO).getD .skip) (JN (fun a' w'=> ∃(_p _q _r _s _t _u _v _w _x _y _z _A _B _C _D _E _F _G _H _I _J _K _L _M _N _O _P _Q _R _S _T _U _V _W _X _Y _Z _0 _1 _2 _3 _4 _5 _6 _7 _8 _9 a'1 b'1 c'1 d'1 e'1 f'1 g'1 h'1 i'1 j'1 k'1 l'1 m'1 n'1 o'1 p'1 q'1 r'1 s'1 t'1 u'1 v'1 w'1 x'1 y'1 z'1 A'1 B'1 C'1 D'1 E'1 F'1 G'1 H'1 I'1 J'1 K'1 L'1 M'1 N'1 O'1 P'1 Q'1 R'1 S'1 T'1 U'1 V'1 W'1 X'1 Y'1 Z'1 a? b? c? d? e? f? g? h? i? j? k? l? m? n?:Value),a'=⟨#[a_,b_,c_,d_,e_,f_,g_,h_,i_,j_,k_,Pq ga,Pq gb,Pq gm,Pq gk,Pq gx,Pq gy,Pq gz,s_,t_,u_,v_,w_,x_,y_,z_,A_,B_,C_,D_,E_,F_,G_,H_,I_,J_,K_,L_,M_,N_,O_,P_,Q_,R_,S_,T_,U_,V_,W_,X_,Y_,Z_,_a,_b,_c,_d,_e,_f,_g,_h,_i,_j,_k,_l,_m,_n,Iq ki,_p,_q,_r,_s,_t,_u,_v,_w,_x,_y,_z,_A,_B,_C,_D,_E,_F,_G,_H,_I,_J,_K,_L,_M,_N,_O,_P,_Q,_R,_S,_T,_U,_V,_W,_X,_Y,_Z,_0,_1,_2,_3,_4,_5,_6,_7,_8,_9,a'1,b'1,c'1,d'1,e'1,f'1,g'1,h'1,i'1,j'1,k'1,l'1,m'1,n'1,o'1,p'1,q'1,r'1,s'1,t'1,u'1,v'1,w'1,x'1,y'1,z'1,A'1,B'1,C'1,D'1,E'1,F'1,G'1,H'1,I'1,J'1,K'1,L'1,M'1,N'1,O'1,P'1,Q'1,R'1,S'1,T'1,U'1,V'1,W'1,X'1,Y'1,Z'1,a?,b?,c?,d?,e?,f?,g?,h?,i?,j?,k?,l?,m?,n?,o?,p?,q?,r?,s?,t?,u?,v?,w?,x?,y?,z?,A?,B?,C?,D?,E?,F?,G?,H?,I?,J?,K?,L?,M?,N?,O?,P?,Q?,R?,S?,T?,U?,V?,W?,X?,Y?,Z?,Z',Y',X',V',U',T',S'],[]⟩∧fW w' gz (gM kd a b m k x y)∧Below gz w0 w')) ⟨#[a_,b_,c_,d_,e_,f_,g_,h_,i_,j_,k_,Pq ga,Pq gb,Pq gm,Pq gk,Pq gx,Pq gy,Pq gz,s_,t_,u_,v_,w_,x_,y_,z_,A_,B_,C_,D_,E_,F_,G_,H_,I_,J_,K_,L_,M_,N_,O_,P_,Q_,R_,S_,T_,U_,V_,W_,X_,Y_,Z_,_a,_b,_c,_d,_e,_f,_g,_h,_i,_j,_k,_l,_m,_n,Iq ki,_p,_q,_r,_s,_t,_u,_v,_w,_x,_y,_z,_A,_B,_C,_D,_E,_F,_G,_H,_I,_J,_K,_L,_M,_N,_O,_P,_Q,_R,_S,_T,_U,_V,_W,_X,_Y,_Z,_0,_1,_2,_3,_4,_5,_6,_7,_8,_9,a'1,b'1,c'1,d'1,e'1,f'1,g'1,h'1,i'1,j'1,k'1,l'1,m'1,n'1,o'1,p'1,q'1,r'1,s'1,t'1,u'1,v'1,w'1,x'1,y'1,z'1,A'1,B'1,C'1,D'1,E'1,F'1,G'1,H'1,I'1,J'1,K'1,L'1,M'1,N'1,O'1,P'1,Q'1,R'1,S'1,T'1,U'1,V'1,W'1,X'1,Y'1,Z'1,a?,b?,c?,d?,e?,f?,g?,h?,i?,j?,k?,l?,m?,n?,o?,p?,q?,r?,s?,t?,u?,v?,w?,x?,y?,z?,A?,B?,C?,D?,E?,F?,G?,H?,I?,J?,K?,L?,M?,N?,O?,P?,Q?,R?,S?,T?,U?,V?,W?,X?,Y?,Z?,Z',Y',X',V',U',T',S'],[]⟩ w0
end Go.Proofs.YtfkdailfcmnjlaaGreatDoor
namespace Go.Proofs.YtfkdailfcmnjlaaGreatDoor
open Go Go.RowKit Tryz
attribute [local go_sem ↓] Go.wp_at_zero Go.wp_at_succ mI
def sD (c:jV) (w:World) (e:Ending) (w':World):Prop:= ∃q:List (Mk×Bool),qj (qS c) q∧q.length≤3∧e= .returned (.agg #[S (gh q),S (gK q),.bool (eT q 0).1,Iq ((eT q 0).2:Nat),Iq 0])∧Below w.heap.size w w'
theorem NO {c:jV} {q:List (Mk×Bool)} (z:qj (qS c) q) (E:q.length≤3):(gh q).length≤maxLen∧(gK q).length≤maxLen:=by
 cases q with
 |nil=>exact⟨ZL _,ZL _⟩
 |cons r q=>
  obtain⟨I,J⟩:=uE (fl:=qS c) q (fun r G=>z r (by simp[G]))
  have D:=z r (by simp)
  have O:=D.text;have R:=D.bare;have U:(ik r.2).length≤9:=by cases r.2<;>decide
  simp at E;unfold maxLen;constructor
  ·simp[gh,mK,ek,xY];omega
  ·simp[gK,mK,ek];omega
theorem Ij:eG ((0:Nat):Int)=0∧eG ((1:Nat):Int)=1∧eG ((2:Nat):Int)=2∧eG (2*((0:Nat):Int))=0∧eG (2*((1:Nat):Int))=2:=by decide
theorem ER (c:jV):eD (oB c) (jJ c)=qS c:=by
 obtain⟨O,R,U,V,Y⟩:=Ij;have E:=ns c.sn;have G:=ns c.tg;unfold eD qS oB jJ NG NH;simp only[];have z:∀n,eG n<3→fG c.df (tU c 2) (il n)=(if Ie c (eG n)=false then IM c (eG n) else if eG n≠1 then 77 else c.df)∧fy (AM c 2) (il n)=(if Ie c (eG n)=false then fe (IN c (eG n)) else if eG n≠1 then 4 else 0):=by
  intro n Z;have h3:eG n=0∨eG n=1∨eG n=2:=by omega
  have u:il n=[[97],[98],[]].getD (eG n) []:=rfl;simp only[tU,EH,AM,EI];have u0:il ((0:Nat):Int)=[97]:=by decide
  have u1:il ((1:Nat):Int)=[98]:=by decide
  have u2:il ((2:Nat):Int)=[]:=by decide
  have u3:il (2*((0:Nat):Int))=[97]:=by decide
  have u4:il (2*((1:Nat):Int))=[]:=by decide
  rw[u0,u1,u2,u3,u4,u];unfold Ie IM IN;rcases h3 with e|e|e<;>rw[e]<;>cases c.a0<;>cases c.a1<;>cases c.a2<;>simp[fG,fy,fe]
 rw[(z c.sn E).1,(z c.tg G).1,(z c.sn E).2,(z c.tg G).2];have I:(il c.sn==il c.tg)=(eG c.sn==eG c.tg):=by
  unfold il;have h3:eG c.sn=0∨eG c.sn=1∨eG c.sn=2:=by omega
  have J:eG c.tg=0∨eG c.tg=1∨eG c.tg=2:=by omega
  rcases h3 with e|e|e<;>rcases J with D|D|D<;>rw[e,D]<;>decide
 rw[I]
end Go.Proofs.YtfkdailfcmnjlaaGreatDoor
