/-
  A part.
-/
import Derived.Test.YtfkdailfcmnjlaaGreatDoorAll26
import Derived.Lib.AppendZerosOnto
set_option linter.all false
set_option maxHeartbeats 40000000
set_option maxRecDepth 1000000
namespace Go.Proofs.YtfkdailfcmnjlaaGreatDoor
open Go Go.RowKit Tryz
variable {v l w D o a}
theorem pD (k:Nat):Builtin.zeroCells (Value.int .i64 0).cells k=(List.replicate k (Value.int .i64 0)).toArray:=by
 have e:(Value.int .i64 0).cells= #[Value.int .i64 0]:=rfl;rw[e];apply Array.ext
 ·simp[Builtin.zeroCells]
 intro j z D;simp[Builtin.zeroCells,Tg]
theorem wS {P:Program} (w) (t U ty e) (i) (kq kn) (ht:P.underlying t=some (.slice e)) (V:P.underlying U=some (.int kn)) (hi:P.info? e=some i) (hz:i.zero=some (Iq 0)) (hs:i.size=1) (hb:i.bytes=8)
 (g z E) (D) (hg:w.heap[g]?=some (.cells D e (0,0))) (k:Nat) (h0:0<k) (hk:k<=100000) (G:z+k<=E) (J:z+k<=D.size):
 (Builtin.append_ #[t,U] ty #[Sq g z E,.int kq k]).run P w=
  .ok (Sq g (z+k) E) (w.setRow g (D.toList.take z++List.replicate k (Value.int .i64 0)++D.toList.drop (z+k)).toArray):=by
 have Y:k≠0:=by omega
 have hw:IntKind.i64.wrap (k:Int)=k:=by rw[Q0];omega
 have O: ¬((k:Int)<0):=by omega
 have R: ¬(281474976710656<(k:Int)*8):=by omega
 have I:=run_storeCells_at P g z e (List.replicate k (Value.int .i64 0)) 0 D w hg (by simpa using J) (λu hu=>by rw[List.eq_of_mem_replicate hu];rfl)
 simp only[S2,Rl] at I;have Z:=pD k;simp[Builtin.append_,Tt ht,Tt V,sizeOf,typeInfo,zeroValue,hi,hz,hs,hb,asInt,asIntOf,hw,O,R,Y,G,Z,Addr.add_lit,I]
theorem tO {P} (w) (t O ty e) (i) (Y kn) (ht:P.underlying t=some (.slice e)) (R:P.underlying O=some (.int kn)) (hi:P.info? e=some i) (hz:i.zero=some (Iq 0)) (hs:i.size=1) (Z:i.bytes=8)
 (h:IR w e v l) (k) (h0:0<k) (hk:l.length+k<=100000):
 ∃g cap w',(Builtin.append_ #[t,O] ty #[v,.int Y k]).run P w= .ok (Sq g (l.length+k) cap) w'/\IR w' e (Sq g (l.length+k) cap) (l++List.replicate k 0)/\w.grownBy w' v.ownBlock/\(v.ownBlock=some g\/g=w.heap.size)/\g<w'.heap.size:=by
 have z:(l++List.replicate k 0).length=l.length+k:=by simp
 have U:(l++List.replicate k 0).map (Value.int .i64)=l.map (Value.int .i64)++List.replicate k (Value.int .i64 0):=by simp
 have grown:∀D row,
  IR (w.drew.alloc (.cells ((l.map (Value.int .i64)).toArray++Builtin.zeroCells (Value.int .i64 0).cells k++Builtin.zeroCells (Value.int .i64 0).cells (grownCap w (l.length+k) D e - (l.length+k))) e)) e (Sq w.heap.size (l.length+k) (grownCap w (l.length+k) D e)) (l++List.replicate k 0)/\
  w.grownBy (w.drew.alloc (.cells ((l.map (Value.int .i64)).toArray++Builtin.zeroCells (Value.int .i64 0).cells k++Builtin.zeroCells (Value.int .i64 0).cells (grownCap w (l.length+k) D e - (l.length+k))) e)) row:=by
  intro D row;have ac:=grownCap_ge w (l.length+k) D e;have V:=grownCap_le_maxLen w (l.length+k) D e (by unfold maxLen;omega)
  refine⟨⟨by simp,.inr ⟨w.heap.size,_,_,by rw[z],QA _,Qp w.drew _,by rw[z];exact ac,V,?_,?_⟩⟩,⟨rfl,rfl,rfl,by simp,λk hk _=>Qu w.drew _ k hk⟩⟩
  ·have e1:(Value.int .i64 0).cells.size=1:=rfl;simp only[Array.size_append,Tv,size_zeroCells,e1,Ro];omega
  rw[pD k,U,z];simp only[Array.toList_append];exact List.take_left' (by simp)
 rcases h.2 with⟨rfl,h2⟩|⟨g,cap,aa,rfl,ad,hg,af,V,ag,I⟩
 ·have ae:l=[]:=Rc h2;subst ae;have G:=Lib.run_append_nil_zeros w t O ty e i (Iq 0) Y kn ht R hi hz k h0 (by omega) (by omega) (by rw[Z];omega)
  have E:=grown 0 (Value.ownBlock (.slice none 0 0));simp only[Q7,QO,Q9,RW,Array.empty_append] at E⊢;exact⟨_,_,_,G,E.1,E.2,.inr rfl,by simp⟩
 by_cases J:l.length+k<=cap
 ·have G:=wS w t O ty e i Y kn ht R hi hz hs Z g l.length cap aa hg k h0 (by omega) J (by omega)
  refine⟨_,_,_,G,⟨by simp,.inr ⟨g,cap,_,by rw[z],ad,setRow_heap w g aa _ e _ hg,by rw[z];exact J,V,?_,?_⟩⟩,⟨rfl,rfl,rfl,by simp,λk _ hk=>setRow_other w g k _ (λe=>hk (by simp[Value.ownBlock,e]))⟩,.inl rfl,?_⟩
  ·simp only[Tv,Qt,SJ,TB,Th,Rl];omega
  ·rw[TL] at I;rw[I,U,z];exact List.take_left' (by simp)
  simpa using be hg
 have ab:(Builtin.firstCells i.size l.length (Sq g l.length cap)).run P w.drew= .ok (l.map (Value.int .i64)).toArray w.drew:=by
  have G:=h;exact run_firstCells_some w.drew i.size l.length ⟨g,0,none⟩ l.length cap _ (by rw[hs];simp) (G.cells rfl)
 have G:=Lib.run_append_grow_zeros w t O ty e i (Iq 0) Y kn ht R hi hz (some ⟨g,0,none⟩) l.length cap (l.map (Value.int .i64)) ab k h0 (by omega) (by omega) (by omega) (by rw[Z];omega) (growslice_fits (by omega) (by rw[Z];omega))
 have E:=grown cap (Value.ownBlock (Sq g l.length cap));exact⟨_,_,_,G,E.1,E.2,.inr rfl,by simp⟩
theorem qx {P rest Q} (E:o.guard=none) (s x) (t z)
 (J:o.op= .call {callee:= .builtin .append,args:= #[s,x],argTypes:= #[t,z]}) (e) (i) (G kn) (O:P.underlying t=some (.slice e)) (I:P.underlying z=some (.int kn)) (R:P.info? e=some i) (U:i.zero=some (Iq 0)) (V:i.size=1) (Y:i.bytes=8)
 (k) (Z:a.eval s=v) (hx:a.eval x= .int G k) (h:IR w e v l) (h0:0<k) (hk:l.length+k<=100000)
 (hK:∀g cap w',IR w' e (Sq g (l.length+k) cap) (l++List.replicate k 0)->w.grownBy w' v.ownBlock->(v.ownBlock=some g\/g=w.heap.size)->g<w'.heap.size->wpList P D Q rest (a.put o.dst (Sq g (l.length+k) cap)) w'):wpList P D Q (o::rest) a w:=by
 obtain⟨g,cap,w',hr,h1,h2,h3,h4⟩:=tO w t z o.type e i G kn O I R U V Y h k h0 hk;exact Lib.wpList_append_run w E s x t z J v _ Z hx _ _ hr (hK g cap w' h1 h2 h3 h4)
section
attribute [local go_sem ↓] Go.wp_at_zero Go.wp_at_succ
variable {p vs vc st c cs ty G u m q us uc z c2 w' J O R U n tw pl E I}
theorem Ed (k:Nat) (x) (h:eQ w p vs vc st c) (U:k<=255) (hc:c.length<=256):
 Calls prog 233 #[Pq p,Iq k,Iq x] w λe w'=>e= .returned (.tuple #[])/\cW w w' p vs vc st (kH c k x):=by
 have ab:w.cell? ⟨p,1,none⟩=some vc:=by rw[Qm w p 1 _ _ _ h.blk];rfl
 have ah:w.frozen? ⟨p,1,none⟩=false:=by simp[World.frozen?,h.blk]
 have ai:=be h.blk;have I:=h.cl.ne h.blk sx
 by_cases Y:k<c.length
 ·obtain⟨g,cap,rfl,Z⟩:=h.cl.form (by omega)
  have ac:=h.cl.cell Y;have aj:=h.cl.frz k;have e:kH c k x=c.set k x:=by unfold kH;rw[show k+1 - c.length=0 by omega];simp
  rw[e];have aa:g≠p:=λe=>I (by rw[e];rfl)
  have HA:Hid (cW w (w.setCell ⟨g,k,none⟩ (Iq x)) p vs (Sq g c.length cap) st (c.set k x)):=by
   have ho:cI (λb=>b=g) w (w.setCell ⟨g,k,none⟩ (Iq x)):=(cI.refl (λb=>b=g) w).setCell (.inl rfl) _
   refine⟨vs,Sq g c.length cap,⟨(ho.block p ai (λe=>aa e.symm)).trans h.blk,h.st.only ho (λb z e=>?_),h.cl.set Y x,h.ne⟩,ho.weak (λi _ V=>?_),λb z=> .inl z⟩
   ·subst e;exact h.ne b z rfl
   ·subst V;exact .inr (.inr rfl)
  generalize c.getD k 0=y at*;generalize c.length=n at*;go_enter func233,ntmps233
  go_wp2
  go_end0
  exact⟨rfl,HA.out⟩
 ·obtain⟨d,rfl⟩:∃d,k=c.length+d:=⟨k - c.length,by omega⟩
  have e:kH c (c.length+d) x=(c++List.replicate (d+1) 0).set (c.length+d) x:=by unfold kH;rw[show c.length+d+1 - c.length=d+1 by omega]
  rw[e];obtain⟨a,cap,rfl⟩:=h.cl.sl;obtain⟨i0,V,hz⟩:=QP.1 rr;simp only[QS] at hz;obtain⟨ak,am,an⟩:=hz;have HE:=Hi e;generalize hn:c.length=n at h ab hc U Y I HE⊢;have H:=Hi h;have HN:=Hi I;have J:=Hi hn;go_enter func233,ntmps233
  go_wp2_with (
   at_builtin
   go_must (refine qx (by rfl) _ _ 219 3 (by rfl) 220 i0 .i64 .i64 underlying219 underlying3 V ak am an (d+1) (by rfl) (by simp[go_sem];omega) H.out.cl (by omega) (by rw[J.out];omega) ?_)
   rw[J.out];intro gg O D E G R av;have aa:gg≠p:=by
    intro e;rcases R with h|h
    ·exact HN.out (by rw[h,e])
    ·omega
   have ac:=E.cell (k:=n+d) (by simp[J.out])
   have aj:=E.frz (n+d);generalize ((c++List.replicate (d+1) 0).getD (n+d) 0)=y at ac;have e0:=(G.block _ (by omega) (λe=>HN.out e.symm))
   have e1:=(Qz (a:=⟨p,1,none⟩) e0).trans ab;have e2:=(Re (a:=⟨p,1,none⟩) e0).trans ah;have ao:=Hi e0;have ap:=Hi E;have ad:=Hi G
   clear e0 E G)
  go_end0
  refine⟨rfl,?_⟩;have hO:=ap.out;rw[show n+(d+1)=(c++List.replicate (d+1) (0:Int)).length by rw[Qt,J.out,Rl]] at hO⊢
  have h1:=hO;have aq:cI (λb=>b=p) D (D.setCell ⟨p,1,none⟩ (Sq gg (c++List.replicate (d+1) (0:Int)).length O)):=(cI.refl (λb=>b=p) D).setCell (.inl rfl) _
  have h2:=h1.only aq (λg Z=>by simp[Value.ownBlock] at Z;omega)
  have h3:=h2.set (j:=n+d) (by simp[J.out]) x
  have hE:cI (eF p vs (.slice a n cap)) w D:=(cI.refl _ w).grown ad.out (λk U=> .inl (.inr (.inr U)))
  have ae:cI (λb=>b=p\/b=gg) D ((D.setCell ⟨p,1,none⟩ (Sq gg (c++List.replicate (d+1) (0:Int)).length O)).setCell ⟨gg,n+d,none⟩ (Iq x)):=((cI.refl (λb=>b=p\/b=gg) D).setCell (.inl (.inl rfl)) _).setCell (.inl (.inr rfl)) _
  have ar:∀i,i<w.heap.size->i=gg->eF p vs (.slice a n cap) i:=λi V e=>by
   subst e;rcases R with h|h
   ·exact .inr (.inr h)
   ·omega
  have ag:=ao.out.trans H.out.blk;have au:IR D 220 vs st:=cM H.out.st (λk U=>ad.out.block k (H.out.st.lt k U).2 (λe=>H.out.ne k U e.symm))
  have af:vs.ownBlock≠some gg:=λe=>by
   rcases R with h|h
   ·exact H.out.ne gg e h
   ·have:=(H.out.st.lt gg e).2;omega
  refine⟨vs,Sq gg (c++List.replicate (d+1) (0:Int)).length O,⟨?_,au.only ae (λg Z e=>?_),h3,λb z e=>?_⟩,hE.trans ae (λ_ _ h=>h) (λi V h=>?_),λb z=>?_⟩
  ·rw[Qr _ _ _ _ (by simpa using λe=>aa e.symm),QB D p 1 _ _ _ ag];rfl
  ·rcases e with e|e
   ·subst e;exact H.out.st.ne H.out.blk sx Z
   ·subst e;exact af Z
  ·simp[Value.ownBlock] at e;subst e;exact af z
  ·rcases h with h|h
   ·exact .inl h
   ·exact ar i V h
  ·rcases z with z|z|z
   ·exact .inl (.inl z)
   ·exact .inl (.inr (.inl z))
   ·simp[Value.ownBlock] at z
    rcases R with h|h
    ·subst z;exact .inl (.inr (.inr h))
    ·right;omega
theorem wT (h:IR w 220 v l) (hl:l.length<=5000):
 Calls prog 259 #[v] w λe w'=> ∃z,e= .returned z/\IR w' 220 z l/\Bl w w'/\ ∀b,z.ownBlock=some b->w.heap.size<=b:=by
 rcases h.2 with⟨rfl,Y⟩|⟨g,cap,ai,rfl,Z,hg,aa,ab,ac,I⟩
 ·have ad:l=[]:=Rc Y;subst ad;have D:∀w,(binOp .eql 219 (.slice none 0 0) (.slice none 0 0)).run prog w= .ok (.bool true) w:=λw=>Lib.run_eql_slice_nil w _ 220 none 0 0 0 0 underlying219
  go_enter func259,ntmps259;go_wp2;go_ret;exact⟨_,rfl,IR.nil _ _,Qq _ _,λb U=>by simp[Value.ownBlock] at U⟩
 obtain⟨i0,hi,hz⟩:=QP.1 rr;simp only[QS] at hz;obtain⟨ae,af,ag⟩:=hz;have D:∀w,(binOp .eql 219 (Sq g l.length cap) (.slice none 0 0)).run prog w= .ok (.bool false) w:=λw=>Lib.run_eql_slice_nil w _ 220 (some ⟨g,0,none⟩) l.length cap 0 0 underlying219
 have H:=Hi h;have H0:=Hi (Tw (base:=w.heap.size) (e:=220) (size:=1) w #[] 0 (Qn _) (by decide) rfl)
 go_enter func259,ntmps259;go_wp2_with (
  at_builtin;go_must (refine wpList_append_own_at _ (by rfl) _ _ 219 (by rfl) w.heap.size 220 i0 (Iq 0) 1 8 underlying219 hi ae af ag (by rfl) (by decide) _ _ _ (by rfl) H0.out ⟨g,0,none⟩ l.length cap (l.map (Value.int .i64)) (by rfl) (by simp) (World.ownsRow.cells (H.out.alloc _) rfl) (λx hx=>by simp at hx;obtain⟨y,_,rfl⟩:=hx;rfl) (by unfold maxLen;omega) (by omega) (by simp) ?_)
  intro z V E G D ah;have O:=Hi E;have R:=Hi G;clear E G D)
 have J:=O.out;rw[QO,RW] at J;have HA:Hid (IR V 220 z l/\Bl w V/\ ∀b,z.ownBlock=some b->w.heap.size<=b):=by
  refine⟨lM J (QA _),?_,λb U=>(J.lt b U).1⟩
  exact Tz ((Qq _ w).alloc (Qn _) _) R.out (by simp) (λk hk=>by simp[Value.ownBlock] at hk;omega)
 go_ret;exact⟨z,rfl,HA.out⟩
theorem BU (J:w.heap[p]?=some (.cells cs ty (0,0))) (R:cs[0]?=some v) (h:IR w 220 v l) (hl:l.length<=5000):
 Calls prog 258 #[Pq p] w λe w'=> ∃z,e= .returned (.agg #[z])/\IR w' 220 z l/\Bl w w'/\ ∀b,z.ownBlock=some b->w.heap.size<=b:=by
 have U:w.cell? ⟨p,0,none⟩=some v:=by rw[Qm w p 0 _ _ _ J];exact R
 have V:=be J;have W1:∀W,Bl w W->Calls prog 259 #[v] W λe w'=> ∃z,e= .returned z/\IR w' 220 z l/\Bl W w'/\ ∀b,z.ownBlock=some b->W.heap.size<=b:=λW O=>wT (cD h O) hl
 obtain⟨a,cap,rfl⟩:=h.sl;have ab:∀o,(w.alloc o).cell? ⟨p,0,none⟩=some (.slice a l.length cap):=λo=>by rw[Qz (w:=w) (a:=⟨p,0,none⟩) (Qu w o p V)];exact U
 go_enter func258,ntmps258;go_wp2_with (
  go_at_call 259;apply(W1 _ ((Qq _ w).alloc (Qn _) _)).mono;rintro e w' ⟨z,rfl,E,G,h3⟩;obtain⟨Y,I,rfl⟩:=E.sl;have D:=(G.block w.heap.size (by simp)).trans (Qp w _)
  have Z:w'.cell? ⟨w.heap.size,0,none⟩=some (.slice none 0 0):=by rw[Qm w' _ 0 _ _ _ D];rfl
  have ac:w'.frozen? ⟨w.heap.size,0,none⟩=false:=by simp[World.frozen?,D]
  have HA:=Hi (And.intro E (And.intro G h3));clear E G h3 D)
 refine Qs (v:= .agg #[.slice Y l.length I]) (by simp[results,results258,go_sem,cY,Z]) rfl ?_
 obtain⟨E,G,h3⟩:=HA.out;rw[Qw] at h3;have aa:∀g,(Value.slice Y l.length I).ownBlock=some g-> ¬(g=w.heap.size):=λg hg e=>by have:=h3 g hg;omega
 refine⟨_,rfl,E.only ((cI.refl (λb=>b=w.heap.size) w').setCell (.inl rfl) _) aa,?_,λb O=>by have:=h3 b O;omega⟩
 exact(((Qq _ w).alloc (Qn _) _).trans (G.mono (by simp))).setCell (by simp) _
theorem Ee (h:eQ w p vs G st c) (hl:st.length<=5000) (ae:c.length<=5000):
 Calls prog 236 #[Pq p] w λe w'=> ∃p' aa ab,e= .returned (Pq p')/\eQ w' p' aa ab st c/\Bl w w'/\ ∀b,eF p' aa ab b->w.heap.size<=b:=by
 have af:w.cell? ⟨p,1,none⟩=some G:=by rw[Qm w p 1 _ _ _ h.blk];rfl
 have ag:=be h.blk;have W1:∀W,Bl w W->Calls prog 258 #[Pq p] W λe w'=> ∃O,e= .returned (.agg #[O])/\IR w' 220 O st/\Bl W w'/\ ∀b,O.ownBlock=some b->W.heap.size<=b:=λW z=>
  BU ((z.block p ag).trans h.blk) rfl (cD h.st z) hl
 have W2:∀W,Bl w W->Calls prog 259 #[G] W λe w'=> ∃O,e= .returned O/\IR w' 220 O c/\Bl W w'/\ ∀b,O.ownBlock=some b->W.heap.size<=b:=λW z=>wT (cD h.cl z) ae
 have KP:Hid (∀W W',(Bl w W/\Cq W p 1 G)->Bl W W'->(Below w.heap.size w W'/\W'.cell? ⟨p,1,none⟩=some G)):=λW W' E z=>⟨E.1.trans (z.mono E.1.size),by rw[z.cell (Qk W _ E.2)];exact E.2⟩
 have KD:Hid (∀W,(Bl w W/\Cq W p 1 G)->(Bl w W.drew/\Cq W.drew p 1 G)):=λW E=>⟨E.1.drew,E.2⟩
 have KA:Hid (∀W o,(Bl w W/\Cq W p 1 G)->(Bl w (W.alloc o)/\(W.alloc o).cell? ⟨p,1,none⟩=some G)):=λW o E=>⟨E.1.alloc E.1.size _,by rw[Qz (w:=W) (a:=⟨p,1,none⟩) (Qu W o p (by have:=E.1.size;omega))];exact E.2⟩
 have ah:Bl w w/\Cq w p 1 G:=⟨Qq _ _,af⟩;obtain⟨a,cap,rfl⟩:=h.cl.sl;go_enter func236,ntmps236;go_wp2;go_region_held3 (λw'=>Bl w w'/\Cq w' p 1 (.slice a c.length cap)) (first|with_reducible exact KD.out _ (by assumption)|with_reducible exact KP.out _ _ (by assumption) (by assumption)|with_reducible exact KA.out _ _ (by assumption)|with_reducible assumption|go_keep)
  (first
   |(go_at_call 258;refine(W1 _ (by exact SL (by assumption))).mono ?_;rintro e w1 ⟨v1,rfl,R,D,ac⟩;obtain⟨a1,I,rfl⟩:=R.sl)
   |(go_at_call 259;refine(W2 _ (by exact SL (by assumption))).mono ?_;rintro e V ⟨v2,rfl,Y,U,Z⟩;obtain⟨a2,J,rfl⟩:=Y.sl))
 rename_i hHeld;have ai:w.heap.size<=w1.heap.size:=D.size;have aj:=U.size;have HA:Hid (eQ (V.alloc (.cells #[.slice a1 st.length I,.slice a2 c.length J] 289)) V.heap.size (.slice a1 st.length I) (.slice a2 c.length J) st c/\Bl w (V.alloc (.cells #[.slice a1 st.length I,.slice a2 c.length J] 289))/\ ∀b,eF V.heap.size (.slice a1 st.length I) (.slice a2 c.length J) b->w.heap.size<=b):=by
  refine⟨⟨Qp _ _,(cD R U).alloc _,Y.alloc _,λb h1 h2=>?_⟩,hHeld.1,λb z=>?_⟩
  ·have:=(R.lt b h1).2;have:=Z b h2;omega
  rcases z with rfl|z|z
  ·omega
  ·exact ac b z
  have:=Z b z;omega
 go_wp2;go_ret;exact⟨_,_,_,rfl,HA.out⟩
theorem Eg (h:IR w 220 v l) (z:IR w 220 u m) (hl:l.length<=5000) (hm:m.length<=5000):
 Calls prog 272 #[v,u] w λe w'=>e= .returned (.bool (decide (l=m)))/\Below w.heap.size w w':=by
 obtain⟨a,cap,rfl⟩:=h.sl;obtain⟨b,ab,rfl⟩:=z.sl
 by_cases R:l.length=m.length
 ·have HE:Hid _:=R
  have H1:=Hi h;have H2:=Hi z;clear h z;go_enter func272,ntmps272;go_wp2_with fail
  go_loopw [13] (λi wr=> ∃k:Nat,k<=m.length/\i= Iq k/\Hid (∀q,q<k->l.getD q 0=m.getD q 0)/\Hid (Below w.heap.size w wr)) (λi _=>m.length - (intOf i).toNat)
  case atStart=>exact⟨0,QA _,rfl,λq hq=>by omega,Qq _ _⟩
  case round=>
   obtain⟨k,hk,rfl,U,E⟩:=hrel
   by_cases ad:k<m.length
   ·have G:IR wr 220 _ l:=cD H1.out E.out
    have I:IR wr 220 _ m:=cD H2.out E.out;obtain⟨g,c1,V,_⟩:=G.form (by omega)
    obtain⟨g2,c2,Y,_⟩:=I.form (by omega)
    simp at V Y;obtain⟨rfl,rfl⟩:=V;obtain⟨rfl,rfl⟩:=Y;have Z:=G.cell (k:=k) (by omega)
    have aa:=I.cell (k:=k) (by omega)
    have HX:Hid (l.getD k 0=l.getD k 0/\m.getD k 0=m.getD k 0):=⟨rfl,rfl⟩;clear G I;have HL:Hid (∀x y,l.getD k 0=x->m.getD k 0=y->l.getD k 0=x/\m.getD k 0=y):=λ_ _ O z=>⟨O,z⟩
    generalize hx:l.getD k 0=x at Z;generalize hy:m.getD k 0=y at aa;have D:=Hi (And.intro hx hy);clear hx hy HX HL;have ae:(0:Int)<=(k:Int)/\(k:Int)<(m.length:Int):=by omega
    have af:(0:Int)<=(k:Int)/\(k:Int)<(l.length:Int):=by omega
    by_cases J:x=y
    ·subst J
     go_wp2_with fail
     go_region
     go_wp2
     refine⟨⟨k+1,by omega,by go_num,λq hq=>?_,E.out.drew⟩,by simp[intOf];omega⟩
     by_cases e:q=k
     ·subst e;rw[D.out.1,D.out.2]
     ·exact U.out q (by omega)
    ·have ac:(x !=y)=true:=by simpa using J
     have HN:Hid (¬l=m):=λe=>J (by rw[<-D.out.1,<-D.out.2,e])
     go_wp2_with fail
     go_region
     go_wp2
     go_ret;exact⟨by simp[HN.out],E.out.drew⟩
   ·have HA:Hid (l=m):=by
     apply S3 HE.out
     intro i O z;have:=U.out i (by omega)
     rw[Qi,Qi,Ql O,Ql z] at this;exact this
    go_wp2
    go_ret;exact⟨by simp[HA.out],E.out⟩
 ·have ag:((l.length:Int) !=(m.length:Int))=true:=by simp;omega
  have hd:decide (l=m)=false:=by simp;intro e;exact R (by rw[e])
  rw[hd];clear h z hd;go_enter func272,ntmps272
  go_wp2
  go_ret;exact⟨rfl,Qq _ _⟩
theorem KR (w:World) (z D:Obj):Bl w ((w.alloc z).alloc D):=((Qq _ _).alloc (Qn _) _).alloc (by simp) _
theorem Ht (h:IR w 220 v l) (D:IR w 220 u m) (E:l.length<=5000) (G:m.length<=5000):
 Calls prog 260 #[.agg #[v],.agg #[u]] w λe w'=>e= .returned (.bool (decide (l=m)))/\Bl w w':=by
 have I:∀W,Bl w W->Calls prog 272 #[v,u] W λe w'=>e= .returned (.bool (decide (l=m)))/\Bl W w':=λW z=>Eg (cD h z) (cD D z) E G
 obtain⟨a,cap,rfl⟩:=h.sl;obtain⟨b,J,rfl⟩:=D.sl;generalize decide (l=m)=r at*;go_enter func260,ntmps260;go_wp2_with (
  go_at_call 272;apply(I _ (KR w _ _)).mono;rintro e w' ⟨rfl,z⟩)
 go_ret;exact⟨rfl,(KR w _ _).trans (z.mono (by simp;omega))⟩
def sA (c d:List Int) (k:Nat):List Int:=(List.range c.length).map λi=>if i<k then(if c.getD i 0=d.getD i 0 then c.getD i 0 else 0) else c.getD i 0
theorem hU (c d:List Int) (k:Nat):(sA c d k).length=c.length:=by simp[sA]
theorem oC (c d) (k:Nat) {i:Nat} (h:i<c.length):(sA c d k).getD i 0=if i<k then(if c.getD i 0=d.getD i 0 then c.getD i 0 else 0) else c.getD i 0:=by
 rw[Qi,sA,QN,RX h];rfl
theorem wU {a b:List Int} (D:a.length=b.length) (h:∀i,i<a.length->a.getD i 0=b.getD i 0):a=b:=by
 apply S3 D;intro i z E;have:=h i z;rw[Qi,Qi,Ql z,Ql E] at this;exact this
theorem Hu (c d:List Int):sA c d 0=c:=wU (hU _ _ _) (λi z=>by rw[hU] at z;rw[oC _ _ _ z,Qj (by omega)])
theorem yM (l:List Int) (k:Nat) (x) (i):(l.set k x).getD i 0=if i=k/\k<l.length then x else l.getD i 0:=by
 rw[Qi,List.getElem?_set,Qi];by_cases e:k=i
 ·subst e;by_cases h:k<l.length
  ·simp[h]
  simp[h,QC (Nat.le_of_not_lt h)]
 rw[Qj e,Qj (λh=>e h.1.symm)]
theorem Hv {c d:List Int} {k:Nat} (h:k<c.length) (e:c.getD k 0=d.getD k 0):sA c d (k+1)=sA c d k:=
 wU (by simp[hU]) (λi z=>by
  rw[hU] at z;rw[oC _ _ _ z,oC _ _ _ z];by_cases q:i=k
  ·subst q;rw[Qo (by omega),Qo e,Qj (by omega)]
  by_cases D:i<k
  ·rw[Qo (by omega),Qo D]
  rw[Qj (by omega),Qj D])
theorem KT {c d:List Int} {k:Nat} (h:k<c.length) (e:c.getD k 0≠d.getD k 0):sA c d (k+1)=(sA c d k).set k 0:=
 wU (by simp[hU]) (λi z=>by
  rw[hU] at z;rw[oC _ _ _ z,yM,hU,oC _ _ _ z];by_cases q:i=k
  ·subst q;rw[Qo (by omega),Qj e,Qo ⟨rfl,h⟩]
  rw[Qj (c:=i=k/\k<c.length) (λa=>q a.1)]
  by_cases D:i<k
  ·rw[Qo (by omega),Qo D]
  rw[Qj (by omega),Qj D])
theorem Hw (h:eQ w p vs vc st c) (h2:eQ w q us uc z c2) (hd:∀b,eF p vs vc b-> ¬eF q us uc b) (hl:st.length<=5000) (ah:z.length<=5000) (hc:c.length<=5000):
 Calls prog 237 #[Pq p,Pq q] w λe w'=>e= .returned (.bool (decide (st=z)))/\cW w w' p vs vc st (sA c c2 c.length):=by
 have ai:w.cell? ⟨p,1,none⟩=some vc:=by rw[Qm w p 1 _ _ _ h.blk];rfl
 have H:=Hi h;have H2:=Hi h2;have HD:=Hi hd;obtain⟨a,cap,rfl⟩:=h.cl.sl;clear h h2 hd;go_enter func237,ntmps237;go_wp2;go_loopw [13] (λi wr=> ∃k:Nat,k<=c.length/\i= Iq k/\Hid (cI (λb=>(Value.slice a c.length cap).ownBlock=some b) w wr)/\Hid (IR wr 220 (.slice a c.length cap) (sA c c2 k))) (λi _=>c.length - (intOf i).toNat)
 case atStart=>exact⟨0,QA _,rfl,cI.refl _ _,by rw[Hu];exact H.out.cl⟩
 case round=>
  obtain⟨k,hk,rfl,J,R⟩:=hrel;have I:=H2.out.only J.out (λb D h=>HD.out b (.inr (.inr h)) D)
  have aj:wr.cell? ⟨p,1,none⟩=some (.slice a c.length cap):=by
   rw[Qz (w:=w) (a:=⟨p,1,none⟩) (J.out.block p (be H.out.blk) (H.out.cl.ne H.out.blk sx))];exact ai
  by_cases Y:k<c.length
  ·have ao:(0:Int)<=(k:Int)/\(k:Int)<(c.length:Int):=by omega
   obtain⟨g,c1,e1,_⟩:=R.out.form (by rw[hU];omega)
   simp at e1;obtain⟨rfl,ae,rfl⟩:=e1;clear ae;have Z:=R.out.cell (k:=k) (by rw[hU];omega)
   have ap:=R.out.frz k;rw[oC _ _ _ Y,Qj (Nat.lt_irrefl k)] at Z;have U:=Fv k I;have HC:Hid (∀x y,c.getD k 0=x->c2.getD k 0=y->c.getD k 0=x/\c2.getD k 0=y):=λ_ _ h1 h2=>⟨h1,h2⟩
   generalize hx:c.getD k 0=x at Z;generalize hy:c2.getD k 0=y at U;have aa:=Hi (And.intro hx hy);clear hx hy HC I;by_cases ac:x=y
   ·subst ac;go_wp2_with (
     go_at_call 234;apply U.mono;rintro e w' ⟨rfl,rfl⟩)
    go_roundw
    case rel=>
     refine⟨k+1,by omega,by go_num,J.out,?_⟩
     rw[Hv Y (aa.out.1.trans aa.out.2.symm)];exact R.out
    case measure=>simp[intOf];omega
   have an:(x !=y)=true:=by simpa using ac
   have HN:Hid (c.getD k 0≠c2.getD k 0):=λe=>ac (by rw[<-aa.out.1,<-aa.out.2,e])
   go_wp2_with (
    go_at_call 234;apply U.mono;rintro e w' ⟨rfl,rfl⟩)
   go_roundw
   case rel=>
    refine⟨k+1,by omega,by go_num,J.out.setCell (.inl rfl) _,?_⟩
    rw[KT Y HN.out];have:=R.out;rw[<-hU c c2 k] at this⊢;exact this.set (by rw[hU];exact Y) 0
   case measure=>simp[intOf];omega
  have ak:k=c.length:=by omega
  subst ak;have ab:=H.out.st.only J.out (λg hg h=>H.out.ne g hg h)
  have af:wr.cell? ⟨p,0,none⟩=some vs:=by
   rw[Qz (w:=w) (a:=⟨p,0,none⟩) (J.out.block p (be H.out.blk) (H.out.cl.ne H.out.blk sx)),Qm w p 0 _ _ _ H.out.blk];rfl
  have ag:wr.cell? ⟨q,0,none⟩=some us:=by rw[Qm wr q 0 _ _ _ I.blk];rfl
  have U:∀W,Bl wr W->Calls prog 260 #[.agg #[vs],.agg #[us]] W λe w'=>e= .returned (.bool (decide (st=z)))/\Bl W w':=λW D=>Ht (cD ab D) (cD I.st D) hl ah
  obtain⟨V,E,rfl⟩:=ab.sl;obtain⟨ua,G,rfl⟩:=I.st.sl;have HA:Hid (∀w',Bl wr w'->cW w w' p (.slice V st.length E) (.slice a c.length cap) st (sA c c2 c.length)):=λw' D=>by
   have ad:=(J.out.block p (be H.out.blk) (H.out.cl.ne H.out.blk sx)).trans H.out.blk;refine⟨_,_,⟨(D.block p (be ad)).trans ad,cD ab D,cD R.out D,H.out.ne⟩,?_,λb D=> .inl D⟩
   exact J.out.trans (cI.of_below (F:=λ_=>False) D) (λi _ h=> .inr (.inr h)) (λi _ h=>h.elim)
  have KP:Hid (∀W W',(Bl wr W/\W.cell? ⟨p,0,none⟩=some (.slice V st.length E)/\W.cell? ⟨q,0,none⟩=some (.slice ua z.length G))->Bl W W'->(Bl wr W'/\W'.cell? ⟨p,0,none⟩=some (.slice V st.length E)/\W'.cell? ⟨q,0,none⟩=some (.slice ua z.length G))):=λW W' O D=>⟨O.1.trans (D.mono O.1.size),by rw[D.cell (Qk W _ O.2.1)];exact O.2.1,by rw[D.cell (Qk W _ O.2.2)];exact O.2.2⟩
  have KD:Hid (∀W:World,(Bl wr W/\Cq W p 0 (.slice V st.length E)/\Cq W q 0 (.slice ua z.length G))->(Bl wr W.drew/\Cq W.drew p 0 (.slice V st.length E)/\Cq W.drew q 0 (.slice ua z.length G))):=λW O=>⟨O.1.drew,O.2⟩
  have am:Bl wr wr/\Cq wr p 0 (.slice V st.length E)/\Cq wr q 0 (.slice ua z.length G):=⟨Qq _ _,af,ag⟩;clear ab I J R aj;generalize hr:decide (st=z)=r at U;have HR:=Hi hr;clear hr;go_wp2;go_region_held3 (λw'=>Bl wr w'/\Cq w' p 0 (.slice V st.length E)/\Cq w' q 0 (.slice ua z.length G)) (first|with_reducible exact KD.out _ (by assumption)|with_reducible exact KP.out _ _ (by assumption) (by assumption)|with_reducible assumption|go_keep)
   (first
    |(go_at_call 260;refine(U _ (by exact SL (by assumption))).mono ?_;rintro e w1 ⟨rfl,aq⟩))
  rename_i hHeld;have HB:=Hi hHeld.1;clear hHeld KP KD U am;go_wp2;go_ret;exact⟨by rw[HR.out];rfl,HA.out _ HB.out⟩
def LQ:Nat->Int->List Int->Option (List Int)
 |0,_,st=>some st
 |n+1,t,st=>if st.getLast?.getD 0=t then LQ n t st.dropLast else none
def wV (w:World) (p:Nat) (vs G:Value) (r:Option (List Int×List Int)) (e:Ending) (w':World):Prop:=match r with
 |some x=>e= .returned (.bool true)/\cW w w' p vs G x.1 x.2
 |none=>e= .returned (.bool false)/\cI (eF p vs G) w w'
theorem cW.only (h:cW w w' p vs z st c):cI (eF p vs z) w w':=by
 obtain⟨_,_,_,h,_⟩:=h;exact h
def LR (n:Nat) (t o:Int) (st c:List Int):Option (List Int×List Int):=(LQ n t st).map λr=>(if o=0 then r else r++[o],c)
theorem cW.alloc {w w' p vs z st c o} (h:cW (w.alloc o) w' p vs z st c):cW w w' p vs z st c:=
 cW.then ((cI.refl _ w).alloc o) (λ_ D=> .inl D) h
theorem Fw (n:Nat) (t o:Int) (h:eQ w p vs G st c) (hl:st.length<=4000) (hn:n<=10):
 Calls prog 235 #[.agg #[Iq n,Iq t,Iq o],Pq p] w λe w'=>wV w p vs G (LR n t o st c) e w':=by
 have aa:(w.alloc (.cells #[Iq n,Iq t,Iq o] 321)).heap[w.heap.size]?=_:=Qp w _;have ac:eQ (w.alloc (.cells #[Iq n,Iq t,Iq o] 321)) p vs G st c:=h.only ((cI.refl (λ_=>False) w).alloc _) (λ_ _ h=>h)
 have ad:∀b,eF p vs G b->b<w.heap.size:=λb hb=>h.lt hb
 have ak:(w.alloc (.cells #[Iq n,Iq t,Iq o] 321)).cell? ⟨w.heap.size,0,none⟩=some (Iq n):=by rw[Qm _ _ 0 _ _ _ aa];rfl
 have HS:=Hi ac;have HF:=Hi ad;have HB:=Hi aa;have HW:Hid (∀w' st c,cW (w.alloc (.cells #[Iq n,Iq t,Iq o] 321)) w' p vs G st c->cW w w' p vs G st c):=λ_ _ _ h=>h.alloc
 have ae:Hid (∀w',cI (eF p vs G) (w.alloc (.cells #[Iq n,Iq t,Iq o] 321)) w'->cI (eF p vs G) w w'):=λ_ h=>((cI.refl (eF p vs G) w).alloc _).trans h (λ_ _ h=>h) (λ_ _ h=>h)
 have HZ:Hid (w.heap.size<(w.alloc (.cells #[Iq n,Iq t,Iq o] 321)).heap.size):=by show _<_;rw[Qw];omega
 clear h ac ad aa;go_enter func235,ntmps235;go_wp2;generalize w.alloc (.cells #[Iq n,Iq t,Iq o] 321)=w1 at*;go_loopw [7] (λi wr=> ∃k,k<=n/\i= Iq k/\Hid (∃z,cW w1 wr p vs G z c/\LQ n t st=LQ (n - k) t z/\z.length<=4000)) (λi _=>n - (intOf i).toNat)
 case atStart=>exact⟨0,QA _,rfl,st,cW.refl HS.out,rfl,hl⟩
 case round=>
  obtain⟨k,hk,rfl,HI⟩:=hrel;obtain⟨z,⟨R,U,I,V,O⟩,J,aj⟩:=HI.out;have Y:wr.heap[w.heap.size]?=_:=(V.block w.heap.size HZ.out (λh=>by have:=HF.out _ h;omega)).trans HB.out
  have af:wr.cell? ⟨w.heap.size,1,none⟩=some (Iq t):=by rw[Qm _ _ 1 _ _ _ Y];rfl
  have ag:wr.cell? ⟨w.heap.size,2,none⟩=some (Iq o):=by rw[Qm _ _ 2 _ _ _ Y];rfl
  by_cases am:k<n
  ·have W1:=BS I.drew (by omega)
   have Z: ¬eF p R U w.heap.size:=λh=>by
    rcases O _ h with h|h
    ·have:=HF.out _ h;omega
    have:=HZ.out;omega
   have HK:Hid (∀E,cW wr.drew E p R U z.dropLast c->E.cell? ⟨w.heap.size,1,none⟩=some (Iq t)):=λE h=>by
    rw[Qz (h.only.block _ (be Y) Z)];exact af
   have HN:Hid (∀E,cW wr.drew E p R U z.dropLast c->cW w1 E p vs G z.dropLast c):=λE h=>cW.then V.drew O h
   have HL:Hid (n - k=n - (k+1)+1/\z.dropLast.length<=4000):=⟨by omega,by simp;omega⟩
   have HO:=Hi J;clear I V O J Y Z HI;by_cases hx:z.getLast?.getD 0=t
   ·rw[hx] at W1;have HX:=Hi hx;clear hx;go_wp2_with fail;go_region_held3 (λw'=>w'.cell? ⟨w.heap.size,1,none⟩=some (Iq t)) (first|with_reducible exact HK.out _ (by assumption)|with_reducible assumption|go_keep)
     (first|(go_at_call 232;refine W1.mono ?_;rintro e w2 ⟨rfl,D⟩))
    rename_i hHeld;clear hHeld;have HU:=Hi D;clear D;go_wp2;go_roundw
    case rel=>
     refine⟨k+1,by omega,by go_num,z.dropLast,HN.out _ HU.out,?_,HL.out.2⟩
     rw[HO.out,HL.out.1,LQ,Qo HX.out]
    case measure=>simp[intOf];omega
   have ah:((z.getLast?.getD 0) !=t)=true:=by simpa using hx
   have HX:=Hi hx;generalize z.getLast?.getD 0=x at W1 ah;clear hx;go_wp2_with fail;go_region_held3 (λw'=>w'.cell? ⟨w.heap.size,1,none⟩=some (Iq t)) (first|with_reducible exact HK.out _ (by assumption)|with_reducible assumption|go_keep)
    (first|(go_at_call 232;refine W1.mono ?_;rintro e w2 ⟨rfl,D⟩))
   rename_i hHeld;clear hHeld;have HU:=Hi D;clear D;go_wp2;go_ret;have e1:LR n t o st c=none:=by unfold LR;rw[HO.out,HL.out.1,LQ,Qj HX.out];rfl
   rw[e1];exact⟨rfl,ae.out _ (HN.out _ HU.out).only⟩
  have ab:n - k=0:=by omega
  rw[ab] at J;have e1:LR n t o st c=some (if o=0 then z else z++[o],c):=by unfold LR;rw[J];rfl
  have HE:=Hi e1;have ai:Hid (cW w1 wr p vs G z c):=⟨R,U,I,V,O⟩;by_cases ho:o=0
  ·subst ho;clear I V O J e1 HI ab;go_wp2;go_ret;rw[HE.out];exact⟨rfl,HW.out _ _ _ ai.out⟩
  have an:(o !=0)=true:=by simpa using ho
  have W1:=yL o I.drew (by omega)
  have Z: ¬eF p R U w.heap.size:=λh=>by
   rcases O _ h with h|h
   ·have:=HF.out _ h;omega
   have:=HZ.out;omega
  have HK:Hid (∀E,cW wr.drew E p R U (z++[o]) c->E.cell? ⟨w.heap.size,2,none⟩=some (Iq o)):=λE h=>by
   rw[Qz (h.only.block _ (be Y) Z)];exact ag
  have HN:Hid (∀E,cW wr.drew E p R U (z++[o]) c->cW w1 E p vs G (z++[o]) c):=λE h=>cW.then V.drew O h
  have HO:=Hi ho;clear I V O J e1 HI ab ho Z Y;go_wp2_with fail;go_region_held3 (λw'=>w'.cell? ⟨w.heap.size,2,none⟩=some (Iq o)) (first|with_reducible exact HK.out _ (by assumption)|with_reducible assumption|go_keep)
   (first|(go_at_call 231;refine W1.mono ?_;rintro e w2 ⟨rfl,D⟩))
  rename_i hHeld;clear hHeld;have HU:=Hi D;clear D;go_wp2;go_ret;rw[HE.out,Qj HO.out];exact⟨rfl,HW.out _ _ _ (HN.out _ HU.out)⟩
def pE (n:Nat):Int:=if n<=3 then 1 else if n<=6 then 3 else 2
theorem BV (n:Nat) (w:World):Calls prog 216 #[Iq n] w λe w'=>e= .returned (Iq (pE n))/\w'=w:=by
 go_enter func216,ntmps216;go_wp2
 all_goals go_ret
 all_goals refine⟨da ?_,rfl⟩
 all_goals (unfold pE;repeat' split)<;>first|rfl|omega
def fG (E:Nat) (n tw pl:Int):Value:= .agg #[Iq E,Iq n,Iq tw,Iq pl]
def oD (z:Nat) (n tw pl:Int):Obj:= .cells #[Iq z,Iq n,Iq tw,Iq pl] 247 (0,0)
structure gW (w w1:World) (p) (vs vc) (st c) (op) (n tw pl):Prop where
 set:eQ w1 p vs vc st c
 far:∀b,eF p vs vc b->b<w.heap.size
 blk:w1.heap[w.heap.size]?=some (oD op n tw pl)
 siz:w.heap.size<w1.heap.size
 out:∀w' st c,cW w1 w' p vs vc st c->cW w w' p vs vc st c
 only:∀w',cI (eF p vs vc) w1 w'->cI (eF p vs vc) w w'
theorem gW.of (h:eQ w p vs z st c) (D) (n tw pl):gW w (w.alloc (oD D n tw pl)) p vs z st c D n tw pl:=
 ⟨h.only ((cI.refl (λ_=>False) w).alloc _) (λ_ _ h=>h),λb E=>h.lt E,Qp w _,by rw[Qw];omega,λ_ _ _ h=>h.alloc,λ_ h=>((cI.refl (eF p vs z) w).alloc _).trans h (λ_ _ h=>h) (λ_ _ h=>h)⟩
theorem gW.cells {w z p vs G st c E n tw pl} (h:gW w z p vs G st c E n tw pl):Cq z w.heap.size 0 (Iq E)/\Cq z w.heap.size 1 (Iq n)/\Cq z w.heap.size 2 (Iq tw):=by
 have D:=λj=>Qm z _ j _ _ _ h.blk
 exact⟨D 0,D 1,D 2⟩
theorem gW.after (h:gW w J p vs O st c U n tw pl) (Z:cW J z p vs O R c2):Cq z w.heap.size 0 (Iq U)/\Cq z w.heap.size 1 (Iq n)/\Cq z w.heap.size 2 (Iq tw):=by
 have hb:=(Z.only.block _ h.siz (λhf=>by have:=h.far _ hf;omega)).trans h.blk
 have G:=λj=>Qm z _ j _ _ _ hb
 exact⟨G 0,G 1,G 2⟩
theorem cW.drew {w w' p vs z st c} (h:cW w w' p vs z st c):cW w w'.drew p vs z st c:=by
 obtain⟨D,E,G,I,h3⟩:=h;exact⟨D,E,G.drew,I.drew,h3⟩
theorem cW.of_drew {w w' p vs z st c} (h:cW w.drew w' p vs z st c):cW w w' p vs z st c:=by
 obtain⟨D,E,G,I,h3⟩:=h;exact⟨D,E,G,I.of_drew,h3⟩
theorem cW.push {w G p vs I st c} (h:cW w G p vs I st c) (x) (R:st.length<=5000):
 Calls prog 231 #[Pq p,Iq x] G λe w'=>e= .returned (.tuple #[])/\cW w w' p vs I (st++[x]) c:=by
 obtain⟨aa,ab,U,V,h3⟩:=h;apply(yL x U R).mono;rintro e w' ⟨rfl,Y⟩;exact⟨rfl,cW.then V h3 Y⟩
theorem cW.pop (h:cW w z p vs D st c) (E:st.length<=5000):
 Calls prog 232 #[Pq p] z λe w'=>e= .returned (Iq (st.getLast?.getD 0))/\cW w w' p vs D st.dropLast c:=by
 obtain⟨O,R,G,I,h3⟩:=h;apply(BS G E).mono;rintro e w' ⟨rfl,J⟩;exact⟨rfl,cW.then I h3 J⟩
theorem cW.learn (h:cW w z p vs D st c) (k:Nat) (x) (E:k<=255) (G:c.length<=256):
 Calls prog 233 #[Pq p,Iq k,Iq x] z λe w'=>e= .returned (.tuple #[])/\cW w w' p vs D st (kH c k x):=by
 obtain⟨R,U,I,J,h3⟩:=h;apply(Ed k x I E G).mono;rintro e w' ⟨rfl,O⟩;exact⟨rfl,cW.then J h3 O⟩
theorem My (n:Nat) (tw pl:Int) (h:eQ w p vs E st c) (hl:st.length<=4000) (hn:n<=255):
 Calls prog 188 #[fG 4 n tw pl,Pq p] w λe w'=>wV w p vs E (some (st++[pE n],c)) e w':=by
 obtain⟨G,I,z⟩:∃G,w.alloc (.cells #[Iq 4,Iq n,Iq tw,Iq pl] 247)=G/\gW w G p vs E st c 4 n tw pl:=⟨_,rfl,gW.of h 4 n tw pl⟩;unfold fG;have H:=Hi z;obtain⟨_,c1,_⟩:=z.cells;have R:=λw=>BV n w
 have U:=(cW.refl z.set).drew.push (pE n) (by omega)
 generalize pE n=f at*;have V:=Hi I;have Y:Hid (∀J O c2,cW G J p vs E O c2->Cq J w.heap.size 1 (Iq n)):=λJ _ _ h=>(z.after h).2.1
 clear h z I;go_enter func188,ntmps188;go_wp2_with fail;rw[V.out];go_region_held3 (λw'=>w'.cell? ⟨w.heap.size,1,none⟩=some (Iq n)) (first|with_reducible exact Y.out _ _ _ (by assumption)|with_reducible assumption|go_keep)
  (first
   |(go_at_call 216;refine(R _).mono ?_;rintro e Z ⟨rfl,rfl⟩)
   |(go_at_call 231;refine U.mono ?_;rintro e Z ⟨rfl,D⟩))
 rename_i hHeld;clear hHeld;have HU:=Hi D;clear D;go_wp2;go_ret;exact⟨rfl,H.out.out _ _ _ HU.out⟩
theorem Mz (n:Nat) (tw pl:Int) (h:eQ w p vs D st c) (hl:st.length<=4000) (hc:c.length<=256) (hn:n<=255):
 Calls prog 188 #[fG 5 n tw pl,Pq p] w λe w'=>wV w p vs D (if st.getLast?.getD 0=0 then none else some (st.dropLast,kH c n (st.getLast?.getD 0))) e w':=by
 obtain⟨E,J,G⟩:∃E,w.alloc (.cells #[Iq 5,Iq n,Iq tw,Iq pl] 247)=E/\gW w E p vs D st c 5 n tw pl:=⟨_,rfl,gW.of h 5 n tw pl⟩;unfold fG;have H:=Hi G;obtain⟨_,c1,_⟩:=G.cells;have R:=(cW.refl G.set).pop (by omega)
 have U:∀W x,cW E W p vs D st.dropLast c->_:=λW x h=>h.learn n x hn hc
 generalize st.getLast?.getD 0=t at*;have HW:=Hi J;have HK:Hid (∀O V c2,cW E O p vs D V c2->Cq O w.heap.size 1 (Iq n)):=λO _ _ h=>(G.after h).2.1
 clear h G J;go_enter func188,ntmps188;go_wp2_with (
  rw[HW.out];go_at_call 232;apply R.mono;rintro e w2 ⟨rfl,z⟩;have c2:=HK.out _ _ _ z;have Y:=Hi z;clear z)
 apply(U w2 t Y.out).mono;rintro e w3 ⟨rfl,z⟩;have Z:=Hi z;clear z R U Y;by_cases I:t=0
 ·subst I;go_wp2;go_ret;exact⟨rfl,H.out.only _ (cW.only Z.out)⟩
 have aa:(t !=0)=true:=by simpa using I
 have HT:=Hi I;clear I;go_wp2;go_ret;exact⟨rfl,H.out.out _ _ _ Z.out⟩
theorem cW.of (h:cW w z p vs D st c) (k:Nat):
 Calls prog 234 #[Pq p,Iq k] z λe w'=>e= .returned (Iq (c.getD k 0))/\w'=z:=by
 obtain⟨G,I,E,J,h3⟩:=h;exact Fv k E
theorem MA (n:Nat) (tw pl:Int) (h:eQ w p vs I st c) (Z:st.length<=4000) (hc:c.length<=256) (hn:n<=255):
 Calls prog 188 #[fG 6 n tw pl,Pq p] w λe w'=>wV w p vs I (if c.getD n 0=0 then none else some (st++[c.getD n 0],c)) e w':=by
 obtain⟨J,G,z⟩:∃J,w.alloc (.cells #[Iq 6,Iq n,Iq tw,Iq pl] 247)=J/\gW w J p vs I st c 6 n tw pl:=⟨_,rfl,gW.of h 6 n tw pl⟩;unfold fG;have H:=Hi z;obtain⟨_,c1,_⟩:=z.cells;have O:=(cW.refl z.set).of n;generalize c.getD n 0=t at*;have R:=(cW.refl z.set).push t (by omega)
 have V:=Hi G;clear h z G;go_enter func188,ntmps188;go_wp2_with (
  rw[V.out];go_at_call 234;apply O.mono;rintro e w2 ⟨rfl,rfl⟩)
 apply R.mono;rintro e w3 ⟨rfl,D⟩;have U:=Hi D;clear D O R;by_cases E:t=0
 ·subst E;go_wp2;go_ret;exact⟨rfl,H.out.only _ (cW.only U.out)⟩
 have Y:(t !=0)=true:=by simpa using E
 have HT:=Hi E;clear E;go_wp2;go_ret;exact⟨rfl,H.out.out _ _ _ U.out⟩
theorem MB (n tw pl:Int) (h:eQ w p vs I st c) (hl:st.length<=4000):
 Calls prog 188 #[fG 9 n tw pl,Pq p] w λe w'=>wV w p vs I (if st.dropLast.getLast?.getD 0=st.getLast?.getD 0/\st.dropLast.getLast?.getD 0≠0 then some (st.dropLast.dropLast++[2],c) else none) e w':=by
 obtain⟨J,Y,D⟩:∃J,w.alloc (.cells #[Iq 9,Iq n,Iq tw,Iq pl] 247)=J/\gW w J p vs I st c 9 n tw pl:=⟨_,rfl,gW.of h 9 n tw pl⟩;unfold fG;have H:=Hi D;have W1:=(cW.refl D.set).drew.pop (by omega)
 have W2:∀W,cW J W p vs I st.dropLast c->_:=λW h=>h.pop (by simp;omega)
 have Z:∀W,cW J W p vs I st.dropLast.dropLast c->_:=λW h=>h.push 2 (by simp;omega)
 generalize hr:st.getLast?.getD 0=r at*;generalize G:st.dropLast.getLast?.getD 0=q at*;clear hr G;generalize hR:(if q=r/\q≠0 then some (st.dropLast.dropLast++[2],c) else none)=R;have HR:=Hi hR;clear hR;have HW:=Hi Y;clear h D Y;go_enter func188,ntmps188;go_wp2;rw[HW.out];go_region_held3 (λw'=>True) (exact trivial)
  (first
   |(go_at_call 232;refine(W2 _ (by assumption)).mono ?_;rintro e w3 ⟨rfl,E⟩)
   |(go_at_call 232;refine W1.mono ?_;rintro e w2 ⟨rfl,U⟩))
 have HU:=Hi E;clear U E;by_cases G:q=r
 ·subst G;by_cases V:q=0
  ·subst V;go_wp2_with (
    go_at_call 231;apply(Z _ HU.out).mono;rintro e w4 ⟨rfl,z⟩;have O:=Hi z;clear z)
   go_ret;rw[<-HR.out,Qj (by simp)]
   exact⟨rfl,H.out.only _ (cW.only O.out)⟩
  have aa:(q !=0)=true:=by simpa using V
  have D:=Hi V;clear V;go_wp2_with (
   go_at_call 231;apply(Z _ HU.out).mono;rintro e w4 ⟨rfl,z⟩;have O:=Hi z;clear z)
  go_ret;rw[<-HR.out,Qo ⟨by trivial,D.out⟩]
  exact⟨rfl,H.out.out _ _ _ O.out⟩
 have ab:(q==r)=false:=by simpa using G
 have D:=Hi G;clear G;go_wp2_with (
  go_at_call 231;apply(Z _ HU.out).mono;rintro e w4 ⟨rfl,z⟩;have O:=Hi z;clear z)
 go_ret;rw[<-HR.out,Qj (λh=>D.out h.1)]
 exact⟨rfl,H.out.only _ (cW.only O.out)⟩
def mE:List Int:=[0,0,0,0,0,1,0,0,2,0,0,3,0,0,0,0,0,0,0,0,0,2,1,1,2,1,1,0,0,0,2,1,2,2,1,2,1,2,2,2,2,2,2,2,2,1,2,0,0,0,0,0,0,0,0,0,0]
def Ef (w:World):Prop:= ∀j,j<57->w.cell? ⟨1,j,none⟩=some (Iq (mE.getD j 0))
theorem Ef.pos {w:World} (h:Ef w):1<w.heap.size:=Qk w _ (h 0 (by decide))
theorem Ef.below (h:Ef w) {B:Nat} (z:1<B) (D:Below B w w'):Ef w':=λk E=>by rw[D.cell (p:=⟨1,k,none⟩) z];exact h k E
theorem Hx:∀z,z<19->(mE.getD (z*3) 0)=(((mE.getD (z*3) 0).toNat:Nat):Int)/\(mE.getD (z*3) 0).toNat<=2:=by decide
theorem MC (z:Nat) (n tw pl) (U:Ef w) (h:eQ w p vs O st c) (Z:st.length<=4000) (ho:z<19) (h4:z≠4) (h5:z≠5) (h6:z≠6) (h9:z≠9):
 Calls prog 188 #[fG z n tw pl,Pq p] w λe w'=>wV w p vs O (LR (mE.getD (z*3) 0).toNat (mE.getD (z*3+1) 0) (mE.getD (z*3+2) 0) st c) e w':=by
 obtain⟨J,E,I⟩:∃J,w.alloc (.cells #[Iq z,Iq n,Iq tw,Iq pl] 247)=J/\gW w J p vs O st c z n tw pl:=⟨_,rfl,gW.of h z n tw pl⟩;unfold fG;have H:=Hi I;obtain⟨c0,_,_⟩:=I.cells;have G:Ef J:=by rw[<-E];exact U.below U.pos ((Qq _ w).alloc (Qn _) _)
 have V:=G (z*3) (by omega)
 have e1:=G (z*3+1) (by omega)
 have e2:=G (z*3+2) (by omega)
 obtain⟨q1,q2⟩:=Hx z ho;rw[q1] at V;have W1:=Fw (mE.getD (z*3) 0).toNat (mE.getD (z*3+1) 0) (mE.getD (z*3+2) 0) I.set Z (by omega)
 have W2:=Fw (mE.getD (z*3) 0).toNat (mE.getD (z*3+1) 0) (mE.getD (z*3+2) 0) I.set.drew Z (by omega)
 generalize (mE.getD (z*3) 0).toNat=k at*;generalize mE.getD (z*3+1) 0=t at*;generalize mE.getD (z*3+2) 0=o at*;have HW:=Hi E;have b4:((z:Int)==4)=false:=by simp;omega
 have b5:((z:Int)==5)=false:=by simp;omega
 have b6:((z:Int)==6)=false:=by simp;omega
 have b9:((z:Int)==9)=false:=by simp;omega
 have hb:(0:Int)<=(z:Int)/\(z:Int)<19:=by omega
 clear h I U G q1 q2 h4 h5 h6 h9;rw[<-E] at V e1 e2 c0;clear E;generalize LR k t o st c=R at*;go_enter func188,ntmps188;go_wp2_with fail;rw[HW.out];apply W1.mono;clear W1 W2 V e1 e2 c0
 cases R with
 |none=>
  rintro e w2 ⟨rfl,D⟩;have Y:=Hi D;clear D
  go_wp2
  go_ret;exact⟨rfl,H.out.only _ Y.out⟩
 |some x=>
  rintro e w2 ⟨rfl,D⟩;have Y:=Hi D;clear D
  go_wp2
  go_ret;exact⟨rfl,H.out.out _ _ _ Y.out⟩
def ql (z n:Nat) (st c:List Int):Option (List Int×List Int):=
 if z=4 then some (st++[pE n],c)
 else if z=5 then(if st.getLast?.getD 0=0 then none else some (st.dropLast,kH c n (st.getLast?.getD 0)))
 else if z=6 then(if c.getD n 0=0 then none else some (st++[c.getD n 0],c))
 else if z=9 then(if st.dropLast.getLast?.getD 0=st.getLast?.getD 0/\st.dropLast.getLast?.getD 0≠0 then some (st.dropLast.dropLast++[2],c) else none)
 else LR (mE.getD (z*3) 0).toNat (mE.getD (z*3+1) 0) (mE.getD (z*3+2) 0) st c
theorem Eh (z:Nat) (n tw pl) (Z:Ef w) (h:eQ w p vs R st c) (D:st.length<=4000) (U:c.length<=256) (ho:z<19) (E:z=4\/z=5\/z=6->0<=n/\n<=255):
 Calls prog 188 #[fG z n tw pl,Pq p] w λe w'=>wV w p vs R (ql z n.toNat st c) e w':=by
 unfold ql
 by_cases G:z=4
 ·subst G
  obtain⟨V,Y⟩:=E (by omega)
  obtain⟨m,rfl⟩:∃m:Nat,n=m:=⟨n.toNat,by omega⟩
  rw[Qo rfl,Rr];exact My m tw pl h D (by omega)
 rw[Qj G]
 by_cases I:z=5
 ·subst I
  obtain⟨V,Y⟩:=E (by omega)
  obtain⟨m,rfl⟩:∃m:Nat,n=m:=⟨n.toNat,by omega⟩
  rw[Qo rfl,Rr];exact Mz m tw pl h D U (by omega)
 rw[Qj I]
 by_cases J:z=6
 ·subst J
  obtain⟨V,Y⟩:=E (by omega)
  obtain⟨m,rfl⟩:∃m:Nat,n=m:=⟨n.toNat,by omega⟩
  rw[Qo rfl,Rr];exact MA m tw pl h D U (by omega)
 rw[Qj J]
 by_cases O:z=9
 ·subst O
  rw[Qo rfl];exact MB n tw pl h D
 rw[Qj O];exact MC z n tw pl Z h D ho G I J O
end
variable {k z n b}
def xT (l:List Nat):List Int:=l.reverse.map λ(t:Nat)=>(t:Int)
structure uH (k:Kn) (st c:List Int):Prop where
 st:st=xT k.st
 len:c.length<=k.cl.length
 cl:∀i,c.getD i 0=(k.cl.getD i 0:Nat)
theorem MD:(xT []).getLast?.getD 0=0:=rfl
theorem sB (t:Nat) (r):(xT (t::r)).getLast?.getD 0=(t:Int):=by simp[xT]
theorem qm (t:Nat) (r:List Nat):(xT (t::r)).dropLast=xT r:=by simp[xT]
theorem tP (t:Nat) (r):xT r++[(t:Int)]=xT (t::r):=by simp[xT]
theorem BW (t:Nat) (O:t≠0):∀n (l:List Nat),LQ n t (xT l)=if l.take n=List.replicate n t then some (xT (l.drop n)) else none
 |0,l=>by simp[LQ]
 |n+1,[]=>by
  rw[LQ,Qj (by rw[MD];omega),Qj]
  intro h;have:=RK List.length h;simp at this
 |n+1,x::r=>by
  rw[LQ,sB,qm,BW t O n r];by_cases D:x=t
  ·subst D;rw[Qo rfl];by_cases h:r.take n=List.replicate n x
   ·rw[Qo h,Qo (by simp[Ti,h])];rfl
   rw[Qj h,Qj];intro z;simp[Ti] at z;exact h z
  rw[Qj (by omega),Qj]
  intro z;simp[Ti] at z;exact D z.1
def Oc (r:Option Kn) (q:Option (List Int×List Int)):Prop:=match r with
 |some k=> ∃st c,q=some (st,c)/\uH k st c
 |none=>q=none
theorem Hy (c:List Int) (k) (x:Int):(kH c k x).length=max c.length (k+1):=by
 unfold kH;simp;omega
theorem wW (c:List Int) (m i:Nat):(c++List.replicate m 0).getD i 0=c.getD i 0:=by
 rw[Qi,Qi];by_cases h:i<c.length
 ·rw[QT h]
 rw[QQ (by omega),QC (l:=c) (by omega),Q8]
 split<;>rfl
theorem KU (c) (k:Nat) (x) (i):(kH c k x).getD i 0=if i=k then x else c.getD i 0:=by
 unfold kH;rw[yM,wW];by_cases h:i=k
 ·subst h;rw[Qo ⟨rfl,by simp;omega⟩,Qo rfl]
 rw[Qj (λa=>h a.1),Qj h]
theorem jT {st c:List Int} (h:uH k st c) (n t) (o) (z:t≠0) (D:∀x,o=some x->x≠0) (more) (E:more=o.toList):
 Oc (kD (List.replicate n t) more k) (LR n t (o.getD 0) st c):=by
 subst E;unfold kD LR;rw[h.st,BW t z n,Rl];by_cases e:k.st.take n=List.replicate n t
 ·rw[Qo e,Qo e];cases o with
  |none=>exact⟨_,_,rfl,rfl,h.len,h.cl⟩
  |some x=>
   have G:=D x rfl;refine⟨_,_,rfl,?_,h.len,h.cl⟩;simp only[RZ];rw[Qj (by omega),tP];rfl
 rw[Qj e,Qj e];rfl
theorem KV (n:Nat):pE n=(fL n:Nat):=by unfold pE fL;(repeat' split)<;>rfl
theorem BX {st c:List Int} (h:uH k st c) (I:jV k.st) (z n) (U:1<=z/\z<=18) (O:z=5->n<k.cl.length):Oc (eo z n k) (ql z n st c):=by
 have e:z=1\/z=2\/z=3\/z=4\/z=5\/z=6\/z=7\/z=8\/z=9\/z=10\/z=11\/z=12\/z=13\/z=14\/z=15\/z=16\/z=17\/z=18:=by omega
 have push:∀t:Nat,uH ⟨t::k.st,k.cl⟩ (st++[(t:Int)]) c:=λt=>⟨by rw[h.st,tP],h.len,h.cl⟩
 rcases e with rfl|rfl|rfl|rfl|rfl|rfl|rfl|rfl|rfl|rfl|rfl|rfl|rfl|rfl|rfl|rfl|rfl|rfl
 ·exact⟨_,_,rfl,push 1⟩
 ·exact⟨_,_,rfl,push 2⟩
 ·exact⟨_,_,rfl,push 3⟩
 ·exact⟨_,_,rfl,by rw[KV];exact push _⟩
 ·have e:eo 5 n k=(match k.st with
   |[]=>none
   |t::r=>some ⟨r,k.cl.set n t⟩):=rfl
  have D:ql 5 n st c=if st.getLast?.getD 0=0 then none else some (st.dropLast,kH c n (st.getLast?.getD 0)):=rfl;rw[e,D,h.st];cases G:k.st with
  |nil=>exact Qo rfl
  |cons t r=>
   have V:=(I t (by rw[G];simp)).1
   rw[sB,qm,Qj (by omega)]
   refine⟨_,_,rfl,rfl,?_,λi=>?_⟩
   ·rw[Hy];have:=h.len;have:=O rfl;simp;omega
   rw[KU];by_cases J:i=n
   ·subst J;rw[Qo rfl,cQ (O rfl)]
   rw[Qj J,getD_set_ne (λe=>J e.symm)];exact h.cl i
 ·have e:eo 6 n k=if k.cl.getD n 0=0 then none else some ⟨k.cl.getD n 0::k.st,k.cl⟩:=rfl;have D:ql 6 n st c=if c.getD n 0=0 then none else some (st++[c.getD n 0],c):=rfl;rw[e,D,h.cl n];by_cases R:k.cl.getD n 0=0
  ·rw[Qo R,Qo (by omega)];rfl
  rw[Qj R,Qj (by omega)]
  exact⟨_,_,rfl,push _⟩
 ·exact jT h 2 1 (some 1) (by decide) (by simp) [1] rfl
 ·exact jT h 2 1 (some 1) (by decide) (by simp) [1] rfl
 ·have D:ql 9 n st c=if st.dropLast.getLast?.getD 0=st.getLast?.getD 0/\st.dropLast.getLast?.getD 0≠0 then some (st.dropLast.dropLast++[2],c) else none:=rfl;have e:eo 9 n k=(match k.st with
   |x::y::r=>if x=y then some ⟨2::r,k.cl⟩ else none
   |_=>none):=rfl
  rw[e,D,h.st];match G:k.st with
  |[]=>exact Qj (by simp[xT])
  |[x]=>exact Qj (by simp[xT])
  |x::y::r=>
   have Y:=(I x (by rw[G];simp)).1
   rw[qm,sB,sB,qm];show Oc (if x=y then some ⟨2::r,k.cl⟩ else none) _;by_cases E:x=y
   ·rw[Qo E,Qo ⟨by omega,by omega⟩]
    exact⟨_,_,rfl,by rw[show(2:Int)=((2:Nat):Int) from rfl,tP],h.len,h.cl⟩
   rw[Qj E,Qj (λa=>E (by omega))];rfl
 ·exact jT h 2 1 (some 2) (by decide) (by simp) [2] rfl
 ·exact jT h 2 1 (some 2) (by decide) (by simp) [2] rfl
 ·exact jT h 1 2 (some 2) (by decide) (by simp) [2] rfl
 ·exact jT h 2 2 (some 2) (by decide) (by simp) [2] rfl
 ·exact jT h 2 2 (some 2) (by decide) (by simp) [2] rfl
 ·exact jT h 1 2 none (by decide) (by simp) [] rfl
 ·exact⟨_,_,rfl,h⟩
 ·exact⟨_,_,rfl,h⟩
 exact⟨_,_,rfl,h⟩
theorem BY {k D:Kn} (ho:1<=z/\z<=18) (O:jV k.st) (R:sN k.cl) (h:eo z n k=some D):jV D.st/\sN D.cl/\D.cl.length=k.cl.length:=by
 have I:∀{U more},jV more->kD U more k=some D->jV D.st/\sN D.cl/\D.cl.length=k.cl.length:=λ{U more} hm Y=>by
  obtain⟨_,rfl⟩:=kg Y;exact⟨λt E=>by
   rcases Rn.1 E with E|E
   ·exact hm t E
   exact O t (SG E),R,rfl⟩
 have ps:∀t,1<=t->t<4->some ⟨t::k.st,k.cl⟩=some D->jV D.st/\sN D.cl/\D.cl.length=k.cl.length:=λt Z hb Y=>by
  obtain rfl:=Rf Y;exact⟨λx G=>by
   rcases Ra.1 G with rfl|G
   ·exact⟨Z,hb⟩
   exact O x G,R,rfl⟩
 have one:∀x,1<=x->x<4->jV [x]:=λx Z hb t E=>by simp at E;subst E;exact⟨Z,hb⟩
 have e:z=1\/z=2\/z=3\/z=4\/z=5\/z=6\/z=7\/z=8\/z=9\/z=10\/z=11\/z=12\/z=13\/z=14\/z=15\/z=16\/z=17\/z=18:=by omega
 have J:some k=some D->jV D.st/\sN D.cl/\D.cl.length=k.cl.length:=λh=>by obtain rfl:=Rf h;exact⟨O,R,rfl⟩
 rcases e with rfl|rfl|rfl|rfl|rfl|rfl|rfl|rfl|rfl|rfl|rfl|rfl|rfl|rfl|rfl|rfl|rfl|rfl
 ·exact ps 1 (by omega) (by omega) h
 ·exact ps 2 (by omega) (by omega) h
 ·exact ps 3 (by omega) (by omega) h
 ·exact ps (fL n) (by unfold fL;(repeat' split)<;>omega) (by unfold fL;(repeat' split)<;>omega) h
 ·have e:eo 5 n k=(match k.st with
   |[]=>none
   |t::r=>some ⟨r,k.cl.set n t⟩):=rfl
  rw[e] at h;split at h
  ·cases h
  rename_i t r V;obtain rfl:=Rf h;refine⟨λx G=>O x (by rw[V];simp[G]),λx G=>?_,by simp⟩
  rcases List.mem_or_eq_of_mem_set G with G|rfl
  ·exact R x G
  exact(O x (by rw[V];simp)).2
 ·have e:eo 6 n k=if k.cl.getD n 0=0 then none else some ⟨k.cl.getD n 0::k.st,k.cl⟩:=rfl;rw[e] at h;by_cases h0:k.cl.getD n 0=0
  ·rw[Qo h0] at h;cases h
  rw[Qj h0] at h;refine ps (k.cl.getD n 0) (by omega) ?_ h
  rw[Qi];cases e:k.cl[n]? with
  |none=>decide
  |some v=>exact R v (Ta e)
 ·exact I (one 1 (by omega) (by omega)) h
 ·exact I (one 1 (by omega) (by omega)) h
 ·have e:eo 9 n k=(match k.st with
   |x::y::r=>if x=y then some ⟨2::r,k.cl⟩ else none
   |_=>none):=rfl
  rw[e] at h;split at h
  ·rename_i x y r V;split at h
   ·obtain rfl:=Rf h;exact⟨λt E=>by
     rcases Ra.1 E with rfl|E
     ·omega
     exact O t (by rw[V];simp[E]),R,rfl⟩
   cases h
  cases h
 ·exact I (one 2 (by omega) (by omega)) h
 ·exact I (one 2 (by omega) (by omega)) h
 ·exact I (one 2 (by omega) (by omega)) h
 ·exact I (one 2 (by omega) (by omega)) h
 ·exact I (one 2 (by omega) (by omega)) h
 ·exact I (λt E=>by simp at E) h
 ·exact J h
 ·exact J h
 exact J h
theorem Od {st c D c2:List Int} (h:uH a st c) (O:uH b D c2) (V:a.cl.length=b.cl.length):uH ⟨a.st,im a.cl b.cl⟩ st (sA c c2 c.length):=by
 refine⟨h.st,by rw[hU];have:=h.len;simp[im];omega,λi=>?_⟩
 show _=(((im a.cl b.cl).getD i 0:Nat):Int);rw[uT];by_cases E:i<c.length
 ·have R:=h.len;rw[oC _ _ _ E,Qo E,h.cl i,O.cl i,Qo (c:=i<a.cl.length/\i<b.cl.length) ⟨by omega,by omega⟩]
  by_cases e:a.cl.getD i 0=b.cl.getD i 0
  ·rw[Qo e,Qo (by omega)]
  rw[Qj e,Qj (by omega)];rfl
 have G:=h.cl i;rw[Qi,QC (by omega)] at G
 have U:a.cl.getD i 0=0:=by simp only[Option.getD_none] at G;omega
 rw[Qi,QC (by rw[hU];omega),U]
 simp
section
attribute [local go_sem ↓] Go.wp_at_zero Go.wp_at_succ
variable {O k' g j w' B J i p vs st c V Y R}
def yN (z:Nat) (D:Int) (i:Nat):List Int:=if z=17\/z=18 then[] else if z=16 then[D] else if z=15 then[(i:Int)+1,D] else[(i:Int)+1]
theorem newRow (w:World) (e) (l:List Int) (z:l.length<=100):IR (w.alloc (.cells (l.map (Value.int .i64)).toArray e)) e (Sq w.heap.size l.length l.length) l:=by
 have h:=Tw (base:=0) (e:=e) (size:=1) w (l.map (Value.int .i64)).toArray l.length (QA _) (by unfold maxLen;omega) (by simp)
 simpa [IR] using h
theorem Ei (D) (n z pl:Int) (i:Nat) (hi:i<=5000) (w):
 Calls prog 190 #[fG D n z pl,Iq i] w λe w'=>(∃v,e= .returned v/\IR w' 3 v (yN D z i)/\ ∀b,v.ownBlock=some b->w.heap.size<=b)/\Below w.heap.size w w':=by
 have V:Hid (∀l:List Int,l.length<=100-> ∀w:World,IR (w.alloc (.cells (l.map (Value.int .i64)).toArray 3)) 3 (Sq w.heap.size l.length l.length) l):=λl hl w=>newRow w _ l hl
 have Y:Hid (∀o Z,Below w.heap.size w ((w.alloc o).alloc Z)):=λo Z=>((Qq _ _).alloc (Qn _) _).alloc (by simp) _
 have O:Hid (∀o,Below w.heap.size w (w.alloc o)):=λo=>((Qq _ _).alloc (Qn _) _)
 unfold fG
 by_cases R:D=17
 ·subst R
  have E:Hid (yN 17 z i=[]):=rfl;generalize yN 17 z i=L at*;go_enter func190,ntmps190
  go_wp2
  go_ret;exact⟨⟨_,rfl,by rw[E.out];exact IR.nil _ _,λb G=>by simp[Value.ownBlock] at G⟩,O.out _⟩
 by_cases U:D=18
 ·subst U
  have E:Hid (yN 18 z i=[]):=rfl;generalize yN 18 z i=L at*;go_enter func190,ntmps190
  go_wp2
  go_ret;exact⟨⟨_,rfl,by rw[E.out];exact IR.nil _ _,λb G=>by simp[Value.ownBlock] at G⟩,O.out _⟩
 by_cases I:D=16
 ·subst I
  have E:Hid (yN 16 z i=[z]):=rfl;generalize yN 16 z i=L at*;go_enter func190,ntmps190
  go_wp2
  go_ret;refine⟨⟨_,rfl,?_,λb G=>by simp[Value.ownBlock] at G;omega⟩,Y.out _ _⟩
  rw[E.out];have:=V.out [z] (by simp) (w.alloc (.cells #[Iq 16,Iq n,Iq z,Iq pl] 247));simpa using this
 by_cases J:D=15
 ·subst J
  have E:Hid (yN 15 z i=[(i:Int)+1,z]):=rfl;generalize yN 15 z i=L at*;go_enter func190,ntmps190
  go_wp2
  go_ret;refine⟨⟨_,rfl,?_,λb G=>by simp[Value.ownBlock] at G;omega⟩,Y.out _ _⟩
  rw[E.out];have:=V.out [(i:Int)+1,z] (by simp) (w.alloc (.cells #[Iq 15,Iq n,Iq z,Iq pl] 247));simpa using this
 ·have E:Hid (yN D z i=[(i:Int)+1]):=by show _=_;unfold yN;rw[Qj (by omega),Qj I,Qj J]
  have aa:((D:Int)==17)=false:=by simp;omega
  have ab:((D:Int)==18)=false:=by simp;omega
  have ac:((D:Int)==16)=false:=by simp;omega
  have ad:((D:Int)==15)=false:=by simp;omega
  generalize yN D z i=L at*;go_enter func190,ntmps190
  go_wp2
  go_ret;refine⟨⟨_,rfl,?_,λb G=>by simp[Value.ownBlock] at G;omega⟩,Y.out _ _⟩
  rw[E.out];have:=V.out [(i:Int)+1] (by simp) (w.alloc (.cells #[Iq D,Iq n,Iq z,Iq pl] 247));simpa using this
structure fq (w:World) (B g lo:Nat) (O:Nat->Nat) (come:List (Option Kn)):Prop where
 blk:∃cs,w.heap[g]?=some (.cells cs 285 (0,0))/\cs.size=come.length
 non:∀j,lo<=j->j<come.length->come.getD j none=none->w.cell? ⟨g,j,none⟩=some (.pointer none)
 som:∀j,lo<=j->j<come.length-> ∀k,come.getD j none=some k-> ∃p vs vc st c,w.cell? ⟨g,j,none⟩=some (Pq p)/\eQ w p vs vc st c/\uH k st c/\ ∀b,eF p vs vc b->O b=j+1
 own:O g=0
 low:∀b,O b≠0->B<=b
 lowg:B<=g
 siz:B<=w.heap.size
def qy (O:Nat->Nat) (s j:Nat) (b:Nat):Nat:=if s<=b then j+1 else O b
theorem fq.lt {w:World} {B g z:Nat} {come} (h:fq w B g z O come):g<w.heap.size:=by
 obtain⟨cs,D,_⟩:=h.blk;exact be D
theorem fq.upd {w w':World} {B g lo j:Nat} {come} (h:fq w B g lo O come) (hj:lo<=j) (Z:j<come.length) (ho:cI (λb=>b=g\/O b=j+1) w w')
 (aa:∃cs,w'.heap[g]?=some (.cells cs 285 (0,0))/\cs.size=come.length) (I:∀j',j'≠j->w'.cell? ⟨g,j',none⟩=w.cell? ⟨g,j',none⟩)
 (ab:∃p vs J st c,Cq w' g j (.pointer (some ⟨p,0,none⟩))/\eQ w' p vs J st c/\uH k' st c/\ ∀b,eF p vs J b->O b=j+1\/w.heap.size<=b):fq w' B g lo (qy O w.heap.size j) (come.set j (some k')):=by
 have hg:=h.lt;have E:(come.set j (some k')).length=come.length:=by simp
 refine⟨by rw[E];exact aa,λi hi D G=>?_,λi hi D k U=>?_,?_,λb z=>?_,h.lowg,QV h.siz ho.size⟩
 ·rw[E] at D;by_cases e:i=j
  ·subst e;rw[cQ Z] at G;cases G
  rw[getD_set_ne (λa=>e a.symm)] at G
  rw[I i e];exact h.non i hi D G
 ·rw[E] at D;by_cases e:i=j
  ·subst e;rw[cQ Z] at U;obtain rfl:=Rf U;obtain⟨p,vs,J,st,c,h1,V,h3,Y⟩:=ab;refine⟨p,vs,J,st,c,h1,V,h3,λb z=>?_⟩
   unfold qy;rcases Y b z with R|R
   ·split
    ·rfl
    exact R
   rw[Qo R]
  rw[getD_set_ne (λa=>e a.symm)] at U
  obtain⟨p,vs,J,st,c,h1,V,h3,Y⟩:=h.som i hi D k U;refine⟨p,vs,J,st,c,by rw[I i e];exact h1,V.only ho (λb z G=>?_),h3,λb z=>?_⟩
  ·have R:=Y b z;rcases G with rfl|G
   ·rw[h.own] at R;omega
   omega
  unfold qy;rw[Qj (by have:=V.lt z;omega)];exact Y b z
 ·unfold qy;rw[Qj (by omega)];exact h.own
 unfold qy at z;by_cases e:w.heap.size<=b
 ·have:=h.siz;omega
 rw[Qj e] at z;exact h.low b z
def sC (O:Nat->Nat) (w w':World) (B g J:Nat) (come:List (Option Kn)) (i p:Nat) (vs G:Value) (st c:List Int):Prop:=
 ∃D,fq w' B g J D come/\eQ w' p vs G st c/\(∀b,eF p vs G b->D b=i+1)/\Below B w w'/\ ∀b,b<w.heap.size->b≠g->O b=0->D b=0/\w'.heap[b]?=w.heap[b]?
theorem fq.rest {w w':World} {O:Nat->Nat} (z:cI (λb=>b=g\/O b=j+1) w w'):∀b,b<w.heap.size->b≠g->O b=0->qy O w.heap.size j b=0/\w'.heap[b]?=w.heap[b]?:=λb D E G=>by
 refine⟨by unfold qy;rw[Qj (by omega)];exact G,z.block b D (λh=>?_)⟩
 rcases h with h|h
 ·exact E h
 omega
theorem fq.below {w w':World} {B g D j:Nat} {O come} (h:fq w B g D O come) (E:cI (λb=>b=g\/O b=j+1) w w'):Below B w w':=
 E.below h.siz (λb _ z=>by
  rcases z with rfl|z
  ·exact h.lowg
  exact h.low b (by omega))
theorem fq.here {come} (h:fq w B g J O come) (E:eQ w p vs z st c) (G:∀b,eF p vs z b->O b=i+1) (V:i≠j) (R:cI (λb=>b=g\/O b=j+1) w w'):eQ w' p vs z st c/\ ∀b,eF p vs z b->qy O w.heap.size j b=i+1:=by
 refine⟨E.only R (λb D I=>?_),λb D=>?_⟩
 ·have U:=G b D;rcases I with rfl|I
  ·rw[h.own] at U;omega
  omega
 unfold qy;rw[Qj (by have:=E.lt D;omega)];exact G b D
theorem ME {a b:List Nat}:xT a=xT b↔a=b:=by
 refine⟨λh=>?_,λh=>by rw[h]⟩
 have z:a.reverse=b.reverse:=by
  unfold xT at h;exact(List.map_inj_right (λx y e=>by omega)).1 h
 simpa using z
theorem BZ {z:Int} {g n cap p:Nat} (G:n<=5000) (D:z=0\/z=n) (w:World):
 Calls prog 191 #[Sq g n cap,.int .i64 z,.pointer (some ⟨p,0,none⟩)] w λe w'=>e= .returned (.bool false)/\w'=w:=by
 by_cases E:z=0
 ·subst E;go_enter func191,ntmps191;go_wp2;go_ret;exact⟨rfl,rfl⟩
 obtain rfl:z=n:=by omega
 have I:(n==0)=false:=by simp;omega
 go_enter func191,ntmps191;go_wp2;go_ret;exact⟨rfl,rfl⟩
theorem Ej {cap come} (h:fq w B g V O come) (hs:eQ w p vs Y st c) (hk:uH k st c) (hO:∀b,eF p vs Y b->O b=i+1) (ad:i≠j) (hj:V<=j) (ai:0<j) (aa:j<come.length) (hn:come.length<=5000) (hl:st.length<=5000) (hc:c.length<=5000) (ab:come.getD j none=none):
 Calls prog 191 #[Sq g come.length cap,.int .i64 j,.pointer (some ⟨p,0,none⟩)] w λe w'=>e= .returned (.bool true)/\sC O w w' B g V (come.set j (some k)) i p vs Y st c:=by
 have U:=h.non j hj aa ab;have ae:w.frozen? ⟨g,j,none⟩=false:=by obtain⟨cs,hc,_⟩:=h.blk;simp[World.frozen?,hc]
 have b0:((j:Int)==0)=false:=by simp;omega
 have bn:((j:Int)==(come.length:Int))=false:=by simp;omega
 have W1:∀W,Below w.heap.size w W->Calls prog 236 #[.pointer (some ⟨p,0,none⟩)] W λe w'=> ∃E z D,e= .returned (.pointer (some ⟨E,0,none⟩))/\eQ w' E z D st c/\Below W.heap.size W w'/\ ∀b,eF E z D b->W.heap.size<=b:=λW I=>Ee (hs.only (cI.of_below (F:=λ_=>False) I) (λ_ _ h=>h)) hl hc
 have HA:Hid (∀G E z D,eQ G E z D st c->Below w.heap.size w G->(∀b,eF E z D b->w.heap.size<=b)->sC O w (G.setCell ⟨g,j,none⟩ (.pointer (some ⟨E,0,none⟩))) B g V (come.set j (some k)) i p vs Y st c):=λG E z D Z J h3=>by
  have hg:=h.lt;obtain⟨cs,af,ag⟩:=h.blk;have ah:G.heap[g]?=_:=(J.block g hg).trans af;have ho:cI (λb=>b=g\/O b=j+1) w (G.setCell ⟨g,j,none⟩ (.pointer (some ⟨E,0,none⟩))):=(cI.of_below J).setCell (.inl (.inl rfl)) _
  obtain⟨q1,q2⟩:=h.here hs hO ad ho;refine⟨qy O w.heap.size j,h.upd hj aa ho ⟨_,QB G g j _ _ _ ah,by simpa using ag⟩ (λj' e=>?_) ⟨E,z,D,st,c,?_,?_,hk,λb I=> .inr (h3 b I)⟩,q1,q2,h.below ho,fq.rest ho⟩
  ·rw[cN _ _ _ _ _ (λa=>e a.symm)]
   exact J.cell (p:=⟨g,j',none⟩) hg
  ·exact cY _ _ _ _ (by rw[J.cell (p:=⟨g,j,none⟩) hg,U];rfl)
  exact Z.only ((cI.refl (λb=>b=g) G).setCell (.inl rfl) _) (λb I e=>by have:=h3 b I;omega)
 have R:∀W,Below w.heap.size w W->W.cell? ⟨g,j,none⟩=some (.pointer none)/\W.frozen? ⟨g,j,none⟩=false:=λW I=>⟨by rw[I.cell (p:=⟨g,j,none⟩) h.lt];exact U,by rw[I.frozen (p:=⟨g,j,none⟩) h.lt];exact ae⟩
 have ac:=Hi R;generalize come.length=n at*;go_enter func191,ntmps191;go_wp2_with fail;apply(W1 w (Qq _ _)).mono;rintro e G ⟨E,z,D,rfl,Z,J,h3⟩;obtain⟨d1,d2⟩:=ac.out G J;have HU:=Hi (HA.out G E z D Z J h3);go_wp2;go_ret;exact⟨rfl,HU.out⟩
theorem Ek {cap come} (h:fq w B g Y O come) (hs:eQ w p vs R st c) (hk:uH k st c) (hO:∀b,eF p vs R b->O b=i+1) (ag:i≠j) (hj:Y<=j) (ar:0<j) (aa:j<come.length) (hn:come.length<=5000) (hl:st.length<=5000) (ah:a.st.length<=5000) (au:a.cl.length<=5000) (af:a.cl.length=k.cl.length) (ab:come.getD j none=some a):
 Calls prog 191 #[Sq g come.length cap,.int .i64 j,.pointer (some ⟨p,0,none⟩)] w λe w'=>e= .returned (.bool (decide (a.st=k.st)))/\sC O w w' B g Y (come.set j (some ⟨a.st,im a.cl k.cl⟩)) i p vs R st c:=by
 obtain⟨q,us,uc,I,c2,Z,ac,z,D⟩:=h.som j hj aa a ab
 have b0:((j:Int)==0)=false:=by simp;omega
 have bn:((j:Int)==(come.length:Int))=false:=by simp;omega
 have ai:I.length<=5000:=by rw[z.st];simpa [xT] using ah
 have U:∀b,eF q us uc b-> ¬eF p vs R b:=λb h1 V=>by have:=D b h1;have:=hO b V;omega
 have aj:c2.length<=5000:=by have:=z.len;omega
 have W1:=Hw ac hs U ai hl aj
 have he:decide (I=st)=decide (a.st=k.st):=by
  rw[z.st,hk.st]
  exact S5.2 ME
 rw[he] at W1
 have HA:Hid (∀E,cW w E q us uc I (sA c2 c c2.length)->sC O w E B g Y (come.set j (some ⟨a.st,im a.cl k.cl⟩)) i p vs R st c):=λE ak=>by
  obtain⟨am,an,h1,V,h3⟩:=ak
  have hg:=h.lt
  obtain⟨cs,ao,ap⟩:=h.blk
  have G:cI (λb=>b=g\/O b=j+1) w E:=V.weak (λb _ hb=> .inr (D b hb))
  have ad: ¬eF q us uc g:=λe=>by have:=D g e;rw[h.own] at this;omega
  have aq:E.heap[g]?=_:=(V.block g hg ad).trans ao
  obtain⟨q1,q2⟩:=h.here hs hO ag G
  have ae:∀J,E.cell? ⟨g,J,none⟩=w.cell? ⟨g,J,none⟩:=λJ=>Qz (w:=w) (a:=⟨g,J,none⟩) (V.block g hg ad)
  refine⟨qy O w.heap.size j,h.upd hj aa G ⟨_,aq,ap⟩ (λJ _=>ae J) ⟨q,am,an,I,_,(ae _).trans Z,h1,Od z hk af,λb hb=>?_⟩,q1,q2,h.below G,fq.rest G⟩
  rcases h3 b hb with h4|h4
  ·exact .inl (D b h4)
  ·exact .inr h4
 generalize come.length=n at*
 generalize hr:decide (a.st=k.st)=r at W1
 go_enter func191,ntmps191
 go_wp2_with (
  go_at_call 237
  apply W1.mono
  rintro e E ⟨rfl,G⟩
  have HU:=Hi (HA.out _ G)
  clear G)
 go_ret
 exact⟨rfl,HU.out⟩
end
variable {I E i j w' B g O p vs U st' c' m J R st c L G wi vc}
def jJ (ins:List ek) (x:ek):Int:=if x.op=15\/x.op=16 then(((gn ins x).getD 0:Nat):Int) else 0
structure jz (w:World) (cp gi cap cells depth:Nat) (ins:List ek):Prop where
 blk:w.heap[cp]?=some (.cells #[Iq cells,.slice (some ⟨gi,0,none⟩) ins.length cap,Iq depth] 253 (0,0))
 op:∀i,i<ins.length->w.cell? ⟨gi,i*4,none⟩=some (Iq ((ins.getD i cH).op:Nat))
 num:∀i,i<ins.length->w.cell? ⟨gi,i*4+1,none⟩=some (Iq (ins.getD i cH).n)
 tos:∀i,i<ins.length->w.cell? ⟨gi,i*4+2,none⟩=some (Iq (jJ ins (ins.getD i cH)))
 pls:∀i,i<ins.length->w.cell? ⟨gi,i*4+3,none⟩=some (Iq ((ins.getD i cH).pl:Nat))
theorem jz.below {w w':World} {cap cells ins} (h:jz w I E cap cells D ins) (J:Bl w w'):jz w' I E cap cells D ins:=by
 have G:∀{o:Nat} {v:Value},w.cell? ⟨E,o,none⟩=some v->w'.cell? ⟨E,o,none⟩=some v:=λ{o v} e=>by
  rw[J.cell (Qk w _ e)];exact e
 exact⟨(J.block I (be h.blk)).trans h.blk,λi z=>G (h.op i z),λi z=>G (h.num i z),λi z=>G (h.tos i z),λi z=>G (h.pls i z)⟩
def zX (n i:Nat) (o:Option Nat) (v:Int):Prop:=(o=none->v=0\/v=n)/\ ∀j,o=some j->v=j/\i+1<=j/\j<n
theorem Hz {n i:Nat} (z:i<n):zX n i (if i+1<n then some (i+1) else none) ((i:Int)+1):=by
 by_cases h:i+1<n
 ·rw[Qo h];exact⟨λe=>(by cases e),λj e=>by simp at e;omega⟩
 rw[Qj h];exact⟨λ_=> .inr (by omega),λj e=>by cases e⟩
theorem H9 {b:LB} {ins} (h:fg b ins) (z:i<ins.length) (D:(ins.getD i cH).op=15\/(ins.getD i cH).op=16):zX ins.length i (gn ins (ins.getD i cH)) (jJ ins (ins.getD i cH)):=by
 unfold jJ;rw[Qo D];cases e:gn ins (ins.getD i cH) with
 |none=>exact⟨λ_=> .inl rfl,λj e=>by cases e⟩
 |some j=>
  obtain⟨I,E,_⟩:=vQ h z e;exact⟨λe=>(by cases e),λJ G=>by obtain rfl:=Rf G;exact⟨rfl,by omega,E⟩⟩
theorem KW {b:LB} {ins} (h:fg b ins) (J:i<ins.length):(yN (ins.getD i cH).op (jJ ins (ins.getD i cH)) i).length=(ff ins i (ins.getD i cH)).length/\ ∀m,m<(ff ins i (ins.getD i cH)).length->zX ins.length i ((ff ins i (ins.getD i cH)).getD m none) ((yN (ins.getD i cH).op (jJ ins (ins.getD i cH)) i).getD m 0):=by
 have O:=H9 h J;have R:=Hz J;generalize ins.getD i cH=x at*;generalize jJ ins x=v at*;unfold yN ff;by_cases z:x.op=15
 ·rw[Qj (by omega),Qj (by omega),Qo z,Qo z]
  refine⟨rfl,λm G=>?_⟩
  have E:m<2:=G;match m,E with
  |0,_=>exact R
  |1,_=>exact O (.inl z)
 by_cases D:x.op=16
 ·rw[Qj (by omega),Qo D,Qj z,Qo D]
  refine⟨rfl,λm G=>?_⟩
  have E:m<1:=G;match m,E with
  |0,_=>exact O (.inr D)
 by_cases I:x.op=17\/x.op=18
 ·rw[Qo I,Qj z,Qj D,Qo I];exact⟨rfl,λm G=>absurd G (Nat.not_lt_zero m)⟩
 rw[Qj I,Qj D,Qj z,Qj z,Qj D,Qj I];refine⟨rfl,λm G=>?_⟩
 have E:m<1:=G;match m,E with
 |0,_=>exact R
def mB (cells:Nat) (come:List (Option Kn)):Prop:= ∀j k,come.getD j none=some k->jV k.st/\sN k.cl/\k.cl.length=cells/\k.st.length<=24
theorem mB.set {cells come} (h:mB cells come) (E:jV k.st/\sN k.cl/\k.cl.length=cells/\k.st.length<=24):mB cells (come.set j (some k)):=λi D e=>by
 by_cases z:j=i
 ·subst z;by_cases G:j<come.length
  ·rw[cQ G] at e;obtain rfl:=Rf e;exact E
  rw[List.set_eq_of_length_le (by omega)] at e;exact h j D e
 rw[getD_set_ne z] at e;exact h i D e
theorem B0 {a b:List Nat} (h:sN a):sN (im a b):=λt D=>by
 unfold im at D;obtain⟨i,E,e⟩:=RG.1 D;have z:(im a b).getD i 0=t:=by unfold im;rw[Qi,Ql E,e];rfl
 rw[uT] at z;split at z
 ·split at z
  ·rw[<-z,Qi,Ql (by omega)]
   exact h _ (QD _)
  omega
 omega
theorem B4 (cells n:Nat):mB cells (iX cells n):=λj k e=>by
 unfold iX at e;cases j with
 |zero=>
  simp at e;subst e;exact⟨λt z=>by simp at z,λt z=>by simp at z;omega,by simp,by simp⟩
 |succ j=>
  rw[QI,Qi,Q8] at e;split at e<;>cases e
def Ia (O:Nat->Nat) (s:Nat) (b:Nat):Nat:=if s<=b then 0 else O b
theorem fq.below' {come} (h:fq w B g I O come) (z:Bl w w'):fq w' B g I O come:=by
 obtain⟨cs,R,J⟩:=h.blk;have D:=h.lt;refine⟨⟨cs,(z.block g D).trans R,J⟩,λj E G h3=>?_,λj E G k h3=>?_,h.own,h.low,h.lowg,QV h.siz z.size⟩
 ·rw[z.cell D];exact h.non j E G h3
 obtain⟨p,vs,U,st,c,V,Y,Z,e4⟩:=h.som j E G k h3;exact⟨p,vs,U,st,c,by rw[z.cell D];exact V,Y.only (cI.of_below z) (λ_ _ h=>h),Z,e4⟩
theorem fq.from {w:World} {B g D z:Nat} {come} (h:fq w B g D O come) (G:D<=z):fq w B g z O come:=
 ⟨h.blk,λj E=>h.non j (by omega),λj E=>h.som j (by omega),h.own,h.low,h.lowg,h.siz⟩
theorem fq.change {come} (h:fq w B g i O come) (I:∀b,eF p vs U b->O b=i+1) (ho:cW w w' p vs U st' c'):
 ∃V D E,fq w' B g (i+1) V come/\eQ w' p D E st' c'/\(∀b,eF p D E b->V b=i+1)/\(∀b,w'.heap.size<=b->V b=0)/\Below B w w':=by
 obtain⟨D,E,h1,G,h3⟩:=ho;have hg:=h.lt;have ac: ¬eF p vs U g:=λe=>by have:=I g e;rw[h.own] at this;omega
 have J:=G.block g hg ac;obtain⟨cs,hc,ad⟩:=h.blk;have R:∀j,w'.cell? ⟨g,j,none⟩=w.cell? ⟨g,j,none⟩:=λj=>Qz J
 refine⟨Ia (qy O w.heap.size i) w'.heap.size,D,E,?_,h1,λb z=>?_,λb z=>by unfold Ia;rw[Qo z],G.below h.siz (λb _ z=>h.low b (by have:=I b z;omega))⟩
 ·refine⟨⟨cs,J.trans hc,ad⟩,λj q1 Y Z=>?_,λj q1 Y k Z=>?_,?_,λb z=>?_,h.lowg,QV h.siz G.size⟩
  ·rw[R];exact h.non j (by omega) Y Z
  ·obtain⟨p2,us,uc,st,c,e1,e2,e3,e4⟩:=h.som j (by omega) Y k Z
   refine⟨p2,us,uc,st,c,by rw[R];exact e1,e2.only G (λb z hn=>?_),e3,λb z=>?_⟩
   ·have:=e4 b z;have:=I b hn;omega
   have ae:=e2.lt z;have:=G.size;unfold Ia qy;rw[Qj (by omega),Qj (by omega)];exact e4 b z
  ·have:=G.size;unfold Ia qy;rw[Qj (by omega),Qj (by omega)];exact h.own
  unfold Ia qy at z;split at z
  ·exact absurd rfl z
  split at z
  ·have:=h.siz;omega
  exact h.low b z
 have ae:=h1.lt z;unfold Ia qy;rw[Qj (by omega)]
 rcases h3 b z with h4|h4
 ·split
  ·rfl
  exact I b h4
 rw[Qo h4]
structure Nw (w wi:World) (cells) (ins:List ek) (i p) (vs vc) (st c) (v) (L) (k) (come) (leads) (m) (O) (come'):Prop where
 at_:fq wi w.heap.size w.heap.size (i+1) O come'
 len:come'.length=ins.length
 set:eQ wi p vs vc st c
 own:∀b,eF p vs vc b->O b=i+1
 row:IR wi 3 v L
 rowO:∀b,v.ownBlock=some b->O b=0
 bel:Below w.heap.size w wi
 bri:dX come k leads=dX come' k (leads.drop m)
 typ:mB cells come'
theorem Ib {α:Type} {l:List α} {d:α} (h:m<l.length):l.drop m=l.getD m d::l.drop (m+1):=by
 rw[QF h,Qi,Ql h];rfl
theorem Nw.next {cells ins come} (h:Nw w J cells ins i p vs R st c v L k come D m O z)
 (U:sC O J w' w.heap.size w.heap.size (i+1) (z.set j (some G)) i p vs R st c) (E:dX z k (D.drop m)=dX (z.set j (some G)) k (D.drop (m+1))) (Y:jV G.st/\sN G.cl/\G.cl.length=cells/\G.st.length<=24):∃I,Nw w w' cells ins i p vs R st c v L k come D (m+1) I (z.set j (some G)):=by
 obtain⟨I,Z,h2,h3,h4,h5⟩:=U;obtain⟨cs,hc,_⟩:=h.at_.blk;have hg:=h.row.ne hc (by decide)
 have V:∀b,v.ownBlock=some b->I b=0/\w'.heap[b]?=J.heap[b]?:=λb E=>h5 b (h.row.lt b E).2 (λe=>hg (by rw[<-e];exact E)) (h.rowO b E)
 exact⟨I,Z,by simpa using h.len,h2,h3,cM h.row (λb E=>(V b E).2),λb E=>(V b E).1,h.bel.trans h4,h.bri.trans E,h.typ.set Y⟩
theorem Nw.come {cells ins cap come} (h:Nw w wi cells ins i p vs vc st c v L k come z m O D) (I:uH k st c) (ac:jV k.st/\sN k.cl/\k.cl.length=cells/\k.st.length<=24) (ad:cells<=256) (hm:m<z.length) (hn:ins.length<=4000) (hv:zX ins.length i (z.getD m none) (L.getD m 0)):
 Calls prog 191 #[Sq w.heap.size ins.length cap,Iq (L.getD m 0),Pq p] wi λe w'=> ∃r,e= .returned (.bool r)/\Bl w w'/\(r=true-> ∃R V,Nw w w' cells ins i p vs vc st c v L k come z (m+1) R V)/\(r=false->dX come k z=none):=by
 have Y:=Ib (d:=none) hm;have ab:=h.len;cases J:z.getD m none with
 |none=>
  apply(BZ (by omega) (hv.1 J) wi).mono
  rintro e w' ⟨rfl,rfl⟩;refine⟨false,rfl,h.bel,λe=>(by cases e),λ_=>?_⟩
  rw[h.bri,Y,J];rfl
 |some j=>
  obtain⟨hj,aa,af⟩:=hv.2 j J;rw[hj,<-ab];have hl:st.length<=5000:=by rw[I.st];simp[xT];omega
  have hc:c.length<=5000:=by have:=I.len;omega
  cases E:D.getD j none with
  |none=>
   apply(Ej h.at_ h.set I h.own (by omega) aa (by omega) (by omega) (by omega) hl hc E).mono
   rintro e w' ⟨rfl,G⟩;have hb:dX D k (z.drop m)=dX (D.set j (some k)) k (z.drop (m+1)):=by rw[Y,J,dX,E]
   obtain⟨R,U⟩:=h.next G hb ac;exact⟨true,rfl,U.bel,λ_=>⟨R,_,U⟩,λe=>by cases e⟩
  |some a=>
   obtain⟨ta,tb,tc,td⟩:=h.typ j a E;apply(Ek h.at_ h.set I h.own (by omega) aa (by omega) (by omega) (by omega) hl (by omega) (by omega) (by omega) E).mono
   rintro e w' ⟨rfl,G⟩;by_cases Z:a.st=k.st
   ·have hb:dX D k (z.drop m)=dX (D.set j (some ⟨a.st,im a.cl k.cl⟩)) k (z.drop (m+1)):=by
     rw[Y,J,dX,E];simp only[];rw[Qo Z]
    obtain⟨R,U⟩:=h.next G hb ⟨ta,B0 tb,by simp[im];omega,td⟩
    exact⟨true,by rw[QZ Z],U.bel,λ_=>⟨R,_,U⟩,λe=>by cases e⟩
   obtain⟨_,_,_,_,ae,_⟩:=G;refine⟨false,by rw[QM Z],h.bel.trans ae,λe=>(by cases e),λ_=>?_⟩
   rw[h.bri,Y,J,dX,E];simp only[];rw[Qj Z]
section
attribute [local go_sem ↓] Go.wp_at_zero Go.wp_at_succ
variable {gi q fo fn ft t V Y}
theorem KY:(prog.info? 285).map (λi=>(i.zero,i.size,i.bytes))=some (some (.pointer none),1,8):=by kernel_rfl
def MF (w wr:World) (cells:Nat) (ins:List ek) (q i:Nat) (r:Bool):Prop:=
 ∃O come,fq wr w.heap.size w.heap.size i O come/\come.length=ins.length/\Below w.heap.size w wr/\r=jw ins q (ins.drop i) i come/\mB cells come
theorem Ic {w:World} {cells n:Nat} (O:0<n):
 fq ((w.alloc (.cells ((madeCells #[.pointer none] n).setIfInBounds 0 (Pq (w.heap.size+1))) 285)).alloc (.cells #[.slice none 0 0,.slice none 0 0] 289)) w.heap.size w.heap.size 0 (λb=>if b=w.heap.size+1 then 1 else 0) (iX cells n):=by
 have G:(w.alloc (.cells ((madeCells #[.pointer none] n).setIfInBounds 0 (Pq (w.heap.size+1))) 285)).heap.size=w.heap.size+1:=Qw _ _;have q:=(Qu (w.alloc (.cells ((madeCells #[.pointer none] n).setIfInBounds 0 (Pq (w.heap.size+1))) 285)) (.cells #[.slice none 0 0,.slice none 0 0] 289) w.heap.size (by omega)).trans (Qp w _)
 have I:=Qp (w.alloc (.cells ((madeCells #[.pointer none] n).setIfInBounds 0 (Pq (w.heap.size+1))) 285)) (.cells #[.slice none 0 0,.slice none 0 0] 289);rw[G] at I;have z:=pX cells n O;have J:(madeCells #[Value.pointer none] n).size=n:=RT _ _;have D:∀j,j<n->((w.alloc (.cells ((madeCells #[.pointer none] n).setIfInBounds 0 (Pq (w.heap.size+1))) 285)).alloc (.cells #[.slice none 0 0,.slice none 0 0] 289)).cell? ⟨w.heap.size,j,none⟩=if j=0 then some (Pq (w.heap.size+1)) else some (.pointer none):=λj A=>by
  rw[Qm _ _ j _ _ _ q];by_cases e:j=0
  ·subst e;rw[Qo rfl,Rk,Qo rfl,Qo (by omega)]
  rw[Qj e,Rm (by omega)]
  unfold madeCells;simp[A,Tg]
 refine⟨⟨_,q,by rw[Array.size_setIfInBounds,J,z]⟩,λj _ A R=>?_,λj _ A k E=>?_,by simp,λb q=>?_,Qn _,by rw[Qw,G];omega⟩
 ·rw[z] at A;rw[D j A,Qj];intro e;subst e;simp[iX] at R
 ·rw[z] at A;cases j with
  |zero=>
   simp[iX] at E;subst E;refine⟨w.heap.size+1,.slice none 0 0,.slice none 0 0,[],[],by rw[D 0 A];rfl,⟨I,IR.nil _ _,IR.nil _ _,λb q=>by simp[Value.ownBlock] at q⟩,⟨rfl,by simp,λi=>?_⟩,λb q=>?_⟩
   ·rw[Qi,Qi,Q8];split<;>rfl
   rcases q with rfl|q|q
   ·exact Qo rfl
   ·simp[Value.ownBlock] at q
   simp[Value.ownBlock] at q
  |succ j=>
   unfold iX at E;rw[QI,Qi,Q8] at E;split at E<;>cases E
 by_cases e:b=w.heap.size+1
 ·omega
 exact absurd (Qj e) q
abbrev B5 (z q) (wr:World) (x:ek) (ins) (W:World):=W.cell? ⟨z,2,none⟩=some (.int .i64 q)/\W.cell? ⟨wr.heap.size,0,none⟩=some (.int .i64 (x.op:Nat))/\W.cell? ⟨wr.heap.size,1,none⟩=some (.int .i64 x.n)/\W.cell? ⟨wr.heap.size,2,none⟩=some (.int .i64 (jJ ins x))/\W.cell? ⟨wr.heap.size,3,none⟩=some (.int .i64 (x.pl:Nat))
theorem Ie {b:LB} {ins cap} (hE:Ef w) (h:fg b ins) (hm:jz w E gi cap (cr b 2) q ins) (h0:0<ins.length) (hn:ins.length<=4000) (hd:q<=24):
 Calls prog 143 #[Pq E] w λe w'=>e= .returned (.bool (jw ins q ins 0 (iX (cr b 2) ins.length)))/\Bl w w':=by
 have a9:=run_make_row' (P:=prog) 284 285 (.pointer none) 8 underlying284 KY rfl .i64 .i64 ins.length (by omega) (by omega)
 have p1:w.cell? ⟨E,1,none⟩=some (Sq gi ins.length cap):=by rw[Qm w E 1 _ _ _ hm.blk];rfl
 have p2:w.cell? ⟨E,2,none⟩=some (Iq q):=by rw[Qm w E 2 _ _ _ hm.blk];rfl
 have aE:=be hm.blk;have ba:∀o o',((w.alloc o).alloc o').cell? ⟨E,1,none⟩=some (Sq gi ins.length cap):=λo o'=>by
  have hb:Bl w ((w.alloc o).alloc o'):=((Qq _ _).alloc (Qn _) _).alloc (by simp) _
  rw[hb.cell (p:=⟨E,1,none⟩) aE];exact p1
 have bb:(madeCells #[.pointer none] ins.length)[0]?=some (.pointer none):=by unfold madeCells;simp[h0]
 have HM:=Hi hm;have H:=Hi h;have bc:=Hi hE;clear hm h hE;generalize hR:jw ins q ins 0 (iX (cr b 2) ins.length)=R;have aO:Hid (MF w ((w.alloc (.cells ((madeCells #[.pointer none] ins.length).setIfInBounds 0 (Pq (w.heap.size+1))) 285)).alloc (.cells #[.slice none 0 0,.slice none 0 0] 289)) (cr b 2) ins q 0 R):=
  ⟨_,_,Ic h0,pX _ _ h0,((Qq _ _).alloc (Qn _) _).alloc (by simp) _,hR.symm,B4 _ _⟩
 clear hR;have HN:Hid (ins.length=ins.length):=rfl;generalize aF:ins.length=n at h0 hn a9 p1 ba bb aO;have HL:=Hi aF;clear aF;go_enter func143,ntmps143;go_wp2;generalize ((w.alloc (.cells ((madeCells #[.pointer none] n).setIfInBounds 0 (Pq (w.heap.size+1))) 285)).alloc (.cells #[.slice none 0 0,.slice none 0 0] 289))=W0 at*;go_loopw [24] (λiv wr=> ∃i:Nat,i<=n/\iv= Iq i/\Hid (MF w wr (cr b 2) ins q i R)) (λiv _=>n - (intOf iv).toNat)
 case atStart=>exact⟨0,QA _,rfl,aO.out⟩
 case round=>
  obtain⟨i,hi,rfl,HI⟩:=hrel;obtain⟨O,come,G,an,I,Z,ag⟩:=HI.out;by_cases aE:i<n
  ·have ah:=HM.out.below I;have ac:i<ins.length:=by rw[HL.out];exact aE
   have q0:=ah.op i ac;have q1:=ah.num i ac;have q2:=ah.tos i ac;have q3:=ah.pls i ac;have bs:(0:Int)<=(i:Int)/\(i:Int)<(n:Int):=by omega
   have ae:ins.drop i=ins.getD i cH::ins.drop (i+1):=by
    rw[QF ac,Qi,Ql ac];rfl
   rw[ae] at Z;have aB:=H.out.1 _ (gY ac);have aG:=Hi (KW H.out ac);generalize ins.getD i cH=x at*;cases hk:come.getD i none with
   |none=>
    have af:=G.non i (Qn _) (by omega) hk
    have bd:Hid (∀o,MF w (wr.alloc o) (cr b 2) ins q (i+1) R):=λo=>by
     have ad:Bl wr (wr.alloc o):=(Qq _ _).alloc (Qn _) _;refine⟨O,come,(G.from (by omega)).below' ad,an,I.trans (ad.mono I.size),?_,ag⟩
     rw[Z,jw,hk]
    have ai:∀o,(wr.alloc o).cell? ⟨w.heap.size,i,none⟩=some (.pointer none):=λo=>by
     rw[Qz (w:=wr) (a:=⟨w.heap.size,i,none⟩) (Qu wr o w.heap.size G.lt)];exact af
    clear G an I Z ag ah ae aB aG HI hk;go_wp2;go_roundw
    case rel=>exact⟨i+1,by omega,by go_num,bd.out _⟩
    case measure=>simp[intOf];omega
   |some k=>
    obtain⟨p,vs,vc,st,c,af,aj,au,hO⟩:=G.som i (Qn _) (by omega) k hk
    have ai:∀o,(wr.alloc o).cell? ⟨w.heap.size,i,none⟩=some (Pq p):=λo=>by
     rw[Qz (w:=wr) (a:=⟨w.heap.size,i,none⟩) (Qu wr o w.heap.size G.lt)];exact af
    obtain⟨t1,t2,t3,t4⟩:=ag i k hk;have ak:=kf aB;have bf:=eS b 2;have aH:x.op=4\/x.op=5\/x.op=6->0<=x.n/\x.n<=255:=λe=>by
     obtain⟨a1,_,a2⟩:=ak.two (by unfold cG;rw[Qj (by omega),Qo (by omega)])
     exact⟨a1,a2⟩
    have aI:x.op=5->x.n.toNat<k.cl.length:=λe=>by
     obtain⟨a1,a2,_⟩:=ak.two (by unfold cG;rw[Qj (by omega),Qo (by omega)])
     unfold dE at a2;rw[Qj (by omega),Qj (by omega),Qj (by omega),Qo (by omega)] at a2
     omega
    have av:=BX au t1 x.op x.n.toNat ak.op aI;obtain⟨U,ao⟩:∃U,wr.alloc (.cells #[Iq (x.op:Nat),Iq x.n,Iq (jJ ins x),Iq (x.pl:Nat)] 247)=U:=⟨_,rfl⟩;have ad:Bl wr U:=by rw[<-ao];exact(Qq _ _).alloc (Qn _) _
    have V:U.heap[wr.heap.size]?=some (oD x.op x.n (jJ ins x) (x.pl:Nat)):=by rw[<-ao];exact Qp wr _
    have ap:=G.below' ad;have aq:=aj.only (cI.of_below (F:=λ_=>False) ad) (λ_ _ h=>h)
    have Y:Bl w U:=I.trans (ad.mono I.size);have aC:=bc.out;have aJ:=aC.below aC.pos Y;have bq:st.length<=24:=by rw[au.st];simpa [xT] using t4
    have bg:c.length<=256:=by have:=au.len;omega
    have W1:=Eh (w:=U.drew) x.op x.n (jJ ins x) (x.pl:Nat) aJ aq.drew (by omega) bg (by have:=ak.op;omega) aH
    have aK:B5 E q wr x ins U:=by
     have A:=λj=>Qm U _ j _ _ _ V
     exact⟨by rw[Y.cell (p:=⟨E,2,none⟩) (be HM.out.blk)];exact p2,A 0,A 1,A 2,A 3⟩
    have aP:=Hi ao;have aZ:Cq U w.heap.size i (Pq p):=by rw[<-ao];exact ai _
    unfold fG at W1;rw[jw,hk] at Z;simp only[] at Z;cases aw:eo x.op x.n.toNat k with
    |none=>
     rw[aw] at av Z;have am:=av;rw[am] at W1;have ax:Hid (R=false):=Z;have aQ:Hid (∀z,cI (eF p vs vc) U z->Bl w z):=λz h2=>Y.trans (h2.below Y.size (λb _ hb=>ap.low b (by rw[hO b hb];omega)))
     have KP:Hid (∀z,cI (eF p vs vc) U z->(B5 E q wr x ins z)):=λz h2=>by
      have a0:=(h2.block _ (be V) (λhf=>by have:=aj.lt hf;omega)).trans V
      have A:=λj=>Qm z _ j _ _ _ a0
      exact⟨by rw[(aQ.out z h2).cell (p:=⟨E,2,none⟩) (be HM.out.blk)];exact p2,A 0,A 1,A 2,A 3⟩
     clear G an I Z ag ah ae aB aG HI hk aj au hO t1 t2 t3 t4 ak aH aI av am ad V ap aq Y aC aJ aw;clear ao;go_wp2;rw[aP.out];refine wp_region_held_drew (S:=λz=>B5 E q wr x ins z) (by kernel_rfl) aK (λhHeld=>?_)
     refine wpAnyH_take (i:=0) (v:= .agg #[Iq (x.op:Nat),Iq x.n,Iq (jJ ins x),Iq (x.pl:Nat)]) rfl (by kernel_rfl) (by kernel_rfl) (by kernel_rfl) (λ_ _ _ h=>h) (Or.inl ⟨by rfl,λw D=>?_⟩) hHeld ?_
     ·dsimp only at D;obtain⟨s0,s1,s2,s3,s4⟩:=D;go_simp
     simp only[Rb,Q5,Q6,Act.put,QR,Ri,Rj];refine wpAnyH_take (i:=1) (v:= Pq p) rfl (by kernel_rfl) (by kernel_rfl) (by kernel_rfl) (λ_ _ _ h=>h) (Or.inl ⟨by rfl,λw D=>?_⟩) hHeld ?_
     ·dsimp only at D;obtain⟨s0,s1,s2,s3,s4⟩:=D;go_simp
     simp only[Rb,Q5,Q6,Act.put,QR,Ri,Rj];refine wpAnyH_ready (rs:=[2]) (by kernel_rfl) (by simp) ?_
     refine AllReadyH.cons rfl (λK hK=>?_) AllReadyH.nil
     go_simp;apply W1.mono;rintro e z ⟨rfl,aa⟩;dsimp only;clear hHeld;refine hK.out _ _ (KP.out _ aa.of_drew) (λhHeld=>?_)
     have HU:=Hi (aQ.out z aa.of_drew);clear aa KP hK;refine wpAnyH_take (i:=3) (v:= .bool true) rfl (by kernel_rfl) (by kernel_rfl) (by kernel_rfl) (λ_ _ _ h=>h) (Or.inl ⟨by rfl,λw D=>?_⟩) hHeld ?_
     ·dsimp only at D;obtain⟨s0,s1,s2,s3,s4⟩:=D;go_simp
     simp only[Rb,Q5,Q6,Act.put,QR,Ri,Rj];refine wpAnyH_take (i:=4) (v:= .bool true) rfl (by kernel_rfl) (by kernel_rfl) (by kernel_rfl) (λ_ _ _ h=>h) (Or.inl ⟨by rfl,λw D=>?_⟩) hHeld ?_
     ·dsimp only at D;obtain⟨s0,s1,s2,s3,s4⟩:=D;go_simp
     simp only[Rb,Q5,Q6,Act.put,QR,Ri,Rj];refine wpAnyH_take (i:=5) (v:=undef) rfl (by kernel_rfl) (by kernel_rfl) (by kernel_rfl) (λ_ _ _ h=>h) (Or.inr ⟨by rfl,rfl⟩) hHeld ?_
     simp only[Rb,Q5,Q6,Act.put,QR,Ri,Rj];refine wpAnyH_take (i:=6) (v:=undef) rfl (by kernel_rfl) (by kernel_rfl) (by kernel_rfl) (λ_ _ _ h=>h) (Or.inr ⟨by rfl,rfl⟩) hHeld ?_
     simp only[Rb,Q5,Q6,Act.put,QR,Ri,Rj];refine wpAnyH_take (i:=7) (v:=undef) rfl (by kernel_rfl) (by kernel_rfl) (by kernel_rfl) (λ_ _ _ h=>h) (Or.inr ⟨by rfl,rfl⟩) hHeld ?_
     simp only[Rb,Q5,Q6,Act.put,QR,Ri,Rj];refine wpAnyH_take (i:=8) (v:=undef) rfl (by kernel_rfl) (by kernel_rfl) (by kernel_rfl) (λ_ _ _ h=>h) (Or.inr ⟨by rfl,rfl⟩) hHeld ?_
     simp only[Rb,Q5,Q6,Act.put,QR,Ri,Rj];refine wpAnyH_take (i:=9) (v:=undef) rfl (by kernel_rfl) (by kernel_rfl) (by kernel_rfl) (λ_ _ _ h=>h) (Or.inr ⟨by rfl,rfl⟩) hHeld ?_
     simp only[Rb,Q5,Q6,Act.put,QR,Ri,Rj];refine wpAnyH_take (i:=10) (v:=undef) rfl (by kernel_rfl) (by kernel_rfl) (by kernel_rfl) (λ_ _ _ h=>h) (Or.inr ⟨by rfl,rfl⟩) hHeld ?_
     simp only[Rb,Q5,Q6,Act.put,QR,Ri,Rj];refine wpAnyH_take (i:=11) (v:=undef) rfl (by kernel_rfl) (by kernel_rfl) (by kernel_rfl) (λ_ _ _ h=>h) (Or.inr ⟨by rfl,rfl⟩) hHeld ?_
     simp only[Rb,Q5,Q6,Act.put,QR,Ri,Rj];refine wpAnyH_take (i:=12) (v:=undef) rfl (by kernel_rfl) (by kernel_rfl) (by kernel_rfl) (λ_ _ _ h=>h) (Or.inr ⟨by rfl,rfl⟩) hHeld ?_
     simp only[Rb,Q5,Q6,Act.put,QR,Ri,Rj];refine wpAnyH_take (i:=13) (v:=undef) rfl (by kernel_rfl) (by kernel_rfl) (by kernel_rfl) (λ_ _ _ h=>h) (Or.inr ⟨by rfl,rfl⟩) hHeld ?_
     simp only[Rb,Q5,Q6,Act.put,QR,Ri,Rj];refine wpAnyH_take (i:=14) (v:= .bool true) rfl (by kernel_rfl) (by kernel_rfl) (by kernel_rfl) (λ_ _ _ h=>h) (Or.inl ⟨by rfl,λw D=>?_⟩) hHeld ?_
     ·dsimp only at D;obtain⟨s0,s1,s2,s3,s4⟩:=D;go_simp
     simp only[Rb,Q5,Q6,Act.put,QR,Ri,Rj];refine wpAnyH_done (by kernel_rfl) ?_ _
     go_wp2;go_ret;exact⟨by rw[ax.out];rfl,HU.out⟩
    |some k'=>
     rw[aw] at av Z;obtain⟨st',c',am,ay⟩:=av;rw[am] at W1;simp only[] at Z;obtain⟨y1,y2,y3⟩:=BY ak.op t1 t2 aw;have aD:Hid (∀z,cW U z p vs vc st' c'-> ∃O' J ab,fq z w.heap.size w.heap.size (i+1) O' come/\eQ z p J ab st' c'/\(∀b,eF p J ab b->O' b=i+1)/\(∀b,z.heap.size<=b->O' b=0)/\Bl w z/\z.heap[wr.heap.size]?=some (oD x.op x.n (jJ ins x) (x.pl:Nat))/\z.cell? ⟨E,2,none⟩=some (Iq q)):=λz h2=>by
      obtain⟨O',J,ab,z1,z2,z3,z4,z5⟩:=ap.change hO h2;have aR:=Y.trans z5;exact⟨O',J,ab,z1,z2,z3,z4,aR,(h2.only.block _ (be V) (λhf=>by have:=aj.lt hf;omega)).trans V,by rw[aR.cell (p:=⟨E,2,none⟩) (be HM.out.blk)];exact p2⟩
     have aS:st'.length=k'.st.length:=by rw[ay.st];simp[xT]
     have KP:Hid (∀z,cW U z p vs vc st' c'->(B5 E q wr x ins z)):=λz h2=>by
      obtain⟨O',J,ab,z1,z2,z3,z4,z5,z6,z7⟩:=aD.out z h2;have A:=λj=>Qm z _ j _ _ _ z6
      exact⟨z7,A 0,A 1,A 2,A 3⟩
     have W2:∀W,cW U W p vs vc st' c'->Calls prog 189 #[Pq p] W λe w'=>e= .returned (Iq (k'.st.length:Nat))/\w'=W:=λW h=>by
      obtain⟨J,ab,z2,_,_⟩:=h;rw[<-aS];exact BQ (v:=J) z2.blk rfl z2.st
     clear G I ah ae aB HI hk aj au hO t1 t2 t4 ak aH aI am ad V ap aq Y aC aJ aw;clear ao;have HR:=Hi Z;clear Z;go_wp2;rw[aP.out];go_region_held3 (B5 E q wr x ins) (first|with_reducible exact KP.out _ (by assumption)|with_reducible assumption|exact aK)
      (first
       |(go_at_call 188;refine W1.mono ?_;rintro e z ⟨rfl,aa⟩;replace aa:=aa.of_drew)
       |(go_at_call 189;refine(W2 _ (by assumption)).mono ?_;rintro e w3 ⟨rfl,rfl⟩))
     rename_i hHeld;obtain⟨O',J,ab,z1,z2,z3,z4,z5,z6,z7⟩:=aD.out w3 aa;by_cases az:q<k'.st.length
     ·have bh:(q:Int)<(k'.st.length:Int):=by omega
      have ax:Hid (R=false):=HR.out.trans (Qo az);have HU:=Hi z5;clear hHeld aa KP aD W1 W2 z1 z2 z3 z4 z5 z6 z7;go_wp2;go_ret;exact⟨by rw[ax.out];rfl,HU.out⟩
     have bh: ¬((q:Int)<(k'.st.length:Int)):=by omega
     have aT:=Hi (HR.out.trans (Qj az));have bi:Hid (jV k'.st/\sN k'.cl/\k'.cl.length=cr b 2/\k'.st.length<=24):=⟨y1,y2,by omega,by omega⟩
     obtain⟨s0,s1,s2,s3,s4⟩:=hHeld;have W3:=Ei x.op x.n (jJ ins x) (x.pl:Nat) i (by omega) w3
     unfold fG at W3;have aU:Hid (∀w4 v,IR w4 3 v (yN x.op (jJ ins x) i)->Bl w3 w4->(∀b,v.ownBlock=some b->w3.heap.size<=b)->Nw w w4 (cr b 2) ins i p J ab st' c' v (yN x.op (jJ ins x) i) k' come (ff ins i x) 0 O' come):=λw4 v h1 h2 h3=>
      ⟨z1.below' h2,an,z2.only (cI.of_below (F:=λ_=>False) h2) (λ_ _ h=>h),z3,h1,λb hb=>z4 b (h3 b hb),z5.trans (h2.mono z5.size),rfl,ag⟩
     have bj:=Hi ay;clear aa KP aD W1 W2 z1 z2 z3 z4 z5 z6 z7 ay ag an y1 y2 y3 af ai aZ aK az aS;have bt:(yN x.op (jJ ins x) i).length<=2:=by unfold yN;(repeat' split)<;>simp
     generalize yN x.op (jJ ins x) i=L at*;go_wp2_with (
      go_at_call 190;apply W3.mono;rintro e w4 ⟨⟨v,rfl,aA,aV⟩,aW⟩;obtain⟨la,a8,rfl⟩:=aA.sl;have HJ:=Hi (aU.out w4 _ aA aW aV);clear aA aV aW W3 aU s0 s1 s2 s3 s4)
     go_loopw [54] (λmv wi=> ∃m:Nat,m<=L.length/\mv= Iq m/\Hid (∃O2 ar,Nw w wi (cr b 2) ins i p J ab st' c' (.slice la L.length a8) L k' come (ff ins i x) m O2 ar)) (λmv _=>L.length - (intOf mv).toNat)
     case atStart=>exact⟨0,QA _,rfl,_,_,HJ.out⟩
     case round=>
      obtain⟨m,hm,rfl,HK⟩:=hrel;obtain⟨O2,ar,hI⟩:=HK.out;obtain⟨g1,g2⟩:=aG.out;by_cases bk:m<L.length
      ·obtain⟨lb,bu,e1,_⟩:=hI.row.form (by omega)
       simp at e1;obtain⟨rfl,rfl⟩:=e1;have bl:=hI.row.cell bk;have W4:=hI.come (cap:=n) bj.out bi.out (by omega) (by omega) (by have:=HL.out;omega) (g2 m (by omega))
       rw[HL.out] at W4;have bv:(0:Int)<=(m:Int)/\(m:Int)<(L.length:Int):=by omega
       clear hI g1 g2 HK HJ;generalize L.getD m 0=y at*;have aX:Hid (m+1<=L.length):=by show _<=_;omega
       go_wp2_with fail;apply W4.mono;rintro e w5 ⟨r,rfl,aL,aM,aN⟩;clear W4 bl;cases r with
       |false=>
        have ax:Hid (R=false):=by
         show R=false;rw[aT.out,aN rfl]
        have bm:=Hi aL;clear aL aM aN;go_wp2;go_ret;exact⟨by rw[ax.out];rfl,bm.out⟩
       |true=>
        have bo:=Hi (aM rfl);clear aL aM aN;go_wp2;go_roundw
        case rel=>exact⟨m+1,aX.out,by go_num,bo.out⟩
        case measure=>have:=aX.out;simp[intOf];omega
      have br:m=L.length:=by omega
      have bp:Hid (MF w wr (cr b 2) ins q (i+1) R):=by
       refine⟨O2,ar,hI.at_,hI.len,hI.bel,?_,hI.typ⟩;have aY:=hI.bri;rw[QG (by omega)] at aY
       rw[aT.out,aY];rfl
      clear hI g1 g2 HK HJ;go_wp2;exact⟨⟨i+1,by omega,by go_num,bp.out⟩,by simp[intOf];omega⟩
  have HE:Hid (R=true):=by
   show _=_;rw[Z,QG (by rw[HL.out];omega)];rfl
  have HB:=Hi I;clear G an I Z ag HI;go_wp2;go_ret;exact⟨by rw[HE.out];rfl,HB.out⟩
def dq (z:Nat):Nat:=if z=1 then 8 else if z=15\/z=16 then 2 else if 2<=z/\z<=6\/z=17\/z=18 then 1 else 0
theorem pF {z:Nat} (h:cG z≠0):cG z=1+dq z:=by
 obtain⟨D,E⟩:=zD h;have e:z=1\/z=2\/z=3\/z=4\/z=5\/z=6\/z=7\/z=8\/z=9\/z=10\/z=11\/z=12\/z=13\/z=14\/z=15\/z=16\/z=17\/z=18:=by omega
 rcases e with rfl|rfl|rfl|rfl|rfl|rfl|rfl|rfl|rfl|rfl|rfl|rfl|rfl|rfl|rfl|rfl|rfl|rfl<;>rfl
theorem lW (z:Nat):dq z<=8:=by unfold dq;(repeat' split)<;>omega
theorem qQ (z:Nat) (w):Calls prog 141 #[Iq z] w λe w'=>e= .returned (Iq (dq z:Nat))/\w'=w:=by
 go_enter func141,ntmps141
 go_wp2
 all_goals go_ret
 all_goals refine⟨da ?_,rfl⟩
 all_goals (simp only[Td,Sh,ne_eq] at*;unfold dq;repeat' split)<;>first|rfl|omega
theorem qo (z) (n D pl:Int) (w):Calls prog 139 #[fG z n D pl] w λe w'=>e= .returned (Iq (1+dq z:Nat))/\Below w.heap.size w w':=by
 have E:=λw=>qQ z w
 have I:=lW z;generalize dq z=f at*;unfold fG;have G:Hid (∀o,Below w.heap.size w (w.alloc o)):=λo=>(Qq _ _).alloc (Qn _) _
 go_enter func139,ntmps139
 go_wp2_with (
  go_at_call 141
  apply(E _).mono;rintro e w' ⟨rfl,rfl⟩)
 go_ret;refine⟨da ?_,G.out _⟩
 go_num
theorem yO (z:Nat) (n J pl) (w:World):Calls prog 138 #[fG z n J pl] w λe w'=>e= .returned (.bool (decide (z=15\/z=16)))/\Below w.heap.size w w':=by
 unfold fG;have G:Hid (∀o,Below w.heap.size w (w.alloc o)):=λo=>(Qq _ _).alloc (Qn _) _
 by_cases D:z=16
 ·subst D
  go_enter func138,ntmps138
  go_wp2
  go_ret;exact⟨rfl,G.out _⟩
 ·by_cases E:z=15
  ·subst E
   go_enter func138,ntmps138
   go_wp2
   go_ret;exact⟨rfl,G.out _⟩
  ·have I:decide (z=15\/z=16)=false:=by simp[E,D]
   rw[I];have O:((z:Int)==16)=false:=by simp;omega
   have R:((z:Int)==15)=false:=by simp;omega
   go_enter func138,ntmps138
   go_wp2
   go_ret;exact⟨rfl,G.out _⟩
theorem ry (l:List UInt8) (i:Nat) (h:i<(ByteArray.mk l.toArray).size):((ByteArray.mk l.toArray)[i]).toNat=cr l i:=by
 have z:=h
 show(l.toArray[i]).toNat=_
 unfold cr;rw[Qi,Ql z];rfl
theorem MG {V c:Nat} (U:V<72057594037927936) (Y:c<256):bits .or .i64 (IntKind.i64.wrap (V*2^8)) (c:Int)=fe (V*256+c):=by
 unfold bits;simp only[];have J:(BitVec.ofInt IntKind.i64.bits (IntKind.i64.wrap ((V:Int)*2^8))).toNat=V*256:=by
  rw[BitVec.toNat_ofInt,Q0];simp only[IntKind.bits];omega
 have O:(BitVec.ofInt IntKind.i64.bits (c:Int)).toNat=c:=by rw[BitVec.toNat_ofInt];simp only[IntKind.bits];omega
 have R:V*256|||c=V*256+c:=by
  have:=Nat.shiftLeft_add_eq_or_of_lt (i:=8) (b:=c) (by omega) V
  rw[Nat.shiftLeft_eq] at this;exact this.symm
 rw[BitVec.toNat_or,J,O,R,Q0];unfold fe
 split<;>omega
theorem B6 (l:List UInt8) (hl:l.length<=8) (w:World):Calls prog 185 #[S l] w λe w'=>e= .returned (Iq (fe (fb l 0 l.length)))/\w'=w:=by
 have Y:Hid (∀k,k<l.length->fb l 0 k<72057594037927936/\fb l 0 (k+1)=fb l 0 k*256+cr l k):=λk Z=>by
  refine⟨?_,by rw[fb,QO]⟩
  have I:=ph l 0 k;have E:256^k<=256^7:=R7 (by decide) (by omega)
  omega
 go_enter func185,ntmps185;go_wp2
 go_loop [3,7] (λnv G=> ∃k:Nat,k<=l.length/\G= Iq k/\nv= Iq (fe (fb l 0 k))) (λ_ G=>l.length - (intOf G).toNat)
 case atStart=>exact⟨0,QA _,rfl,rfl⟩
 case round=>
  obtain⟨k,Z,rfl,rfl⟩:=hrel
  by_cases z:k<l.length
  ·obtain⟨I,E⟩:=Y.out k z
   have J:fe (fb l 0 k)=(fb l 0 k:Nat):=by unfold fe;rw[Qo (by omega)]
   have O:=z;have D:=ry l k O;have hc:=eS l k;have R:=Hi (MG I hc);have aa:=D;have HN:Hid (fe (fb l 0 (k+1))=fe (fb l 0 k*256+cr l k)):=by show _=_;rw[E]
   rw[J];generalize fb l 0 k=V at*;generalize cr l k=q at*
   go_wp2
   refine⟨⟨k+1,by omega,by go_num,?_⟩,by simp[intOf];omega⟩
   rw[HN.out,<-R.out]
   congr 2
   all_goals first|rfl|(simp[Q0,RowKit.wrap64])
  ·have U:k=l.length:=by omega
   subst U
   go_wp2
   go_ret;exact⟨rfl,rfl⟩
def nj (z:Nat) (n:Int) (cells:Nat):Bool:=if z=2 then decide (n<=1) else if z=3 then decide (n<=4) else if z=4 then decide (n<=8) else if z=5\/z=6 then decide (n<(cells:Int)) else decide (1<=z/\z<=18)
theorem If (z) (n Y pl) {G cells:Nat} {w:World} (O:Cq w G 0 (Iq cells)):Calls prog 186 #[Pq G,fG z n Y pl] w λe w'=>e= .returned (.bool (nj z n cells))/\Bl w w':=by
 unfold fG;have E:Hid (∀o,Bl w (w.alloc o)):=λo=>(Qq _ _).alloc (Qn _) _
 have Z:∀o,(w.alloc o).cell? ⟨G,0,none⟩=some (Iq cells):=λo=>by rw[Qz (w:=w) (a:=⟨G,0,none⟩) (Qu w o G (Qk w _ O))];exact O
 by_cases I:z=2
 ·subst I;have D:Hid (nj 2 n cells=decide (n<=1)):=rfl;generalize nj 2 n cells=R at*;go_enter func186,ntmps186;go_wp2;go_ret;exact⟨by rw[D.out];rfl,E.out _⟩
 by_cases h3:z=3
 ·subst h3;have D:Hid (nj 3 n cells=decide (n<=4)):=rfl;generalize nj 3 n cells=R at*;go_enter func186,ntmps186;go_wp2;go_ret;exact⟨by rw[D.out];rfl,E.out _⟩
 by_cases J:z=4
 ·subst J;have D:Hid (nj 4 n cells=decide (n<=8)):=rfl;generalize nj 4 n cells=R at*;go_enter func186,ntmps186;go_wp2;go_ret;exact⟨by rw[D.out];rfl,E.out _⟩
 by_cases U:z=5
 ·subst U;have D:Hid (nj 5 n cells=decide (n<cells)):=rfl;generalize nj 5 n cells=R at*;go_enter func186,ntmps186;go_wp2
  first|go_region|skip
  go_wp2;go_ret;exact⟨by rw[D.out];rfl,(E.out _).drew⟩
 by_cases V:z=6
 ·subst V;have D:Hid (nj 6 n cells=decide (n<cells)):=rfl;generalize nj 6 n cells=R at*;go_enter func186,ntmps186;go_wp2
  first|go_region|skip
  go_wp2;go_ret;exact⟨by rw[D.out];rfl,(E.out _).drew⟩
 have D:Hid (nj z n cells=decide (1<=z/\z<=18)):=by show _=_;unfold nj;rw[Qj I,Qj h3,Qj J,Qj (by omega)]
 generalize nj z n cells=R at*;have b2:(z==2)=false:=by simp;omega
 have b3:(z==3)=false:=by simp;omega
 have b4:(z==4)=false:=by simp;omega
 have b5:(z==5)=false:=by simp;omega
 have b6:(z==6)=false:=by simp;omega
 by_cases h1:1<=z
 ·have aa:1<=z:=by omega
  go_enter func186,ntmps186;go_wp2;go_ret;refine⟨iG ?_,E.out _⟩;rw[D.out];apply S5.2;omega
 obtain rfl:z=0:=by omega
 go_enter func186,ntmps186;go_wp2;go_ret;exact⟨by rw[D.out];rfl,E.out _⟩
theorem K0 (b:LB) (p q i:Nat) (h:p+i<q):cr (cut b p q) i=cr b (p+i):=by
 unfold cr cut;rw[Qi,Qi,Rv (by omega),SV]
theorem K1 (b:LB) (p q:Nat):∀n,p+n<=q->fb (cut b p q) 0 n=fb b p n
 |0,_=>rfl
 |n+1,h=>by rw[fb,fb,K1 b p q n (by omega),QO,K0 b p q n (by omega)]
def uI (b:List UInt8) (a:Nat):Int:=fe (fb b (a+1) (dq (cr b a)))
def K2 (b:List UInt8) (a:Nat):Prop:=cG (cr b a)≠0/\a+cG (cr b a)<=b.length/\(cG (cr b a)=2->(cr b (a+1):Int)<=dE (cr b a) (cr b 2))
def MH (b:List UInt8) (a:Nat):Decidable (K2 b a):=by unfold K2;infer_instance
theorem B7 {f:Nat} {b:LB} {a:Nat} (h:a<b.length):qM (f+1) b a=@ite _ (K2 b a) (MH b a) ((qM f b (a+cG (cr b a))).map (vP b a:: ·)) none:=by
 rw[qM,Qj (by omega)];rfl
theorem Oe {z:Nat} {cells:Nat} (h:nj z n cells=true):1<=z/\z<=18:=by
 unfold nj at h;by_cases D:z=2
 ·omega
 rw[Qj D] at h;by_cases h3:z=3
 ·omega
 rw[Qj h3] at h;by_cases E:z=4
 ·omega
 rw[Qj E] at h;by_cases G:z=5\/z=6
 ·omega
 rw[Qj G] at h;simpa using h
theorem K3 {z:Nat} (h:1<=z/\z<=18):cG z≠0:=by
 have e:z=1\/z=2\/z=3\/z=4\/z=5\/z=6\/z=7\/z=8\/z=9\/z=10\/z=11\/z=12\/z=13\/z=14\/z=15\/z=16\/z=17\/z=18:=by omega
 rcases e with rfl|rfl|rfl|rfl|rfl|rfl|rfl|rfl|rfl|rfl|rfl|rfl|rfl|rfl|rfl|rfl|rfl|rfl<;>decide
theorem sD {n:Nat} (h:n<9223372036854775808):fe n=n:=by unfold fe;rw[Qo h]
theorem MI {b:LB} {a:Nat} (h:dq (cr b a)=1):uI b a=(cr b (a+1):Nat):=by
 unfold uI;rw[h];have z:=eS b (a+1);have e:fb b (a+1) 1=cr b (a+1):=by simp[fb]
 rw[e,sD (by omega)]
theorem El {b:LB} {a:Nat} (h:b.length<a+1+dq (cr b a)): ¬K2 b a:=λ⟨z,D,_⟩=>by
 rw[pF z] at D;omega
theorem MJ {b:LB} {a:Nat} (h:a+1+dq (cr b a)<=b.length):nj (cr b a) (uI b a) (cr b 2)=true↔K2 b a:=by
 have E:cr b a=2\/cr b a=3\/cr b a=4\/cr b a=5\/cr b a=6->uI b a=(cr b (a+1)):=λe=>MI (by rcases e with e|e|e|e|e<;>rw[e]<;>rfl)
 constructor
 ·intro z;have U:=Oe z;have R:=K3 U;refine⟨R,by rw[pF R];omega,λD=>?_⟩
  unfold nj at z;unfold dE;by_cases I:cr b a=2
  ·rw[Qo I] at z⊢;rw[E (by omega)] at z;simpa using z
  rw[Qj I] at z⊢;by_cases J:cr b a=3
  ·rw[Qo J] at z⊢;rw[E (by omega)] at z;simpa using z
  rw[Qj J] at z⊢;by_cases O:cr b a=4
  ·rw[Qo O] at z⊢;rw[E (by omega)] at z;simpa using z
  rw[Qj O] at z⊢;by_cases G:cr b a=5\/cr b a=6
  ·rw[Qo G] at z⊢;rw[E (by omega)] at z
   have:=Tx z;omega
  rw[Qj G];have:=eS b (a+1);omega
 rintro⟨R,_,D⟩;have U:=zD R;unfold nj;unfold dE at D;by_cases I:cr b a=2
 ·rw[Qo I] at D⊢;rw[E (by omega)];have:=D (by rw[I];rfl);simpa using this
 rw[Qj I] at D⊢;by_cases J:cr b a=3
 ·rw[Qo J] at D⊢;rw[E (by omega)];have:=D (by rw[J];rfl);simpa using this
 rw[Qj J] at D⊢;by_cases O:cr b a=4
 ·rw[Qo O] at D⊢;rw[E (by omega)];have:=D (by rw[O];rfl);simpa using this
 rw[Qj O] at D⊢;by_cases G:cr b a=5\/cr b a=6
 ·rw[Qo G] at D⊢;rw[E (by omega)]
  have:=D (by rcases G with G|G<;>rw[G]<;>rfl)
  exact QZ (by omega)
 rw[Qj G];exact QZ U
theorem B8 {b:LB} {a:Nat} (h:K2 b a):vP b a=⟨cr b a,uI b a,a⟩/\cG (cr b a)=1+dq (cr b a):=by
 have D:=pF h.1;refine⟨?_,D⟩;have e:nI b (cr b a) a=uI b a:=by
  unfold nI uI;by_cases z:cr b a=1
  ·rw[Qo z,z];rfl
  rw[Qj z,D,show 1+dq (cr b a) - 1=dq (cr b a) by omega]
  have E:dq (cr b a)<=2:=by unfold dq;rw[Qj z];(repeat' split)<;>omega
  have G:=ph b (a+1) (dq (cr b a));have h3:256^dq (cr b a)<=256^2:=R7 (by decide) E
  rw[sD (by omega)]
 unfold vP;rw[e]
theorem Ig (x:Int) (w:World):Calls prog 271 #[Iq x] w λe w'=>e= .returned (.bool false)/\w'=w:=by
 go_enter func271,ntmps271;go_wp2;go_ret;exact⟨by simp,rfl⟩
def mF (x y:Int):Int:=if x<y then -1 else if y<x then 1 else 0
theorem B9 (x y:Int) (w:World):Calls prog 257 #[Iq x,Iq y] w λe w'=>e= .returned (Iq (mF x y))/\w'=w:=by
 have D:=λx w=>Ig x w
 by_cases E:x<y
 ·have z:Hid (mF x y= -1):=Qo E;generalize mF x y=R at*;go_enter func257,ntmps257;go_wp2_with (
   go_at_call 271;apply(D _ _).mono;rintro e w' ⟨rfl,rfl⟩)
  go_ret;exact⟨by rw[z.out];rfl,rfl⟩
 by_cases G:y<x
 ·have z:Hid (mF x y=1):=by show _=_;unfold mF;rw[Qj E,Qo G]
  generalize mF x y=R at*;go_enter func257,ntmps257;go_wp2_with (
   go_at_call 271;apply(D _ _).mono;rintro e w' ⟨rfl,rfl⟩)
  go_ret;exact⟨by rw[z.out];rfl,rfl⟩
 have z:Hid (mF x y=0):=by show _=_;unfold mF;rw[Qj E,Qj G]
 generalize mF x y=R at*;go_enter func257,ntmps257;go_wp2_with (
  go_at_call 271;apply(D _ _).mono;rintro e w' ⟨rfl,rfl⟩)
 go_ret;exact⟨by rw[z.out];rfl,rfl⟩
theorem K4 (z n D pl t:Int) (w:World):Calls prog 256 #[.agg #[Iq z,Iq n,Iq D,Iq pl],Iq t] w λe w'=>e= .returned (Iq (mF pl t))/\Bl w w':=by
 have E:=λw=>B9 pl t w
 generalize mF pl t=R at*;have G:Hid (∀o,Bl w (w.alloc o)):=λo=>(Qq _ _).alloc (Qn _) _
 go_enter func256,ntmps256;go_wp2_with (
  go_at_call 257;apply(E _).mono;rintro e w' ⟨rfl,rfl⟩)
 go_ret;exact⟨rfl,G.out _⟩
structure uJ (w:World) (gi n) (fo fn ft fp:Nat->Int):Prop where
 op:∀i,i<n->w.cell? ⟨gi,i*4,none⟩=some (Iq (fo i))
 num:∀i,i<n->w.cell? ⟨gi,i*4+1,none⟩=some (Iq (fn i))
 tos:∀i,i<n->w.cell? ⟨gi,i*4+2,none⟩=some (Iq (ft i))
 pls:∀i,i<n->w.cell? ⟨gi,i*4+3,none⟩=some (Iq (fp i))
theorem uJ.below (h:uJ w D n G I J O) (R:Bl w w'):uJ w' D n G I J O:=by
 have E:∀{o:Nat} {v:Value},w.cell? ⟨D,o,none⟩=some v->w'.cell? ⟨D,o,none⟩=some v:=λ{o v} e=>by
  rw[R.cell (Qk w _ e)];exact e
 exact⟨λi z=>E (h.op i z),λi z=>E (h.num i z),λi z=>E (h.tos i z),λi z=>E (h.pls i z)⟩
def nO (n:Nat) (z:Nat->Int) (t:Int) (e:Ending):Prop:= ∃i:Nat,i<=n/\e= .returned (.tuple #[Iq i,.bool (decide (i<n/\z i=t))])/\(∀j,j<i->z j<t)/\ ∀j,i<=j->j<n->t<=z j
theorem Em {cap} {w:World} (h:uJ w gi n fo fn ft D) (hn:n<=5000) (hs:∀i j,i<j->j<n->D i<D j):
 Calls prog 255 #[Sq gi n cap,Iq t,.func (.func 256) #[] #[]] w λe w'=>nO n D t e/\Bl w w':=by
 have H:=Hi h;have HS:=Hi hs;have U:=λop n tj pl w=>K4 op n tj pl t w
 clear h hs;go_enter func255,ntmps255;go_wp2;go_loopw [9,10] (λiv jv wr=> ∃i j,i<=j/\j<=n/\iv= Iq i/\jv= Iq j/\Hid (∀q,q<i->D q<t)/\Hid (∀q,j<=q->q<n->t<=D q)/\Hid (Bl w wr)) (λiv jv _=>(intOf jv).toNat - (intOf iv).toNat)
 case atStart=>exact⟨0,n,QA _,Qn _,rfl,rfl,λq hq=>by omega,λq h1 h2=>by omega,Qq _ _⟩
 case round=>
  obtain⟨i,j,ae,aa,rfl,rfl,ab,ac,V⟩:=hrel;have E:=H.out.below V.out;by_cases af:i<j
  ·obtain⟨m,hm⟩:∃m,m=(i+j) / 2:=⟨_,rfl⟩;have ag:i<=m/\m<j:=by omega
   have c0:=E.op m (by omega)
   have c1:=E.num m (by omega)
   have c2:=E.tos m (by omega)
   have c3:=E.pls m (by omega)
   have ah:0<=m/\m<(n:Int):=by omega
   have ai:((i:Int)+j) / 2=m:=by omega
   clear E hm;go_wp2_with fail;apply(U _ _ _ _ _).mono;rintro e w2 ⟨rfl,I⟩;have R:Hid (Below w.heap.size w w2):=V.out.trans (I.mono V.out.size);by_cases G:D m<t
   ·have J:mF (D m) t= -1:=Qo G;rw[J];have Z:=Hi G;clear I G J U c0 c1 c2 c3;go_wp2;go_roundw
    case rel=>
     refine⟨m+1,j,by omega,aa,by go_num,rfl,λq hq=>?_,ac.out,R.out⟩
     by_cases e:q=m
     ·subst e;exact Z.out
     have:=HS.out q m (by omega) (by omega);have:=Z.out;omega
    case measure=>simp[intOf];omega
   have J:0<=mF (D m) t:=by unfold mF;rw[Qj G];split<;>omega
   have ad: ¬(mF (D m) t<0):=by omega
   generalize mF (D m) t=z at*;have Z:=Hi G;clear I G U c0 c1 c2 c3;go_wp2;go_roundw
   case rel=>
    refine⟨i,m,by omega,by omega,rfl,rfl,ab.out,λq h1 h2=>?_,R.out⟩
    have G:=Z.out;by_cases e:q=m
    ·subst e;omega
    have:=HS.out m q (by omega) h2;omega
   case measure=>simp[intOf];omega
  obtain rfl:i=j:=by omega
  have HA:Hid (∀r,r=decide (i<n/\D i=t)->nO n D t (.returned (.tuple #[Iq i,.bool r]))):=λr E=>⟨i,aa,by rw[E],ab.out,ac.out⟩
  by_cases O:i<n
  ·have c0:=E.op i O;have c1:=E.num i O;have c2:=E.tos i O;have c3:=E.pls i O;have aj:0<=i/\i<n:=by omega
   clear E;go_wp2_with fail;apply(U _ _ _ _ _).mono;rintro e w2 ⟨rfl,I⟩;have R:Hid (Bl w w2):=V.out.trans (I.mono V.out.size);by_cases G:D i=t
   ·have J:mF (D i) t=0:=by unfold mF;rw[Qj (by omega),Qj (by omega)]
    rw[J];have Y:Hid (true=decide (i<n/\D i=t)):=(QZ ⟨O,G⟩).symm;clear I G J U c0 c1 c2 c3;go_wp2;go_ret2;exact⟨HA.out _ Y.out,R.out⟩
   have J:(mF (D i) t==0)=false:=by
    have:mF (D i) t≠0:=by unfold mF;split<;>first|omega|(split<;>omega)
    simpa using this
   have Y:Hid (false=decide (i<n/\D i=t)):=(QM (λh=>G h.2)).symm
   generalize mF (D i) t=z at*;clear I G U c0 c1 c2 c3;go_wp2;go_ret2;exact⟨HA.out _ Y.out,R.out⟩
  have Y:Hid (false=decide (i<n/\D i=t)):=(QM (λh=>O h.1)).symm
  clear E;go_wp2;go_ret2;exact⟨HA.out _ Y.out,V.out⟩
theorem xU {cap} (hc:Cq w D 1 (Sq E n cap)) (h:uJ w E n U V Y z) (Z:n<=5000) (G:∀i j,i<j->j<n->z i<z j):
 Calls prog 230 #[Pq D,Iq t] w λe w'=>nO n z t e/\Bl w w':=by
 have I:=Em (cap:=cap) (t:=t) h Z G;go_enter func230,ntmps230;go_wp2_with fail;apply I.mono;rintro e w2 ⟨⟨i,hi,rfl,J,O⟩,R⟩;have HA:Hid (nO n z t (.returned (.tuple #[Iq i,.bool (decide (i<n/\z i=t))]))/\Below w.heap.size w w2):=⟨⟨i,hi,rfl,J,O⟩,R⟩;generalize decide (i<n/\z i=t)=r at*;go_wp2;go_ret2;exact HA.out
end
end Go.Proofs.YtfkdailfcmnjlaaGreatDoor
