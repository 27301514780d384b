/-
  A part.
-/
import Derived.Test.YtfkdailfcmnjlaaGreatDoorCompiles32
import Derived.Lib.AppendZerosOnto
set_option linter.all false
set_option maxHeartbeats 40000000
set_option maxRecDepth 1000000
namespace Go.Proofs.YtfkdailfcmnjlaaGreatDoor
open Go Go.RowKit Tryz
variable {v l w D o a}
theorem pZ (k:Nat):Builtin.zeroCells (Value.int .i64 0).cells k=(List.replicate k (Value.int .i64 0)).toArray:=by
 have e:(Value.int .i64 0).cells= #[Value.int .i64 0]:=rfl;rw[e];apply Array.ext
 ·simp[Builtin.zeroCells]
 intro j z D;simp[Builtin.zeroCells,UN]
theorem xE {P} (w) (t U ty e) (i) (kq kn) (ht:P.underlying t=some (.slice e)) (V:P.underlying U=some (.int kn)) (hi:P.info? e=some i) (hz:i.zero=some (Iq 0)) (hs:i.size=1) (hb:i.bytes=8)
 (g z E) (D) (hg:w.heap[g]?=some (.cells D e (0,0))) (k:Nat) (h0:0<k) (hk:k<=100000) (G:z+k<=E) (J:z+k<=D.size):
 (Builtin.append_ #[t,U] ty #[Sq g z E,.int kq k]).run P w=
  .ok (Sq g (z+k) E) (w.setRow g (D.toList.take z++List.replicate k (Value.int .i64 0)++D.toList.drop (z+k)).toArray):=by
 have Y:k≠0:=by omega
 have hw:IntKind.i64.wrap (k:Int)=k:=by rw[Ss];omega
 have O: ¬((k:Int)<0):=by omega
 have R: ¬(281474976710656<(k:Int)*8):=by omega
 have I:=run_storeCells_at P g z e (List.replicate k (Value.int .i64 0)) 0 D w hg (by simpa using J) (λu hu=>by rw[List.eq_of_mem_replicate hu];rfl)
 simp only[Us,SH] at I;have Z:=pZ k;simp[Builtin.append_,UZ ht,UZ V,sizeOf,typeInfo,zeroValue,hi,hz,hs,hb,asInt,asIntOf,hw,O,R,Y,G,Z,Addr.add_lit,I]
theorem uu {P} (w) (t O ty e) (i) (Y kn) (ht:P.underlying t=some (.slice e)) (R:P.underlying O=some (.int kn)) (hi:P.info? e=some i) (hz:i.zero=some (Iq 0)) (hs:i.size=1) (Z:i.bytes=8)
 (h:IR w e v l) (k) (h0:0<k) (hk:l.length+k<=100000):
 ∃g cap w',(Builtin.append_ #[t,O] ty #[v,.int Y k]).run P w= .ok (Sq g (l.length+k) cap) w'/\IR w' e (Sq g (l.length+k) cap) (l++List.replicate k 0)/\w.grownBy w' v.ownBlock/\(v.ownBlock=some g\/g=w.heap.size)/\g<w'.heap.size:=by
 have z:(l++List.replicate k 0).length=l.length+k:=by simp
 have U:(l++List.replicate k 0).map (Value.int .i64)=l.map (Value.int .i64)++List.replicate k (Value.int .i64 0):=by simp
 have grown:∀D row,
  IR (w.drew.alloc (.cells ((l.map (Value.int .i64)).toArray++Builtin.zeroCells (Value.int .i64 0).cells k++Builtin.zeroCells (Value.int .i64 0).cells (grownCap w (l.length+k) D e - (l.length+k))) e)) e (Sq w.heap.size (l.length+k) (grownCap w (l.length+k) D e)) (l++List.replicate k 0)/\
  w.grownBy (w.drew.alloc (.cells ((l.map (Value.int .i64)).toArray++Builtin.zeroCells (Value.int .i64 0).cells k++Builtin.zeroCells (Value.int .i64 0).cells (grownCap w (l.length+k) D e - (l.length+k))) e)) row:=by
  intro D row;have ac:=grownCap_ge w (l.length+k) D e;have V:=grownCap_le_maxLen w (l.length+k) D e (by unfold maxLen;omega)
  refine⟨⟨by simp,.inr ⟨w.heap.size,_,_,by rw[z],R0 _,RO w.drew _,by rw[z];exact ac,V,?_,?_⟩⟩,⟨rfl,rfl,rfl,by simp,λk hk _=>RV w.drew _ k hk⟩⟩
  ·have e1:(Value.int .i64 0).cells.size=1:=rfl;simp only[Array.size_append,U3,size_zeroCells,e1,SR];omega
  rw[pZ k,U,z];simp only[Array.toList_append];exact List.take_left' (by simp)
 rcases h.2 with⟨rfl,h2⟩|⟨g,cap,aa,rfl,ad,hg,af,V,ag,I⟩
 ·have ae:l=[]:=SI h2;subst ae;have G:=Lib.run_append_nil_zeros w t O ty e i (Iq 0) Y kn ht R hi hz k h0 (by omega) (by omega) (by rw[Z];omega)
  have E:=grown 0 (Value.ownBlock (.slice none 0 0));simp only[Sx,Sw,SA,Tp,Array.empty_append] at E⊢;exact⟨_,_,_,G,E.1,E.2,.inr rfl,by simp⟩
 by_cases J:l.length+k<=cap
 ·have G:=xE w t O ty e i Y kn ht R hi hz hs Z g l.length cap aa hg k h0 (by omega) J (by omega)
  refine⟨_,_,_,G,⟨by simp,.inr ⟨g,cap,_,by rw[z],ad,setRow_heap w g aa _ e _ hg,by rw[z];exact J,V,?_,?_⟩⟩,⟨rfl,rfl,rfl,by simp,λk _ hk=>setRow_other w g k _ (λe=>hk (by simp[Value.ownBlock,e]))⟩,.inl rfl,?_⟩
  ·simp only[U3,RT,Up,U8,UO,SH];omega
  ·rw[Vi] at I;rw[I,U,z];exact List.take_left' (by simp)
  simpa using cq hg
 have ab:(Builtin.firstCells i.size l.length (Sq g l.length cap)).run P w.drew= .ok (l.map (Value.int .i64)).toArray w.drew:=by
  have G:=h;exact run_firstCells_some w.drew i.size l.length ⟨g,0,none⟩ l.length cap _ (by rw[hs];simp) (G.cells rfl)
 have G:=Lib.run_append_grow_zeros w t O ty e i (Iq 0) Y kn ht R hi hz (some ⟨g,0,none⟩) l.length cap (l.map (Value.int .i64)) ab k h0 (by omega) (by omega) (by omega) (by rw[Z];omega) (growslice_fits (by omega) (by rw[Z];omega))
 have E:=grown cap (Value.ownBlock (Sq g l.length cap));exact⟨_,_,_,G,E.1,E.2,.inr rfl,by simp⟩
theorem qS {P rest Q} (E:o.guard=none) (s x) (t z)
 (J:o.op= .call {callee:= .builtin .append,args:= #[s,x],argTypes:= #[t,z]}) (e) (i) (G kn) (O:P.underlying t=some (.slice e)) (I:P.underlying z=some (.int kn)) (R:P.info? e=some i) (U:i.zero=some (Iq 0)) (V:i.size=1) (Y:i.bytes=8)
 (k) (Z:a.eval s=v) (hx:a.eval x= .int G k) (h:IR w e v l) (h0:0<k) (hk:l.length+k<=100000)
 (hK:∀g cap w',IR w' e (Sq g (l.length+k) cap) (l++List.replicate k 0)->w.grownBy w' v.ownBlock->(v.ownBlock=some g\/g=w.heap.size)->g<w'.heap.size->wpList P D Q rest (a.put o.dst (Sq g (l.length+k) cap)) w'):wpList P D Q (o::rest) a w:=by
 obtain⟨g,cap,w',hr,h1,h2,h3,h4⟩:=uu w t z o.type e i G kn O I R U V Y h k h0 hk;exact Lib.wpList_append_run w E s x t z J v _ Z hx _ _ hr (hK g cap w' h1 h2 h3 h4)
section
attribute [local go_sem ↓] Go.wp_at_zero Go.wp_at_succ
variable {p vs vc st c cs ty G u m k q us uc z c2 w' J O R U n tw pl E I B}
theorem Fo (k:Nat) (x) (h:fk w p vs vc st c) (U:k<=255) (hc:c.length<=256):
 Calls prog 233 #[Pq p,Iq k,Iq x] w λe w'=>e= .returned (.tuple #[])/\cV w w' p vs vc st (kZ c k x):=by
 have ab:w.cell? ⟨p,1,none⟩=some vc:=by rw[RM w p 1 _ _ _ h.blk];rfl
 have ah:w.frozen? ⟨p,1,none⟩=false:=by simp[World.frozen?,h.blk]
 have ai:=cq h.blk;have I:=h.cl.ne h.blk th
 by_cases Y:k<c.length
 ·obtain⟨g,cap,rfl,Z⟩:=h.cl.form (by omega)
  have ac:=h.cl.cell Y;have aj:=h.cl.frz k;have e:kZ c k x=c.set k x:=by unfold kZ;rw[show k+1 - c.length=0 by omega];simp
  rw[e];have aa:g≠p:=λe=>I (by rw[e];rfl)
  have HA:Hid (cV w (w.setCell ⟨g,k,none⟩ (Iq x)) p vs (Sq g c.length cap) st (c.set k x)):=by
   have ho:cK (λb=>b=g) w (w.setCell ⟨g,k,none⟩ (Iq x)):=(cK.refl (λb=>b=g) w).setCell (.inl rfl) _
   refine⟨vs,Sq g c.length cap,⟨(ho.block p ai (λe=>aa e.symm)).trans h.blk,h.st.only ho (λb z e=>?_),h.cl.set Y x,h.ne⟩,ho.weak (λi _ V=>?_),λb z=> .inl z⟩
   ·subst e;exact h.ne b z rfl
   ·subst V;exact .inr (.inr rfl)
  generalize c.getD k 0=y at*;generalize c.length=n at*;go_enter func233,ntmps233
  go_wp2
  go_end0
  exact⟨rfl,HA.out⟩
 ·obtain⟨d,rfl⟩:∃d,k=c.length+d:=⟨k - c.length,by omega⟩
  have e:kZ c (c.length+d) x=(c++List.replicate (d+1) 0).set (c.length+d) x:=by unfold kZ;rw[show c.length+d+1 - c.length=d+1 by omega]
  rw[e];obtain⟨a,cap,rfl⟩:=h.cl.sl;obtain⟨i0,V,hz⟩:=Su.1 rY;simp only[Sj] at hz;obtain⟨ak,am,an⟩:=hz;have HE:=Hi e;generalize hn:c.length=n at h ab hc U Y I HE⊢;have H:=Hi h;have HN:=Hi I;have J:=Hi hn;go_enter func233,ntmps233
  go_wp2_with (
   at_builtin
   go_must (refine qS (by rfl) _ _ 219 3 (by rfl) 220 i0 .i64 .i64 underlying219 underlying3 V ak am an (d+1) (by rfl) (by simp[go_sem];omega) H.out.cl (by omega) (by rw[J.out];omega) ?_)
   rw[J.out];intro gg O D E G R av;have aa:gg≠p:=by
    intro e;rcases R with h|h
    ·exact HN.out (by rw[h,e])
    ·omega
   have ac:=E.cell (k:=n+d) (by simp[J.out])
   have aj:=E.frz (n+d);generalize ((c++List.replicate (d+1) 0).getD (n+d) 0)=y at ac;have e0:=(G.block _ (by omega) (λe=>HN.out e.symm))
   have e1:=(R1 (a:=⟨p,1,none⟩) e0).trans ab;have e2:=(SO (a:=⟨p,1,none⟩) e0).trans ah;have ao:=Hi e0;have ap:=Hi E;have ad:=Hi G
   clear e0 E G)
  go_end0
  refine⟨rfl,?_⟩;have hO:=ap.out;rw[show n+(d+1)=(c++List.replicate (d+1) (0:Int)).length by rw[RT,J.out,SH]] at hO⊢
  have h1:=hO;have aq:cK (λb=>b=p) D (D.setCell ⟨p,1,none⟩ (Sq gg (c++List.replicate (d+1) (0:Int)).length O)):=(cK.refl (λb=>b=p) D).setCell (.inl rfl) _
  have h2:=h1.only aq (λg Z=>by simp[Value.ownBlock] at Z;omega)
  have h3:=h2.set (j:=n+d) (by simp[J.out]) x
  have hE:cK (eJ p vs (.slice a n cap)) w D:=(cK.refl _ w).grown ad.out (λk U=> .inl (.inr (.inr U)))
  have ae:cK (λb=>b=p\/b=gg) D ((D.setCell ⟨p,1,none⟩ (Sq gg (c++List.replicate (d+1) (0:Int)).length O)).setCell ⟨gg,n+d,none⟩ (Iq x)):=((cK.refl (λb=>b=p\/b=gg) D).setCell (.inl (.inl rfl)) _).setCell (.inl (.inr rfl)) _
  have ar:∀i,i<w.heap.size->i=gg->eJ p vs (.slice a n cap) i:=λi V e=>by
   subst e;rcases R with h|h
   ·exact .inr (.inr h)
   ·omega
  have ag:=ao.out.trans H.out.blk;have au:IR D 220 vs st:=cO H.out.st (λk U=>ad.out.block k (H.out.st.lt k U).2 (λe=>H.out.ne k U e.symm))
  have af:vs.ownBlock≠some gg:=λe=>by
   rcases R with h|h
   ·exact H.out.ne gg e h
   ·have:=(H.out.st.lt gg e).2;omega
  refine⟨vs,Sq gg (c++List.replicate (d+1) (0:Int)).length O,⟨?_,au.only ae (λg Z e=>?_),h3,λb z e=>?_⟩,hE.trans ae (λ_ _ h=>h) (λi V h=>?_),λb z=>?_⟩
  ·rw[RQ _ _ _ _ (by simpa using λe=>aa e.symm),R3 D p 1 _ _ _ ag];rfl
  ·rcases e with e|e
   ·subst e;exact H.out.st.ne H.out.blk th Z
   ·subst e;exact af Z
  ·simp[Value.ownBlock] at e;subst e;exact af z
  ·rcases h with h|h
   ·exact .inl h
   ·exact ar i V h
  ·rcases z with z|z|z
   ·exact .inl (.inl z)
   ·exact .inl (.inr (.inl z))
   ·simp[Value.ownBlock] at z
    rcases R with h|h
    ·subst z;exact .inl (.inr (.inr h))
    ·right;omega
theorem xF (h:IR w 220 v l) (hl:l.length<=5000):
 Calls prog 259 #[v] w λe w'=> ∃z,e= .returned z/\IR w' 220 z l/\Bl w w'/\ ∀b,z.ownBlock=some b->w.heap.size<=b:=by
 rcases h.2 with⟨rfl,Y⟩|⟨g,cap,ai,rfl,Z,hg,aa,ab,ac,I⟩
 ·have ad:l=[]:=SI Y;subst ad;have D:∀w,(binOp .eql 219 (.slice none 0 0) (.slice none 0 0)).run prog w= .ok (.bool true) w:=λw=>Lib.run_eql_slice_nil w _ 220 none 0 0 0 0 underlying219
  go_enter func259,ntmps259;go_wp2;go_ret;exact⟨_,rfl,IR.nil _ _,RP _ _,λb U=>by simp[Value.ownBlock] at U⟩
 obtain⟨i0,hi,hz⟩:=Su.1 rY;simp only[Sj] at hz;obtain⟨ae,af,ag⟩:=hz;have D:∀w,(binOp .eql 219 (Sq g l.length cap) (.slice none 0 0)).run prog w= .ok (.bool false) w:=λw=>Lib.run_eql_slice_nil w _ 220 (some ⟨g,0,none⟩) l.length cap 0 0 underlying219
 have H:=Hi h;have H0:=Hi (U4 (base:=w.heap.size) (e:=220) (size:=1) w #[] 0 (RL _) (by decide) rfl)
 go_enter func259,ntmps259;go_wp2_with (
  at_builtin;go_must (refine wpList_append_own_at _ (by rfl) _ _ 219 (by rfl) w.heap.size 220 i0 (Iq 0) 1 8 underlying219 hi ae af ag (by rfl) (by decide) _ _ _ (by rfl) H0.out ⟨g,0,none⟩ l.length cap (l.map (Value.int .i64)) (by rfl) (by simp) (World.ownsRow.cells (H.out.alloc _) rfl) (λx hx=>by simp at hx;obtain⟨y,_,rfl⟩:=hx;rfl) (by unfold maxLen;omega) (by omega) (by simp) ?_)
  intro z V E G D ah;have O:=Hi E;have R:=Hi G;clear E G D)
 have J:=O.out;rw[Sw,Tp] at J;have HA:Hid (IR V 220 z l/\Bl w V/\ ∀b,z.ownBlock=some b->w.heap.size<=b):=by
  refine⟨lU J (R0 _),?_,λb U=>(J.lt b U).1⟩
  exact U6 ((RP _ w).alloc (RL _) _) R.out (by simp) (λk hk=>by simp[Value.ownBlock] at hk;omega)
 go_ret;exact⟨z,rfl,HA.out⟩
theorem C2 (J:w.heap[p]?=some (.cells cs ty (0,0))) (R:cs[0]?=some v) (h:IR w 220 v l) (hl:l.length<=5000):
 Calls prog 258 #[Pq p] w λe w'=> ∃z,e= .returned (.agg #[z])/\IR w' 220 z l/\Bl w w'/\ ∀b,z.ownBlock=some b->w.heap.size<=b:=by
 have U:w.cell? ⟨p,0,none⟩=some v:=by rw[RM w p 0 _ _ _ J];exact R
 have V:=cq J;have W1:∀W,Bl w W->Calls prog 259 #[v] W λe w'=> ∃z,e= .returned z/\IR w' 220 z l/\Bl W w'/\ ∀b,z.ownBlock=some b->W.heap.size<=b:=λW O=>xF (cH h O) hl
 obtain⟨a,cap,rfl⟩:=h.sl;have ab:∀o,(w.alloc o).cell? ⟨p,0,none⟩=some (.slice a l.length cap):=λo=>by rw[R1 (w:=w) (a:=⟨p,0,none⟩) (RV w o p V)];exact U
 go_enter func258,ntmps258;go_wp2_with (
  go_at_call 259;apply(W1 _ ((RP _ w).alloc (RL _) _)).mono;rintro e w' ⟨z,rfl,E,G,h3⟩;obtain⟨Y,I,rfl⟩:=E.sl;have D:=(G.block w.heap.size (by simp)).trans (RO w _)
  have Z:w'.cell? ⟨w.heap.size,0,none⟩=some (.slice none 0 0):=by rw[RM w' _ 0 _ _ _ D];rfl
  have ac:w'.frozen? ⟨w.heap.size,0,none⟩=false:=by simp[World.frozen?,D]
  have HA:=Hi (And.intro E (And.intro G h3));clear E G h3 D)
 refine RU (v:= .agg #[.slice Y l.length I]) (by simp[results,results258,go_sem,dc,Z]) rfl ?_
 obtain⟨E,G,h3⟩:=HA.out;rw[RW] at h3;have aa:∀g,(Value.slice Y l.length I).ownBlock=some g-> ¬(g=w.heap.size):=λg hg e=>by have:=h3 g hg;omega
 refine⟨_,rfl,E.only ((cK.refl (λb=>b=w.heap.size) w').setCell (.inl rfl) _) aa,?_,λb O=>by have:=h3 b O;omega⟩
 exact(((RP _ w).alloc (RL _) _).trans (G.mono (by simp))).setCell (by simp) _
theorem Fp (h:fk w p vs G st c) (hl:st.length<=5000) (ae:c.length<=5000):
 Calls prog 236 #[Pq p] w λe w'=> ∃p' aa ab,e= .returned (Pq p')/\fk w' p' aa ab st c/\Bl w w'/\ ∀b,eJ p' aa ab b->w.heap.size<=b:=by
 have af:w.cell? ⟨p,1,none⟩=some G:=by rw[RM w p 1 _ _ _ h.blk];rfl
 have ag:=cq h.blk;have W1:∀W,Bl w W->Calls prog 258 #[Pq p] W λe w'=> ∃O,e= .returned (.agg #[O])/\IR w' 220 O st/\Bl W w'/\ ∀b,O.ownBlock=some b->W.heap.size<=b:=λW z=>
  C2 ((z.block p ag).trans h.blk) rfl (cH h.st z) hl
 have W2:∀W,Bl w W->Calls prog 259 #[G] W λe w'=> ∃O,e= .returned O/\IR w' 220 O c/\Bl W w'/\ ∀b,O.ownBlock=some b->W.heap.size<=b:=λW z=>xF (cH h.cl z) ae
 have KP:Hid (∀W W',(Bl w W/\Cq W p 1 G)->Bl W W'->(Below w.heap.size w W'/\W'.cell? ⟨p,1,none⟩=some G)):=λW W' E z=>⟨E.1.trans (z.mono E.1.size),by rw[z.cell (RN W _ E.2)];exact E.2⟩
 have KD:Hid (∀W,(Bl w W/\Cq W p 1 G)->(Bl w W.drew/\Cq W.drew p 1 G)):=λW E=>⟨E.1.drew,E.2⟩
 have KA:Hid (∀W o,(Bl w W/\Cq W p 1 G)->(Bl w (W.alloc o)/\(W.alloc o).cell? ⟨p,1,none⟩=some G)):=λW o E=>⟨E.1.alloc E.1.size _,by rw[R1 (w:=W) (a:=⟨p,1,none⟩) (RV W o p (by have:=E.1.size;omega))];exact E.2⟩
 have ah:Bl w w/\Cq w p 1 G:=⟨RP _ _,af⟩;obtain⟨a,cap,rfl⟩:=h.cl.sl;go_enter func236,ntmps236;go_wp2;go_region_held3 (λw'=>Bl w w'/\Cq w' p 1 (.slice a c.length cap)) (first|with_reducible exact KD.out _ (by assumption)|with_reducible exact KP.out _ _ (by assumption) (by assumption)|with_reducible exact KA.out _ _ (by assumption)|with_reducible assumption|go_keep)
  (first
   |(go_at_call 258;refine(W1 _ (by exact UB (by assumption))).mono ?_;rintro e w1 ⟨v1,rfl,R,D,ac⟩;obtain⟨a1,I,rfl⟩:=R.sl)
   |(go_at_call 259;refine(W2 _ (by exact UB (by assumption))).mono ?_;rintro e V ⟨v2,rfl,Y,U,Z⟩;obtain⟨a2,J,rfl⟩:=Y.sl))
 rename_i hHeld;have ai:w.heap.size<=w1.heap.size:=D.size;have aj:=U.size;have HA:Hid (fk (V.alloc (.cells #[.slice a1 st.length I,.slice a2 c.length J] 289)) V.heap.size (.slice a1 st.length I) (.slice a2 c.length J) st c/\Bl w (V.alloc (.cells #[.slice a1 st.length I,.slice a2 c.length J] 289))/\ ∀b,eJ V.heap.size (.slice a1 st.length I) (.slice a2 c.length J) b->w.heap.size<=b):=by
  refine⟨⟨RO _ _,(cH R U).alloc _,Y.alloc _,λb h1 h2=>?_⟩,hHeld.1,λb z=>?_⟩
  ·have:=(R.lt b h1).2;have:=Z b h2;omega
  rcases z with rfl|z|z
  ·omega
  ·exact ac b z
  have:=Z b z;omega
 go_wp2;go_ret;exact⟨_,_,_,rfl,HA.out⟩
theorem Fq (h:IR w 220 v l) (z:IR w 220 u m) (hl:l.length<=5000) (hm:m.length<=5000):
 Calls prog 272 #[v,u] w λe w'=>e= .returned (.bool (decide (l=m)))/\Below w.heap.size w w':=by
 obtain⟨a,cap,rfl⟩:=h.sl;obtain⟨b,ab,rfl⟩:=z.sl
 by_cases R:l.length=m.length
 ·have HE:Hid _:=R
  have H1:=Hi h;have H2:=Hi z;clear h z;go_enter func272,ntmps272;go_wp2_with fail
  go_loopw [13] (λi wr=> ∃k:Nat,k<=m.length/\i= Iq k/\Hid (∀q,q<k->l.getD q 0=m.getD q 0)/\Hid (Below w.heap.size w wr)) (λi _=>m.length - (intOf i).toNat)
  case atStart=>exact⟨0,R0 _,rfl,λq hq=>by omega,RP _ _⟩
  case round=>
   obtain⟨k,hk,rfl,U,E⟩:=hrel
   by_cases ad:k<m.length
   ·have G:IR wr 220 _ l:=cH H1.out E.out
    have I:IR wr 220 _ m:=cH H2.out E.out;obtain⟨g,c1,V,_⟩:=G.form (by omega)
    obtain⟨g2,c2,Y,_⟩:=I.form (by omega)
    simp at V Y;obtain⟨rfl,rfl⟩:=V;obtain⟨rfl,rfl⟩:=Y;have Z:=G.cell (k:=k) (by omega)
    have aa:=I.cell (k:=k) (by omega)
    have HX:Hid (l.getD k 0=l.getD k 0/\m.getD k 0=m.getD k 0):=⟨rfl,rfl⟩;clear G I;have HL:Hid (∀x y,l.getD k 0=x->m.getD k 0=y->l.getD k 0=x/\m.getD k 0=y):=λ_ _ O z=>⟨O,z⟩
    generalize hx:l.getD k 0=x at Z;generalize hy:m.getD k 0=y at aa;have D:=Hi (And.intro hx hy);clear hx hy HX HL;have ae:(0:Int)<=(k:Int)/\(k:Int)<(m.length:Int):=by omega
    have af:(0:Int)<=(k:Int)/\(k:Int)<(l.length:Int):=by omega
    by_cases J:x=y
    ·subst J
     go_wp2_with fail
     go_region
     go_wp2
     refine⟨⟨k+1,by omega,by go_num,λq hq=>?_,E.out.drew⟩,by simp[intOf];omega⟩
     by_cases e:q=k
     ·subst e;rw[D.out.1,D.out.2]
     ·exact U.out q (by omega)
    ·have ac:(x !=y)=true:=by simpa using J
     have HN:Hid (¬l=m):=λe=>J (by rw[<-D.out.1,<-D.out.2,e])
     go_wp2_with fail
     go_region
     go_wp2
     go_ret;exact⟨by simp[HN.out],E.out.drew⟩
   ·have HA:Hid (l=m):=by
     apply Uo HE.out
     intro i O z;have:=U.out i (by omega)
     rw[RG,RG,RI O,RI z] at this;exact this
    go_wp2
    go_ret;exact⟨by simp[HA.out],E.out⟩
 ·have ag:((l.length:Int) !=(m.length:Int))=true:=by simp;omega
  have hd:decide (l=m)=false:=by simp;intro e;exact R (by rw[e])
  rw[hd];clear h z hd;go_enter func272,ntmps272
  go_wp2
  go_ret;exact⟨rfl,RP _ _⟩
theorem Mn (w) (z D):Bl w ((w.alloc z).alloc D):=((RP _ _).alloc (RL _) _).alloc (by simp) _
theorem Jq (h:IR w 220 v l) (D:IR w 220 u m) (E:l.length<=5000) (G:m.length<=5000):
 Calls prog 260 #[.agg #[v],.agg #[u]] w λe w'=>e= .returned (.bool (decide (l=m)))/\Bl w w':=by
 have I:∀W,Bl w W->Calls prog 272 #[v,u] W λe w'=>e= .returned (.bool (decide (l=m)))/\Bl W w':=λW z=>Fq (cH h z) (cH D z) E G
 obtain⟨a,cap,rfl⟩:=h.sl;obtain⟨b,J,rfl⟩:=D.sl;generalize decide (l=m)=r at*;go_enter func260,ntmps260;go_wp2_with (
  go_at_call 272;apply(I _ (Mn w _ _)).mono;rintro e w' ⟨rfl,z⟩)
 go_ret;exact⟨rfl,(Mn w _ _).trans (z.mono (by simp;omega))⟩
def ti (c d:List Int) (k:Nat):List Int:=(List.range c.length).map λi=>if i<k then(if c.getD i 0=d.getD i 0 then c.getD i 0 else 0) else c.getD i 0
theorem iB (c d:List Int) (k):(ti c d k).length=c.length:=by simp[ti]
theorem oT (c d) (k) {i:Nat} (h:i<c.length):(ti c d k).getD i 0=if i<k then(if c.getD i 0=d.getD i 0 then c.getD i 0 else 0) else c.getD i 0:=by
 rw[RG,ti,Se,TJ h];rfl
theorem xG {a b:List Int} (D:a.length=b.length) (h:∀i,i<a.length->a.getD i 0=b.getD i 0):a=b:=by
 apply Uo D;intro i z E;have:=h i z;rw[RG,RG,RI z,RI E] at this;exact this
theorem Jr (c d:List Int):ti c d 0=c:=xG (iB _ _ _) (λi z=>by rw[iB] at z;rw[oT _ _ _ z,RH (by omega)])
theorem zH (l:List Int) (k) (x) (i):(l.set k x).getD i 0=if i=k/\k<l.length then x else l.getD i 0:=by
 rw[RG,List.getElem?_set,RG];by_cases e:k=i
 ·subst e;by_cases h:k<l.length
  ·simp[h]
  simp[h,R2 (Nat.le_of_not_lt h)]
 rw[RH e,RH (λh=>e h.1.symm)]
theorem Js {c d:List Int} (h:k<c.length) (e:c.getD k 0=d.getD k 0):ti c d (k+1)=ti c d k:=
 xG (by simp[iB]) (λi z=>by
  rw[iB] at z;rw[oT _ _ _ z,oT _ _ _ z];by_cases q:i=k
  ·subst q;rw[RK (by omega),RK e,RH (by omega)]
  by_cases D:i<k
  ·rw[RK (by omega),RK D]
  rw[RH (by omega),RH D])
theorem Mo {c d:List Int} (h:k<c.length) (e:c.getD k 0≠d.getD k 0):ti c d (k+1)=(ti c d k).set k 0:=
 xG (by simp[iB]) (λi z=>by
  rw[iB] at z;rw[oT _ _ _ z,zH,iB,oT _ _ _ z];by_cases q:i=k
  ·subst q;rw[RK (by omega),RH e,RK ⟨rfl,h⟩]
  rw[RH (c:=i=k/\k<c.length) (λa=>q a.1)]
  by_cases D:i<k
  ·rw[RK (by omega),RK D]
  rw[RH (by omega),RH D])
theorem Jt (h:fk w p vs vc st c) (h2:fk w q us uc z c2) (hd:∀b,eJ p vs vc b-> ¬eJ q us uc b) (hl:st.length<=5000) (ah:z.length<=5000) (hc:c.length<=5000):
 Calls prog 237 #[Pq p,Pq q] w λe w'=>e= .returned (.bool (decide (st=z)))/\cV w w' p vs vc st (ti c c2 c.length):=by
 have ai:w.cell? ⟨p,1,none⟩=some vc:=by rw[RM w p 1 _ _ _ h.blk];rfl
 have H:=Hi h;have H2:=Hi h2;have HD:=Hi hd;obtain⟨a,cap,rfl⟩:=h.cl.sl;clear h h2 hd;go_enter func237,ntmps237;go_wp2;go_loopw [13] (λi wr=> ∃k:Nat,k<=c.length/\i= Iq k/\Hid (cK (λb=>(Value.slice a c.length cap).ownBlock=some b) w wr)/\Hid (IR wr 220 (.slice a c.length cap) (ti c c2 k))) (λi _=>c.length - (intOf i).toNat)
 case atStart=>exact⟨0,R0 _,rfl,cK.refl _ _,by rw[Jr];exact H.out.cl⟩
 case round=>
  obtain⟨k,hk,rfl,J,R⟩:=hrel;have I:=H2.out.only J.out (λb D h=>HD.out b (.inr (.inr h)) D)
  have aj:wr.cell? ⟨p,1,none⟩=some (.slice a c.length cap):=by
   rw[R1 (w:=w) (a:=⟨p,1,none⟩) (J.out.block p (cq H.out.blk) (H.out.cl.ne H.out.blk th))];exact ai
  by_cases Y:k<c.length
  ·have ao:(0:Int)<=(k:Int)/\(k:Int)<(c.length:Int):=by omega
   obtain⟨g,c1,e1,_⟩:=R.out.form (by rw[iB];omega)
   simp at e1;obtain⟨rfl,ae,rfl⟩:=e1;clear ae;have Z:=R.out.cell (k:=k) (by rw[iB];omega)
   have ap:=R.out.frz k;rw[oT _ _ _ Y,RH (Nat.lt_irrefl k)] at Z;have U:=GM k I;have HC:Hid (∀x y,c.getD k 0=x->c2.getD k 0=y->c.getD k 0=x/\c2.getD k 0=y):=λ_ _ h1 h2=>⟨h1,h2⟩
   generalize hx:c.getD k 0=x at Z;generalize hy:c2.getD k 0=y at U;have aa:=Hi (And.intro hx hy);clear hx hy HC I;by_cases ac:x=y
   ·subst ac;go_wp2_with (
     go_at_call 234;apply U.mono;rintro e w' ⟨rfl,rfl⟩)
    go_roundw
    case rel=>
     refine⟨k+1,by omega,by go_num,J.out,?_⟩
     rw[Js Y (aa.out.1.trans aa.out.2.symm)];exact R.out
    case measure=>simp[intOf];omega
   have an:(x !=y)=true:=by simpa using ac
   have HN:Hid (c.getD k 0≠c2.getD k 0):=λe=>ac (by rw[<-aa.out.1,<-aa.out.2,e])
   go_wp2_with (
    go_at_call 234;apply U.mono;rintro e w' ⟨rfl,rfl⟩)
   go_roundw
   case rel=>
    refine⟨k+1,by omega,by go_num,J.out.setCell (.inl rfl) _,?_⟩
    rw[Mo Y HN.out];have:=R.out;rw[<-iB c c2 k] at this⊢;exact this.set (by rw[iB];exact Y) 0
   case measure=>simp[intOf];omega
  have ak:k=c.length:=by omega
  subst ak;have ab:=H.out.st.only J.out (λg hg h=>H.out.ne g hg h)
  have af:wr.cell? ⟨p,0,none⟩=some vs:=by
   rw[R1 (w:=w) (a:=⟨p,0,none⟩) (J.out.block p (cq H.out.blk) (H.out.cl.ne H.out.blk th)),RM w p 0 _ _ _ H.out.blk];rfl
  have ag:wr.cell? ⟨q,0,none⟩=some us:=by rw[RM wr q 0 _ _ _ I.blk];rfl
  have U:∀W,Bl wr W->Calls prog 260 #[.agg #[vs],.agg #[us]] W λe w'=>e= .returned (.bool (decide (st=z)))/\Bl W w':=λW D=>Jq (cH ab D) (cH I.st D) hl ah
  obtain⟨V,E,rfl⟩:=ab.sl;obtain⟨ua,G,rfl⟩:=I.st.sl;have HA:Hid (∀w',Bl wr w'->cV w w' p (.slice V st.length E) (.slice a c.length cap) st (ti c c2 c.length)):=λw' D=>by
   have ad:=(J.out.block p (cq H.out.blk) (H.out.cl.ne H.out.blk th)).trans H.out.blk;refine⟨_,_,⟨(D.block p (cq ad)).trans ad,cH ab D,cH R.out D,H.out.ne⟩,?_,λb D=> .inl D⟩
   exact J.out.trans (cK.of_below (F:=λ_=>False) D) (λi _ h=> .inr (.inr h)) (λi _ h=>h.elim)
  have KP:Hid (∀W W',(Bl wr W/\W.cell? ⟨p,0,none⟩=some (.slice V st.length E)/\W.cell? ⟨q,0,none⟩=some (.slice ua z.length G))->Bl W W'->(Bl wr W'/\W'.cell? ⟨p,0,none⟩=some (.slice V st.length E)/\W'.cell? ⟨q,0,none⟩=some (.slice ua z.length G))):=λW W' O D=>⟨O.1.trans (D.mono O.1.size),by rw[D.cell (RN W _ O.2.1)];exact O.2.1,by rw[D.cell (RN W _ O.2.2)];exact O.2.2⟩
  have KD:Hid (∀W:World,(Bl wr W/\Cq W p 0 (.slice V st.length E)/\Cq W q 0 (.slice ua z.length G))->(Bl wr W.drew/\Cq W.drew p 0 (.slice V st.length E)/\Cq W.drew q 0 (.slice ua z.length G))):=λW O=>⟨O.1.drew,O.2⟩
  have am:Bl wr wr/\Cq wr p 0 (.slice V st.length E)/\Cq wr q 0 (.slice ua z.length G):=⟨RP _ _,af,ag⟩;clear ab I J R aj;generalize hr:decide (st=z)=r at U;have HR:=Hi hr;clear hr;go_wp2;go_region_held3 (λw'=>Bl wr w'/\Cq w' p 0 (.slice V st.length E)/\Cq w' q 0 (.slice ua z.length G)) (first|with_reducible exact KD.out _ (by assumption)|with_reducible exact KP.out _ _ (by assumption) (by assumption)|with_reducible assumption|go_keep)
   (first
    |(go_at_call 260;refine(U _ (by exact UB (by assumption))).mono ?_;rintro e w1 ⟨rfl,aq⟩))
  rename_i hHeld;have HB:=Hi hHeld.1;clear hHeld KP KD U am;go_wp2;go_ret;exact⟨by rw[HR.out];rfl,HA.out _ HB.out⟩
def Ng:Nat->Int->List Int->Option (List Int)
 |0,_,st=>some st
 |n+1,t,st=>if st.getLast?.getD 0=t then Ng n t st.dropLast else none
def xH (w:World) (p:Nat) (vs G:Value) (r:Option (List Int×List Int)) (e:Ending) (w':World):Prop:=match r with
 |some x=>e= .returned (.bool true)/\cV w w' p vs G x.1 x.2
 |none=>e= .returned (.bool false)/\cK (eJ p vs G) w w'
theorem cV.only (h:cV w w' p vs z st c):cK (eJ p vs z) w w':=by
 obtain⟨_,_,_,h,_⟩:=h;exact h
def Nh (n:Nat) (t o:Int) (st c:List Int):Option (List Int×List Int):=(Ng n t st).map λr=>(if o=0 then r else r++[o],c)
theorem cV.alloc {w w' p vs z st c o} (h:cV (w.alloc o) w' p vs z st c):cV w w' p vs z st c:=
 cV.then ((cK.refl _ w).alloc o) (λ_ D=> .inl D) h
theorem GN (n:Nat) (t o:Int) (h:fk w p vs G st c) (hl:st.length<=4000) (hn:n<=10):
 Calls prog 235 #[.agg #[Iq n,Iq t,Iq o],Pq p] w λe w'=>xH w p vs G (Nh n t o st c) e w':=by
 have aa:(w.alloc (.cells #[Iq n,Iq t,Iq o] 321)).heap[w.heap.size]?=_:=RO w _;have ac:fk (w.alloc (.cells #[Iq n,Iq t,Iq o] 321)) p vs G st c:=h.only ((cK.refl (λ_=>False) w).alloc _) (λ_ _ h=>h)
 have ad:∀b,eJ p vs G b->b<w.heap.size:=λb hb=>h.lt hb
 have ak:(w.alloc (.cells #[Iq n,Iq t,Iq o] 321)).cell? ⟨w.heap.size,0,none⟩=some (Iq n):=by rw[RM _ _ 0 _ _ _ aa];rfl
 have HS:=Hi ac;have HF:=Hi ad;have HB:=Hi aa;have HW:Hid (∀w' st c,cV (w.alloc (.cells #[Iq n,Iq t,Iq o] 321)) w' p vs G st c->cV w w' p vs G st c):=λ_ _ _ h=>h.alloc
 have ae:Hid (∀w',cK (eJ p vs G) (w.alloc (.cells #[Iq n,Iq t,Iq o] 321)) w'->cK (eJ p vs G) w w'):=λ_ h=>((cK.refl (eJ p vs G) w).alloc _).trans h (λ_ _ h=>h) (λ_ _ h=>h)
 have HZ:Hid (w.heap.size<(w.alloc (.cells #[Iq n,Iq t,Iq o] 321)).heap.size):=by show _<_;rw[RW];omega
 clear h ac ad aa;go_enter func235,ntmps235;go_wp2;generalize w.alloc (.cells #[Iq n,Iq t,Iq o] 321)=w1 at*;go_loopw [7] (λi wr=> ∃k,k<=n/\i= Iq k/\Hid (∃z,cV w1 wr p vs G z c/\Ng n t st=Ng (n - k) t z/\z.length<=4000)) (λi _=>n - (intOf i).toNat)
 case atStart=>exact⟨0,R0 _,rfl,st,cV.refl HS.out,rfl,hl⟩
 case round=>
  obtain⟨k,hk,rfl,HI⟩:=hrel;obtain⟨z,⟨R,U,I,V,O⟩,J,aj⟩:=HI.out;have Y:wr.heap[w.heap.size]?=_:=(V.block w.heap.size HZ.out (λh=>by have:=HF.out _ h;omega)).trans HB.out
  have af:wr.cell? ⟨w.heap.size,1,none⟩=some (Iq t):=by rw[RM _ _ 1 _ _ _ Y];rfl
  have ag:wr.cell? ⟨w.heap.size,2,none⟩=some (Iq o):=by rw[RM _ _ 2 _ _ _ Y];rfl
  by_cases am:k<n
  ·have W1:=C1 I.drew (by omega)
   have Z: ¬eJ p R U w.heap.size:=λh=>by
    rcases O _ h with h|h
    ·have:=HF.out _ h;omega
    have:=HZ.out;omega
   have HK:Hid (∀E,cV wr.drew E p R U z.dropLast c->E.cell? ⟨w.heap.size,1,none⟩=some (Iq t)):=λE h=>by
    rw[R1 (h.only.block _ (cq Y) Z)];exact af
   have HN:Hid (∀E,cV wr.drew E p R U z.dropLast c->cV w1 E p vs G z.dropLast c):=λE h=>cV.then V.drew O h
   have HL:Hid (n - k=n - (k+1)+1/\z.dropLast.length<=4000):=⟨by omega,by simp;omega⟩
   have HO:=Hi J;clear I V O J Y Z HI;by_cases hx:z.getLast?.getD 0=t
   ·rw[hx] at W1;have HX:=Hi hx;clear hx;go_wp2_with fail;go_region_held3 (λw'=>w'.cell? ⟨w.heap.size,1,none⟩=some (Iq t)) (first|with_reducible exact HK.out _ (by assumption)|with_reducible assumption|go_keep)
     (first|(go_at_call 232;refine W1.mono ?_;rintro e w2 ⟨rfl,D⟩))
    rename_i hHeld;clear hHeld;have HU:=Hi D;clear D;go_wp2;go_roundw
    case rel=>
     refine⟨k+1,by omega,by go_num,z.dropLast,HN.out _ HU.out,?_,HL.out.2⟩
     rw[HO.out,HL.out.1,Ng,RK HX.out]
    case measure=>simp[intOf];omega
   have ah:((z.getLast?.getD 0) !=t)=true:=by simpa using hx
   have HX:=Hi hx;generalize z.getLast?.getD 0=x at W1 ah;clear hx;go_wp2_with fail;go_region_held3 (λw'=>w'.cell? ⟨w.heap.size,1,none⟩=some (Iq t)) (first|with_reducible exact HK.out _ (by assumption)|with_reducible assumption|go_keep)
    (first|(go_at_call 232;refine W1.mono ?_;rintro e w2 ⟨rfl,D⟩))
   rename_i hHeld;clear hHeld;have HU:=Hi D;clear D;go_wp2;go_ret;have e1:Nh n t o st c=none:=by unfold Nh;rw[HO.out,HL.out.1,Ng,RH HX.out];rfl
   rw[e1];exact⟨rfl,ae.out _ (HN.out _ HU.out).only⟩
  have ab:n - k=0:=by omega
  rw[ab] at J;have e1:Nh n t o st c=some (if o=0 then z else z++[o],c):=by unfold Nh;rw[J];rfl
  have HE:=Hi e1;have ai:Hid (cV w1 wr p vs G z c):=⟨R,U,I,V,O⟩;by_cases ho:o=0
  ·subst ho;clear I V O J e1 HI ab;go_wp2;go_ret;rw[HE.out];exact⟨rfl,HW.out _ _ _ ai.out⟩
  have an:(o !=0)=true:=by simpa using ho
  have W1:=zG o I.drew (by omega)
  have Z: ¬eJ p R U w.heap.size:=λh=>by
   rcases O _ h with h|h
   ·have:=HF.out _ h;omega
   have:=HZ.out;omega
  have HK:Hid (∀E,cV wr.drew E p R U (z++[o]) c->E.cell? ⟨w.heap.size,2,none⟩=some (Iq o)):=λE h=>by
   rw[R1 (h.only.block _ (cq Y) Z)];exact ag
  have HN:Hid (∀E,cV wr.drew E p R U (z++[o]) c->cV w1 E p vs G (z++[o]) c):=λE h=>cV.then V.drew O h
  have HO:=Hi ho;clear I V O J e1 HI ab ho Z Y;go_wp2_with fail;go_region_held3 (λw'=>w'.cell? ⟨w.heap.size,2,none⟩=some (Iq o)) (first|with_reducible exact HK.out _ (by assumption)|with_reducible assumption|go_keep)
   (first|(go_at_call 231;refine W1.mono ?_;rintro e w2 ⟨rfl,D⟩))
  rename_i hHeld;clear hHeld;have HU:=Hi D;clear D;go_wp2;go_ret;rw[HE.out,RH HO.out];exact⟨rfl,HW.out _ _ _ (HN.out _ HU.out)⟩
def qa (n:Nat):Int:=if n<=3 then 1 else if n<=6 then 3 else 2
theorem C3 (n:Nat) (w):Calls prog 216 #[Iq n] w λe w'=>e= .returned (Iq (qa n))/\w'=w:=by
 go_enter func216,ntmps216;go_wp2
 all_goals go_ret
 all_goals refine⟨dh ?_,rfl⟩
 all_goals (unfold qa;repeat' split)<;>first|rfl|omega
def fV (E:Nat) (n tw pl:Int):Value:= .agg #[Iq E,Iq n,Iq tw,Iq pl]
def oU (z:Nat) (n tw pl:Int):Obj:= .cells #[Iq z,Iq n,Iq tw,Iq pl] 247 (0,0)
structure iu (w w1:World) (p) (vs vc) (st c) (op) (n tw pl):Prop where
 set:fk w1 p vs vc st c
 far:∀b,eJ p vs vc b->b<w.heap.size
 blk:w1.heap[w.heap.size]?=some (oU op n tw pl)
 siz:w.heap.size<w1.heap.size
 out:∀w' st c,cV w1 w' p vs vc st c->cV w w' p vs vc st c
 only:∀w',cK (eJ p vs vc) w1 w'->cK (eJ p vs vc) w w'
theorem iu.of (h:fk w p vs z st c) (D) (n tw pl):iu w (w.alloc (oU D n tw pl)) p vs z st c D n tw pl:=
 ⟨h.only ((cK.refl (λ_=>False) w).alloc _) (λ_ _ h=>h),λb E=>h.lt E,RO w _,by rw[RW];omega,λ_ _ _ h=>h.alloc,λ_ h=>((cK.refl (eJ p vs z) w).alloc _).trans h (λ_ _ h=>h) (λ_ _ h=>h)⟩
theorem iu.cells {w z p vs G st c E n tw pl} (h:iu w z p vs G st c E n tw pl):Cq z w.heap.size 0 (Iq E)/\Cq z w.heap.size 1 (Iq n)/\Cq z w.heap.size 2 (Iq tw):=by
 have D:=λj=>RM z _ j _ _ _ h.blk
 exact⟨D 0,D 1,D 2⟩
theorem iu.after (h:iu w J p vs O st c U n tw pl) (Z:cV J z p vs O R c2):Cq z w.heap.size 0 (Iq U)/\Cq z w.heap.size 1 (Iq n)/\Cq z w.heap.size 2 (Iq tw):=by
 have hb:=(Z.only.block _ h.siz (λhf=>by have:=h.far _ hf;omega)).trans h.blk
 have G:=λj=>RM z _ j _ _ _ hb
 exact⟨G 0,G 1,G 2⟩
theorem cV.drew {w w' p vs z st c} (h:cV w w' p vs z st c):cV w w'.drew p vs z st c:=by
 obtain⟨D,E,G,I,h3⟩:=h;exact⟨D,E,G.drew,I.drew,h3⟩
theorem cV.of_drew {w w' p vs z st c} (h:cV w.drew w' p vs z st c):cV w w' p vs z st c:=by
 obtain⟨D,E,G,I,h3⟩:=h;exact⟨D,E,G,I.of_drew,h3⟩
theorem cV.push {w G p vs I st c} (h:cV w G p vs I st c) (x) (R:st.length<=5000):
 Calls prog 231 #[Pq p,Iq x] G λe w'=>e= .returned (.tuple #[])/\cV w w' p vs I (st++[x]) c:=by
 obtain⟨aa,ab,U,V,h3⟩:=h;apply(zG x U R).mono;rintro e w' ⟨rfl,Y⟩;exact⟨rfl,cV.then V h3 Y⟩
theorem cV.pop (h:cV w z p vs D st c) (E:st.length<=5000):
 Calls prog 232 #[Pq p] z λe w'=>e= .returned (Iq (st.getLast?.getD 0))/\cV w w' p vs D st.dropLast c:=by
 obtain⟨O,R,G,I,h3⟩:=h;apply(C1 G E).mono;rintro e w' ⟨rfl,J⟩;exact⟨rfl,cV.then I h3 J⟩
theorem cV.learn (h:cV w z p vs D st c) (k:Nat) (x) (E:k<=255) (G:c.length<=256):
 Calls prog 233 #[Pq p,Iq k,Iq x] z λe w'=>e= .returned (.tuple #[])/\cV w w' p vs D st (kZ c k x):=by
 obtain⟨R,U,I,J,h3⟩:=h;apply(Fo k x I E G).mono;rintro e w' ⟨rfl,O⟩;exact⟨rfl,cV.then J h3 O⟩
theorem N5 (n:Nat) (tw pl) (h:fk w p vs E st c) (hl:st.length<=4000) (hn:n<=255):
 Calls prog 188 #[fV 4 n tw pl,Pq p] w λe w'=>xH w p vs E (some (st++[qa n],c)) e w':=by
 obtain⟨G,I,z⟩:∃G,w.alloc (.cells #[Iq 4,Iq n,Iq tw,Iq pl] 247)=G/\iu w G p vs E st c 4 n tw pl:=⟨_,rfl,iu.of h 4 n tw pl⟩;unfold fV;have H:=Hi z;obtain⟨_,c1,_⟩:=z.cells;have R:=λw=>C3 n w
 have U:=(cV.refl z.set).drew.push (qa n) (by omega)
 generalize qa n=f at*;have V:=Hi I;have Y:Hid (∀J O c2,cV G J p vs E O c2->Cq J w.heap.size 1 (Iq n)):=λJ _ _ h=>(z.after h).2.1
 clear h z I;go_enter func188,ntmps188;go_wp2_with fail;rw[V.out];go_region_held3 (λw'=>w'.cell? ⟨w.heap.size,1,none⟩=some (Iq n)) (first|with_reducible exact Y.out _ _ _ (by assumption)|with_reducible assumption|go_keep)
  (first
   |(go_at_call 216;refine(R _).mono ?_;rintro e Z ⟨rfl,rfl⟩)
   |(go_at_call 231;refine U.mono ?_;rintro e Z ⟨rfl,D⟩))
 rename_i hHeld;clear hHeld;have HU:=Hi D;clear D;go_wp2;go_ret;exact⟨rfl,H.out.out _ _ _ HU.out⟩
theorem N6 (n:Nat) (tw pl) (h:fk w p vs D st c) (hl:st.length<=4000) (hc:c.length<=256) (hn:n<=255):
 Calls prog 188 #[fV 5 n tw pl,Pq p] w λe w'=>xH w p vs D (if st.getLast?.getD 0=0 then none else some (st.dropLast,kZ c n (st.getLast?.getD 0))) e w':=by
 obtain⟨E,J,G⟩:∃E,w.alloc (.cells #[Iq 5,Iq n,Iq tw,Iq pl] 247)=E/\iu w E p vs D st c 5 n tw pl:=⟨_,rfl,iu.of h 5 n tw pl⟩;unfold fV;have H:=Hi G;obtain⟨_,c1,_⟩:=G.cells;have R:=(cV.refl G.set).pop (by omega)
 have U:∀W x,cV E W p vs D st.dropLast c->_:=λW x h=>h.learn n x hn hc
 generalize st.getLast?.getD 0=t at*;have HW:=Hi J;have HK:Hid (∀O V c2,cV E O p vs D V c2->Cq O w.heap.size 1 (Iq n)):=λO _ _ h=>(G.after h).2.1
 clear h G J;go_enter func188,ntmps188;go_wp2_with (
  rw[HW.out];go_at_call 232;apply R.mono;rintro e w2 ⟨rfl,z⟩;have c2:=HK.out _ _ _ z;have Y:=Hi z;clear z)
 apply(U w2 t Y.out).mono;rintro e w3 ⟨rfl,z⟩;have Z:=Hi z;clear z R U Y;by_cases I:t=0
 ·subst I;go_wp2;go_ret;exact⟨rfl,H.out.only _ (cV.only Z.out)⟩
 have aa:(t !=0)=true:=by simpa using I
 have HT:=Hi I;clear I;go_wp2;go_ret;exact⟨rfl,H.out.out _ _ _ Z.out⟩
theorem cV.of (h:cV w z p vs D st c) (k:Nat):
 Calls prog 234 #[Pq p,Iq k] z λe w'=>e= .returned (Iq (c.getD k 0))/\w'=z:=by
 obtain⟨G,I,E,J,h3⟩:=h;exact GM k E
theorem N7 (n:Nat) (tw pl) (h:fk w p vs I st c) (Z:st.length<=4000) (hc:c.length<=256) (hn:n<=255):
 Calls prog 188 #[fV 6 n tw pl,Pq p] w λe w'=>xH w p vs I (if c.getD n 0=0 then none else some (st++[c.getD n 0],c)) e w':=by
 obtain⟨J,G,z⟩:∃J,w.alloc (.cells #[Iq 6,Iq n,Iq tw,Iq pl] 247)=J/\iu w J p vs I st c 6 n tw pl:=⟨_,rfl,iu.of h 6 n tw pl⟩;unfold fV;have H:=Hi z;obtain⟨_,c1,_⟩:=z.cells;have O:=(cV.refl z.set).of n;generalize c.getD n 0=t at*;have R:=(cV.refl z.set).push t (by omega)
 have V:=Hi G;clear h z G;go_enter func188,ntmps188;go_wp2_with (
  rw[V.out];go_at_call 234;apply O.mono;rintro e w2 ⟨rfl,rfl⟩)
 apply R.mono;rintro e w3 ⟨rfl,D⟩;have U:=Hi D;clear D O R;by_cases E:t=0
 ·subst E;go_wp2;go_ret;exact⟨rfl,H.out.only _ (cV.only U.out)⟩
 have Y:(t !=0)=true:=by simpa using E
 have HT:=Hi E;clear E;go_wp2;go_ret;exact⟨rfl,H.out.out _ _ _ U.out⟩
theorem N8 (n tw pl:Int) (h:fk w p vs I st c) (hl:st.length<=4000):
 Calls prog 188 #[fV 9 n tw pl,Pq p] w λe w'=>xH w p vs I (if st.dropLast.getLast?.getD 0=st.getLast?.getD 0/\st.dropLast.getLast?.getD 0≠0 then some (st.dropLast.dropLast++[2],c) else none) e w':=by
 obtain⟨J,Y,D⟩:∃J,w.alloc (.cells #[Iq 9,Iq n,Iq tw,Iq pl] 247)=J/\iu w J p vs I st c 9 n tw pl:=⟨_,rfl,iu.of h 9 n tw pl⟩;unfold fV;have H:=Hi D;have W1:=(cV.refl D.set).drew.pop (by omega)
 have W2:∀W,cV J W p vs I st.dropLast c->_:=λW h=>h.pop (by simp;omega)
 have Z:∀W,cV J W p vs I st.dropLast.dropLast c->_:=λW h=>h.push 2 (by simp;omega)
 generalize hr:st.getLast?.getD 0=r at*;generalize G:st.dropLast.getLast?.getD 0=q at*;clear hr G;generalize hR:(if q=r/\q≠0 then some (st.dropLast.dropLast++[2],c) else none)=R;have HR:=Hi hR;clear hR;have HW:=Hi Y;clear h D Y;go_enter func188,ntmps188;go_wp2;rw[HW.out];go_region_held3 (λw'=>True) (exact trivial)
  (first
   |(go_at_call 232;refine(W2 _ (by assumption)).mono ?_;rintro e w3 ⟨rfl,E⟩)
   |(go_at_call 232;refine W1.mono ?_;rintro e w2 ⟨rfl,U⟩))
 have HU:=Hi E;clear U E;by_cases G:q=r
 ·subst G;by_cases V:q=0
  ·subst V;go_wp2_with (
    go_at_call 231;apply(Z _ HU.out).mono;rintro e w4 ⟨rfl,z⟩;have O:=Hi z;clear z)
   go_ret;rw[<-HR.out,RH (by simp)]
   exact⟨rfl,H.out.only _ (cV.only O.out)⟩
  have aa:(q !=0)=true:=by simpa using V
  have D:=Hi V;clear V;go_wp2_with (
   go_at_call 231;apply(Z _ HU.out).mono;rintro e w4 ⟨rfl,z⟩;have O:=Hi z;clear z)
  go_ret;rw[<-HR.out,RK ⟨by trivial,D.out⟩]
  exact⟨rfl,H.out.out _ _ _ O.out⟩
 have ab:(q==r)=false:=by simpa using G
 have D:=Hi G;clear G;go_wp2_with (
  go_at_call 231;apply(Z _ HU.out).mono;rintro e w4 ⟨rfl,z⟩;have O:=Hi z;clear z)
 go_ret;rw[<-HR.out,RH (λh=>D.out h.1)]
 exact⟨rfl,H.out.only _ (cV.only O.out)⟩
def mZ:List Int:=[0,0,0,0,0,1,0,0,2,0,0,3,0,0,0,0,0,0,0,0,0,2,1,1,2,1,1,0,0,0,2,1,2,2,1,2,1,2,2,2,2,2,2,2,2,1,2,0,0,0,0,0,0,0,0,0,0]
def Ef (w:World):Prop:= ∀j,j<57->w.cell? ⟨1,j,none⟩=some (Iq (mZ.getD j 0))
theorem Ef.pos (h:Ef w):1<w.heap.size:=RN w _ (h 0 (by decide))
theorem Ef.below (h:Ef w) (z:1<B) (D:Below B w w'):Ef w':=λk E=>by rw[D.cell (p:=⟨1,k,none⟩) z];exact h k E
theorem Ju:∀z,z<19->(mZ.getD (z*3) 0)=((mZ.getD (z*3) 0).toNat)/\(mZ.getD (z*3) 0).toNat<=2:=by decide
theorem N9 (z) (n tw pl) (U:Ef w) (h:fk w p vs O st c) (Z:st.length<=4000) (ho:z<19) (h4:z≠4) (h5:z≠5) (h6:z≠6) (h9:z≠9):
 Calls prog 188 #[fV z n tw pl,Pq p] w λe w'=>xH w p vs O (Nh (mZ.getD (z*3) 0).toNat (mZ.getD (z*3+1) 0) (mZ.getD (z*3+2) 0) st c) e w':=by
 obtain⟨J,E,I⟩:∃J,w.alloc (.cells #[Iq z,Iq n,Iq tw,Iq pl] 247)=J/\iu w J p vs O st c z n tw pl:=⟨_,rfl,iu.of h z n tw pl⟩;unfold fV;have H:=Hi I;obtain⟨c0,_,_⟩:=I.cells;have G:Ef J:=by rw[<-E];exact U.below U.pos ((RP _ w).alloc (RL _) _)
 have V:=G (z*3) (by omega)
 have e1:=G (z*3+1) (by omega)
 have e2:=G (z*3+2) (by omega)
 obtain⟨q1,q2⟩:=Ju z ho;rw[q1] at V;have W1:=GN (mZ.getD (z*3) 0).toNat (mZ.getD (z*3+1) 0) (mZ.getD (z*3+2) 0) I.set Z (by omega)
 have W2:=GN (mZ.getD (z*3) 0).toNat (mZ.getD (z*3+1) 0) (mZ.getD (z*3+2) 0) I.set.drew Z (by omega)
 generalize (mZ.getD (z*3) 0).toNat=k at*;generalize mZ.getD (z*3+1) 0=t at*;generalize mZ.getD (z*3+2) 0=o at*;have HW:=Hi E;have b4:((z:Int)==4)=false:=by simp;omega
 have b5:((z:Int)==5)=false:=by simp;omega
 have b6:((z:Int)==6)=false:=by simp;omega
 have b9:((z:Int)==9)=false:=by simp;omega
 have hb:(0:Int)<=(z:Int)/\(z:Int)<19:=by omega
 clear h I U G q1 q2 h4 h5 h6 h9;rw[<-E] at V e1 e2 c0;clear E;generalize Nh k t o st c=R at*;go_enter func188,ntmps188;go_wp2_with fail;rw[HW.out];apply W1.mono;clear W1 W2 V e1 e2 c0
 cases R with
 |none=>
  rintro e w2 ⟨rfl,D⟩;have Y:=Hi D;clear D
  go_wp2
  go_ret;exact⟨rfl,H.out.only _ Y.out⟩
 |some x=>
  rintro e w2 ⟨rfl,D⟩;have Y:=Hi D;clear D
  go_wp2
  go_ret;exact⟨rfl,H.out.out _ _ _ Y.out⟩
def qH (z n:Nat) (st c:List Int):Option (List Int×List Int):=
 if z=4 then some (st++[qa n],c)
 else if z=5 then(if st.getLast?.getD 0=0 then none else some (st.dropLast,kZ c n (st.getLast?.getD 0)))
 else if z=6 then(if c.getD n 0=0 then none else some (st++[c.getD n 0],c))
 else if z=9 then(if st.dropLast.getLast?.getD 0=st.getLast?.getD 0/\st.dropLast.getLast?.getD 0≠0 then some (st.dropLast.dropLast++[2],c) else none)
 else Nh (mZ.getD (z*3) 0).toNat (mZ.getD (z*3+1) 0) (mZ.getD (z*3+2) 0) st c
theorem Fs (z) (n tw pl) (Z:Ef w) (h:fk w p vs R st c) (D:st.length<=4000) (U:c.length<=256) (ho:z<19) (E:z=4\/z=5\/z=6->0<=n/\n<=255):
 Calls prog 188 #[fV z n tw pl,Pq p] w λe w'=>xH w p vs R (qH z n.toNat st c) e w':=by
 unfold qH
 by_cases G:z=4
 ·subst G
  obtain⟨V,Y⟩:=E (by omega)
  obtain⟨m,rfl⟩:∃m:Nat,n=m:=⟨n.toNat,by omega⟩
  rw[RK rfl,Tf];exact N5 m tw pl h D (by omega)
 rw[RH G]
 by_cases I:z=5
 ·subst I
  obtain⟨V,Y⟩:=E (by omega)
  obtain⟨m,rfl⟩:∃m:Nat,n=m:=⟨n.toNat,by omega⟩
  rw[RK rfl,Tf];exact N6 m tw pl h D U (by omega)
 rw[RH I]
 by_cases J:z=6
 ·subst J
  obtain⟨V,Y⟩:=E (by omega)
  obtain⟨m,rfl⟩:∃m:Nat,n=m:=⟨n.toNat,by omega⟩
  rw[RK rfl,Tf];exact N7 m tw pl h D U (by omega)
 rw[RH J]
 by_cases O:z=9
 ·subst O
  rw[RK rfl];exact N8 n tw pl h D
 rw[RH O];exact N9 z n tw pl Z h D ho G I J O
end
variable {k st c z n b c2 x}
def yx (l:List Nat):List Int:=l.reverse.map λ(t:Nat)=>(t:Int)
structure vr (k:Kn) (st c:List Int):Prop where
 st:st=yx k.st
 len:c.length<=k.cl.length
 cl:∀i,c.getD i 0=(k.cl.getD i 0:Nat)
theorem Oa:(yx []).getLast?.getD 0=0:=rfl
theorem tm (t) (r):(yx (t::r)).getLast?.getD 0=t:=by simp[yx]
theorem qI (t) (r):(yx (t::r)).dropLast=yx r:=by simp[yx]
theorem uv (t:Nat) (r):yx r++[(t:Int)]=yx (t::r):=by simp[yx]
theorem C4 (t:Nat) (O:t≠0):∀n l,Ng n t (yx l)=if l.take n=List.replicate n t then some (yx (l.drop n)) else none
 |0,l=>by simp[Ng]
 |n+1,[]=>by
  rw[Ng,RH (by rw[Oa];omega),RH]
  intro h;have:=Te List.length h;simp at this
 |n+1,x::r=>by
  rw[Ng,tm,qI,C4 t O n r];by_cases D:x=t
  ·subst D;rw[RK rfl];by_cases h:r.take n=List.replicate n x
   ·rw[RK h,RK (by simp[UP,h])];rfl
   rw[RH h,RH];intro z;simp[UP] at z;exact h z
  rw[RH (by omega),RH]
  intro z;simp[UP] at z;exact D z.1
def PO (r:Option Kn) (q:Option (List Int×List Int)):Prop:=match r with
 |some k=> ∃st c,q=some (st,c)/\vr k st c
 |none=>q=none
theorem Jv (c) (k) (x):(kZ c k x).length=max c.length (k+1):=by
 unfold kZ;simp;omega
theorem xI (c:List Int) (m i):(c++List.replicate m 0).getD i 0=c.getD i 0:=by
 rw[RG,RG];by_cases h:i<c.length
 ·rw[Si h]
 rw[Sg (by omega),R2 (l:=c) (by omega),Sn]
 split<;>rfl
theorem Mp (c) (k) (x) (i):(kZ c k x).getD i 0=if i=k then x else c.getD i 0:=by
 unfold kZ;rw[zH,xI];by_cases h:i=k
 ·subst h;rw[RK ⟨rfl,by simp;omega⟩,RK rfl]
 rw[RH (λa=>h a.1),RH h]
theorem kg (h:vr k st c) (n t) (o) (z:t≠0) (D:∀x,o=some x->x≠0) (more) (E:more=o.toList):
 PO (kV (List.replicate n t) more k) (Nh n t (o.getD 0) st c):=by
 subst E;unfold kV Nh;rw[h.st,C4 t z n,SH];by_cases e:k.st.take n=List.replicate n t
 ·rw[RK e,RK e];cases o with
  |none=>exact⟨_,_,rfl,rfl,h.len,h.cl⟩
  |some x=>
   have G:=D x rfl;refine⟨_,_,rfl,?_,h.len,h.cl⟩;simp only[TM];rw[RH (by omega),uv];rfl
 rw[RH e,RH e];rfl
theorem Mq (n):qa n=(jw n):=by unfold qa jw;(repeat' split)<;>rfl
theorem C5 (h:vr k st c) (I:ki k.st) (z n) (U:1<=z/\z<=18) (O:z=5->n<k.cl.length):PO (dZ z n k) (qH z n st c):=by
 have e:z=1\/z=2\/z=3\/z=4\/z=5\/z=6\/z=7\/z=8\/z=9\/z=10\/z=11\/z=12\/z=13\/z=14\/z=15\/z=16\/z=17\/z=18:=by omega
 have push:∀t:Nat,vr ⟨t::k.st,k.cl⟩ (st++[(t:Int)]) c:=λt=>⟨by rw[h.st,uv],h.len,h.cl⟩
 rcases e with rfl|rfl|rfl|rfl|rfl|rfl|rfl|rfl|rfl|rfl|rfl|rfl|rfl|rfl|rfl|rfl|rfl|rfl
 ·exact⟨_,_,rfl,push 1⟩
 ·exact⟨_,_,rfl,push 2⟩
 ·exact⟨_,_,rfl,push 3⟩
 ·exact⟨_,_,rfl,by rw[Mq];exact push _⟩
 ·have e:dZ 5 n k=(match k.st with
   |[]=>none
   |t::r=>some ⟨r,k.cl.set n t⟩):=rfl
  have D:qH 5 n st c=if st.getLast?.getD 0=0 then none else some (st.dropLast,kZ c n (st.getLast?.getD 0)):=rfl;rw[e,D,h.st];cases G:k.st with
  |nil=>exact RK rfl
  |cons t r=>
   have V:=(I t (by rw[G];simp)).1
   rw[tm,qI,RH (by omega)]
   refine⟨_,_,rfl,rfl,?_,λi=>?_⟩
   ·rw[Jv];have:=h.len;have:=O rfl;simp;omega
   rw[Mp];by_cases J:i=n
   ·subst J;rw[RK rfl,cT (O rfl)]
   rw[RH J,getD_set_ne (λe=>J e.symm)];exact h.cl i
 ·have e:dZ 6 n k=if k.cl.getD n 0=0 then none else some ⟨k.cl.getD n 0::k.st,k.cl⟩:=rfl;have D:qH 6 n st c=if c.getD n 0=0 then none else some (st++[c.getD n 0],c):=rfl;rw[e,D,h.cl n];by_cases R:k.cl.getD n 0=0
  ·rw[RK R,RK (by omega)];rfl
  rw[RH R,RH (by omega)]
  exact⟨_,_,rfl,push _⟩
 ·exact kg h 2 1 (some 1) (by decide) (by simp) [1] rfl
 ·exact kg h 2 1 (some 1) (by decide) (by simp) [1] rfl
 ·have D:qH 9 n st c=if st.dropLast.getLast?.getD 0=st.getLast?.getD 0/\st.dropLast.getLast?.getD 0≠0 then some (st.dropLast.dropLast++[2],c) else none:=rfl;have e:dZ 9 n k=(match k.st with
   |x::y::r=>if x=y then some ⟨2::r,k.cl⟩ else none
   |_=>none):=rfl
  rw[e,D,h.st];match G:k.st with
  |[]=>exact RH (by simp[yx])
  |[x]=>exact RH (by simp[yx])
  |x::y::r=>
   have Y:=(I x (by rw[G];simp)).1
   rw[qI,tm,tm,qI];show PO (if x=y then some ⟨2::r,k.cl⟩ else none) _;by_cases E:x=y
   ·rw[RK E,RK ⟨by omega,by omega⟩]
    exact⟨_,_,rfl,by rw[show(2:Int)=((2:Nat):Int) from rfl,uv],h.len,h.cl⟩
   rw[RH E,RH (λa=>E (by omega))];rfl
 ·exact kg h 2 1 (some 2) (by decide) (by simp) [2] rfl
 ·exact kg h 2 1 (some 2) (by decide) (by simp) [2] rfl
 ·exact kg h 1 2 (some 2) (by decide) (by simp) [2] rfl
 ·exact kg h 2 2 (some 2) (by decide) (by simp) [2] rfl
 ·exact kg h 2 2 (some 2) (by decide) (by simp) [2] rfl
 ·exact kg h 1 2 none (by decide) (by simp) [] rfl
 ·exact⟨_,_,rfl,h⟩
 ·exact⟨_,_,rfl,h⟩
 exact⟨_,_,rfl,h⟩
theorem C6 (ho:1<=z/\z<=18) (O:ki k.st) (R:tK k.cl) (h:dZ z n k=some D):ki D.st/\tK D.cl/\D.cl.length=k.cl.length:=by
 have I:∀{U more},ki more->kV U more k=some D->ki D.st/\tK D.cl/\D.cl.length=k.cl.length:=λ{U more} hm Y=>by
  obtain⟨_,rfl⟩:=kF Y;exact⟨λt E=>by
   rcases SV.1 E with E|E
   ·exact hm t E
   exact O t (Ul E),R,rfl⟩
 have ps:∀t,1<=t->t<4->some ⟨t::k.st,k.cl⟩=some D->ki D.st/\tK D.cl/\D.cl.length=k.cl.length:=λt Z hb Y=>by
  obtain rfl:=SK Y;exact⟨λx G=>by
   rcases Sm.1 G with rfl|G
   ·exact⟨Z,hb⟩
   exact O x G,R,rfl⟩
 have one:∀x,1<=x->x<4->ki [x]:=λx Z hb t E=>by simp at E;subst E;exact⟨Z,hb⟩
 have e:z=1\/z=2\/z=3\/z=4\/z=5\/z=6\/z=7\/z=8\/z=9\/z=10\/z=11\/z=12\/z=13\/z=14\/z=15\/z=16\/z=17\/z=18:=by omega
 have J:some k=some D->ki D.st/\tK D.cl/\D.cl.length=k.cl.length:=λh=>by obtain rfl:=SK h;exact⟨O,R,rfl⟩
 rcases e with rfl|rfl|rfl|rfl|rfl|rfl|rfl|rfl|rfl|rfl|rfl|rfl|rfl|rfl|rfl|rfl|rfl|rfl
 ·exact ps 1 (by omega) (by omega) h
 ·exact ps 2 (by omega) (by omega) h
 ·exact ps 3 (by omega) (by omega) h
 ·exact ps (jw n) (by unfold jw;(repeat' split)<;>omega) (by unfold jw;(repeat' split)<;>omega) h
 ·have e:dZ 5 n k=(match k.st with
   |[]=>none
   |t::r=>some ⟨r,k.cl.set n t⟩):=rfl
  rw[e] at h;split at h
  ·cases h
  rename_i t r V;obtain rfl:=SK h;refine⟨λx G=>O x (by rw[V];simp[G]),λx G=>?_,by simp⟩
  rcases List.mem_or_eq_of_mem_set G with G|rfl
  ·exact R x G
  exact(O x (by rw[V];simp)).2
 ·have e:dZ 6 n k=if k.cl.getD n 0=0 then none else some ⟨k.cl.getD n 0::k.st,k.cl⟩:=rfl;rw[e] at h;by_cases h0:k.cl.getD n 0=0
  ·rw[RK h0] at h;cases h
  rw[RH h0] at h;refine ps (k.cl.getD n 0) (by omega) ?_ h
  rw[RG];cases e:k.cl[n]? with
  |none=>decide
  |some v=>exact R v (UJ e)
 ·exact I (one 1 (by omega) (by omega)) h
 ·exact I (one 1 (by omega) (by omega)) h
 ·have e:dZ 9 n k=(match k.st with
   |x::y::r=>if x=y then some ⟨2::r,k.cl⟩ else none
   |_=>none):=rfl
  rw[e] at h;split at h
  ·rename_i x y r V;split at h
   ·obtain rfl:=SK h;exact⟨λt E=>by
     rcases Sm.1 E with rfl|E
     ·omega
     exact O t (by rw[V];simp[E]),R,rfl⟩
   cases h
  cases h
 ·exact I (one 2 (by omega) (by omega)) h
 ·exact I (one 2 (by omega) (by omega)) h
 ·exact I (one 2 (by omega) (by omega)) h
 ·exact I (one 2 (by omega) (by omega)) h
 ·exact I (one 2 (by omega) (by omega)) h
 ·exact I (λt E=>by simp at E) h
 ·exact J h
 ·exact J h
 exact J h
theorem PQ (h:vr a st c) (O:vr b D c2) (V:a.cl.length=b.cl.length):vr ⟨a.st,hU a.cl b.cl⟩ st (ti c c2 c.length):=by
 refine⟨h.st,by rw[iB];have:=h.len;simp[hU];omega,λi=>?_⟩
 show _=(((hU a.cl b.cl).getD i 0:Nat):Int);rw[vI];by_cases E:i<c.length
 ·have R:=h.len;rw[oT _ _ _ E,RK E,h.cl i,O.cl i,RK (c:=i<a.cl.length/\i<b.cl.length) ⟨by omega,by omega⟩]
  by_cases e:a.cl.getD i 0=b.cl.getD i 0
  ·rw[RK e,RK (by omega)]
  rw[RH e,RH (by omega)];rfl
 have G:=h.cl i;rw[RG,R2 (by omega)] at G
 have U:a.cl.getD i 0=0:=by simp only[Option.getD_none] at G;omega
 rw[RG,R2 (by rw[iB];omega),U]
 simp
theorem AU (h:sR b x):cy b x.pl=x.op:=by have:=h.here;rw[this];rfl
theorem GO (h:sR b x) (q:cE x.op=2):x.n=(cy b (x.pl+1)):=by
 have z:x.n=mK b x.op x.pl:=by have:=h.here;rw[this];rfl
 rw[z];unfold mK
 rw[RH (by intro e;rw[e] at q;simp[cE] at q),q]
 simp[eO]
theorem zI (h:sR b x) (q:cE x.op=3):x.n=(cy b (x.pl+1)*256+cy b (x.pl+2)):=by
 have z:x.n=mK b x.op x.pl:=by have:=h.here;rw[this];rfl
 rw[z];unfold mK
 rw[RH (by intro e;rw[e] at q;simp[cE] at q),q]
 simp[eO]
theorem Jw (U:sR b x) (G:b.length<=4000) (I:k.st.length<=100) (hc:k.cl.length=cy b 2) (J:ki k.st) (V:tK k.cl) (w):
 Calls prog 46 #[S b,Iq x.pl,po k] w λe w'=>nx (dZ x.op x.n.toNat k) e/\Below w.heap.size w w':=by
 have hN:=kD U;have R:k.cl.length<=255:=by have:=fq b 2;omega
 have Y:=AU U;have hf:=U.fits;have aa:=Ub U.size;have E:x.pl<(ByteArray.mk b.toArray).size:=by show x.pl<b.length;omega
 have q:=(gq b x.pl E).trans Y;have A:cE x.op=2-> ∃D:x.pl+1<(ByteArray.mk b.toArray).size,((ByteArray.mk b.toArray)[x.pl+1]).toNat=x.n.toNat:=λZ=>by
  have O:=GO U Z;refine⟨by show x.pl+1<b.length;omega,?_⟩
  rw[gq b (x.pl+1) (by show x.pl+1<b.length;omega),O];rfl
 have z:cE x.op=2->(x.n.toNat:Int)<=dC x.op (cy b 2):=λZ=>by
  obtain⟨q1,q2,_⟩:=hN.two Z;omega
 obtain⟨o1,o2⟩:=hN.op
 by_cases q1:x.op<=3
 ·exact Jm G I J E q (by omega) w
 by_cases q2:16<=x.op
 ·exact Jn G I J E q (by omega) w
 by_cases q3:x.op=4\/x.op=5\/x.op=6\/x.op=9
 rotate_left
 ·exact Jo G I J E q (by omega) w
 rcases q3 with e|e|e|e
 ·rw[e] at q A z⊢
  obtain⟨D,O⟩:=A rfl;have z:=z rfl;have:dC 4 (cy b 2)=8:=rfl;exact QS G I R J V E q D O (by omega) w
 ·rw[e] at q A z⊢
  obtain⟨D,O⟩:=A rfl;have z:=z rfl;have:dC 5 (cy b 2)=(cy b 2:Int) - 1:=rfl;exact QT G I R J V E q D O (by omega) w
 ·rw[e] at q A z⊢
  obtain⟨D,O⟩:=A rfl;have z:=z rfl;have:dC 6 (cy b 2)=(cy b 2:Int) - 1:=rfl;exact QU G I R J V E q D O (by omega) w
 ·rw[e] at q⊢;exact QV G I R J V E q w
section
attribute [local go_sem ↓] Go.wp_at_zero Go.wp_at_succ
def zJ (z:Nat) (D:Int) (i:Nat):List Int:=if z=17\/z=18 then[] else if z=16 then[D] else if z=15 then[(i:Int)+1,D] else[(i:Int)+1]
theorem newRow (w:World) (e) (l) (z:l.length<=100):IR (w.alloc (.cells (l.map (Value.int .i64)).toArray e)) e (Sq w.heap.size l.length l.length) l:=by
 have h:=U4 (base:=0) (e:=e) (size:=1) w (l.map (Value.int .i64)).toArray l.length (R0 _) (by unfold maxLen;omega) (by simp)
 simpa [IR] using h
theorem Ft (D) (n z pl:Int) (i:Nat) (hi:i<=5000) (w):
 Calls prog 190 #[fV D n z pl,Iq i] w λe w'=>(∃v,e= .returned v/\IR w' 3 v (zJ D z i)/\ ∀b,v.ownBlock=some b->w.heap.size<=b)/\Below w.heap.size w w':=by
 have V:Hid (∀l:List Int,l.length<=100-> ∀w:World,IR (w.alloc (.cells (l.map (Value.int .i64)).toArray 3)) 3 (Sq w.heap.size l.length l.length) l):=λl hl w=>newRow w _ l hl
 have Y:Hid (∀o Z,Below w.heap.size w ((w.alloc o).alloc Z)):=λo Z=>((RP _ _).alloc (RL _) _).alloc (by simp) _
 have O:Hid (∀o,Below w.heap.size w (w.alloc o)):=λo=>((RP _ _).alloc (RL _) _)
 unfold fV
 by_cases R:D=17
 ·subst R
  have E:Hid (zJ 17 z i=[]):=rfl;generalize zJ 17 z i=L at*;go_enter func190,ntmps190
  go_wp2
  go_ret;exact⟨⟨_,rfl,by rw[E.out];exact IR.nil _ _,λb G=>by simp[Value.ownBlock] at G⟩,O.out _⟩
 by_cases U:D=18
 ·subst U
  have E:Hid (zJ 18 z i=[]):=rfl;generalize zJ 18 z i=L at*;go_enter func190,ntmps190
  go_wp2
  go_ret;exact⟨⟨_,rfl,by rw[E.out];exact IR.nil _ _,λb G=>by simp[Value.ownBlock] at G⟩,O.out _⟩
 by_cases I:D=16
 ·subst I
  have E:Hid (zJ 16 z i=[z]):=rfl;generalize zJ 16 z i=L at*;go_enter func190,ntmps190
  go_wp2
  go_ret;refine⟨⟨_,rfl,?_,λb G=>by simp[Value.ownBlock] at G;omega⟩,Y.out _ _⟩
  rw[E.out];have:=V.out [z] (by simp) (w.alloc (.cells #[Iq 16,Iq n,Iq z,Iq pl] 247));simpa using this
 by_cases J:D=15
 ·subst J
  have E:Hid (zJ 15 z i=[(i:Int)+1,z]):=rfl;generalize zJ 15 z i=L at*;go_enter func190,ntmps190
  go_wp2
  go_ret;refine⟨⟨_,rfl,?_,λb G=>by simp[Value.ownBlock] at G;omega⟩,Y.out _ _⟩
  rw[E.out];have:=V.out [(i:Int)+1,z] (by simp) (w.alloc (.cells #[Iq 15,Iq n,Iq z,Iq pl] 247));simpa using this
 ·have E:Hid (zJ D z i=[(i:Int)+1]):=by show _=_;unfold zJ;rw[RH (by omega),RH I,RH J]
  have aa:((D:Int)==17)=false:=by simp;omega
  have ab:((D:Int)==18)=false:=by simp;omega
  have ac:((D:Int)==16)=false:=by simp;omega
  have ad:((D:Int)==15)=false:=by simp;omega
  generalize zJ D z i=L at*;go_enter func190,ntmps190
  go_wp2
  go_ret;refine⟨⟨_,rfl,?_,λb G=>by simp[Value.ownBlock] at G;omega⟩,Y.out _ _⟩
  rw[E.out];have:=V.out [(i:Int)+1] (by simp) (w.alloc (.cells #[Iq D,Iq n,Iq z,Iq pl] 247));simpa using this
structure fG (w:World) (B g lo:Nat) (O:Nat->Nat) (come:List (Option Kn)):Prop where
 blk:∃cs,w.heap[g]?=some (.cells cs 285 (0,0))/\cs.size=come.length
 non:∀j,lo<=j->j<come.length->come.getD j none=none->w.cell? ⟨g,j,none⟩=some (.pointer none)
 som:∀j,lo<=j->j<come.length-> ∀k,come.getD j none=some k-> ∃p vs vc st c,w.cell? ⟨g,j,none⟩=some (Pq p)/\fk w p vs vc st c/\vr k st c/\ ∀b,eJ p vs vc b->O b=j+1
 own:O g=0
 low:∀b,O b≠0->B<=b
 lowg:B<=g
 siz:B<=w.heap.size
end
end Go.Proofs.YtfkdailfcmnjlaaGreatDoor
