/-
  A part.
-/
import Derived.Test.YtfkdailfcmnjlaaGreatDoorMeant18
import Derived.Lib.AppendZerosOnto
set_option linter.unusedVariables false
set_option linter.unusedSimpArgs false
set_option maxHeartbeats 40000000
set_option maxRecDepth 1000000
namespace Go.Proofs.YtfkdailfcmnjlaaGreatDoor
open Go Go.RowKit Tryz
variable {v D vs vc G u us uc R I E Y:Value} {l st c d c2 st' c' L:List Int} {w z w' J:World} {a:List Nat} {p m i q U n B g lo j V gi:Nat} {b:List UInt8} {k k':Kn} {O:Nat→Nat}
theorem qk (k:Nat):Builtin.zeroCells (Value.int .i64 0).cells k=(List.replicate k (Value.int .i64 0)).toArray:=by
 have e:(Value.int .i64 0).cells= #[Value.int .i64 0]:=rfl;rw[e]
 apply Array.ext
 ·simp[Builtin.zeroCells]
 ·intro j z D
  simp[Builtin.zeroCells,acv]
theorem xz {P:Program} (w:World) (t U ty e:TypeId) (i:TypeInfo) (kq kn:IntKind) (ht:P.underlying t=some (.slice e)) (V:P.underlying U=some (.int kn)) (hi:P.info? e=some i) (hz:i.zero=some (Iq 0)) (hs:i.size=1) (hb:i.bytes=8)
 (g z E:Nat) (D:Array Value) (hg:w.heap[g]?=some (.cells D e (0,0))) (k:Nat) (h0:0<k) (hk:k≤100000) (G:z+k≤E) (J:z+k≤D.size):
 (Builtin.append_ #[t,U] ty #[Sq g z E,.int kq k]).run P w=
  .ok (Sq g (z+k) E) (w.setRow g (D.toList.take z++List.replicate k (Value.int .i64 0)++D.toList.drop (z+k)).toArray):=by
 have Y:k≠0:=by omega
 have hw:IntKind.i64.wrap (k:Int)=k:=by rw[ZY];omega
 have O: ¬((k:Int)<0):=by omega
 have R: ¬(281474976710656<(k:Int)*8):=by omega
 have I:=run_storeCells_at P g z e (List.replicate k (Value.int .i64 0)) 0 D w hg (by simpa using J) (fun u hu=>by rw[List.eq_of_mem_replicate hu];rfl)
 simp only[abG,aaw] at I;have Z:=qk k;simp[Builtin.append_,run_underlying ht,run_underlying V,sizeOf,typeInfo,zeroValue,hi,hz,hs,hb,asInt,asIntOf,hw,O,R,Y,G,Z,Addr.add_lit,I]
theorem uG {P:Program} (w:World) (t O ty e:TypeId) (i:TypeInfo) (Y kn:IntKind) (ht:P.underlying t=some (.slice e)) (R:P.underlying O=some (.int kn)) (hi:P.info? e=some i) (hz:i.zero=some (Iq 0)) (hs:i.size=1) (Z:i.bytes=8)
 (h:IR w e v l) (k:Nat) (h0:0<k) (hk:l.length+k≤100000):
 ∃g cap w',(Builtin.append_ #[t,O] ty #[v,.int Y k]).run P w= .ok (Sq g (l.length+k) cap) w'∧IR w' e (Sq g (l.length+k) cap) (l++List.replicate k 0)∧w.grownBy w' v.ownBlock∧(v.ownBlock=some g∨g=w.heap.size)∧g<w'.heap.size:=by
 have z:(l++List.replicate k (0:Int)).length=l.length+k:=by simp
 have U:(l++List.replicate k (0:Int)).map (Value.int .i64)=l.map (Value.int .i64)++List.replicate k (Value.int .i64 0):=by simp
 have grown:∀(D:Nat) (row:Option Nat),
  IR (w.drew.alloc (.cells ((l.map (Value.int .i64)).toArray++Builtin.zeroCells (Value.int .i64 0).cells k++Builtin.zeroCells (Value.int .i64 0).cells (grownCap w (l.length+k) D e - (l.length+k))) e)) e (Sq w.heap.size (l.length+k) (grownCap w (l.length+k) D e)) (l++List.replicate k 0)∧
  w.grownBy (w.drew.alloc (.cells ((l.map (Value.int .i64)).toArray++Builtin.zeroCells (Value.int .i64 0).cells k++Builtin.zeroCells (Value.int .i64 0).cells (grownCap w (l.length+k) D e - (l.length+k))) e)) row:=by
  intro D row;have ac:=grownCap_ge w (l.length+k) D e;have V:=grownCap_le_maxLen w (l.length+k) D e (by unfold maxLen;omega)
  refine⟨⟨by simp,.inr ⟨w.heap.size,_,_,by rw[z],ZL _,Zy w.drew _,by rw[z];exact ac,V,?_,?_⟩⟩,⟨rfl,rfl,rfl,by simp,fun k hk _=>ZE w.drew _ k hk⟩⟩
  ·have e1:(Value.int .i64 0).cells.size=1:=rfl
   simp only[Array.size_append,acm,size_zeroCells,e1,aaA];omega
  ·rw[qk k,U,z]
   simp only[Array.toList_append];exact List.take_left' (by simp)
 rcases h.2 with⟨rfl,h2⟩|⟨g,cap,aa,rfl,ad,hg,af,V,ag,I⟩
 ·have ae:l=[]:=aap h2
  subst ae;have G:=Lib.run_append_nil_zeros (P:=P) w t O ty e i (Iq 0) Y kn ht R hi hz k h0 (by omega) (by omega) (by rw[Z];omega)
  have E:=grown 0 (Value.ownBlock (.slice none 0 0));simp only[aas,aaq,aai,aaF,Array.empty_append] at E⊢;exact⟨_,_,_,G,E.1,E.2,.inr rfl,by simp⟩
 ·by_cases J:l.length+k≤cap
  ·have G:=xz (P:=P) w t O ty e i Y kn ht R hi hz hs Z g l.length cap aa hg k h0 (by omega) J (by omega)
   refine⟨_,_,_,G,⟨by simp,.inr ⟨g,cap,_,by rw[z],ad,setRow_heap w g aa _ e _ hg,by rw[z];exact J,V,?_,?_⟩⟩,⟨rfl,rfl,rfl,by simp,fun k _ hk=>setRow_other w g k _ (fun e=>hk (by simp[Value.ownBlock,e]))⟩,.inl rfl,?_⟩
   ·simp only[acm,ZC,abE,List.length_drop,abY,aaw]
    omega
   ·rw[Nat.mul_one] at I
    rw[I,U,z];exact List.take_left' (by simp)
   ·simpa using be hg
  ·have ab:(Builtin.firstCells i.size l.length (Sq g l.length cap)).run P w.drew= .ok (l.map (Value.int .i64)).toArray w.drew:=by
    have G:=h;exact run_firstCells_some (P:=P) w.drew i.size l.length ⟨g,0,none⟩ l.length cap _ (by rw[hs];simp) (G.cells (g:=g) rfl)
   have G:=Lib.run_append_grow_zeros (P:=P) w t O ty e i (Iq 0) Y kn ht R hi hz (some ⟨g,0,none⟩) l.length cap (l.map (Value.int .i64)) ab k h0 (by omega) (by omega) (by omega) (by rw[Z];omega) (growslice_fits (by omega) (by rw[Z];omega))
   have E:=grown cap (Value.ownBlock (Sq g l.length cap));exact⟨_,_,_,G,E.1,E.2,.inr rfl,by simp⟩
theorem rj {P:Program} {D:Array Oper} {rest:List Oper} {o:Oper} {a:Act} {Q:Exit→Act→World→Prop} (E:o.guard=none) (s x:Operand) (t z:TypeId)
 (J:o.op= .call {callee:= .builtin .append,args:= #[s,x],argTypes:= #[t,z]}) (e:TypeId) (i:TypeInfo) (G kn:IntKind) (O:P.underlying t=some (.slice e)) (I:P.underlying z=some (.int kn)) (R:P.info? e=some i) (U:i.zero=some (Iq 0)) (V:i.size=1) (Y:i.bytes=8)
 (k:Nat) (Z:a.eval s=v) (hx:a.eval x= .int G k) (h:IR w e v l) (h0:0<k) (hk:l.length+k≤100000)
 (hK:∀g cap w',IR w' e (Sq g (l.length+k) cap) (l++List.replicate k 0)→w.grownBy w' v.ownBlock→(v.ownBlock=some g∨g=w.heap.size)→g<w'.heap.size→wpList P D Q rest (a.put o.dst (Sq g (l.length+k) cap)) w'):wpList P D Q (o::rest) a w:=by
 obtain⟨g,cap,w',hr,h1,h2,h3,h4⟩:=uG (P:=P) w t z o.type e i G kn O I R U V Y h k h0 hk;exact Lib.wpList_append_run w E s x t z J v _ Z hx _ _ hr (hK g cap w' h1 h2 h3 h4)
attribute [local go_sem ↓] Go.wp_at_zero Go.wp_at_succ
theorem Eh (k:Nat) (x:Int) (h:fM w p vs vc st c) (U:k≤255) (hc:c.length≤256):
 Calls prog 233 #[Pq p,Iq k,Iq x] w fun e w'=>e= .returned (.tuple #[])∧dB w w' p vs vc st (lI c k x):=by
 have ab:w.cell? ⟨p,1,none⟩=some vc:=by rw[Zz w p 1 _ _ _ h.blk];rfl
 have ah:w.frozen? ⟨p,1,none⟩=false:=by simp[World.frozen?,h.blk]
 have ai:=be h.blk;have I:=h.cl.ne h.blk tE
 by_cases Y:k<c.length
 ·obtain⟨g,cap,rfl,Z⟩:=h.cl.form (by omega)
  have ac:=h.cl.cell Y;have aj:=h.cl.frz k;have e:lI c k x=c.set k x:=by unfold lI;rw[show k+1 - c.length=0 by omega];simp
  rw[e];have aa:g≠p:=fun e=>I (by rw[e];rfl)
  have HA:Hid (dB w (w.setCell ⟨g,k,none⟩ (Iq x)) p vs (Sq g c.length cap) st (c.set k x)):=by
   have ho:dt (fun b=>b=g) w (w.setCell ⟨g,k,none⟩ (Iq x)):=(dt.refl (fun b=>b=g) w).setCell (.inl rfl) _
   refine⟨vs,Sq g c.length cap,⟨(ho.block p ai (fun e=>aa e.symm)).trans h.blk,h.st.only ho (fun b z e=>?_),h.cl.set Y x,h.ne⟩,ho.weak (fun i _ V=>?_),fun b z=> .inl z⟩
   ·subst e;exact h.ne b z rfl
   ·subst V;exact .inr (.inr rfl)
  generalize c.getD k 0=y at*;generalize c.length=n at*;go_enter func233,ntmps233
  go_wp2
  go_end0
  exact⟨rfl,HA.out⟩
 ·obtain⟨d,rfl⟩:∃d,k=c.length+d:=⟨k - c.length,by omega⟩
  have e:lI c (c.length+d) x=(c++List.replicate (d+1) 0).set (c.length+d) x:=by unfold lI;rw[show c.length+d+1 - c.length=d+1 by omega]
  rw[e];obtain⟨a,cap,rfl⟩:=h.cl.sl;obtain⟨i0,V,hz⟩:=ZP.1 sr;simp only[ZT] at hz;obtain⟨ak,am,an⟩:=hz;have HE:=Hi e;generalize hn:c.length=n at h ab hc U Y I HE⊢;have H:=Hi h;have HN:=Hi I;have J:=Hi hn;go_enter func233,ntmps233
  go_wp2_with (
   at_builtin
   go_must (refine rj (by rfl) _ _ 219 3 (by rfl) 220 i0 .i64 .i64 underlying219 underlying3 V ak am an (d+1) (by rfl) (by simp[go_sem];omega) H.out.cl (by omega) (by rw[J.out];omega) ?_)
   rw[J.out];intro gg O D E G R av;have aa:gg≠p:=by
    intro e;rcases R with h|h
    ·exact HN.out (by rw[h,e])
    ·omega
   have ac:=E.cell (k:=n+d) (by simp[J.out])
   have aj:=E.frz (n+d);generalize ((c++List.replicate (d+1) 0).getD (n+d) 0)=y at ac;have e0:=(G.block _ (by omega) (fun e=>HN.out e.symm))
   have e1:=(ZI (a:=⟨p,1,none⟩) e0).trans ab;have e2:=(aao (a:=⟨p,1,none⟩) e0).trans ah;have ao:=Hi e0;have ap:=Hi E;have ad:=Hi G
   clear e0 E G)
  go_end0
  refine⟨rfl,?_⟩;have hO:=ap.out;rw[show n+(d+1)=(c++List.replicate (d+1) (0:Int)).length by rw[ZC,J.out,aaw]] at hO⊢
  have h1:=hO;have aq:dt (fun b=>b=p) D (D.setCell ⟨p,1,none⟩ (Sq gg (c++List.replicate (d+1) (0:Int)).length O)):=(dt.refl (fun b=>b=p) D).setCell (.inl rfl) _
  have h2:=h1.only aq (fun g Z=>by simp[Value.ownBlock] at Z;omega)
  have h3:=h2.set (j:=n+d) (by simp[J.out]) x
  have hE:dt (fq p vs (.slice a n cap)) w D:=(dt.refl _ w).grown ad.out (fun k U=> .inl (.inr (.inr U)))
  have ae:dt (fun b=>b=p∨b=gg) D ((D.setCell ⟨p,1,none⟩ (Sq gg (c++List.replicate (d+1) (0:Int)).length O)).setCell ⟨gg,n+d,none⟩ (Iq x)):=((dt.refl (fun b=>b=p∨b=gg) D).setCell (.inl (.inl rfl)) _).setCell (.inl (.inr rfl)) _
  have ar:∀i,i<w.heap.size→i=gg→fq p vs (.slice a n cap) i:=fun i V e=>by
   subst e;rcases R with h|h
   ·exact .inr (.inr h)
   ·omega
  have ag:=ao.out.trans H.out.blk;have au:IR D 220 vs st:=dE H.out.st (fun k U=>ad.out.block k (H.out.st.lt k U).2 (fun e=>H.out.ne k U e.symm))
  have af:vs.ownBlock≠some gg:=fun e=>by
   rcases R with h|h
   ·exact H.out.ne gg e h
   ·have:=(H.out.st.lt gg e).2;omega
  refine⟨vs,Sq gg (c++List.replicate (d+1) (0:Int)).length O,⟨?_,au.only ae (fun g Z e=>?_),h3,fun b z e=>?_⟩,hE.trans ae (fun _ _ h=>h) (fun i V h=>?_),fun b z=>?_⟩
  ·rw[ZO _ _ _ _ (by simpa using fun e=>aa e.symm),ZK D p 1 _ _ _ ag];rfl
  ·rcases e with e|e
   ·subst e;exact H.out.st.ne H.out.blk tE Z
   ·subst e;exact af Z
  ·simp[Value.ownBlock] at e;subst e;exact af z
  ·rcases h with h|h
   ·exact .inl h
   ·exact ar i V h
  ·rcases z with z|z|z
   ·exact .inl (.inl z)
   ·exact .inl (.inr (.inl z))
   ·simp[Value.ownBlock] at z
    rcases R with h|h
    ·subst z;exact .inl (.inr (.inr h))
    ·right;omega
theorem xA (h:IR w 220 v l) (hl:l.length≤5000):
 Calls prog 259 #[v] w fun e w'=> ∃z,e= .returned z∧IR w' 220 z l∧Below w.heap.size w w'∧ ∀b,z.ownBlock=some b→w.heap.size≤b:=by
 rcases h.2 with⟨rfl,Y⟩|⟨g,cap,ai,rfl,Z,hg,aa,ab,ac,I⟩
 ·have ad:l=[]:=aap Y
  subst ad;have D:∀w,(binOp .eql 219 (.slice none 0 0) (.slice none 0 0)).run prog w= .ok (.bool true) w:=fun w=>Lib.run_eql_slice_nil w _ 220 none 0 0 0 0 underlying219
  go_enter func259,ntmps259
  go_wp2
  go_ret;exact⟨_,rfl,IR.nil _ _,ZA _ _,fun b U=>by simp[Value.ownBlock] at U⟩
 ·obtain⟨i0,hi,hz⟩:=ZP.1 sr
  simp only[ZT] at hz;obtain⟨ae,af,ag⟩:=hz;have D:∀w,(binOp .eql 219 (Sq g l.length cap) (.slice none 0 0)).run prog w= .ok (.bool false) w:=fun w=>Lib.run_eql_slice_nil w _ 220 (some ⟨g,0,none⟩) l.length cap 0 0 underlying219
  have H:=Hi h;have H0:=Hi (acn (base:=w.heap.size) (e:=220) (size:=1) w #[] 0 (Zw _) (by decide) rfl)
  go_enter func259,ntmps259
  go_wp2_with (
   at_builtin
   go_must (refine wpList_append_own_at _ (by rfl) _ _ 219 (by rfl) w.heap.size 220 i0 (Iq 0) 1 8 underlying219 hi ae af ag (by rfl) (by decide) _ _ _ (by rfl) H0.out ⟨g,0,none⟩ l.length cap (l.map (Value.int .i64)) (by rfl) (by simp) (World.ownsRow.cells (H.out.alloc _) (g:=g) rfl) (fun x hx=>by simp at hx;obtain⟨y,_,rfl⟩:=hx;rfl) (by unfold maxLen;omega) (by omega) (by simp) ?_)
   intro z V E G D ah;have O:=Hi E;have R:=Hi G
   clear E G D)
  have J:=O.out;rw[aaq,aaF] at J;have HA:Hid (IR V 220 z l∧Below w.heap.size w V∧ ∀b,z.ownBlock=some b→w.heap.size≤b):=by
   refine⟨zH J (ZL _),?_,fun b U=>(J.lt b U).1⟩
   exact abZ ((ZA _ w).alloc (Zw _) _) R.out (by simp) (fun k hk=>by simp[Value.ownBlock] at hk;omega)
  go_ret;exact⟨z,rfl,HA.out⟩
theorem Cp {cs:Array Value} {ty:TypeId} (J:w.heap[p]?=some (.cells cs ty (0,0))) (R:cs[0]?=some v) (h:IR w 220 v l) (hl:l.length≤5000):
 Calls prog 258 #[Pq p] w fun e w'=> ∃z,e= .returned (.agg #[z])∧IR w' 220 z l∧Below w.heap.size w w'∧ ∀b,z.ownBlock=some b→w.heap.size≤b:=by
 have U:w.cell? ⟨p,0,none⟩=some v:=by rw[Zz w p 0 _ _ _ J];exact R
 have V:=be J;have W1:∀W,Below w.heap.size w W→Calls prog 259 #[v] W fun e w'=> ∃z,e= .returned z∧IR w' 220 z l∧Below W.heap.size W w'∧ ∀b,z.ownBlock=some b→W.heap.size≤b:=fun W O=>xA (dn h O) hl
 obtain⟨a,cap,rfl⟩:=h.sl;have ab:∀o,(w.alloc o).cell? ⟨p,0,none⟩=some (.slice a l.length cap):=fun o=>by rw[ZI (w:=w) (a:=⟨p,0,none⟩) (ZE w o p V)];exact U
 go_enter func258,ntmps258
 go_wp2_with (
  go_at_call 259
  apply(W1 _ ((ZA _ w).alloc (Zw _) _)).mono;rintro e w' ⟨z,rfl,E,G,h3⟩;obtain⟨Y,I,rfl⟩:=E.sl;have D:=(G.block w.heap.size (by simp)).trans (Zy w _)
  have Z:w'.cell? ⟨w.heap.size,0,none⟩=some (.slice none 0 0):=by rw[Zz w' _ 0 _ _ _ D];rfl
  have ac:w'.frozen? ⟨w.heap.size,0,none⟩=false:=by simp[World.frozen?,D]
  have HA:=Hi (And.intro E (And.intro G h3))
  clear E G h3 D)
 refine ZH (v:= .agg #[.slice Y l.length I]) (by simp[results,results258,go_sem,fg,Z]) rfl ?_
 obtain⟨E,G,h3⟩:=HA.out;rw[ZB] at h3;have aa:∀g,(Value.slice Y l.length I).ownBlock=some g→ ¬(g=w.heap.size):=fun g hg e=>by have:=h3 g hg;omega
 refine⟨_,rfl,E.only ((dt.refl (fun b=>b=w.heap.size) w').setCell (.inl rfl) _) aa,?_,fun b O=>by have:=h3 b O;omega⟩
 exact(((ZA _ w).alloc (Zw _) _).trans (G.mono (by simp))).setCell (by simp) _
theorem Ei (h:fM w p vs G st c) (hl:st.length≤5000) (ae:c.length≤5000):
 Calls prog 236 #[Pq p] w fun e w'=> ∃p' aa ab,e= .returned (Pq p')∧fM w' p' aa ab st c∧Below w.heap.size w w'∧ ∀b,fq p' aa ab b→w.heap.size≤b:=by
 have af:w.cell? ⟨p,1,none⟩=some G:=by rw[Zz w p 1 _ _ _ h.blk];rfl
 have ag:=be h.blk;have W1:∀W,Below w.heap.size w W→Calls prog 258 #[Pq p] W fun e w'=> ∃O,e= .returned (.agg #[O])∧IR w' 220 O st∧Below W.heap.size W w'∧ ∀b,O.ownBlock=some b→W.heap.size≤b:=fun W z=>
  Cp (w:=W) (v:=vs) ((z.block p ag).trans h.blk) rfl (dn h.st z) hl
 have W2:∀W,Below w.heap.size w W→Calls prog 259 #[G] W fun e w'=> ∃O,e= .returned O∧IR w' 220 O c∧Below W.heap.size W w'∧ ∀b,O.ownBlock=some b→W.heap.size≤b:=fun W z=>xA (dn h.cl z) ae
 have KP:Hid (∀W W',(Below w.heap.size w W∧W.cell? ⟨p,1,none⟩=some G)→Below W.heap.size W W'→(Below w.heap.size w W'∧W'.cell? ⟨p,1,none⟩=some G)):=fun W W' E z=>⟨E.1.trans (z.mono E.1.size),by rw[z.cell (Zx W _ E.2)];exact E.2⟩
 have KD:Hid (∀W:World,(Below w.heap.size w W∧Cq W p 1 G)→(Below w.heap.size w W.drew∧Cq W.drew p 1 G)):=fun W E=>⟨E.1.drew,E.2⟩
 have KA:Hid (∀(W:World) (o:Obj),(Below w.heap.size w W∧W.cell? ⟨p,1,none⟩=some G)→(Below w.heap.size w (W.alloc o)∧(W.alloc o).cell? ⟨p,1,none⟩=some G)):=fun W o E=>⟨E.1.alloc E.1.size _,by rw[ZI (w:=W) (a:=⟨p,1,none⟩) (ZE W o p (by have:=E.1.size;omega))];exact E.2⟩
 have ah:Below w.heap.size w w∧Cq w p 1 G:=⟨ZA _ _,af⟩;obtain⟨a,cap,rfl⟩:=h.cl.sl;go_enter func236,ntmps236;go_wp2
 go_region_held3 (fun w'=>Below w.heap.size w w'∧Cq w' p 1 (.slice a c.length cap)) (first|with_reducible exact KD.out _ (by assumption)|with_reducible exact KP.out _ _ (by assumption) (by assumption)|with_reducible exact KA.out _ _ (by assumption)|with_reducible assumption|go_keep)
  (first
   |(go_at_call 258;refine(W1 _ (by exact acf (by assumption))).mono ?_;rintro e w1 ⟨v1,rfl,R,D,ac⟩;obtain⟨a1,I,rfl⟩:=R.sl)
   |(go_at_call 259;refine(W2 _ (by exact acf (by assumption))).mono ?_;rintro e V ⟨v2,rfl,Y,U,Z⟩;obtain⟨a2,J,rfl⟩:=Y.sl))
 rename_i hHeld
 have ai:w.heap.size≤w1.heap.size:=D.size;have aj:=U.size;have HA:Hid (fM (V.alloc (.cells #[.slice a1 st.length I,.slice a2 c.length J] 289)) V.heap.size (.slice a1 st.length I) (.slice a2 c.length J) st c∧Below w.heap.size w (V.alloc (.cells #[.slice a1 st.length I,.slice a2 c.length J] 289))∧ ∀b,fq V.heap.size (.slice a1 st.length I) (.slice a2 c.length J) b→w.heap.size≤b):=by
  refine⟨⟨Zy _ _,(dn R U).alloc _,Y.alloc _,fun b h1 h2=>?_⟩,hHeld.1,fun b z=>?_⟩
  ·have:=(R.lt b h1).2
   have:=Z b h2;omega
  ·rcases z with rfl|z|z
   ·omega
   ·exact ac b z
   ·have:=Z b z;omega
 go_wp2
 go_ret;exact⟨_,_,_,rfl,HA.out⟩
theorem Ej {m:List Int} (h:IR w 220 v l) (z:IR w 220 u m) (hl:l.length≤5000) (hm:m.length≤5000):
 Calls prog 272 #[v,u] w fun e w'=>e= .returned (.bool (decide (l=m)))∧Below w.heap.size w w':=by
 obtain⟨a,cap,rfl⟩:=h.sl;obtain⟨b,ab,rfl⟩:=z.sl
 by_cases R:l.length=m.length
 ·have HE:Hid _:=R
  have H1:=Hi h;have H2:=Hi z;clear h z;go_enter func272,ntmps272;go_wp2_with fail
  go_loopw [13] (fun i wr=> ∃k:Nat,k≤m.length∧i= Iq k∧Hid (∀q,q<k→l.getD q 0=m.getD q 0)∧Hid (Below w.heap.size w wr)) (fun i _=>m.length - (intOf i).toNat)
  case atStart=>exact⟨0,ZL _,rfl,fun q hq=>by omega,ZA _ _⟩
  case round=>
   obtain⟨k,hk,rfl,U,E⟩:=hrel
   by_cases ad:k<m.length
   ·have G:IR wr 220 _ l:=dn H1.out E.out
    have I:IR wr 220 _ m:=dn H2.out E.out;obtain⟨g,c1,V,_⟩:=G.form (by omega)
    obtain⟨g2,c2,Y,_⟩:=I.form (by omega)
    simp at V Y;obtain⟨rfl,rfl⟩:=V;obtain⟨rfl,rfl⟩:=Y;have Z:=G.cell (k:=k) (by omega)
    have aa:=I.cell (k:=k) (by omega)
    have HX:Hid (l.getD k 0=l.getD k 0∧m.getD k 0=m.getD k 0):=⟨rfl,rfl⟩;clear G I;have HL:Hid (∀x y,l.getD k 0=x→m.getD k 0=y→l.getD k 0=x∧m.getD k 0=y):=fun _ _ O z=>⟨O,z⟩
    generalize hx:l.getD k 0=x at Z;generalize hy:m.getD k 0=y at aa;have D:=Hi (And.intro hx hy);clear hx hy HX HL;have ae:(0:Int)≤(k:Int)∧(k:Int)<(m.length:Int):=by omega
    have af:(0:Int)≤(k:Int)∧(k:Int)<(l.length:Int):=by omega
    by_cases J:x=y
    ·subst J
     go_wp2_with fail
     go_region
     go_wp2
     refine⟨⟨k+1,by omega,by go_num,fun q hq=>?_,E.out.drew⟩,by simp[intOf];omega⟩
     by_cases e:q=k
     ·subst e;rw[D.out.1,D.out.2]
     ·exact U.out q (by omega)
    ·have ac:(x !=y)=true:=by simpa using J
     have HN:Hid (¬l=m):=fun e=>J (by rw[←D.out.1,←D.out.2,e])
     go_wp2_with fail
     go_region
     go_wp2
     go_ret;exact⟨by simp[HN.out],E.out.drew⟩
   ·have HA:Hid (l=m):=by
     apply abD HE.out
     intro i O z;have:=U.out i (by omega)
     rw[Zs,Zs,Zv O,Zv z] at this;exact this
    go_wp2
    go_ret;exact⟨by simp[HA.out],E.out⟩
 ·have ag:((l.length:Int) !=(m.length:Int))=true:=by simp;omega
  have hd:decide (l=m)=false:=by simp;intro e;exact R (by rw[e])
  rw[hd];clear h z hd;go_enter func272,ntmps272
  go_wp2
  go_ret;exact⟨rfl,ZA _ _⟩
theorem J0 (w:World) (z D:Obj):Below w.heap.size w ((w.alloc z).alloc D):=((ZA _ _).alloc (Zw _) _).alloc (by simp) _
theorem He {m:List Int} (h:IR w 220 v l) (D:IR w 220 u m) (E:l.length≤5000) (G:m.length≤5000):
 Calls prog 260 #[.agg #[v],.agg #[u]] w fun e w'=>e= .returned (.bool (decide (l=m)))∧Below w.heap.size w w':=by
 have I:∀W,Below w.heap.size w W→Calls prog 272 #[v,u] W fun e w'=>e= .returned (.bool (decide (l=m)))∧Below W.heap.size W w':=fun W z=>Ej (dn h z) (dn D z) E G
 obtain⟨a,cap,rfl⟩:=h.sl;obtain⟨b,J,rfl⟩:=D.sl;generalize decide (l=m)=r at*;go_enter func260,ntmps260
 go_wp2_with (
  go_at_call 272
  apply(I _ (J0 w _ _)).mono;rintro e w' ⟨rfl,z⟩)
 go_ret;exact⟨rfl,(J0 w _ _).trans (z.mono (by simp;omega))⟩
def tF (c d:List Int) (k:Nat):List Int:=(List.range c.length).map fun i=>if i<k then(if c.getD i 0=d.getD i 0 then c.getD i 0 else 0) else c.getD i 0
theorem iI (c d:List Int) (k:Nat):(tF c d k).length=c.length:=by simp[tF]
theorem po (c d:List Int) (k:Nat) (h:i<c.length):(tF c d k).getD i 0=if i<k then(if c.getD i 0=d.getD i 0 then c.getD i 0 else 0) else c.getD i 0:=by
 rw[Zs,tF,aaj,abm h];rfl
theorem xB {a b:List Int} (D:a.length=b.length) (h:∀i,i<a.length→a.getD i 0=b.getD i 0):a=b:=by
 apply abD D
 intro i z E;have:=h i z;rw[Zs,Zs,Zv z,Zv E] at this;exact this
theorem Hf (c d:List Int):tF c d 0=c:=xB (iI _ _ _) (fun i z=>by rw[iI] at z;rw[po _ _ _ z,Zt (by omega)])
theorem zd (l:List Int) (k:Nat) (x:Int) (i:Nat):(l.set k x).getD i 0=if i=k∧k<l.length then x else l.getD i 0:=by
 rw[Zs,List.getElem?_set,Zs]
 by_cases e:k=i
 ·subst e
  by_cases h:k<l.length
  ·simp[h]
  ·simp[h,ZQ (Nat.le_of_not_lt h)]
 ·rw[Zt e,Zt (fun h=>e h.1.symm)]
theorem Hg {k:Nat} (h:k<c.length) (e:c.getD k 0=d.getD k 0):tF c d (k+1)=tF c d k:=
 xB (by simp[iI]) (fun i z=>by
  rw[iI] at z;rw[po _ _ _ z,po _ _ _ z]
  by_cases q:i=k
  ·subst q;rw[Zu (by omega),Zu e,Zt (by omega)]
  ·by_cases D:i<k
   ·rw[Zu (by omega),Zu D]
   ·rw[Zt (by omega),Zt D])
theorem J1 {k:Nat} (h:k<c.length) (e:c.getD k 0≠d.getD k 0):tF c d (k+1)=(tF c d k).set k 0:=
 xB (by simp[iI]) (fun i z=>by
  rw[iI] at z;rw[po _ _ _ z,zd,iI,po _ _ _ z]
  by_cases q:i=k
  ·subst q;rw[Zu (by omega),Zt e,Zu ⟨rfl,h⟩]
  ·rw[Zt (c:=i=k∧k<c.length) (fun a=>q a.1)]
   by_cases D:i<k
   ·rw[Zu (by omega),Zu D]
   ·rw[Zt (by omega),Zt D])
theorem Hh {z:List Int} (h:fM w p vs vc st c) (h2:fM w q us uc z c2) (hd:∀b,fq p vs vc b→ ¬fq q us uc b) (hl:st.length≤5000) (ah:z.length≤5000) (hc:c.length≤5000):
 Calls prog 237 #[Pq p,Pq q] w fun e w'=>e= .returned (.bool (decide (st=z)))∧dB w w' p vs vc st (tF c c2 c.length):=by
 have ai:w.cell? ⟨p,1,none⟩=some vc:=by rw[Zz w p 1 _ _ _ h.blk];rfl
 have H:=Hi h;have H2:=Hi h2;have HD:=Hi hd;obtain⟨a,cap,rfl⟩:=h.cl.sl;clear h h2 hd;go_enter func237,ntmps237;go_wp2
 go_loopw [13] (fun i wr=> ∃k:Nat,k≤c.length∧i= Iq k∧Hid (dt (fun b=>(Value.slice a c.length cap).ownBlock=some b) w wr)∧Hid (IR wr 220 (.slice a c.length cap) (tF c c2 k))) (fun i _=>c.length - (intOf i).toNat)
 case atStart=>exact⟨0,ZL _,rfl,dt.refl _ _,by rw[Hf];exact H.out.cl⟩
 case round=>
  obtain⟨k,hk,rfl,J,R⟩:=hrel;have I:=H2.out.only J.out (fun b D h=>HD.out b (.inr (.inr h)) D)
  have aj:wr.cell? ⟨p,1,none⟩=some (.slice a c.length cap):=by
   rw[ZI (w:=w) (a:=⟨p,1,none⟩) (J.out.block p (be H.out.blk) (H.out.cl.ne H.out.blk tE))];exact ai
  by_cases Y:k<c.length
  ·have ao:(0:Int)≤(k:Int)∧(k:Int)<(c.length:Int):=by omega
   obtain⟨g,c1,e1,_⟩:=R.out.form (by rw[iI];omega)
   simp at e1;obtain⟨rfl,ae,rfl⟩:=e1;clear ae;have Z:=R.out.cell (k:=k) (by rw[iI];omega)
   have ap:=R.out.frz k;rw[po _ _ _ Y,Zt (Nat.lt_irrefl k)] at Z;have U:=Fx k I;have HC:Hid (∀x y,c.getD k 0=x→c2.getD k 0=y→c.getD k 0=x∧c2.getD k 0=y):=fun _ _ h1 h2=>⟨h1,h2⟩
   generalize hx:c.getD k 0=x at Z;generalize hy:c2.getD k 0=y at U;have aa:=Hi (And.intro hx hy);clear hx hy HC I
   by_cases ac:x=y
   ·subst ac
    go_wp2_with (
     go_at_call 234
     apply U.mono;rintro e w' ⟨rfl,rfl⟩)
    go_roundw
    case rel=>
     refine⟨k+1,by omega,by go_num,J.out,?_⟩
     rw[Hg Y (aa.out.1.trans aa.out.2.symm)];exact R.out
    case measure=>simp[intOf];omega
   ·have an:(x !=y)=true:=by simpa using ac
    have HN:Hid (c.getD k 0≠c2.getD k 0):=fun e=>ac (by rw[←aa.out.1,←aa.out.2,e])
    go_wp2_with (
     go_at_call 234
     apply U.mono;rintro e w' ⟨rfl,rfl⟩)
    go_roundw
    case rel=>
     refine⟨k+1,by omega,by go_num,J.out.setCell (.inl rfl) _,?_⟩
     rw[J1 Y HN.out];have:=R.out;rw[←iI c c2 k] at this⊢;exact this.set (by rw[iI];exact Y) 0
    case measure=>simp[intOf];omega
  ·have ak:k=c.length:=by omega
   subst ak;have ab:=H.out.st.only J.out (fun g hg h=>H.out.ne g hg h)
   have af:wr.cell? ⟨p,0,none⟩=some vs:=by
    rw[ZI (w:=w) (a:=⟨p,0,none⟩) (J.out.block p (be H.out.blk) (H.out.cl.ne H.out.blk tE)),Zz w p 0 _ _ _ H.out.blk];rfl
   have ag:wr.cell? ⟨q,0,none⟩=some us:=by rw[Zz wr q 0 _ _ _ I.blk];rfl
   have U:∀W,Below wr.heap.size wr W→Calls prog 260 #[.agg #[vs],.agg #[us]] W fun e w'=>e= .returned (.bool (decide (st=z)))∧Below W.heap.size W w':=fun W D=>He (dn ab D) (dn I.st D) hl ah
   obtain⟨V,E,rfl⟩:=ab.sl;obtain⟨ua,G,rfl⟩:=I.st.sl;have HA:Hid (∀w',Below wr.heap.size wr w'→dB w w' p (.slice V st.length E) (.slice a c.length cap) st (tF c c2 c.length)):=fun w' D=>by
    have ad:=(J.out.block p (be H.out.blk) (H.out.cl.ne H.out.blk tE)).trans H.out.blk;refine⟨_,_,⟨(D.block p (be ad)).trans ad,dn ab D,dn R.out D,H.out.ne⟩,?_,fun b D=> .inl D⟩
    exact J.out.trans (dt.of_below (F:=fun _=>False) D) (fun i _ h=> .inr (.inr h)) (fun i _ h=>h.elim)
   have KP:Hid (∀W W',(Below wr.heap.size wr W∧W.cell? ⟨p,0,none⟩=some (.slice V st.length E)∧W.cell? ⟨q,0,none⟩=some (.slice ua z.length G))→Below W.heap.size W W'→(Below wr.heap.size wr W'∧W'.cell? ⟨p,0,none⟩=some (.slice V st.length E)∧W'.cell? ⟨q,0,none⟩=some (.slice ua z.length G))):=fun W W' O D=>⟨O.1.trans (D.mono O.1.size),by rw[D.cell (Zx W _ O.2.1)];exact O.2.1,by rw[D.cell (Zx W _ O.2.2)];exact O.2.2⟩
   have KD:Hid (∀W:World,(Below wr.heap.size wr W∧Cq W p 0 (.slice V st.length E)∧Cq W q 0 (.slice ua z.length G))→(Below wr.heap.size wr W.drew∧Cq W.drew p 0 (.slice V st.length E)∧Cq W.drew q 0 (.slice ua z.length G))):=fun W O=>⟨O.1.drew,O.2⟩
   have am:Below wr.heap.size wr wr∧Cq wr p 0 (.slice V st.length E)∧Cq wr q 0 (.slice ua z.length G):=⟨ZA _ _,af,ag⟩;clear ab I J R aj;generalize hr:decide (st=z)=r at U;have HR:=Hi hr;clear hr;go_wp2
   go_region_held3 (fun w'=>Below wr.heap.size wr w'∧Cq w' p 0 (.slice V st.length E)∧Cq w' q 0 (.slice ua z.length G)) (first|with_reducible exact KD.out _ (by assumption)|with_reducible exact KP.out _ _ (by assumption) (by assumption)|with_reducible assumption|go_keep)
    (first
     |(go_at_call 260;refine(U _ (by exact acf (by assumption))).mono ?_;rintro e w1 ⟨rfl,aq⟩))
   rename_i hHeld
   have HB:=Hi hHeld.1;clear hHeld KP KD U am
   go_wp2
   go_ret;exact⟨by rw[HR.out];rfl,HA.out _ HB.out⟩
def La:Nat→Int→List Int→Option (List Int)
 |0,_,st=>some st
 |n+1,t,st=>if st.getLast?.getD 0=t then La n t st.dropLast else none
def xC (w:World) (p:Nat) (vs G:Value) (r:Option (List Int×List Int)) (e:Ending) (w':World):Prop:=match r with
 |some x=>e= .returned (.bool true)∧dB w w' p vs G x.1 x.2
 |none=>e= .returned (.bool false)∧dt (fq p vs G) w w'
theorem dB.only {z:Value} (h:dB w w' p vs z st c):dt (fq p vs z) w w':=by
 obtain⟨_,_,_,h,_⟩:=h;exact h
def Lb (n:Nat) (t o:Int) (st c:List Int):Option (List Int×List Int):=(La n t st).map fun r=>(if o=0 then r else r++[o],c)
theorem dB.alloc {w w':World} {p:Nat} {vs z:Value} {st c:List Int} {o:Obj} (h:dB (w.alloc o) w' p vs z st c):dB w w' p vs z st c:=
 dB.then ((dt.refl _ w).alloc o) (fun _ D=> .inl D) h
theorem Fy (n:Nat) (t o:Int) (h:fM w p vs G st c) (hl:st.length≤4000) (hn:n≤10):
 Calls prog 235 #[.agg #[Iq n,Iq t,Iq o],Pq p] w fun e w'=>xC w p vs G (Lb n t o st c) e w':=by
 have aa:(w.alloc (.cells #[Iq n,Iq t,Iq o] 321)).heap[w.heap.size]?=_:=Zy w _;have ac:fM (w.alloc (.cells #[Iq n,Iq t,Iq o] 321)) p vs G st c:=h.only ((dt.refl (fun _=>False) w).alloc _) (fun _ _ h=>h)
 have ad:∀b,fq p vs G b→b<w.heap.size:=fun b hb=>h.lt hb
 have ak:(w.alloc (.cells #[Iq n,Iq t,Iq o] 321)).cell? ⟨w.heap.size,0,none⟩=some (Iq n):=by rw[Zz _ _ 0 _ _ _ aa];rfl
 have HS:=Hi ac;have HF:=Hi ad;have HB:=Hi aa;have HW:Hid (∀w' st c,dB (w.alloc (.cells #[Iq n,Iq t,Iq o] 321)) w' p vs G st c→dB w w' p vs G st c):=fun _ _ _ h=>h.alloc
 have ae:Hid (∀w',dt (fq p vs G) (w.alloc (.cells #[Iq n,Iq t,Iq o] 321)) w'→dt (fq p vs G) w w'):=fun _ h=>((dt.refl (fq p vs G) w).alloc _).trans h (fun _ _ h=>h) (fun _ _ h=>h)
 have HZ:Hid (w.heap.size<(w.alloc (.cells #[Iq n,Iq t,Iq o] 321)).heap.size):=by show _<_;rw[ZB];omega
 clear h ac ad aa;go_enter func235,ntmps235;go_wp2;generalize w.alloc (.cells #[Iq n,Iq t,Iq o] 321)=w1 at*
 go_loopw [7] (fun i wr=> ∃k:Nat,k≤n∧i= Iq k∧Hid (∃z,dB w1 wr p vs G z c∧La n t st=La (n - k) t z∧z.length≤4000)) (fun i _=>n - (intOf i).toNat)
 case atStart=>exact⟨0,ZL _,rfl,st,dB.refl HS.out,rfl,hl⟩
 case round=>
  obtain⟨k,hk,rfl,HI⟩:=hrel;obtain⟨z,⟨R,U,I,V,O⟩,J,aj⟩:=HI.out;have Y:wr.heap[w.heap.size]?=_:=(V.block w.heap.size HZ.out (fun h=>by have:=HF.out _ h;omega)).trans HB.out
  have af:wr.cell? ⟨w.heap.size,1,none⟩=some (Iq t):=by rw[Zz _ _ 1 _ _ _ Y];rfl
  have ag:wr.cell? ⟨w.heap.size,2,none⟩=some (Iq o):=by rw[Zz _ _ 2 _ _ _ Y];rfl
  by_cases am:k<n
  ·have W1:=Co I.drew (by omega)
   have Z: ¬fq p R U w.heap.size:=fun h=>by
    rcases O _ h with h|h
    ·have:=HF.out _ h;omega
    ·have:=HZ.out;omega
   have HK:Hid (∀E,dB wr.drew E p R U z.dropLast c→E.cell? ⟨w.heap.size,1,none⟩=some (Iq t)):=fun E h=>by
    rw[ZI (w:=wr.drew) (a:=⟨w.heap.size,1,none⟩) (h.only.block _ (be (w:=wr.drew) Y) Z)];exact af
   have HN:Hid (∀E,dB wr.drew E p R U z.dropLast c→dB w1 E p vs G z.dropLast c):=fun E h=>dB.then V.drew O h
   have HL:Hid (n - k=n - (k+1)+1∧z.dropLast.length≤4000):=⟨by omega,by simp;omega⟩
   have HO:=Hi J;clear I V O J Y Z HI
   by_cases hx:z.getLast?.getD 0=t
   ·rw[hx] at W1
    have HX:=Hi hx;clear hx;go_wp2_with fail
    go_region_held3 (fun w'=>w'.cell? ⟨w.heap.size,1,none⟩=some (Iq t)) (first|with_reducible exact HK.out _ (by assumption)|with_reducible assumption|go_keep)
     (first|(go_at_call 232;refine W1.mono ?_;rintro e w2 ⟨rfl,D⟩))
    rename_i hHeld
    clear hHeld;have HU:=Hi D;clear D
    go_wp2
    go_roundw
    case rel=>
     refine⟨k+1,by omega,by go_num,z.dropLast,HN.out _ HU.out,?_,HL.out.2⟩
     rw[HO.out,HL.out.1,La,Zu HX.out]
    case measure=>simp[intOf];omega
   ·have ah:((z.getLast?.getD 0) !=t)=true:=by simpa using hx
    have HX:=Hi hx;generalize z.getLast?.getD 0=x at W1 ah;clear hx;go_wp2_with fail
    go_region_held3 (fun w'=>w'.cell? ⟨w.heap.size,1,none⟩=some (Iq t)) (first|with_reducible exact HK.out _ (by assumption)|with_reducible assumption|go_keep)
     (first|(go_at_call 232;refine W1.mono ?_;rintro e w2 ⟨rfl,D⟩))
    rename_i hHeld
    clear hHeld;have HU:=Hi D;clear D
    go_wp2
    go_ret;have e1:Lb n t o st c=none:=by unfold Lb;rw[HO.out,HL.out.1,La,Zt HX.out];rfl
    rw[e1];exact⟨rfl,ae.out _ (HN.out _ HU.out).only⟩
  ·have ab:n - k=0:=by omega
   rw[ab] at J;have e1:Lb n t o st c=some (if o=0 then z else z++[o],c):=by unfold Lb;rw[J];rfl
   have HE:=Hi e1;have ai:Hid (dB w1 wr p vs G z c):=⟨R,U,I,V,O⟩
   by_cases ho:o=0
   ·subst ho
    clear I V O J e1 HI ab
    go_wp2
    go_ret;rw[HE.out];exact⟨rfl,HW.out _ _ _ ai.out⟩
   ·have an:(o !=0)=true:=by simpa using ho
    have W1:=zc o I.drew (by omega)
    have Z: ¬fq p R U w.heap.size:=fun h=>by
     rcases O _ h with h|h
     ·have:=HF.out _ h;omega
     ·have:=HZ.out;omega
    have HK:Hid (∀E,dB wr.drew E p R U (z++[o]) c→E.cell? ⟨w.heap.size,2,none⟩=some (Iq o)):=fun E h=>by
     rw[ZI (w:=wr.drew) (a:=⟨w.heap.size,2,none⟩) (h.only.block _ (be (w:=wr.drew) Y) Z)];exact ag
    have HN:Hid (∀E,dB wr.drew E p R U (z++[o]) c→dB w1 E p vs G (z++[o]) c):=fun E h=>dB.then V.drew O h
    have HO:=Hi ho;clear I V O J e1 HI ab ho Z Y;go_wp2_with fail
    go_region_held3 (fun w'=>w'.cell? ⟨w.heap.size,2,none⟩=some (Iq o)) (first|with_reducible exact HK.out _ (by assumption)|with_reducible assumption|go_keep)
     (first|(go_at_call 231;refine W1.mono ?_;rintro e w2 ⟨rfl,D⟩))
    rename_i hHeld
    clear hHeld;have HU:=Hi D;clear D
    go_wp2
    go_ret;rw[HE.out,Zt HO.out];exact⟨rfl,HW.out _ _ _ (HN.out _ HU.out)⟩
def ql (n:Nat):Int:=if n≤3 then 1 else if n≤6 then 3 else 2
theorem Cr (n:Nat) (w:World):Calls prog 216 #[Iq n] w fun e w'=>e= .returned (Iq (ql n))∧w'=w:=by
 go_enter func216,ntmps216
 go_wp2
 all_goals go_ret
 all_goals refine⟨eV ?_,rfl⟩
 all_goals (unfold ql;repeat' split)<;>first|rfl|omega
def fI (E:Nat) (n tw pl:Int):Value:= .agg #[Iq E,Iq n,Iq tw,Iq pl]
def mh (z:Nat) (n tw pl:Int):Obj:= .cells #[Iq z,Iq n,Iq tw,Iq pl] 247 (0,0)
structure iF (w w1:World) (p:Nat) (vs vc:Value) (st c:List Int) (op:Nat) (n tw pl:Int):Prop where
 set:fM w1 p vs vc st c
 far:∀b,fq p vs vc b→b<w.heap.size
 blk:w1.heap[w.heap.size]?=some (mh op n tw pl)
 siz:w.heap.size<w1.heap.size
 out:∀w' st c,dB w1 w' p vs vc st c→dB w w' p vs vc st c
 only:∀w',dt (fq p vs vc) w1 w'→dt (fq p vs vc) w w'
theorem iF.of {z:Value} (h:fM w p vs z st c) (D:Nat) (n tw pl:Int):iF w (w.alloc (mh D n tw pl)) p vs z st c D n tw pl:=
 ⟨h.only ((dt.refl (fun _=>False) w).alloc _) (fun _ _ h=>h),fun b E=>h.lt E,Zy w _,by rw[ZB];omega,fun _ _ _ h=>h.alloc,fun _ h=>((dt.refl (fq p vs z) w).alloc _).trans h (fun _ _ h=>h) (fun _ _ h=>h)⟩
theorem iF.cells {w z:World} {p:Nat} {vs G:Value} {st c:List Int} {E:Nat} {n tw pl:Int} (h:iF w z p vs G st c E n tw pl):Cq z w.heap.size 0 (Iq E)∧Cq z w.heap.size 1 (Iq n)∧Cq z w.heap.size 2 (Iq tw):=by
 have D:=fun j=>Zz z _ j _ _ _ h.blk
 exact⟨D 0,D 1,D 2⟩
theorem iF.after {O:Value} {R:List Int} {n tw pl:Int} (h:iF w J p vs O st c U n tw pl) (Z:dB J z p vs O R c2):Cq z w.heap.size 0 (Iq U)∧Cq z w.heap.size 1 (Iq n)∧Cq z w.heap.size 2 (Iq tw):=by
 have hb:=(Z.only.block _ h.siz (fun hf=>by have:=h.far _ hf;omega)).trans h.blk
 have G:=fun j=>Zz z _ j _ _ _ hb
 exact⟨G 0,G 1,G 2⟩
theorem dB.drew {w w':World} {p:Nat} {vs z:Value} {st c:List Int} (h:dB w w' p vs z st c):dB w w'.drew p vs z st c:=by
 obtain⟨D,E,G,I,h3⟩:=h;exact⟨D,E,G.drew,I.drew,h3⟩
theorem dB.of_drew {w w':World} {p:Nat} {vs z:Value} {st c:List Int} (h:dB w.drew w' p vs z st c):dB w w' p vs z st c:=by
 obtain⟨D,E,G,I,h3⟩:=h;exact⟨D,E,G,I.of_drew,h3⟩
theorem dB.push {G:World} (h:dB w G p vs I st c) (x:Int) (R:st.length≤5000):
 Calls prog 231 #[Pq p,Iq x] G fun e w'=>e= .returned (.tuple #[])∧dB w w' p vs I (st++[x]) c:=by
 obtain⟨aa,ab,U,V,h3⟩:=h;apply(zc x U R).mono;rintro e w' ⟨rfl,Y⟩;exact⟨rfl,dB.then V h3 Y⟩
theorem dB.pop (h:dB w z p vs D st c) (E:st.length≤5000):
 Calls prog 232 #[Pq p] z fun e w'=>e= .returned (Iq (st.getLast?.getD 0))∧dB w w' p vs D st.dropLast c:=by
 obtain⟨O,R,G,I,h3⟩:=h;apply(Co G E).mono;rintro e w' ⟨rfl,J⟩;exact⟨rfl,dB.then I h3 J⟩
theorem dB.learn (h:dB w z p vs D st c) (k:Nat) (x:Int) (E:k≤255) (G:c.length≤256):
 Calls prog 233 #[Pq p,Iq k,Iq x] z fun e w'=>e= .returned (.tuple #[])∧dB w w' p vs D st (lI c k x):=by
 obtain⟨R,U,I,J,h3⟩:=h;apply(Eh k x I E G).mono;rintro e w' ⟨rfl,O⟩;exact⟨rfl,dB.then J h3 O⟩
theorem LS (n:Nat) (tw pl:Int) (h:fM w p vs E st c) (hl:st.length≤4000) (hn:n≤255):
 Calls prog 188 #[fI 4 n tw pl,Pq p] w fun e w'=>xC w p vs E (some (st++[ql n],c)) e w':=by
 obtain⟨G,I,z⟩:∃G,w.alloc (.cells #[Iq 4,Iq n,Iq tw,Iq pl] 247)=G∧iF w G p vs E st c 4 n tw pl:=⟨_,rfl,iF.of h 4 n tw pl⟩;unfold fI;have H:=Hi z;obtain⟨_,c1,_⟩:=z.cells;have R:=fun w=>Cr n w
 have U:=(dB.refl z.set).drew.push (ql n) (by omega)
 generalize ql n=f at*;have V:=Hi I;have Y:Hid (∀J O c2,dB G J p vs E O c2→J.cell? ⟨w.heap.size,1,none⟩=some (Iq n)):=fun J _ _ h=>(z.after h).2.1
 clear h z I;go_enter func188,ntmps188;go_wp2_with fail;rw[V.out]
 go_region_held3 (fun w'=>w'.cell? ⟨w.heap.size,1,none⟩=some (Iq n)) (first|with_reducible exact Y.out _ _ _ (by assumption)|with_reducible assumption|go_keep)
  (first
   |(go_at_call 216;refine(R _).mono ?_;rintro e Z ⟨rfl,rfl⟩)
   |(go_at_call 231;refine U.mono ?_;rintro e Z ⟨rfl,D⟩))
 rename_i hHeld
 clear hHeld;have HU:=Hi D;clear D
 go_wp2
 go_ret;exact⟨rfl,H.out.out _ _ _ HU.out⟩
theorem LU (n:Nat) (tw pl:Int) (h:fM w p vs D st c) (hl:st.length≤4000) (hc:c.length≤256) (hn:n≤255):
 Calls prog 188 #[fI 5 n tw pl,Pq p] w fun e w'=>xC w p vs D (if st.getLast?.getD 0=0 then none else some (st.dropLast,lI c n (st.getLast?.getD 0))) e w':=by
 obtain⟨E,J,G⟩:∃E,w.alloc (.cells #[Iq 5,Iq n,Iq tw,Iq pl] 247)=E∧iF w E p vs D st c 5 n tw pl:=⟨_,rfl,iF.of h 5 n tw pl⟩;unfold fI;have H:=Hi G;obtain⟨_,c1,_⟩:=G.cells;have R:=(dB.refl G.set).pop (by omega)
 have U:∀W x,dB E W p vs D st.dropLast c→_:=fun W x h=>h.learn n x hn hc
 generalize st.getLast?.getD 0=t at*;have HW:=Hi J;have HK:Hid (∀O V c2,dB E O p vs D V c2→Cq O w.heap.size 1 (Iq n)):=fun O _ _ h=>(G.after h).2.1
 clear h G J;go_enter func188,ntmps188
 go_wp2_with (
  rw[HW.out]
  go_at_call 232
  apply R.mono;rintro e w2 ⟨rfl,z⟩;have c2:=HK.out _ _ _ z;have Y:=Hi z
  clear z)
 apply(U w2 t Y.out).mono;rintro e w3 ⟨rfl,z⟩;have Z:=Hi z;clear z R U Y
 by_cases I:t=0
 ·subst I
  go_wp2
  go_ret;exact⟨rfl,H.out.only _ (dB.only Z.out)⟩
 ·have aa:(t !=0)=true:=by simpa using I
  have HT:=Hi I;clear I
  go_wp2
  go_ret;exact⟨rfl,H.out.out _ _ _ Z.out⟩
theorem dB.of (h:dB w z p vs D st c) (k:Nat):
 Calls prog 234 #[Pq p,Iq k] z fun e w'=>e= .returned (Iq (c.getD k 0))∧w'=z:=by
 obtain⟨G,I,E,J,h3⟩:=h;exact Fx k E
theorem LV (n:Nat) (tw pl:Int) (h:fM w p vs I st c) (Z:st.length≤4000) (hc:c.length≤256) (hn:n≤255):
 Calls prog 188 #[fI 6 n tw pl,Pq p] w fun e w'=>xC w p vs I (if c.getD n 0=0 then none else some (st++[c.getD n 0],c)) e w':=by
 obtain⟨J,G,z⟩:∃J,w.alloc (.cells #[Iq 6,Iq n,Iq tw,Iq pl] 247)=J∧iF w J p vs I st c 6 n tw pl:=⟨_,rfl,iF.of h 6 n tw pl⟩;unfold fI;have H:=Hi z;obtain⟨_,c1,_⟩:=z.cells;have O:=(dB.refl z.set).of n;generalize c.getD n 0=t at*;have R:=(dB.refl z.set).push t (by omega)
 have V:=Hi G;clear h z G;go_enter func188,ntmps188
 go_wp2_with (
  rw[V.out]
  go_at_call 234
  apply O.mono;rintro e w2 ⟨rfl,rfl⟩)
 apply R.mono;rintro e w3 ⟨rfl,D⟩;have U:=Hi D;clear D O R
 by_cases E:t=0
 ·subst E
  go_wp2
  go_ret;exact⟨rfl,H.out.only _ (dB.only U.out)⟩
 ·have Y:(t !=0)=true:=by simpa using E
  have HT:=Hi E;clear E
  go_wp2
  go_ret;exact⟨rfl,H.out.out _ _ _ U.out⟩
theorem LW (n tw pl:Int) (h:fM w p vs I st c) (hl:st.length≤4000):
 Calls prog 188 #[fI 9 n tw pl,Pq p] w fun e w'=>xC w p vs I (if st.dropLast.getLast?.getD 0=st.getLast?.getD 0∧st.dropLast.getLast?.getD 0≠0 then some (st.dropLast.dropLast++[2],c) else none) e w':=by
 obtain⟨J,Y,D⟩:∃J,w.alloc (.cells #[Iq 9,Iq n,Iq tw,Iq pl] 247)=J∧iF w J p vs I st c 9 n tw pl:=⟨_,rfl,iF.of h 9 n tw pl⟩;unfold fI;have H:=Hi D;have W1:=(dB.refl D.set).drew.pop (by omega)
 have W2:∀W,dB J W p vs I st.dropLast c→_:=fun W h=>h.pop (by simp;omega)
 have Z:∀W,dB J W p vs I st.dropLast.dropLast c→_:=fun W h=>h.push 2 (by simp;omega)
 generalize hr:st.getLast?.getD 0=r at*;generalize G:st.dropLast.getLast?.getD 0=q at*;clear hr G
 generalize hR:(if q=r∧q≠0 then some (st.dropLast.dropLast++[2],c) else none)=R
 have HR:=Hi hR;clear hR;have HW:=Hi Y;clear h D Y;go_enter func188,ntmps188;go_wp2;rw[HW.out]
 go_region_held3 (fun w'=>True) (exact trivial)
  (first
   |(go_at_call 232;refine(W2 _ (by assumption)).mono ?_;rintro e w3 ⟨rfl,E⟩)
   |(go_at_call 232;refine W1.mono ?_;rintro e w2 ⟨rfl,U⟩))
 have HU:=Hi E;clear U E
 by_cases G:q=r
 ·subst G
  by_cases V:q=0
  ·subst V
   go_wp2_with (
    go_at_call 231
    apply(Z _ HU.out).mono;rintro e w4 ⟨rfl,z⟩;have O:=Hi z
    clear z)
   go_ret;rw[←HR.out,Zt (by simp)]
   exact⟨rfl,H.out.only _ (dB.only O.out)⟩
  ·have aa:(q !=0)=true:=by simpa using V
   have D:=Hi V;clear V
   go_wp2_with (
    go_at_call 231
    apply(Z _ HU.out).mono;rintro e w4 ⟨rfl,z⟩;have O:=Hi z
    clear z)
   go_ret;rw[←HR.out,Zu ⟨by trivial,D.out⟩]
   exact⟨rfl,H.out.out _ _ _ O.out⟩
 ·have ab:(q==r)=false:=by simpa using G
  have D:=Hi G;clear G
  go_wp2_with (
   go_at_call 231
   apply(Z _ HU.out).mono;rintro e w4 ⟨rfl,z⟩;have O:=Hi z
   clear z)
  go_ret;rw[←HR.out,Zt (fun h=>D.out h.1)]
  exact⟨rfl,H.out.only _ (dB.only O.out)⟩
def nB:List Int:=[0,0,0,0,0,1,0,0,2,0,0,3,0,0,0,0,0,0,0,0,0,2,1,1,2,1,1,0,0,0,2,1,2,2,1,2,1,2,2,2,2,2,2,2,2,1,2,0,0,0,0,0,0,0,0,0,0]
def Ef (w:World):Prop:= ∀j,j<57→w.cell? ⟨1,j,none⟩=some (Iq (nB.getD j 0))
theorem Ef.pos (h:Ef w):1<w.heap.size:=Zx w _ (h 0 (by decide))
theorem Ef.below (h:Ef w) (z:1<B) (D:Below B w w'):Ef w':=fun k E=>by rw[D.cell (p:=⟨1,k,none⟩) z];exact h k E
theorem Hj:∀z,z<19→(nB.getD (z*3) 0)=(((nB.getD (z*3) 0).toNat:Nat):Int)∧(nB.getD (z*3) 0).toNat≤2:=by decide
theorem LY {O:Value} (z:Nat) (n tw pl:Int) (U:Ef w) (h:fM w p vs O st c) (Z:st.length≤4000) (ho:z<19) (h4:z≠4) (h5:z≠5) (h6:z≠6) (h9:z≠9):
 Calls prog 188 #[fI z n tw pl,Pq p] w fun e w'=>xC w p vs O (Lb (nB.getD (z*3) 0).toNat (nB.getD (z*3+1) 0) (nB.getD (z*3+2) 0) st c) e w':=by
 obtain⟨J,E,I⟩:∃J,w.alloc (.cells #[Iq z,Iq n,Iq tw,Iq pl] 247)=J∧iF w J p vs O st c z n tw pl:=⟨_,rfl,iF.of h z n tw pl⟩;unfold fI;have H:=Hi I;obtain⟨c0,_,_⟩:=I.cells;have G:Ef J:=by rw[←E];exact U.below U.pos ((ZA _ w).alloc (Zw _) _)
 have V:=G (z*3) (by omega)
 have e1:=G (z*3+1) (by omega)
 have e2:=G (z*3+2) (by omega)
 obtain⟨q1,q2⟩:=Hj z ho;rw[q1] at V;have W1:=Fy (nB.getD (z*3) 0).toNat (nB.getD (z*3+1) 0) (nB.getD (z*3+2) 0) I.set Z (by omega)
 have W2:=Fy (nB.getD (z*3) 0).toNat (nB.getD (z*3+1) 0) (nB.getD (z*3+2) 0) I.set.drew Z (by omega)
 generalize (nB.getD (z*3) 0).toNat=k at*;generalize nB.getD (z*3+1) 0=t at*;generalize nB.getD (z*3+2) 0=o at*;have HW:=Hi E;have b4:((z:Int)==4)=false:=by simp;omega
 have b5:((z:Int)==5)=false:=by simp;omega
 have b6:((z:Int)==6)=false:=by simp;omega
 have b9:((z:Int)==9)=false:=by simp;omega
 have hb:(0:Int)≤(z:Int)∧(z:Int)<19:=by omega
 clear h I U G q1 q2 h4 h5 h6 h9;rw[←E] at V e1 e2 c0;clear E;generalize Lb k t o st c=R at*;go_enter func188,ntmps188;go_wp2_with fail;rw[HW.out];apply W1.mono;clear W1 W2 V e1 e2 c0
 cases R with
 |none=>
  rintro e w2 ⟨rfl,D⟩;have Y:=Hi D;clear D
  go_wp2
  go_ret;exact⟨rfl,H.out.only _ Y.out⟩
 |some x=>
  rintro e w2 ⟨rfl,D⟩;have Y:=Hi D;clear D
  go_wp2
  go_ret;exact⟨rfl,H.out.out _ _ _ Y.out⟩
def pq (z n:Nat) (st c:List Int):Option (List Int×List Int):=
 if z=4 then some (st++[ql n],c)
 else if z=5 then(if st.getLast?.getD 0=0 then none else some (st.dropLast,lI c n (st.getLast?.getD 0)))
 else if z=6 then(if c.getD n 0=0 then none else some (st++[c.getD n 0],c))
 else if z=9 then(if st.dropLast.getLast?.getD 0=st.getLast?.getD 0∧st.dropLast.getLast?.getD 0≠0 then some (st.dropLast.dropLast++[2],c) else none)
 else Lb (nB.getD (z*3) 0).toNat (nB.getD (z*3+1) 0) (nB.getD (z*3+2) 0) st c
theorem Ek (z:Nat) (n tw pl:Int) (Z:Ef w) (h:fM w p vs R st c) (D:st.length≤4000) (U:c.length≤256) (ho:z<19) (E:z=4∨z=5∨z=6→0≤n∧n≤255):
 Calls prog 188 #[fI z n tw pl,Pq p] w fun e w'=>xC w p vs R (pq z n.toNat st c) e w':=by
 unfold pq
 by_cases G:z=4
 ·subst G
  obtain⟨V,Y⟩:=E (by omega)
  obtain⟨m,rfl⟩:∃m:Nat,n=m:=⟨n.toNat,by omega⟩
  rw[Zu rfl,abx];exact LS m tw pl h D (by omega)
 rw[Zt G]
 by_cases I:z=5
 ·subst I
  obtain⟨V,Y⟩:=E (by omega)
  obtain⟨m,rfl⟩:∃m:Nat,n=m:=⟨n.toNat,by omega⟩
  rw[Zu rfl,abx];exact LU m tw pl h D U (by omega)
 rw[Zt I]
 by_cases J:z=6
 ·subst J
  obtain⟨V,Y⟩:=E (by omega)
  obtain⟨m,rfl⟩:∃m:Nat,n=m:=⟨n.toNat,by omega⟩
  rw[Zu rfl,abx];exact LV m tw pl h D U (by omega)
 rw[Zt J]
 by_cases O:z=9
 ·subst O
  rw[Zu rfl];exact LW n tw pl h D
 rw[Zt O];exact LY z n tw pl Z h D ho G I J O
def ym (l:List Nat):List Int:=l.reverse.map fun(t:Nat)=>(t:Int)
structure vx (k:Kn) (st c:List Int):Prop where
 st:st=ym k.st
 len:c.length≤k.cl.length
 cl:∀i,c.getD i 0=(k.cl.getD i 0:Nat)
theorem LZ:(ym []).getLast?.getD 0=0:=rfl
theorem tG (t:Nat) (r:List Nat):(ym (t::r)).getLast?.getD 0=(t:Int):=by simp[ym]
theorem qP (t:Nat) (r:List Nat):(ym (t::r)).dropLast=ym r:=by simp[ym]
theorem uH (t:Nat) (r:List Nat):ym r++[(t:Int)]=ym (t::r):=by simp[ym]
theorem Cs (t:Nat) (O:t≠0):∀(n:Nat) (l:List Nat),La n t (ym l)=if l.take n=List.replicate n t then some (ym (l.drop n)) else none
 |0,l=>by simp[La]
 |n+1,[]=>by
  rw[La,Zt (by rw[LZ];omega),Zt]
  intro h;have:=aaY List.length h;simp at this
 |n+1,x::r=>by
  rw[La,tG,qP,Cs t O n r]
  by_cases D:x=t
  ·subst D
   rw[Zu rfl]
   by_cases h:r.take n=List.replicate n x
   ·rw[Zu h,Zu (by simp[ab5,h])];rfl
   ·rw[Zt h,Zt]
    intro z;simp[ab5] at z;exact h z
  ·rw[Zt (by omega),Zt]
   intro z;simp[ab5] at z;exact D z.1
def Nq (r:Option Kn) (q:Option (List Int×List Int)):Prop:=match r with
 |some k=> ∃st c,q=some (st,c)∧vx k st c
 |none=>q=none
theorem Hk (c:List Int) (k:Nat) (x:Int):(lI c k x).length=max c.length (k+1):=by
 unfold lI;simp;omega
theorem xD (c:List Int) (m i:Nat):(c++List.replicate m 0).getD i 0=c.getD i 0:=by
 rw[Zs,Zs]
 by_cases h:i<c.length
 ·rw[aah h]
 ·rw[aaf (by omega),ZQ (l:=c) (by omega),aat]
  split<;>rfl
theorem J2 (c:List Int) (k:Nat) (x:Int) (i:Nat):(lI c k x).getD i 0=if i=k then x else c.getD i 0:=by
 unfold lI;rw[zd,xD]
 by_cases h:i=k
 ·subst h;rw[Zu ⟨rfl,by simp;omega⟩,Zu rfl]
 ·rw[Zt (fun a=>h a.1),Zt h]
theorem km (h:vx k st c) (n t:Nat) (o:Option Nat) (z:t≠0) (D:∀x,o=some x→x≠0) (more:List Nat) (E:more=o.toList):
 Nq (lE (List.replicate n t) more k) (Lb n t ((o.getD 0:Nat):Int) st c):=by
 subst E;unfold lE Lb;rw[h.st,Cs t z n,aaw]
 by_cases e:k.st.take n=List.replicate n t
 ·rw[Zu e,Zu e]
  cases o with
  |none=>exact⟨_,_,rfl,rfl,h.len,h.cl⟩
  |some x=>
   have G:=D x rfl;refine⟨_,_,rfl,?_,h.len,h.cl⟩;simp only[abo];rw[Zt (by omega),uH];rfl
 ·rw[Zt e,Zt e];rfl
theorem J3 (n:Nat):ql n=(mx n:Nat):=by unfold ql mx;(repeat' split)<;>rfl
theorem Ct (h:vx k st c) (I:uF k.st) (z n:Nat) (U:1≤z∧z≤18) (O:z=5→n<k.cl.length):Nq (gU z n k) (pq z n st c):=by
 have e:z=1∨z=2∨z=3∨z=4∨z=5∨z=6∨z=7∨z=8∨z=9∨z=10∨z=11∨z=12∨z=13∨z=14∨z=15∨z=16∨z=17∨z=18:=by omega
 have push:∀t:Nat,vx ⟨t::k.st,k.cl⟩ (st++[(t:Int)]) c:=fun t=>⟨by rw[h.st,uH],h.len,h.cl⟩
 rcases e with rfl|rfl|rfl|rfl|rfl|rfl|rfl|rfl|rfl|rfl|rfl|rfl|rfl|rfl|rfl|rfl|rfl|rfl
 ·exact⟨_,_,rfl,push 1⟩
 ·exact⟨_,_,rfl,push 2⟩
 ·exact⟨_,_,rfl,push 3⟩
 ·exact⟨_,_,rfl,by rw[J3];exact push _⟩
 ·have e:gU 5 n k=(match k.st with
   |[]=>none
   |t::r=>some ⟨r,k.cl.set n t⟩):=rfl
  have D:pq 5 n st c=if st.getLast?.getD 0=0 then none else some (st.dropLast,lI c n (st.getLast?.getD 0)):=rfl
  rw[e,D,h.st]
  cases G:k.st with
  |nil=>exact Zu rfl
  |cons t r=>
   have V:=(I t (by rw[G];simp)).1
   rw[tG,qP,Zt (by omega)]
   refine⟨_,_,rfl,rfl,?_,fun i=>?_⟩
   ·rw[Hk];have:=h.len;have:=O rfl;simp;omega
   ·rw[J2]
    by_cases J:i=n
    ·subst J;rw[Zu rfl,dD (O rfl)]
    ·rw[Zt J,getD_set_ne (fun e=>J e.symm)];exact h.cl i
 ·have e:gU 6 n k=if k.cl.getD n 0=0 then none else some ⟨k.cl.getD n 0::k.st,k.cl⟩:=rfl
  have D:pq 6 n st c=if c.getD n 0=0 then none else some (st++[c.getD n 0],c):=rfl
  rw[e,D,h.cl n]
  by_cases R:k.cl.getD n 0=0
  ·rw[Zu R,Zu (by omega)];rfl
  ·rw[Zt R,Zt (by omega)]
   exact⟨_,_,rfl,push _⟩
 ·exact km h 2 1 (some 1) (by decide) (by simp) [1] rfl
 ·exact km h 2 1 (some 1) (by decide) (by simp) [1] rfl
 ·have D:pq 9 n st c=if st.dropLast.getLast?.getD 0=st.getLast?.getD 0∧st.dropLast.getLast?.getD 0≠0 then some (st.dropLast.dropLast++[2],c) else none:=rfl
  have e:gU 9 n k=(match k.st with
   |x::y::r=>if x=y then some ⟨2::r,k.cl⟩ else none
   |_=>none):=rfl
  rw[e,D,h.st]
  match G:k.st with
  |[]=>exact Zt (by simp[ym])
  |[x]=>exact Zt (by simp[ym])
  |x::y::r=>
   have Y:=(I x (by rw[G];simp)).1
   rw[qP,tG,tG,qP]
   show Nq (if x=y then some ⟨2::r,k.cl⟩ else none) _
   by_cases E:x=y
   ·rw[Zu E,Zu ⟨by omega,by omega⟩]
    exact⟨_,_,rfl,by rw[show(2:Int)=((2:Nat):Int) from rfl,uH],h.len,h.cl⟩
   ·rw[Zt E,Zt (fun a=>E (by omega))];rfl
 ·exact km h 2 1 (some 2) (by decide) (by simp) [2] rfl
 ·exact km h 2 1 (some 2) (by decide) (by simp) [2] rfl
 ·exact km h 1 2 (some 2) (by decide) (by simp) [2] rfl
 ·exact km h 2 2 (some 2) (by decide) (by simp) [2] rfl
 ·exact km h 2 2 (some 2) (by decide) (by simp) [2] rfl
 ·exact km h 1 2 none (by decide) (by simp) [] rfl
 ·exact⟨_,_,rfl,h⟩
 ·exact⟨_,_,rfl,h⟩
 ·exact⟨_,_,rfl,h⟩
theorem J4 {z:Nat} {D:Kn} (ho:1≤z∧z≤18) (O:uF k.st) (R:IL k.cl) (h:gU z n k=some D):uF D.st∧IL D.cl∧D.cl.length=k.cl.length:=by
 have I:∀{U more:List Nat},uF more→lE U more k=some D→uF D.st∧IL D.cl∧D.cl.length=k.cl.length:=fun{U more} hm Y=>by
  obtain⟨_,rfl⟩:=lV Y;exact⟨fun t E=>by
   rcases aar.1 E with E|E
   ·exact hm t E
   ·exact O t (abW E),R,rfl⟩
 have ps:∀t:Nat,1≤t→t<4→some ⟨t::k.st,k.cl⟩=some D→uF D.st∧IL D.cl∧D.cl.length=k.cl.length:=fun t Z hb Y=>by
  obtain rfl:=aan Y;exact⟨fun x G=>by
   rcases ZU.1 G with rfl|G
   ·exact⟨Z,hb⟩
   ·exact O x G,R,rfl⟩
 have one:∀x:Nat,1≤x→x<4→uF [x]:=fun x Z hb t E=>by simp at E;subst E;exact⟨Z,hb⟩
 have e:z=1∨z=2∨z=3∨z=4∨z=5∨z=6∨z=7∨z=8∨z=9∨z=10∨z=11∨z=12∨z=13∨z=14∨z=15∨z=16∨z=17∨z=18:=by omega
 have J:some k=some D→uF D.st∧IL D.cl∧D.cl.length=k.cl.length:=fun h=>by obtain rfl:=aan h;exact⟨O,R,rfl⟩
 rcases e with rfl|rfl|rfl|rfl|rfl|rfl|rfl|rfl|rfl|rfl|rfl|rfl|rfl|rfl|rfl|rfl|rfl|rfl
 ·exact ps 1 (by omega) (by omega) h
 ·exact ps 2 (by omega) (by omega) h
 ·exact ps 3 (by omega) (by omega) h
 ·exact ps (mx n) (by unfold mx;(repeat' split)<;>omega) (by unfold mx;(repeat' split)<;>omega) h
 ·have e:gU 5 n k=(match k.st with
   |[]=>none
   |t::r=>some ⟨r,k.cl.set n t⟩):=rfl
  rw[e] at h
  split at h
  ·cases h
  ·rename_i t r V
   obtain rfl:=aan h;refine⟨fun x G=>O x (by rw[V];simp[G]),fun x G=>?_,by simp⟩
   rcases List.mem_or_eq_of_mem_set G with G|rfl
   ·exact R x G
   ·exact(O x (by rw[V];simp)).2
 ·have e:gU 6 n k=if k.cl.getD n 0=0 then none else some ⟨k.cl.getD n 0::k.st,k.cl⟩:=rfl
  rw[e] at h
  by_cases h0:k.cl.getD n 0=0
  ·rw[Zu h0] at h;cases h
  ·rw[Zt h0] at h
   refine ps (k.cl.getD n 0) (by omega) ?_ h
   rw[Zs]
   cases e:k.cl[n]? with
   |none=>decide
   |some v=>exact R v (List.mem_of_getElem? e)
 ·exact I (one 1 (by omega) (by omega)) h
 ·exact I (one 1 (by omega) (by omega)) h
 ·have e:gU 9 n k=(match k.st with
   |x::y::r=>if x=y then some ⟨2::r,k.cl⟩ else none
   |_=>none):=rfl
  rw[e] at h
  split at h
  ·rename_i x y r V
   split at h
   ·obtain rfl:=aan h
    exact⟨fun t E=>by
     rcases ZU.1 E with rfl|E
     ·omega
     ·exact O t (by rw[V];simp[E]),R,rfl⟩
   ·cases h
  ·cases h
 ·exact I (one 2 (by omega) (by omega)) h
 ·exact I (one 2 (by omega) (by omega)) h
 ·exact I (one 2 (by omega) (by omega)) h
 ·exact I (one 2 (by omega) (by omega)) h
 ·exact I (one 2 (by omega) (by omega)) h
 ·exact I (fun t E=>by simp at E) h
 ·exact J h
 ·exact J h
 ·exact J h
theorem Nr {a b:Kn} {D:List Int} (h:vx a st c) (O:vx b D c2) (V:a.cl.length=b.cl.length):vx ⟨a.st,kM a.cl b.cl⟩ st (tF c c2 c.length):=by
 refine⟨h.st,by rw[iI];have:=h.len;simp[kM];omega,fun i=>?_⟩
 show _=(((kM a.cl b.cl).getD i 0:Nat):Int)
 rw[vK]
 by_cases E:i<c.length
 ·have R:=h.len
  rw[po _ _ _ E,Zu E,h.cl i,O.cl i,Zu (c:=i<a.cl.length∧i<b.cl.length) ⟨by omega,by omega⟩]
  by_cases e:a.cl.getD i 0=b.cl.getD i 0
  ·rw[Zu e,Zu (by omega)]
  ·rw[Zt e,Zt (by omega)];rfl
 ·have G:=h.cl i
  rw[Zs,ZQ (by omega)] at G
  have U:a.cl.getD i 0=0:=by simp only[Option.getD_none] at G;omega
  rw[Zs,ZQ (by rw[iI];omega),U]
  simp
def ze (z:Nat) (D:Int) (i:Nat):List Int:=if z=17∨z=18 then[] else if z=16 then[D] else if z=15 then[(i:Int)+1,D] else[(i:Int)+1]
theorem newRow (w:World) (e:TypeId) (l:List Int) (z:l.length≤100):IR (w.alloc (.cells (l.map (Value.int .i64)).toArray e)) e (Sq w.heap.size l.length l.length) l:=by
 have h:=acn (base:=0) (e:=e) (size:=1) w (l.map (Value.int .i64)).toArray l.length (ZL _) (by unfold maxLen;omega) (by simp)
 simpa [IR] using h
theorem El (D:Nat) (n z pl:Int) (i:Nat) (hi:i≤5000) (w:World):
 Calls prog 190 #[fI D n z pl,Iq i] w fun e w'=>(∃v,e= .returned v∧IR w' 3 v (ze D z i)∧ ∀b,v.ownBlock=some b→w.heap.size≤b)∧Below w.heap.size w w':=by
 have V:Hid (∀l:List Int,l.length≤100→ ∀w:World,IR (w.alloc (.cells (l.map (Value.int .i64)).toArray 3)) 3 (Sq w.heap.size l.length l.length) l):=fun l hl w=>newRow w _ l hl
 have Y:Hid (∀o Z,Below w.heap.size w ((w.alloc o).alloc Z)):=fun o Z=>((ZA _ _).alloc (Zw _) _).alloc (by simp) _
 have O:Hid (∀o,Below w.heap.size w (w.alloc o)):=fun o=>((ZA _ _).alloc (Zw _) _)
 unfold fI
 by_cases R:D=17
 ·subst R
  have E:Hid (ze 17 z i=[]):=rfl;generalize ze 17 z i=L at*;go_enter func190,ntmps190
  go_wp2
  go_ret;exact⟨⟨_,rfl,by rw[E.out];exact IR.nil _ _,fun b G=>by simp[Value.ownBlock] at G⟩,O.out _⟩
 by_cases U:D=18
 ·subst U
  have E:Hid (ze 18 z i=[]):=rfl;generalize ze 18 z i=L at*;go_enter func190,ntmps190
  go_wp2
  go_ret;exact⟨⟨_,rfl,by rw[E.out];exact IR.nil _ _,fun b G=>by simp[Value.ownBlock] at G⟩,O.out _⟩
 by_cases I:D=16
 ·subst I
  have E:Hid (ze 16 z i=[z]):=rfl;generalize ze 16 z i=L at*;go_enter func190,ntmps190
  go_wp2
  go_ret;refine⟨⟨_,rfl,?_,fun b G=>by simp[Value.ownBlock] at G;omega⟩,Y.out _ _⟩
  rw[E.out];have:=V.out [z] (by simp) (w.alloc (.cells #[Iq 16,Iq n,Iq z,Iq pl] 247));simpa using this
 by_cases J:D=15
 ·subst J
  have E:Hid (ze 15 z i=[(i:Int)+1,z]):=rfl;generalize ze 15 z i=L at*;go_enter func190,ntmps190
  go_wp2
  go_ret;refine⟨⟨_,rfl,?_,fun b G=>by simp[Value.ownBlock] at G;omega⟩,Y.out _ _⟩
  rw[E.out];have:=V.out [(i:Int)+1,z] (by simp) (w.alloc (.cells #[Iq 15,Iq n,Iq z,Iq pl] 247));simpa using this
 ·have E:Hid (ze D z i=[(i:Int)+1]):=by show _=_;unfold ze;rw[Zt (by omega),Zt I,Zt J]
  have aa:((D:Int)==17)=false:=by simp;omega
  have ab:((D:Int)==18)=false:=by simp;omega
  have ac:((D:Int)==16)=false:=by simp;omega
  have ad:((D:Int)==15)=false:=by simp;omega
  generalize ze D z i=L at*;go_enter func190,ntmps190
  go_wp2
  go_ret;refine⟨⟨_,rfl,?_,fun b G=>by simp[Value.ownBlock] at G;omega⟩,Y.out _ _⟩
  rw[E.out];have:=V.out [(i:Int)+1] (by simp) (w.alloc (.cells #[Iq D,Iq n,Iq z,Iq pl] 247));simpa using this
structure fR (w:World) (B g lo:Nat) (O:Nat→Nat) (come:List (Option Kn)):Prop where
 blk:∃cs,w.heap[g]?=some (.cells cs 285 (0,0))∧cs.size=come.length
 non:∀j,lo≤j→j<come.length→come.getD j none=none→w.cell? ⟨g,j,none⟩=some (.pointer none)
 som:∀j,lo≤j→j<come.length→ ∀k,come.getD j none=some k→ ∃p vs vc st c,w.cell? ⟨g,j,none⟩=some (Pq p)∧fM w p vs vc st c∧vx k st c∧ ∀b,fq p vs vc b→O b=j+1
 own:O g=0
 low:∀b,O b≠0→B≤b
 lowg:B≤g
 siz:B≤w.heap.size
def rk (O:Nat→Nat) (s j:Nat) (b:Nat):Nat:=if s≤b then j+1 else O b
theorem fR.lt {z:Nat} {come:List (Option Kn)} (h:fR w B g z O come):g<w.heap.size:=by
 obtain⟨cs,D,_⟩:=h.blk;exact be D
theorem fR.upd {come:List (Option Kn)} (h:fR w B g lo O come) (hj:lo≤j) (Z:j<come.length) (ho:dt (fun b=>b=g∨O b=j+1) w w')
 (aa:∃cs,w'.heap[g]?=some (.cells cs 285 (0,0))∧cs.size=come.length) (I:∀j',j'≠j→w'.cell? ⟨g,j',none⟩=w.cell? ⟨g,j',none⟩)
 (ab:∃p vs J st c,w'.cell? ⟨g,j,none⟩=some (.pointer (some ⟨p,0,none⟩))∧fM w' p vs J st c∧vx k' st c∧ ∀b,fq p vs J b→O b=j+1∨w.heap.size≤b):fR w' B g lo (rk O w.heap.size j) (come.set j (some k')):=by
 have hg:=h.lt
 have E:(come.set j (some k')).length=come.length:=by simp
 refine⟨by rw[E];exact aa,fun i hi D G=>?_,fun i hi D k U=>?_,?_,fun b z=>?_,h.lowg,Z8 h.siz ho.size⟩
 ·rw[E] at D
  by_cases e:i=j
  ·subst e;rw[dD Z] at G;cases G
  ·rw[getD_set_ne (fun a=>e a.symm)] at G
   rw[I i e];exact h.non i hi D G
 ·rw[E] at D
  by_cases e:i=j
  ·subst e
   rw[dD Z] at U
   obtain rfl:=aan U
   obtain⟨p,vs,J,st,c,h1,V,h3,Y⟩:=ab
   refine⟨p,vs,J,st,c,h1,V,h3,fun b z=>?_⟩
   unfold rk
   rcases Y b z with R|R
   ·split
    ·rfl
    ·exact R
   ·rw[Zu R]
  ·rw[getD_set_ne (fun a=>e a.symm)] at U
   obtain⟨p,vs,J,st,c,h1,V,h3,Y⟩:=h.som i hi D k U
   refine⟨p,vs,J,st,c,by rw[I i e];exact h1,V.only ho (fun b z G=>?_),h3,fun b z=>?_⟩
   ·have R:=Y b z
    rcases G with rfl|G
    ·rw[h.own] at R;omega
    ·omega
   ·unfold rk
    rw[Zt (by have:=V.lt z;omega)];exact Y b z
 ·unfold rk;rw[Zt (by omega)];exact h.own
 ·unfold rk at z
  by_cases e:w.heap.size≤b
  ·have:=h.siz;omega
  ·rw[Zt e] at z;exact h.low b z
def tH (O:Nat→Nat) (w w':World) (B g J:Nat) (come:List (Option Kn)) (i p:Nat) (vs G:Value) (st c:List Int):Prop:=
 ∃D,fR w' B g J D come∧fM w' p vs G st c∧(∀b,fq p vs G b→D b=i+1)∧Below B w w'∧ ∀b,b<w.heap.size→b≠g→O b=0→D b=0∧w'.heap[b]?=w.heap[b]?
theorem fR.rest (z:dt (fun b=>b=g∨O b=j+1) w w'):∀b,b<w.heap.size→b≠g→O b=0→rk O w.heap.size j b=0∧w'.heap[b]?=w.heap[b]?:=fun b D E G=>by
 refine⟨by unfold rk;rw[Zt (by omega)];exact G,z.block b D (fun h=>?_)⟩
 rcases h with h|h
 ·exact E h
 ·omega
theorem fR.below {w w':World} {B g D j:Nat} {O:Nat→Nat} {come:List (Option Kn)} (h:fR w B g D O come) (E:dt (fun b=>b=g∨O b=j+1) w w'):Below B w w':=
 E.below h.siz (fun b _ z=>by
  rcases z with rfl|z
  ·exact h.lowg
  ·exact h.low b (by omega))
theorem fR.here {J:Nat} {come:List (Option Kn)} {z:Value} (h:fR w B g J O come) (E:fM w p vs z st c) (G:∀b,fq p vs z b→O b=i+1) (V:i≠j) (R:dt (fun b=>b=g∨O b=j+1) w w'):fM w' p vs z st c∧ ∀b,fq p vs z b→rk O w.heap.size j b=i+1:=by
 refine⟨E.only R (fun b D I=>?_),fun b D=>?_⟩
 ·have U:=G b D
  rcases I with rfl|I
  ·rw[h.own] at U;omega
  ·omega
 ·unfold rk;rw[Zt (by have:=E.lt D;omega)];exact G b D
theorem L0 {b:List Nat}:ym a=ym b↔a=b:=by
 refine⟨fun h=>?_,fun h=>by rw[h]⟩
 have z:a.reverse=b.reverse:=by
  unfold ym at h
  exact(List.map_inj_right (fun x y e=>by omega)).1 h
 simpa using z
theorem Cu {z:Int} {cap:Nat} (G:n≤5000) (D:z=0∨z=n) (w:World):
 Calls prog 191 #[Sq g n cap,.int .i64 z,.pointer (some ⟨p,0,none⟩)] w fun e w'=>e= .returned (.bool false)∧w'=w:=by
 by_cases E:z=0
 ·subst E
  go_enter func191,ntmps191
  go_wp2
  go_ret
  exact⟨rfl,rfl⟩
 ·obtain rfl:z=n:=by omega
  have I:((n:Int)==0)=false:=by simp;omega
  go_enter func191,ntmps191
  go_wp2
  go_ret
  exact⟨rfl,rfl⟩
theorem Em {cap:Nat} {come:List (Option Kn)} (h:fR w B g V O come) (hs:fM w p vs Y st c) (hk:vx k st c) (hO:∀b,fq p vs Y b→O b=i+1) (ad:i≠j) (hj:V≤j) (ai:0<j) (aa:j<come.length) (hn:come.length≤5000) (hl:st.length≤5000) (hc:c.length≤5000) (ab:come.getD j none=none):
 Calls prog 191 #[Sq g come.length cap,.int .i64 j,.pointer (some ⟨p,0,none⟩)] w fun e w'=>e= .returned (.bool true)∧tH O w w' B g V (come.set j (some k)) i p vs Y st c:=by
 have U:=h.non j hj aa ab
 have ae:w.frozen? ⟨g,j,none⟩=false:=by obtain⟨cs,hc,_⟩:=h.blk;simp[World.frozen?,hc]
 have b0:((j:Int)==0)=false:=by simp;omega
 have bn:((j:Int)==(come.length:Int))=false:=by simp;omega
 have W1:∀W,Below w.heap.size w W→Calls prog 236 #[.pointer (some ⟨p,0,none⟩)] W fun e w'=> ∃E z D,e= .returned (.pointer (some ⟨E,0,none⟩))∧fM w' E z D st c∧Below W.heap.size W w'∧ ∀b,fq E z D b→W.heap.size≤b:=fun W I=>Ei (hs.only (dt.of_below (F:=fun _=>False) I) (fun _ _ h=>h)) hl hc
 have HA:Hid (∀G E z D,fM G E z D st c→Below w.heap.size w G→(∀b,fq E z D b→w.heap.size≤b)→tH O w (G.setCell ⟨g,j,none⟩ (.pointer (some ⟨E,0,none⟩))) B g V (come.set j (some k)) i p vs Y st c):=fun G E z D Z J h3=>by
  have hg:=h.lt
  obtain⟨cs,af,ag⟩:=h.blk
  have ah:G.heap[g]?=_:=(J.block g hg).trans af
  have ho:dt (fun b=>b=g∨O b=j+1) w (G.setCell ⟨g,j,none⟩ (.pointer (some ⟨E,0,none⟩))):=(dt.of_below J).setCell (.inl (.inl rfl)) _
  obtain⟨q1,q2⟩:=h.here hs hO ad ho
  refine⟨rk O w.heap.size j,h.upd hj aa ho ⟨_,ZK G g j _ _ _ ah,by simpa using ag⟩ (fun j' e=>?_) ⟨E,z,D,st,c,?_,?_,hk,fun b I=> .inr (h3 b I)⟩,q1,q2,h.below ho,fR.rest ho⟩
  ·rw[dU _ _ _ _ _ (fun a=>e a.symm)]
   exact J.cell (p:=⟨g,j',none⟩) hg
  ·exact fg _ _ _ _ (by rw[J.cell (p:=⟨g,j,none⟩) hg,U];rfl)
  ·exact Z.only ((dt.refl (fun b=>b=g) G).setCell (.inl rfl) _) (fun b I e=>by have:=h3 b I;omega)
 have R:∀W,Below w.heap.size w W→W.cell? ⟨g,j,none⟩=some (.pointer none)∧W.frozen? ⟨g,j,none⟩=false:=fun W I=>⟨by rw[I.cell (p:=⟨g,j,none⟩) h.lt];exact U,by rw[I.frozen (p:=⟨g,j,none⟩) h.lt];exact ae⟩
 have ac:=Hi R
 generalize come.length=n at*
 go_enter func191,ntmps191
 go_wp2_with fail
 apply(W1 w (ZA _ _)).mono
 rintro e G ⟨E,z,D,rfl,Z,J,h3⟩
 obtain⟨d1,d2⟩:=ac.out G J
 have HU:=Hi (HA.out G E z D Z J h3)
 go_wp2
 go_ret
 exact⟨rfl,HU.out⟩
theorem En {Y cap:Nat} {come:List (Option Kn)} {a:Kn} (h:fR w B g Y O come) (hs:fM w p vs R st c) (hk:vx k st c) (hO:∀b,fq p vs R b→O b=i+1) (ag:i≠j) (hj:Y≤j) (ar:0<j) (aa:j<come.length) (hn:come.length≤5000) (hl:st.length≤5000) (ah:a.st.length≤5000) (au:a.cl.length≤5000) (af:a.cl.length=k.cl.length) (ab:come.getD j none=some a):
 Calls prog 191 #[Sq g come.length cap,.int .i64 j,.pointer (some ⟨p,0,none⟩)] w fun e w'=>e= .returned (.bool (decide (a.st=k.st)))∧tH O w w' B g Y (come.set j (some ⟨a.st,kM a.cl k.cl⟩)) i p vs R st c:=by
 obtain⟨q,us,uc,I,c2,Z,ac,z,D⟩:=h.som j hj aa a ab
 have b0:((j:Int)==0)=false:=by simp;omega
 have bn:((j:Int)==(come.length:Int))=false:=by simp;omega
 have ai:I.length≤5000:=by rw[z.st];simpa [ym] using ah
 have U:∀b,fq q us uc b→ ¬fq p vs R b:=fun b h1 V=>by have:=D b h1;have:=hO b V;omega
 have aj:c2.length≤5000:=by have:=z.len;omega
 have W1:=Hh ac hs U ai hl aj
 have he:decide (I=st)=decide (a.st=k.st):=by
  rw[z.st,hk.st]
  exact abU.2 L0
 rw[he] at W1
 have HA:Hid (∀E,dB w E q us uc I (tF c2 c c2.length)→tH O w E B g Y (come.set j (some ⟨a.st,kM a.cl k.cl⟩)) i p vs R st c):=fun E ak=>by
  obtain⟨am,an,h1,V,h3⟩:=ak
  have hg:=h.lt
  obtain⟨cs,ao,ap⟩:=h.blk
  have G:dt (fun b=>b=g∨O b=j+1) w E:=V.weak (fun b _ hb=> .inr (D b hb))
  have ad: ¬fq q us uc g:=fun e=>by have:=D g e;rw[h.own] at this;omega
  have aq:E.heap[g]?=_:=(V.block g hg ad).trans ao
  obtain⟨q1,q2⟩:=h.here hs hO ag G
  have ae:∀J,E.cell? ⟨g,J,none⟩=w.cell? ⟨g,J,none⟩:=fun J=>ZI (w:=w) (a:=⟨g,J,none⟩) (V.block g hg ad)
  refine⟨rk O w.heap.size j,h.upd hj aa G ⟨_,aq,ap⟩ (fun J _=>ae J) ⟨q,am,an,I,_,by rw[ae];exact Z,h1,Nr z hk af,fun b hb=>?_⟩,q1,q2,h.below G,fR.rest G⟩
  rcases h3 b hb with h4|h4
  ·exact .inl (D b h4)
  ·exact .inr h4
 generalize come.length=n at*
 generalize hr:decide (a.st=k.st)=r at W1
 go_enter func191,ntmps191
 go_wp2_with (
  go_at_call 237
  apply W1.mono
  rintro e E ⟨rfl,G⟩
  have HU:=Hi (HA.out _ G)
  clear G)
 go_ret
 exact⟨rfl,HU.out⟩
def jf (ins:List hH) (x:hH):Int:=if x.op=15∨x.op=16 then(((gN ins x).getD 0:Nat):Int) else 0
structure mi (w:World) (cp gi cap cells depth:Nat) (ins:List hH):Prop where
 blk:w.heap[cp]?=some (.cells #[Iq cells,.slice (some ⟨gi,0,none⟩) ins.length cap,Iq depth] 253 (0,0))
 op:∀i,i<ins.length→w.cell? ⟨gi,i*4,none⟩=some (Iq ((ins.getD i dw).op:Nat))
 num:∀i,i<ins.length→w.cell? ⟨gi,i*4+1,none⟩=some (Iq (ins.getD i dw).n)
 tos:∀i,i<ins.length→w.cell? ⟨gi,i*4+2,none⟩=some (Iq (jf ins (ins.getD i dw)))
 pls:∀i,i<ins.length→w.cell? ⟨gi,i*4+3,none⟩=some (Iq ((ins.getD i dw).pl:Nat))
theorem mi.below {I E cap cells D:Nat} {ins:List hH} (h:mi w I E cap cells D ins) (J:Below w.heap.size w w'):mi w' I E cap cells D ins:=by
 have G:∀{o:Nat} {v:Value},w.cell? ⟨E,o,none⟩=some v→w'.cell? ⟨E,o,none⟩=some v:=fun{o v} e=>by
  rw[J.cell (Zx w _ e)];exact e
 exact⟨(J.block I (be h.blk)).trans h.blk,fun i z=>G (h.op i z),fun i z=>G (h.num i z),fun i z=>G (h.tos i z),fun i z=>G (h.pls i z)⟩
def An (n i:Nat) (o:Option Nat) (v:Int):Prop:=(o=none→v=0∨v=n)∧ ∀j,o=some j→v=j∧i+1≤j∧j<n
theorem Hl (z:i<n):An n i (if i+1<n then some (i+1) else none) ((i:Int)+1):=by
 by_cases h:i+1<n
 ·rw[Zu h];exact⟨fun e=>(by cases e),fun j e=>by simp at e;omega⟩
 ·rw[Zt h];exact⟨fun _=> .inr (by omega),fun j e=>by cases e⟩
theorem Hm {ins:List hH} (h:gV b ins) (z:i<ins.length) (D:(ins.getD i dw).op=15∨(ins.getD i dw).op=16):An ins.length i (gN ins (ins.getD i dw)) (jf ins (ins.getD i dw)):=by
 unfold jf;rw[Zu D]
 cases e:gN ins (ins.getD i dw) with
 |none=>exact⟨fun _=> .inl rfl,fun j e=>by cases e⟩
 |some j=>
  obtain⟨I,E,_⟩:=BE h z e;exact⟨fun e=>(by cases e),fun J G=>by obtain rfl:=aan G;exact⟨rfl,by omega,E⟩⟩
theorem J5 {ins:List hH} (h:gV b ins) (J:i<ins.length):(ze (ins.getD i dw).op (jf ins (ins.getD i dw)) i).length=(j6 ins i (ins.getD i dw)).length∧ ∀m,m<(j6 ins i (ins.getD i dw)).length→An ins.length i ((j6 ins i (ins.getD i dw)).getD m none) ((ze (ins.getD i dw).op (jf ins (ins.getD i dw)) i).getD m 0):=by
 have O:=Hm h J;have R:=Hl J;generalize ins.getD i dw=x at*;generalize jf ins x=v at*;unfold ze j6
 by_cases z:x.op=15
 ·rw[Zt (by omega),Zt (by omega),Zu z,Zu z]
  refine⟨rfl,fun m G=>?_⟩
  have E:m<2:=G
  match m,E with
  |0,_=>exact R
  |1,_=>exact O (.inl z)
 ·by_cases D:x.op=16
  ·rw[Zt (by omega),Zu D,Zt z,Zu D]
   refine⟨rfl,fun m G=>?_⟩
   have E:m<1:=G
   match m,E with
   |0,_=>exact O (.inr D)
  ·by_cases I:x.op=17∨x.op=18
   ·rw[Zu I,Zt z,Zt D,Zu I]
    exact⟨rfl,fun m G=>absurd G (Nat.not_lt_zero m)⟩
   ·rw[Zt I,Zt D,Zt z,Zt z,Zt D,Zt I]
    refine⟨rfl,fun m G=>?_⟩
    have E:m<1:=G
    match m,E with
    |0,_=>exact R
def uI (cells:Nat) (come:List (Option Kn)):Prop:= ∀j k,come.getD j none=some k→uF k.st∧IL k.cl∧k.cl.length=cells∧k.st.length≤24
theorem uI.set {cells:Nat} {come:List (Option Kn)} (h:uI cells come) {j:Nat} {k:Kn} (E:uF k.st∧IL k.cl∧k.cl.length=cells∧k.st.length≤24):uI cells (come.set j (some k)):=fun i D e=>by
 by_cases z:j=i
 ·subst z
  by_cases G:j<come.length
  ·rw[dD G] at e;obtain rfl:=aan e;exact E
  ·rw[List.set_eq_of_length_le (by omega)] at e;exact h j D e
 ·rw[getD_set_ne z] at e;exact h i D e
theorem J6 {b:List Nat} (h:IL a):IL (kM a b):=fun t D=>by
 unfold kM at D;obtain⟨i,E,e⟩:=aa0.1 D;have z:(kM a b).getD i 0=t:=by unfold kM;rw[Zs,Zv E,e];rfl
 rw[vK] at z
 split at z
 ·split at z
  ·rw[←z,Zs,Zv (by omega)]
   exact h _ (ZV _)
  ·omega
 ·omega
theorem J7 (cells n:Nat):uI cells (kN cells n):=fun j k e=>by
 unfold kN at e
 cases j with
 |zero=>
  simp at e;subst e;exact⟨fun t z=>by simp at z,fun t z=>by simp at z;omega,by simp,by simp⟩
 |succ j=>
  rw[ZX,Zs,aat] at e
  split at e<;>cases e
def Hn (O:Nat→Nat) (s:Nat) (b:Nat):Nat:=if s≤b then 0 else O b
theorem fR.below' {I:Nat} {come:List (Option Kn)} (h:fR w B g I O come) (z:Below w.heap.size w w'):fR w' B g I O come:=by
 obtain⟨cs,R,J⟩:=h.blk;have D:=h.lt;refine⟨⟨cs,(z.block g D).trans R,J⟩,fun j E G h3=>?_,fun j E G k h3=>?_,h.own,h.low,h.lowg,Z8 h.siz z.size⟩
 ·rw[z.cell (p:=⟨g,j,none⟩) D];exact h.non j E G h3
 ·obtain⟨p,vs,U,st,c,V,Y,Z,e4⟩:=h.som j E G k h3
  exact⟨p,vs,U,st,c,by rw[z.cell (p:=⟨g,j,none⟩) D];exact V,Y.only (dt.of_below (F:=fun _=>False) z) (fun _ _ h=>h),Z,e4⟩
theorem fR.from {D z:Nat} {come:List (Option Kn)} (h:fR w B g D O come) (G:D≤z):fR w B g z O come:=
 ⟨h.blk,fun j E=>h.non j (by omega),fun j E=>h.som j (by omega),h.own,h.low,h.lowg,h.siz⟩
theorem fR.change {come:List (Option Kn)} {U:Value} (h:fR w B g i O come) (I:∀b,fq p vs U b→O b=i+1) (ho:dB w w' p vs U st' c'):
 ∃V D E,fR w' B g (i+1) V come∧fM w' p D E st' c'∧(∀b,fq p D E b→V b=i+1)∧(∀b,w'.heap.size≤b→V b=0)∧Below B w w':=by
 obtain⟨D,E,h1,G,h3⟩:=ho;have hg:=h.lt;have ac: ¬fq p vs U g:=fun e=>by have:=I g e;rw[h.own] at this;omega
 have J:=G.block g hg ac;obtain⟨cs,hc,ad⟩:=h.blk;have R:∀j,w'.cell? ⟨g,j,none⟩=w.cell? ⟨g,j,none⟩:=fun j=>ZI (w:=w) (a:=⟨g,j,none⟩) J
 refine⟨Hn (rk O w.heap.size i) w'.heap.size,D,E,?_,h1,fun b z=>?_,fun b z=>by unfold Hn;rw[Zu z],G.below h.siz (fun b _ z=>h.low b (by have:=I b z;omega))⟩
 ·refine⟨⟨cs,J.trans hc,ad⟩,fun j q1 Y Z=>?_,fun j q1 Y k Z=>?_,?_,fun b z=>?_,h.lowg,Z8 h.siz G.size⟩
  ·rw[R];exact h.non j (by omega) Y Z
  ·obtain⟨p2,us,uc,st,c,e1,e2,e3,e4⟩:=h.som j (by omega) Y k Z
   refine⟨p2,us,uc,st,c,by rw[R];exact e1,e2.only G (fun b z hn=>?_),e3,fun b z=>?_⟩
   ·have:=e4 b z;have:=I b hn;omega
   ·have ae:=e2.lt z
    have:=G.size;unfold Hn rk;rw[Zt (by omega),Zt (by omega)];exact e4 b z
  ·have:=G.size
   unfold Hn rk;rw[Zt (by omega),Zt (by omega)];exact h.own
  ·unfold Hn rk at z
   split at z
   ·exact absurd rfl z
   ·split at z
    ·have:=h.siz;omega
    ·exact h.low b z
 ·have ae:=h1.lt z
  unfold Hn rk;rw[Zt (by omega)]
  rcases h3 b z with h4|h4
  ·split
   ·rfl
   ·exact I b h4
  ·rw[Zu h4]
structure ML (w wi:World) (cells:Nat) (ins:List hH) (i p:Nat) (vs vc:Value) (st c:List Int) (v:Value) (L:List Int) (k:Kn) (come:List (Option Kn)) (leads:List (Option Nat)) (m:Nat) (O:Nat→Nat) (come':List (Option Kn)):Prop where
 at_:fR wi w.heap.size w.heap.size (i+1) O come'
 len:come'.length=ins.length
 set:fM wi p vs vc st c
 own:∀b,fq p vs vc b→O b=i+1
 row:IR wi 3 v L
 rowO:∀b,v.ownBlock=some b→O b=0
 bel:Below w.heap.size w wi
 bri:gO come k leads=gO come' k (leads.drop m)
 typ:uI cells come'
theorem Ho {α:Type} {l:List α} {d:α} (h:m<l.length):l.drop m=l.getD m d::l.drop (m+1):=by
 rw[ZW h,Zs,Zv h];rfl
theorem ML.next {cells:Nat} {ins:List hH} {come:List (Option Kn)} {D:List (Option Nat)} {z:List (Option Kn)} (h:ML w J cells ins i p vs R st c v L k come D m O z) {G:Kn}
 (U:tH O J w' w.heap.size w.heap.size (i+1) (z.set j (some G)) i p vs R st c) (E:gO z k (D.drop m)=gO (z.set j (some G)) k (D.drop (m+1))) (Y:uF G.st∧IL G.cl∧G.cl.length=cells∧G.st.length≤24):∃I,ML w w' cells ins i p vs R st c v L k come D (m+1) I (z.set j (some G)):=by
 obtain⟨I,Z,h2,h3,h4,h5⟩:=U;obtain⟨cs,hc,_⟩:=h.at_.blk;have hg:=h.row.ne hc (by decide)
 have V:∀b,v.ownBlock=some b→I b=0∧w'.heap[b]?=J.heap[b]?:=fun b E=>h5 b (h.row.lt b E).2 (fun e=>hg (by rw[←e];exact E)) (h.rowO b E)
 exact⟨I,Z,by simpa using h.len,h2,h3,dE h.row (fun b E=>(V b E).2),fun b E=>(V b E).1,h.bel.trans h4,h.bri.trans E,h.typ.set Y⟩
theorem ML.come {w wi:World} {cells:Nat} {ins:List hH} {i p cap:Nat} {vs vc:Value} {st c:List Int} {v:Value} {L:List Int} {k:Kn} {come:List (Option Kn)} {z:List (Option Nat)} {m:Nat} {O:Nat→Nat} {D:List (Option Kn)} (h:ML w wi cells ins i p vs vc st c v L k come z m O D) (I:vx k st c) (ac:uF k.st∧IL k.cl∧k.cl.length=cells∧k.st.length≤24) (ad:cells≤256) (hm:m<z.length) (hn:ins.length≤4000) (hv:An ins.length i (z.getD m none) (L.getD m 0)):
 Calls prog 191 #[Sq w.heap.size ins.length cap,Iq (L.getD m 0),Pq p] wi fun e w'=> ∃r:Bool,e= .returned (.bool r)∧Below w.heap.size w w'∧(r=true→ ∃R V,ML w w' cells ins i p vs vc st c v L k come z (m+1) R V)∧(r=false→gO come k z=none):=by
 have Y:=Ho (d:=none) hm;have ab:=h.len
 cases J:z.getD m none with
 |none=>
  apply(Cu (by omega) (hv.1 J) wi).mono
  rintro e w' ⟨rfl,rfl⟩;refine⟨false,rfl,h.bel,fun e=>(by cases e),fun _=>?_⟩
  rw[h.bri,Y,J];rfl
 |some j=>
  obtain⟨hj,aa,af⟩:=hv.2 j J;rw[hj,←ab];have hl:st.length≤5000:=by rw[I.st];simp[ym];omega
  have hc:c.length≤5000:=by have:=I.len;omega
  cases E:D.getD j none with
  |none=>
   apply(Em h.at_ h.set I h.own (by omega) aa (by omega) (by omega) (by omega) hl hc E).mono
   rintro e w' ⟨rfl,G⟩;have hb:gO D k (z.drop m)=gO (D.set j (some k)) k (z.drop (m+1)):=by rw[Y,J,gO,E]
   obtain⟨R,U⟩:=h.next G hb ac;exact⟨true,rfl,U.bel,fun _=>⟨R,_,U⟩,fun e=>by cases e⟩
  |some a=>
   obtain⟨ta,tb,tc,td⟩:=h.typ j a E;apply(En h.at_ h.set I h.own (by omega) aa (by omega) (by omega) (by omega) hl (by omega) (by omega) (by omega) E).mono
   rintro e w' ⟨rfl,G⟩
   by_cases Z:a.st=k.st
   ·have hb:gO D k (z.drop m)=gO (D.set j (some ⟨a.st,kM a.cl k.cl⟩)) k (z.drop (m+1)):=by
     rw[Y,J,gO,E];simp only[];rw[Zu Z]
    obtain⟨R,U⟩:=h.next G hb ⟨ta,J6 tb,by simp[kM];omega,td⟩
    exact⟨true,by rw[aad Z],U.bel,fun _=>⟨R,_,U⟩,fun e=>by cases e⟩
   ·obtain⟨_,_,_,_,ae,_⟩:=G
    refine⟨false,by rw[Z4 Z],h.bel.trans ae,fun e=>(by cases e),fun _=>?_⟩
    rw[h.bri,Y,J,gO,E];simp only[];rw[Zt Z]
theorem J8:(prog.info? 285).map (fun i=>(i.zero,i.size,i.bytes))=some (some (.pointer none),1,8):=by kernel_rfl
def L1 (w wr:World) (cells:Nat) (ins:List hH) (z i:Nat) (r:Bool):Prop:=
 ∃O come,fR wr w.heap.size w.heap.size i O come∧come.length=ins.length∧Below w.heap.size w wr∧r=ln ins z (ins.drop i) i come∧uI cells come
theorem Hp {cells:Nat} (U:0<n):
 fR ((w.alloc (.cells ((madeCells #[.pointer none] n).setIfInBounds 0 (Pq (w.heap.size+1))) 285)).alloc (.cells #[.slice none 0 0,.slice none 0 0] 289)) w.heap.size w.heap.size 0 (fun b=>if b=w.heap.size+1 then 1 else 0) (kN cells n):=by
 have J:(w.alloc (.cells ((madeCells #[.pointer none] n).setIfInBounds 0 (Pq (w.heap.size+1))) 285)).heap.size=w.heap.size+1:=ZB _ _;have z:=(ZE (w.alloc (.cells ((madeCells #[.pointer none] n).setIfInBounds 0 (Pq (w.heap.size+1))) 285)) (.cells #[.slice none 0 0,.slice none 0 0] 289) w.heap.size (by omega)).trans (Zy w _)
 have O:=Zy (w.alloc (.cells ((madeCells #[.pointer none] n).setIfInBounds 0 (Pq (w.heap.size+1))) 285)) (.cells #[.slice none 0 0,.slice none 0 0] 289);rw[J] at O;have D:=uy cells n U;have R:(madeCells #[Value.pointer none] n).size=n:=aci _ _;have G:∀j,j<n→((w.alloc (.cells ((madeCells #[.pointer none] n).setIfInBounds 0 (Pq (w.heap.size+1))) 285)).alloc (.cells #[.slice none 0 0,.slice none 0 0] 289)).cell? ⟨w.heap.size,j,none⟩=if j=0 then some (Pq (w.heap.size+1)) else some (.pointer none):=fun j E=>by
  rw[Zz _ _ j _ _ _ z]
  by_cases e:j=0
  ·subst e
   rw[Zu rfl,aaE,Zu rfl,Zu (by omega)]
  ·rw[Zt e,aaT (by omega)]
   unfold madeCells;simp[E,acv]
 refine⟨⟨_,z,by rw[Array.size_setIfInBounds,R,D]⟩,fun j _ E V=>?_,fun j _ E k I=>?_,by simp,fun b z=>?_,Zw _,by rw[ZB,J];omega⟩
 ·rw[D] at E
  rw[G j E,Zt];intro e;subst e;simp[kN] at V
 ·rw[D] at E
  cases j with
  |zero=>
   simp[kN] at I;subst I;refine⟨w.heap.size+1,.slice none 0 0,.slice none 0 0,[],[],by rw[G 0 E];rfl,⟨O,IR.nil _ _,IR.nil _ _,fun b z=>by simp[Value.ownBlock] at z⟩,⟨rfl,by simp,fun i=>?_⟩,fun b z=>?_⟩
   ·rw[Zs,Zs,aat]
    split<;>rfl
   ·rcases z with rfl|z|z
    ·exact Zu rfl
    ·simp[Value.ownBlock] at z
    ·simp[Value.ownBlock] at z
  |succ j=>
   unfold kN at I;rw[ZX,Zs,aat] at I
   split at I<;>cases I
 ·by_cases e:b=w.heap.size+1
  ·omega
  ·exact absurd (Zt e) z
theorem Hq {ins:List hH} {I cap D:Nat} (hE:Ef w) (h:gV b ins) (hm:mi w I gi cap (de b 2) D ins) (h0:0<ins.length) (hn:ins.length≤4000) (hd:D≤24):
 Calls prog 143 #[Pq I] w fun e w'=>e= .returned (.bool (ln ins D ins 0 (kN (de b 2) ins.length)))∧Below w.heap.size w w':=by
 have ba:=run_make_row' (P:=prog) 284 285 (.pointer none) 8 underlying284 J8 rfl .i64 .i64 ins.length (by omega) (by omega)
 have p1:w.cell? ⟨I,1,none⟩=some (Sq gi ins.length cap):=by rw[Zz w I 1 _ _ _ hm.blk];rfl
 have p2:w.cell? ⟨I,2,none⟩=some (Iq D):=by rw[Zz w I 2 _ _ _ hm.blk];rfl
 have aF:=be hm.blk;have bb:∀o o',((w.alloc o).alloc o').cell? ⟨I,1,none⟩=some (Sq gi ins.length cap):=fun o o'=>by
  have hb:Below w.heap.size w ((w.alloc o).alloc o'):=((ZA _ _).alloc (Zw _) _).alloc (by simp) _
  rw[hb.cell (p:=⟨I,1,none⟩) aF];exact p1
 have bc:(madeCells #[.pointer none] ins.length)[0]?=some (.pointer none):=by unfold madeCells;simp[h0]
 have HM:=Hi hm;have H:=Hi h;have bd:=Hi hE;clear hm h hE;generalize hR:ln ins D ins 0 (kN (de b 2) ins.length)=R;have aP:Hid (L1 w ((w.alloc (.cells ((madeCells #[.pointer none] ins.length).setIfInBounds 0 (Pq (w.heap.size+1))) 285)).alloc (.cells #[.slice none 0 0,.slice none 0 0] 289)) (de b 2) ins D 0 R):=
  ⟨_,_,Hp h0,uy _ _ h0,((ZA _ _).alloc (Zw _) _).alloc (by simp) _,hR.symm,J7 _ _⟩
 clear hR;have HN:Hid (ins.length=ins.length):=rfl;generalize aG:ins.length=n at h0 hn ba p1 bb bc aP;have HL:=Hi aG;clear aG;go_enter func143,ntmps143;go_wp2_with fail;generalize ((w.alloc (.cells ((madeCells #[.pointer none] n).setIfInBounds 0 (Pq (w.heap.size+1))) 285)).alloc (.cells #[.slice none 0 0,.slice none 0 0] 289))=W0 at*
 go_loopw [24] (fun iv wr=> ∃i:Nat,i≤n∧iv= Iq i∧Hid (L1 w wr (de b 2) ins D i R)) (fun iv _=>n - (intOf iv).toNat)
 case atStart=>exact⟨0,ZL _,rfl,aP.out⟩
 case round=>
  obtain⟨i,hi,rfl,HI⟩:=hrel;obtain⟨O,come,Y,ao,Z,hr,ah⟩:=HI.out
  by_cases aF:i<n
  ·have ai:=HM.out.below Z
   have ad:i<ins.length:=by rw[HL.out];exact aF
   have q0:=ai.op i ad;have q1:=ai.num i ad;have q2:=ai.tos i ad;have q3:=ai.pls i ad;have bt:(0:Int)≤(i:Int)∧(i:Int)<(n:Int):=by omega
   have af:ins.drop i=ins.getD i dw::ins.drop (i+1):=by
    rw[ZW ad,Zs,Zv ad];rfl
   rw[af] at hr;have aD:=H.out.1 _ (kP ad);have aH:=Hi (J5 H.out ad);generalize ins.getD i dw=x at*
   cases hk:come.getD i none with
   |none=>
    have ag:=Y.non i (Zw _) (by omega) hk
    have bf:Hid (∀o,L1 w (wr.alloc o) (de b 2) ins D (i+1) R):=fun o=>by
     have ae:Below wr.heap.size wr (wr.alloc o):=(ZA _ _).alloc (Zw _) _;refine⟨O,come,(Y.from (by omega)).below' ae,ao,Z.trans (ae.mono Z.size),?_,ah⟩
     rw[hr,ln,hk]
    have aj:∀o,(wr.alloc o).cell? ⟨w.heap.size,i,none⟩=some (.pointer none):=fun o=>by
     rw[ZI (w:=wr) (a:=⟨w.heap.size,i,none⟩) (ZE wr o w.heap.size Y.lt)];exact ag
    clear Y ao Z hr ah ai af aD aH HI hk
    go_wp2
    go_roundw
    case rel=>exact⟨i+1,by omega,by go_num,bf.out _⟩
    case measure=>simp[intOf];omega
   |some k=>
    obtain⟨p,vs,vc,st,c,ag,ak,av,hO⟩:=Y.som i (Zw _) (by omega) k hk
    have aj:∀o,(wr.alloc o).cell? ⟨w.heap.size,i,none⟩=some (Pq p):=fun o=>by
     rw[ZI (w:=wr) (a:=⟨w.heap.size,i,none⟩) (ZE wr o w.heap.size Y.lt)];exact ag
    obtain⟨t1,t2,t3,t4⟩:=ah i k hk;have am:=wS aD;have bg:=lN b 2;have aI:x.op=4∨x.op=5∨x.op=6→0≤x.n∧x.n≤255:=fun e=>by
     obtain⟨a1,_,a2⟩:=am.two (by unfold dr;rw[Zt (by omega),Zu (by omega)])
     exact⟨a1,a2⟩
    have aJ:x.op=5→x.n.toNat<k.cl.length:=fun e=>by
     obtain⟨a1,a2,_⟩:=am.two (by unfold dr;rw[Zt (by omega),Zu (by omega)])
     unfold gB at a2;rw[Zt (by omega),Zt (by omega),Zt (by omega),Zu (by omega)] at a2
     omega
    have aw:=Ct av t1 x.op x.n.toNat am.op aJ;obtain⟨U,ap⟩:∃U,wr.alloc (.cells #[Iq (x.op:Nat),Iq x.n,Iq (jf ins x),Iq (x.pl:Nat)] 247)=U:=⟨_,rfl⟩;have ae:Below wr.heap.size wr U:=by rw[←ap];exact(ZA _ _).alloc (Zw _) _
    have ab:U.heap[wr.heap.size]?=some (mh x.op x.n (jf ins x) (x.pl:Nat)):=by rw[←ap];exact Zy wr _
    have aq:=Y.below' ae;have ar:=ak.only (dt.of_below (F:=fun _=>False) ae) (fun _ _ h=>h)
    have ac:Below w.heap.size w U:=Z.trans (ae.mono Z.size);have aE:Ef w:=bd.out;have aK:Ef U:=aE.below aE.pos ac;have br:st.length≤24:=by rw[av.st];simpa [ym] using t4
    have bh:c.length≤256:=by have:=av.len;omega
    have W1:=Ek (w:=U.drew) x.op x.n (jf ins x) (x.pl:Nat) aK ar.drew (by omega) bh (by have:=am.op;omega) aI
    have aQ:U.cell? ⟨I,2,none⟩=some (Iq D)∧U.cell? ⟨wr.heap.size,0,none⟩=some (Iq (x.op:Nat))∧U.cell? ⟨wr.heap.size,1,none⟩=some (Iq x.n)∧U.cell? ⟨wr.heap.size,2,none⟩=some (Iq (jf ins x))∧U.cell? ⟨wr.heap.size,3,none⟩=some (Iq (x.pl:Nat)):=by
     have E:=fun j=>Zz U _ j _ _ _ ab
     exact⟨by rw[ac.cell (p:=⟨I,2,none⟩) (be HM.out.blk)];exact p2,E 0,E 1,E 2,E 3⟩
    have aL:=Hi ap;have a0:U.cell? ⟨w.heap.size,i,none⟩=some (Pq p):=by rw[←ap];exact aj _
    unfold fI at W1;rw[ln,hk] at hr;simp only[] at hr
    cases ax:gU x.op x.n.toNat k with
    |none=>
     rw[ax] at aw hr;have an:pq x.op x.n.toNat st c=none:=aw;rw[an] at W1;have ay:Hid (R=false):=hr;have aR:Hid (∀z,dt (fq p vs vc) U z→Below w.heap.size w z):=fun z h2=>ac.trans (h2.below ac.size (fun b _ hb=>aq.low b (by rw[hO b hb];omega)))
     have KP:Hid (∀z,dt (fq p vs vc) U z→(z.cell? ⟨I,2,none⟩=some (Iq D)∧z.cell? ⟨wr.heap.size,0,none⟩=some (Iq (x.op:Nat))∧z.cell? ⟨wr.heap.size,1,none⟩=some (Iq x.n)∧z.cell? ⟨wr.heap.size,2,none⟩=some (Iq (jf ins x))∧z.cell? ⟨wr.heap.size,3,none⟩=some (Iq (x.pl:Nat)))):=fun z h2=>by
      have a8:z.heap[wr.heap.size]?=_:=(h2.block _ (be ab) (fun hf=>by have:=ak.lt hf;omega)).trans ab
      have E:=fun j=>Zz z _ j _ _ _ a8
      exact⟨by rw[(aR.out z h2).cell (p:=⟨I,2,none⟩) (be HM.out.blk)];exact p2,E 0,E 1,E 2,E 3⟩
     clear Y ao Z hr ah ai af aD aH HI hk ak av hO t1 t2 t3 t4 am aI aJ aw an ae ab aq ar ac aE aK ax;clear ap;go_wp2_with fail;rw[aL.out];refine wp_region_held_drew (S:=fun z=>z.cell? ⟨I,2,none⟩=some (Iq D)∧z.cell? ⟨wr.heap.size,0,none⟩=some (Iq (x.op:Nat))∧z.cell? ⟨wr.heap.size,1,none⟩=some (Iq x.n)∧z.cell? ⟨wr.heap.size,2,none⟩=some (Iq (jf ins x))∧z.cell? ⟨wr.heap.size,3,none⟩=some (Iq (x.pl:Nat))) (by kernel_rfl) aQ (fun hHeld=>?_)
     refine wpAnyH_take (i:=0) (v:= .agg #[Iq (x.op:Nat),Iq x.n,Iq (jf ins x),Iq (x.pl:Nat)]) rfl (by kernel_rfl) (by kernel_rfl) (by kernel_rfl) (fun _ _ _ h=>h) (Or.inl ⟨by rfl,fun w G=>?_⟩) hHeld ?_
     ·dsimp only at G;obtain⟨s0,s1,s2,s3,s4⟩:=G;go_simp
     simp only[ZJ,ZF,ZG,Act.put,ZD,ZM,ZN];refine wpAnyH_take (i:=1) (v:= Pq p) rfl (by kernel_rfl) (by kernel_rfl) (by kernel_rfl) (fun _ _ _ h=>h) (Or.inl ⟨by rfl,fun w G=>?_⟩) hHeld ?_
     ·dsimp only at G;obtain⟨s0,s1,s2,s3,s4⟩:=G;go_simp
     simp only[ZJ,ZF,ZG,Act.put,ZD,ZM,ZN];refine wpAnyH_ready (rs:=[2]) (by kernel_rfl) (by simp) ?_
     refine AllReadyH.cons rfl (fun K hK=>?_) AllReadyH.nil
     go_simp
     apply W1.mono;rintro e z ⟨rfl,J⟩
     dsimp only
     clear hHeld;refine hK.out _ _ (KP.out _ J.of_drew) (fun hHeld=>?_)
     have HU:=Hi (aR.out z J.of_drew);clear J KP hK;refine wpAnyH_take (i:=3) (v:= .bool true) rfl (by kernel_rfl) (by kernel_rfl) (by kernel_rfl) (fun _ _ _ h=>h) (Or.inl ⟨by rfl,fun w G=>?_⟩) hHeld ?_
     ·dsimp only at G;obtain⟨s0,s1,s2,s3,s4⟩:=G;go_simp
     simp only[ZJ,ZF,ZG,Act.put,ZD,ZM,ZN];refine wpAnyH_take (i:=4) (v:= .bool true) rfl (by kernel_rfl) (by kernel_rfl) (by kernel_rfl) (fun _ _ _ h=>h) (Or.inl ⟨by rfl,fun w G=>?_⟩) hHeld ?_
     ·dsimp only at G;obtain⟨s0,s1,s2,s3,s4⟩:=G;go_simp
     simp only[ZJ,ZF,ZG,Act.put,ZD,ZM,ZN];refine wpAnyH_take (i:=5) (v:=undef) rfl (by kernel_rfl) (by kernel_rfl) (by kernel_rfl) (fun _ _ _ h=>h) (Or.inr ⟨by rfl,rfl⟩) hHeld ?_
     simp only[ZJ,ZF,ZG,Act.put,ZD,ZM,ZN];refine wpAnyH_take (i:=6) (v:=undef) rfl (by kernel_rfl) (by kernel_rfl) (by kernel_rfl) (fun _ _ _ h=>h) (Or.inr ⟨by rfl,rfl⟩) hHeld ?_
     simp only[ZJ,ZF,ZG,Act.put,ZD,ZM,ZN];refine wpAnyH_take (i:=7) (v:=undef) rfl (by kernel_rfl) (by kernel_rfl) (by kernel_rfl) (fun _ _ _ h=>h) (Or.inr ⟨by rfl,rfl⟩) hHeld ?_
     simp only[ZJ,ZF,ZG,Act.put,ZD,ZM,ZN];refine wpAnyH_take (i:=8) (v:=undef) rfl (by kernel_rfl) (by kernel_rfl) (by kernel_rfl) (fun _ _ _ h=>h) (Or.inr ⟨by rfl,rfl⟩) hHeld ?_
     simp only[ZJ,ZF,ZG,Act.put,ZD,ZM,ZN];refine wpAnyH_take (i:=9) (v:=undef) rfl (by kernel_rfl) (by kernel_rfl) (by kernel_rfl) (fun _ _ _ h=>h) (Or.inr ⟨by rfl,rfl⟩) hHeld ?_
     simp only[ZJ,ZF,ZG,Act.put,ZD,ZM,ZN];refine wpAnyH_take (i:=10) (v:=undef) rfl (by kernel_rfl) (by kernel_rfl) (by kernel_rfl) (fun _ _ _ h=>h) (Or.inr ⟨by rfl,rfl⟩) hHeld ?_
     simp only[ZJ,ZF,ZG,Act.put,ZD,ZM,ZN];refine wpAnyH_take (i:=11) (v:=undef) rfl (by kernel_rfl) (by kernel_rfl) (by kernel_rfl) (fun _ _ _ h=>h) (Or.inr ⟨by rfl,rfl⟩) hHeld ?_
     simp only[ZJ,ZF,ZG,Act.put,ZD,ZM,ZN];refine wpAnyH_take (i:=12) (v:=undef) rfl (by kernel_rfl) (by kernel_rfl) (by kernel_rfl) (fun _ _ _ h=>h) (Or.inr ⟨by rfl,rfl⟩) hHeld ?_
     simp only[ZJ,ZF,ZG,Act.put,ZD,ZM,ZN];refine wpAnyH_take (i:=13) (v:=undef) rfl (by kernel_rfl) (by kernel_rfl) (by kernel_rfl) (fun _ _ _ h=>h) (Or.inr ⟨by rfl,rfl⟩) hHeld ?_
     simp only[ZJ,ZF,ZG,Act.put,ZD,ZM,ZN];refine wpAnyH_take (i:=14) (v:= .bool true) rfl (by kernel_rfl) (by kernel_rfl) (by kernel_rfl) (fun _ _ _ h=>h) (Or.inl ⟨by rfl,fun w G=>?_⟩) hHeld ?_
     ·dsimp only at G;obtain⟨s0,s1,s2,s3,s4⟩:=G;go_simp
     simp only[ZJ,ZF,ZG,Act.put,ZD,ZM,ZN];refine wpAnyH_done (by kernel_rfl) ?_ _
     go_wp2
     go_ret;exact⟨by rw[ay.out];rfl,HU.out⟩
    |some k'=>
     rw[ax] at aw hr;obtain⟨st',c',an,aA⟩:=aw;rw[an] at W1;simp only[] at hr;obtain⟨y1,y2,y3⟩:=J4 am.op t1 t2 ax;have az:Hid (∀z,dB U z p vs vc st' c'→ ∃O' V aa,fR z w.heap.size w.heap.size (i+1) O' come∧fM z p V aa st' c'∧(∀b,fq p V aa b→O' b=i+1)∧(∀b,z.heap.size≤b→O' b=0)∧Below w.heap.size w z∧z.heap[wr.heap.size]?=some (mh x.op x.n (jf ins x) (x.pl:Nat))∧z.cell? ⟨I,2,none⟩=some (Iq D)):=fun z h2=>by
      obtain⟨O',V,aa,z1,z2,z3,z4,z5⟩:=aq.change hO h2;have aS:=ac.trans z5;exact⟨O',V,aa,z1,z2,z3,z4,aS,(h2.only.block _ (be ab) (fun hf=>by have:=ak.lt hf;omega)).trans ab,by rw[aS.cell (p:=⟨I,2,none⟩) (be HM.out.blk)];exact p2⟩
     have aT:st'.length=k'.st.length:=by rw[aA.st];simp[ym]
     have KP:Hid (∀z,dB U z p vs vc st' c'→(z.cell? ⟨I,2,none⟩=some (Iq D)∧z.cell? ⟨wr.heap.size,0,none⟩=some (Iq (x.op:Nat))∧z.cell? ⟨wr.heap.size,1,none⟩=some (Iq x.n)∧z.cell? ⟨wr.heap.size,2,none⟩=some (Iq (jf ins x))∧z.cell? ⟨wr.heap.size,3,none⟩=some (Iq (x.pl:Nat)))):=fun z h2=>by
      obtain⟨O',V,aa,z1,z2,z3,z4,z5,z6,z7⟩:=az.out z h2;have E:=fun j=>Zz z _ j _ _ _ z6
      exact⟨z7,E 0,E 1,E 2,E 3⟩
     have W2:∀W,dB U W p vs vc st' c'→Calls prog 189 #[Pq p] W fun e w'=>e= .returned (Iq (k'.st.length:Nat))∧w'=W:=fun W h=>by
      obtain⟨V,aa,z2,_,_⟩:=h;rw[←aT];exact Cn (v:=V) z2.blk rfl z2.st
     clear Y Z ai af aD HI hk ak av hO t1 t2 t4 am aI aJ an ae ab aq ar ac aE aK ax;clear ap;have HR:=Hi hr;clear hr
     by_cases aB:D<k'.st.length
     ·have bi:(D:Int)<(k'.st.length:Int):=by omega
      have ay:Hid (R=false):=HR.out.trans (Zu aB);go_wp2_with fail;rw[aL.out]
      go_region_held3 (fun z=>z.cell? ⟨I,2,none⟩=some (Iq D)∧z.cell? ⟨wr.heap.size,0,none⟩=some (Iq (x.op:Nat))∧z.cell? ⟨wr.heap.size,1,none⟩=some (Iq x.n)∧z.cell? ⟨wr.heap.size,2,none⟩=some (Iq (jf ins x))∧z.cell? ⟨wr.heap.size,3,none⟩=some (Iq (x.pl:Nat))) (first|with_reducible exact KP.out _ (by assumption)|with_reducible assumption|go_keep)
       (first
        |(go_at_call 188;refine W1.mono ?_;rintro e z ⟨rfl,J⟩;replace J:=J.of_drew)
        |(go_at_call 189;refine(W2 _ (by assumption)).mono ?_;rintro e w3 ⟨rfl,rfl⟩))
      rename_i hHeld
      obtain⟨O',V,aa,z1,z2,z3,z4,z5,z6,z7⟩:=az.out w3 J;have HU:=Hi z5;clear hHeld J KP az W1 W2 z1 z2 z3 z4 z5 z6 z7
      go_wp2
      go_ret;exact⟨by rw[ay.out];rfl,HU.out⟩
     ·have bi: ¬((D:Int)<(k'.st.length:Int)):=by omega
      have aU:=Hi (HR.out.trans (Zt aB));have bj:Hid (uF k'.st∧IL k'.cl∧k'.cl.length=de b 2∧k'.st.length≤24):=⟨y1,y2,by omega,by omega⟩
      go_wp2_with fail;rw[aL.out]
      go_region_held3 (fun z=>z.cell? ⟨I,2,none⟩=some (Iq D)∧z.cell? ⟨wr.heap.size,0,none⟩=some (Iq (x.op:Nat))∧z.cell? ⟨wr.heap.size,1,none⟩=some (Iq x.n)∧z.cell? ⟨wr.heap.size,2,none⟩=some (Iq (jf ins x))∧z.cell? ⟨wr.heap.size,3,none⟩=some (Iq (x.pl:Nat))) (first|with_reducible exact KP.out _ (by assumption)|with_reducible assumption|go_keep)
       (first
        |(go_at_call 188;refine W1.mono ?_;rintro e z ⟨rfl,J⟩;replace J:=J.of_drew)
        |(go_at_call 189;refine(W2 _ (by assumption)).mono ?_;rintro e w3 ⟨rfl,rfl⟩))
      rename_i hHeld
      obtain⟨O',V,aa,z1,z2,z3,z4,z5,z6,z7⟩:=az.out w3 J;obtain⟨s0,s1,s2,s3,s4⟩:=hHeld;have W3:=El x.op x.n (jf ins x) (x.pl:Nat) i (by omega) w3
      unfold fI at W3;have aV:Hid (∀w4 v,IR w4 3 v (ze x.op (jf ins x) i)→Below w3.heap.size w3 w4→(∀b,v.ownBlock=some b→w3.heap.size≤b)→ML w w4 (de b 2) ins i p V aa st' c' v (ze x.op (jf ins x) i) k' come (j6 ins i x) 0 O' come):=fun w4 v h1 h2 h3=>
       ⟨z1.below' h2,ao,z2.only (dt.of_below (F:=fun _=>False) h2) (fun _ _ h=>h),z3,h1,fun b hb=>z4 b (h3 b hb),z5.trans (h2.mono z5.size),rfl,ah⟩
      have bk:=Hi aA;clear J KP az W1 W2 z1 z2 z3 z4 z5 z6 z7 aA ah ao y1 y2 y3 ag aj a0 aQ aB aT;have bu:(ze x.op (jf ins x) i).length≤2:=by unfold ze;(repeat' split)<;>simp
      generalize ze x.op (jf ins x) i=L at*
      go_wp2_with (
       go_at_call 190
       apply W3.mono;rintro e w4 ⟨⟨v,rfl,aC,aW⟩,aX⟩;obtain⟨la,a9,rfl⟩:=aC.sl;have HJ:=Hi (aV.out w4 _ aC aX aW)
       clear aC aW aX W3 aV s0 s1 s2 s3 s4)
      go_loopw [54] (fun mv wi=> ∃m:Nat,m≤L.length∧mv= Iq m∧Hid (∃O2 au,ML w wi (de b 2) ins i p V aa st' c' (.slice la L.length a9) L k' come (j6 ins i x) m O2 au)) (fun mv _=>L.length - (intOf mv).toNat)
      case atStart=>exact⟨0,ZL _,rfl,_,_,HJ.out⟩
      case round=>
       obtain⟨m,hm,rfl,HK⟩:=hrel;obtain⟨O2,au,hI⟩:=HK.out;obtain⟨g1,g2⟩:=aH.out
       by_cases bl:m<L.length
       ·obtain⟨lb,bv,e1,_⟩:=hI.row.form (by omega)
        simp at e1;obtain⟨rfl,rfl⟩:=e1;have bm:=hI.row.cell bl;have W4:=hI.come (cap:=n) bk.out bj.out (by omega) (by omega) (by have:=HL.out;omega) (g2 m (by omega))
        rw[HL.out] at W4;have bw:(0:Int)≤(m:Int)∧(m:Int)<(L.length:Int):=by omega
        clear hI g1 g2 HK HJ;generalize L.getD m 0=y at*;have aY:Hid (m+1≤L.length):=by show _≤_;omega
        go_wp2_with fail;apply W4.mono;rintro e w5 ⟨r,rfl,aM,aN,aO⟩;clear W4 bm
        cases r with
        |false=>
         have ay:Hid (R=false):=by
          show R=false
          rw[aU.out,aO rfl]
         have bo:=Hi aM;clear aM aN aO
         go_wp2
         go_ret;exact⟨by rw[ay.out];rfl,bo.out⟩
        |true=>
         have bp:=Hi (aN rfl);clear aM aN aO
         go_wp2
         go_roundw
         case rel=>exact⟨m+1,aY.out,by go_num,bp.out⟩
         case measure=>have:=aY.out;simp[intOf];omega
       ·have bs:m=L.length:=by omega
        have bq:Hid (L1 w wr (de b 2) ins D (i+1) R):=by
         refine⟨O2,au,hI.at_,hI.len,hI.bel,?_,hI.typ⟩;have aZ:=hI.bri;rw[aab (by omega)] at aZ
         rw[aU.out,aZ];rfl
        clear hI g1 g2 HK HJ
        go_wp2
        exact⟨⟨i+1,by omega,by go_num,bq.out⟩,by simp[intOf];omega⟩
  ·have HE:Hid (R=true):=by
    show _=_
    rw[hr,aab (by rw[HL.out];omega)];rfl
   have HB:=Hi Z;clear Y ao Z hr ah HI
   go_wp2
   go_ret;exact⟨by rw[HE.out];rfl,HB.out⟩
def dK (z:Nat):Nat:=if z=1 then 8 else if z=15∨z=16 then 2 else if 2≤z∧z≤6∨z=17∨z=18 then 1 else 0
theorem qm {z:Nat} (h:dr z≠0):dr z=1+dK z:=by
 obtain⟨D,E⟩:=Aa h;have e:z=1∨z=2∨z=3∨z=4∨z=5∨z=6∨z=7∨z=8∨z=9∨z=10∨z=11∨z=12∨z=13∨z=14∨z=15∨z=16∨z=17∨z=18:=by omega
 rcases e with rfl|rfl|rfl|rfl|rfl|rfl|rfl|rfl|rfl|rfl|rfl|rfl|rfl|rfl|rfl|rfl|rfl|rfl<;>rfl
theorem mH (z:Nat):dK z≤8:=by unfold dK;(repeat' split)<;>omega
theorem rM (z:Nat) (w:World):Calls prog 141 #[Iq z] w fun e w'=>e= .returned (Iq (dK z:Nat))∧w'=w:=by
 go_enter func141,ntmps141
 go_wp2
 all_goals go_ret
 all_goals refine⟨eV ?_,rfl⟩
 all_goals (simp only[abX,beq_eq_false_iff_ne,ne_eq] at*;unfold dK;repeat' split)<;>first|rfl|omega
theorem qQ (z:Nat) (n D pl:Int) (w:World):Calls prog 139 #[fI z n D pl] w fun e w'=>e= .returned (Iq ((1+dK z:Nat):Int))∧Below w.heap.size w w':=by
 have E:=fun w=>rM z w
 have I:=mH z;generalize dK z=f at*;unfold fI;have G:Hid (∀o,Below w.heap.size w (w.alloc o)):=fun o=>(ZA _ _).alloc (Zw _) _
 go_enter func139,ntmps139
 go_wp2_with (
  go_at_call 141
  apply(E _).mono;rintro e w' ⟨rfl,rfl⟩)
 go_ret;refine⟨eV ?_,G.out _⟩
 go_num
theorem zg (z:Nat) (n J pl:Int) (w:World):Calls prog 138 #[fI z n J pl] w fun e w'=>e= .returned (.bool (decide (z=15∨z=16)))∧Below w.heap.size w w':=by
 unfold fI;have G:Hid (∀o,Below w.heap.size w (w.alloc o)):=fun o=>(ZA _ _).alloc (Zw _) _
 by_cases D:z=16
 ·subst D
  go_enter func138,ntmps138
  go_wp2
  go_ret;exact⟨rfl,G.out _⟩
 ·by_cases E:z=15
  ·subst E
   go_enter func138,ntmps138
   go_wp2
   go_ret;exact⟨rfl,G.out _⟩
  ·have I:decide (z=15∨z=16)=false:=by simp[E,D]
   rw[I];have O:((z:Int)==16)=false:=by simp;omega
   have R:((z:Int)==15)=false:=by simp;omega
   go_enter func138,ntmps138
   go_wp2
   go_ret;exact⟨rfl,G.out _⟩
theorem ss (l:List UInt8) (i:Nat) (h:i<(ByteArray.mk l.toArray).size):((ByteArray.mk l.toArray)[i]).toNat=de l i:=by
 have z:=h
 show(l.toArray[i]).toNat=_
 unfold de;rw[Zs,Zv z];rfl
theorem L2 {c:Nat} (U:V<72057594037927936) (Y:c<256):bits .or .i64 (IntKind.i64.wrap ((V:Int)*2^8)) (c:Int)=gH (V*256+c):=by
 unfold bits;simp only[];have J:(BitVec.ofInt IntKind.i64.bits (IntKind.i64.wrap ((V:Int)*2^8))).toNat=V*256:=by
  rw[BitVec.toNat_ofInt,ZY];simp only[IntKind.bits];omega
 have O:(BitVec.ofInt IntKind.i64.bits (c:Int)).toNat=c:=by rw[BitVec.toNat_ofInt];simp only[IntKind.bits];omega
 have R:V*256|||c=V*256+c:=by
  have:=Nat.shiftLeft_add_eq_or_of_lt (i:=8) (b:=c) (by omega) V
  rw[Nat.shiftLeft_eq] at this;exact this.symm
 rw[BitVec.toNat_or,J,O,R,ZY];unfold gH
 split<;>omega
theorem Cv (l:List UInt8) (hl:l.length≤8) (w:World):Calls prog 185 #[S l] w fun e w'=>e= .returned (Iq (gH (gT l 0 l.length)))∧w'=w:=by
 have Y:Hid (∀k,k<l.length→gT l 0 k<72057594037927936∧gT l 0 (k+1)=gT l 0 k*256+de l k):=fun k Z=>by
  refine⟨?_,by rw[gT,aaq]⟩
  have I:=sY l 0 k;have E:256^k≤256^7:=Nat.pow_le_pow_right (by decide) (by omega)
  omega
 go_enter func185,ntmps185;go_wp2
 go_loop [3,7] (fun nv G=> ∃k:Nat,k≤l.length∧G= Iq k∧nv= Iq (gH (gT l 0 k))) (fun _ G=>l.length - (intOf G).toNat)
 case atStart=>exact⟨0,ZL _,rfl,rfl⟩
 case round=>
  obtain⟨k,Z,rfl,rfl⟩:=hrel
  by_cases z:k<l.length
  ·obtain⟨I,E⟩:=Y.out k z
   have J:gH (gT l 0 k)=(gT l 0 k:Nat):=by unfold gH;rw[Zu (by omega)]
   have O:=z;have D:=ss l k O;have hc:=lN l k;have R:=Hi (L2 I hc);have aa:=D;have HN:Hid (gH (gT l 0 (k+1))=gH (gT l 0 k*256+de l k)):=by show _=_;rw[E]
   rw[J];generalize gT l 0 k=V at*;generalize de l k=q at*
   go_wp2
   refine⟨⟨k+1,by omega,by go_num,?_⟩,by simp[intOf];omega⟩
   rw[HN.out,←R.out]
   congr 2
   all_goals first|rfl|(simp[ZY,RowKit.wrap64])
  ·have U:k=l.length:=by omega
   subst U
   go_wp2
   go_ret;exact⟨rfl,rfl⟩
end Go.Proofs.YtfkdailfcmnjlaaGreatDoor
set_option maxHeartbeats 40000000
set_option maxRecDepth 1000000
namespace Go.Proofs.YtfkdailfcmnjlaaGreatDoor
open Go Go.RowKit Tryz
attribute [local go_sem ↓] Go.wp_at_zero Go.wp_at_succ
def nS (z:Nat) (n:Int) (cells:Nat):Bool:=if z=2 then decide (n≤1) else if z=3 then decide (n≤4) else if z=4 then decide (n≤8) else if z=5∨z=6 then decide (n<(cells:Int)) else decide (1≤z∧z≤18)
variable {G f a z:Nat} {b:List UInt8}
theorem Hr (z:Nat) (n Y pl:Int) {cells:Nat} {w:World} (O:Cq w G 0 (Iq cells)):Calls prog 186 #[Pq G,fI z n Y pl] w fun e w'=>e= .returned (.bool (nS z n cells))∧Below w.heap.size w w':=by
 unfold fI;have E:Hid (∀o,Below w.heap.size w (w.alloc o)):=fun o=>(ZA _ _).alloc (Zw _) _
 have Z:∀o,(w.alloc o).cell? ⟨G,0,none⟩=some (Iq cells):=fun o=>by rw[ZI (w:=w) (a:=⟨G,0,none⟩) (ZE w o G (Zx w _ O))];exact O
 by_cases I:z=2
 ·subst I
  have D:Hid (nS 2 n cells=decide (n≤1)):=rfl;generalize nS 2 n cells=R at*;go_enter func186,ntmps186
  go_wp2
  go_ret;exact⟨by rw[D.out];rfl,E.out _⟩
 by_cases h3:z=3
 ·subst h3
  have D:Hid (nS 3 n cells=decide (n≤4)):=rfl;generalize nS 3 n cells=R at*;go_enter func186,ntmps186
  go_wp2
  go_ret;exact⟨by rw[D.out];rfl,E.out _⟩
 by_cases J:z=4
 ·subst J
  have D:Hid (nS 4 n cells=decide (n≤8)):=rfl;generalize nS 4 n cells=R at*;go_enter func186,ntmps186
  go_wp2
  go_ret;exact⟨by rw[D.out];rfl,E.out _⟩
 by_cases U:z=5
 ·subst U
  have D:Hid (nS 5 n cells=decide (n<(cells:Int))):=rfl;generalize nS 5 n cells=R at*;go_enter func186,ntmps186;go_wp2
  first|go_region|skip
  go_wp2
  go_ret;exact⟨by rw[D.out];rfl,(E.out _).drew⟩
 by_cases V:z=6
 ·subst V
  have D:Hid (nS 6 n cells=decide (n<(cells:Int))):=rfl;generalize nS 6 n cells=R at*;go_enter func186,ntmps186;go_wp2
  first|go_region|skip
  go_wp2
  go_ret;exact⟨by rw[D.out];rfl,(E.out _).drew⟩
 ·have D:Hid (nS z n cells=decide (1≤z∧z≤18)):=by show _=_;unfold nS;rw[Zt I,Zt h3,Zt J,Zt (by omega)]
  generalize nS z n cells=R at*;have b2:((z:Int)==2)=false:=by simp;omega
  have b3:((z:Int)==3)=false:=by simp;omega
  have b4:((z:Int)==4)=false:=by simp;omega
  have b5:((z:Int)==5)=false:=by simp;omega
  have b6:((z:Int)==6)=false:=by simp;omega
  by_cases h1:1≤z
  ·have aa:(1:Int)≤(z:Int):=by omega
   go_enter func186,ntmps186
   go_wp2
   go_ret;refine⟨lQ ?_,E.out _⟩;rw[D.out]
   apply abU.2
   omega
  ·obtain rfl:z=0:=by omega
   go_enter func186,ntmps186
   go_wp2
   go_ret;exact⟨by rw[D.out];rfl,E.out _⟩
theorem J9 (b:List UInt8) (p q i:Nat) (h:p+i<q):de (cut b p q) i=de b (p+i):=by
 unfold de cut;rw[Zs,Zs,aaD (by omega),abH]
theorem Ka (b:List UInt8) (p q:Nat):∀n,p+n≤q→gT (cut b p q) 0 n=gT b p n
 |0,_=>rfl
 |n+1,h=>by rw[gT,gT,Ka b p q n (by omega),aaq,J9 b p q n (by omega)]
def vy (b:List UInt8) (a:Nat):Int:=gH (gT b (a+1) (dK (de b a)))
def Kb (b:List UInt8) (a:Nat):Prop:=dr (de b a)≠0∧a+dr (de b a)≤b.length∧(dr (de b a)=2→(de b (a+1):Int)≤gB (de b a) (de b 2))
def dKb (b:List UInt8) (a:Nat):Decidable (Kb b a):=by unfold Kb;infer_instance
theorem Cw (h:a<b.length):wR (f+1) b a=@ite _ (Kb b a) (dKb b a) ((wR f b (a+dr (de b a))).map (rH b a:: ·)) none:=by
 rw[wR,Zt (by omega)];rfl
theorem Ns {n:Int} {cells:Nat} (h:nS z n cells=true):1≤z∧z≤18:=by
 unfold nS at h
 by_cases D:z=2
 ·omega
 rw[Zt D] at h
 by_cases h3:z=3
 ·omega
 rw[Zt h3] at h
 by_cases E:z=4
 ·omega
 rw[Zt E] at h
 by_cases G:z=5∨z=6
 ·omega
 rw[Zt G] at h
 simpa using h
theorem Kc (h:1≤z∧z≤18):dr z≠0:=by
 have e:z=1∨z=2∨z=3∨z=4∨z=5∨z=6∨z=7∨z=8∨z=9∨z=10∨z=11∨z=12∨z=13∨z=14∨z=15∨z=16∨z=17∨z=18:=by omega
 rcases e with rfl|rfl|rfl|rfl|rfl|rfl|rfl|rfl|rfl|rfl|rfl|rfl|rfl|rfl|rfl|rfl|rfl|rfl<;>decide
theorem tI {n:Nat} (h:n<9223372036854775808):gH n=n:=by unfold gH;rw[Zu h]
theorem L4 (h:dK (de b a)=1):vy b a=(de b (a+1):Nat):=by
 unfold vy;rw[h];have z:=lN b (a+1);have e:gT b (a+1) 1=de b (a+1):=by simp[gT]
 rw[e,tI (by omega)]
theorem Eo (h:b.length<a+1+dK (de b a)): ¬Kb b a:=fun⟨z,D,_⟩=>by
 rw[qm z] at D;omega
theorem L6 (h:a+1+dK (de b a)≤b.length):nS (de b a) (vy b a) (de b 2)=true↔Kb b a:=by
 have E:de b a=2∨de b a=3∨de b a=4∨de b a=5∨de b a=6→vy b a=(de b (a+1):Nat):=fun e=>L4 (by rcases e with e|e|e|e|e<;>rw[e]<;>rfl)
 constructor
 ·intro z
  have U:=Ns z;have R:=Kc U;refine⟨R,by rw[qm R];omega,fun D=>?_⟩
  unfold nS at z;unfold gB
  by_cases I:de b a=2
  ·rw[Zu I] at z⊢;rw[E (by omega)] at z;simpa using z
  rw[Zt I] at z⊢
  by_cases J:de b a=3
  ·rw[Zu J] at z⊢;rw[E (by omega)] at z;simpa using z
  rw[Zt J] at z⊢
  by_cases O:de b a=4
  ·rw[Zu O] at z⊢;rw[E (by omega)] at z;simpa using z
  rw[Zt O] at z⊢
  by_cases G:de b a=5∨de b a=6
  ·rw[Zu G] at z⊢;rw[E (by omega)] at z
   have:=abg z;omega
  rw[Zt G];have:=lN b (a+1);omega
 ·rintro⟨R,_,D⟩
  have U:=Aa R;unfold nS;unfold gB at D
  by_cases I:de b a=2
  ·rw[Zu I] at D⊢;rw[E (by omega)];have:=D (by rw[I];rfl);simpa using this
  rw[Zt I] at D⊢
  by_cases J:de b a=3
  ·rw[Zu J] at D⊢;rw[E (by omega)];have:=D (by rw[J];rfl);simpa using this
  rw[Zt J] at D⊢
  by_cases O:de b a=4
  ·rw[Zu O] at D⊢;rw[E (by omega)];have:=D (by rw[O];rfl);simpa using this
  rw[Zt O] at D⊢
  by_cases G:de b a=5∨de b a=6
  ·rw[Zu G] at D⊢;rw[E (by omega)]
   have:=D (by rcases G with G|G<;>rw[G]<;>rfl)
   exact aad (by omega)
  rw[Zt G];exact aad U
theorem Cx (h:Kb b a):rH b a=⟨de b a,vy b a,a⟩∧dr (de b a)=1+dK (de b a):=by
 have D:=qm h.1;refine⟨?_,D⟩;have e:sX b (de b a) a=vy b a:=by
  unfold sX vy
  by_cases z:de b a=1
  ·rw[Zu z,z];rfl
  ·rw[Zt z,D,show 1+dK (de b a) - 1=dK (de b a) by omega]
   have E:dK (de b a)≤2:=by unfold dK;rw[Zt z];(repeat' split)<;>omega
   have G:=sY b (a+1) (dK (de b a));have h3:256^dK (de b a)≤256^2:=Nat.pow_le_pow_right (by decide) E
   rw[tI (by omega)]
 unfold rH;rw[e]
end Go.Proofs.YtfkdailfcmnjlaaGreatDoor
namespace Go.Proofs.YtfkdailfcmnjlaaGreatDoor
open Go Go.RowKit Tryz
attribute [local go_sem ↓] Go.wp_at_zero Go.wp_at_succ
variable {w w':World} {D n gi E k i:Nat} {G I J O fo fn ft U V Y z:Nat→Int} {t x:Int} {b:List UInt8}
theorem Hs (x:Int) (w:World):Calls prog 271 #[Iq x] w fun e w'=>e= .returned (.bool false)∧w'=w:=by
 go_enter func271,ntmps271
 go_wp2
 go_ret;exact⟨by simp,rfl⟩
def nC (x y:Int):Int:=if x<y then -1 else if y<x then 1 else 0
theorem Cy (x y:Int) (w:World):Calls prog 257 #[Iq x,Iq y] w fun e w'=>e= .returned (Iq (nC x y))∧w'=w:=by
 have D:=fun x w=>Hs x w
 by_cases E:x<y
 ·have z:Hid (nC x y= -1):=Zu E
  generalize nC x y=R at*;go_enter func257,ntmps257
  go_wp2_with (
   go_at_call 271
   apply(D _ _).mono;rintro e w' ⟨rfl,rfl⟩)
  go_ret;exact⟨by rw[z.out];rfl,rfl⟩
 ·by_cases G:y<x
  ·have z:Hid (nC x y=1):=by show _=_;unfold nC;rw[Zt E,Zu G]
   generalize nC x y=R at*;go_enter func257,ntmps257
   go_wp2_with (
    go_at_call 271
    apply(D _ _).mono;rintro e w' ⟨rfl,rfl⟩)
   go_ret;exact⟨by rw[z.out];rfl,rfl⟩
  ·have z:Hid (nC x y=0):=by show _=_;unfold nC;rw[Zt E,Zt G]
   generalize nC x y=R at*;go_enter func257,ntmps257
   go_wp2_with (
    go_at_call 271
    apply(D _ _).mono;rintro e w' ⟨rfl,rfl⟩)
   go_ret;exact⟨by rw[z.out];rfl,rfl⟩
theorem Kd (z n D pl t:Int) (w:World):Calls prog 256 #[.agg #[Iq z,Iq n,Iq D,Iq pl],Iq t] w fun e w'=>e= .returned (Iq (nC pl t))∧Below w.heap.size w w':=by
 have E:=fun w=>Cy pl t w
 generalize nC pl t=R at*;have G:Hid (∀o,Below w.heap.size w (w.alloc o)):=fun o=>(ZA _ _).alloc (Zw _) _
 go_enter func256,ntmps256
 go_wp2_with (
  go_at_call 257
  apply(E _).mono;rintro e w' ⟨rfl,rfl⟩)
 go_ret;exact⟨rfl,G.out _⟩
structure vz (w:World) (gi n:Nat) (fo fn ft fp:Nat→Int):Prop where
 op:∀i,i<n→w.cell? ⟨gi,i*4,none⟩=some (Iq (fo i))
 num:∀i,i<n→w.cell? ⟨gi,i*4+1,none⟩=some (Iq (fn i))
 tos:∀i,i<n→w.cell? ⟨gi,i*4+2,none⟩=some (Iq (ft i))
 pls:∀i,i<n→w.cell? ⟨gi,i*4+3,none⟩=some (Iq (fp i))
theorem vz.below (h:vz w D n G I J O) (R:Below w.heap.size w w'):vz w' D n G I J O:=by
 have E:∀{o:Nat} {v:Value},w.cell? ⟨D,o,none⟩=some v→w'.cell? ⟨D,o,none⟩=some v:=fun{o v} e=>by
  rw[R.cell (Zx w _ e)];exact e
 exact⟨fun i z=>E (h.op i z),fun i z=>E (h.num i z),fun i z=>E (h.tos i z),fun i z=>E (h.pls i z)⟩
def ot (n:Nat) (z:Nat→Int) (t:Int) (e:Ending):Prop:= ∃i:Nat,i≤n∧e= .returned (.tuple #[Iq i,.bool (decide (i<n∧z i=t))])∧(∀j,j<i→z j<t)∧ ∀j,i≤j→j<n→t≤z j
theorem Ep {cap:Nat} {D:Nat→Int} (h:vz w gi n fo fn ft D) (hn:n≤5000) (hs:∀i j,i<j→j<n→D i<D j):
 Calls prog 255 #[Sq gi n cap,Iq t,.func (.func 256) #[] #[]] w fun e w'=>ot n D t e∧Below w.heap.size w w':=by
 have H:=Hi h;have HS:=Hi hs;have U:=fun op n tj pl w=>Kd op n tj pl t w
 clear h hs;go_enter func255,ntmps255;go_wp2
 go_loopw [9,10] (fun iv jv wr=> ∃i j:Nat,i≤j∧j≤n∧iv= Iq i∧jv= Iq j∧Hid (∀q,q<i→D q<t)∧Hid (∀q,j≤q→q<n→t≤D q)∧Hid (Below w.heap.size w wr)) (fun iv jv _=>(intOf jv).toNat - (intOf iv).toNat)
 case atStart=>exact⟨0,n,ZL _,Zw _,rfl,rfl,fun q hq=>by omega,fun q h1 h2=>by omega,ZA _ _⟩
 case round=>
  obtain⟨i,j,ae,aa,rfl,rfl,ab,ac,V⟩:=hrel;have E:=H.out.below V.out
  by_cases af:i<j
  ·obtain⟨m,hm⟩:∃m:Nat,m=(i+j) / 2:=⟨_,rfl⟩
   have ag:i≤m∧m<j:=by omega
   have c0:=E.op m (by omega)
   have c1:=E.num m (by omega)
   have c2:=E.tos m (by omega)
   have c3:=E.pls m (by omega)
   have ah:(0:Int)≤(m:Int)∧(m:Int)<(n:Int):=by omega
   have ai:((i:Int)+j) / 2=m:=by omega
   clear E hm;go_wp2_with fail;apply(U _ _ _ _ _).mono;rintro e w2 ⟨rfl,I⟩;have R:Hid (Below w.heap.size w w2):=V.out.trans (I.mono V.out.size)
   by_cases G:D m<t
   ·have J:nC (D m) t= -1:=Zu G
    rw[J];have Z:=Hi G;clear I G J U c0 c1 c2 c3
    go_wp2
    go_roundw
    case rel=>
     refine⟨m+1,j,by omega,aa,by go_num,rfl,fun q hq=>?_,ac.out,R.out⟩
     by_cases e:q=m
     ·subst e;exact Z.out
     ·have:=HS.out q m (by omega) (by omega);have:=Z.out;omega
    case measure=>simp[intOf];omega
   ·have J:0≤nC (D m) t:=by unfold nC;rw[Zt G];split<;>omega
    have ad: ¬(nC (D m) t<0):=by omega
    generalize nC (D m) t=z at*;have Z:=Hi G;clear I G U c0 c1 c2 c3
    go_wp2
    go_roundw
    case rel=>
     refine⟨i,m,by omega,by omega,rfl,rfl,ab.out,fun q h1 h2=>?_,R.out⟩
     have G:=Z.out
     by_cases e:q=m
     ·subst e;omega
     ·have:=HS.out m q (by omega) h2;omega
    case measure=>simp[intOf];omega
  ·obtain rfl:i=j:=by omega
   have HA:Hid (∀r:Bool,r=decide (i<n∧D i=t)→ot n D t (.returned (.tuple #[Iq i,.bool r]))):=fun r E=>⟨i,aa,by rw[E],ab.out,ac.out⟩
   by_cases O:i<n
   ·have c0:=E.op i O
    have c1:=E.num i O;have c2:=E.tos i O;have c3:=E.pls i O;have aj:(0:Int)≤(i:Int)∧(i:Int)<(n:Int):=by omega
    clear E;go_wp2_with fail;apply(U _ _ _ _ _).mono;rintro e w2 ⟨rfl,I⟩;have R:Hid (Below w.heap.size w w2):=V.out.trans (I.mono V.out.size)
    by_cases G:D i=t
    ·have J:nC (D i) t=0:=by unfold nC;rw[Zt (by omega),Zt (by omega)]
     rw[J];have Y:Hid (true=decide (i<n∧D i=t)):=(aad ⟨O,G⟩).symm;clear I G J U c0 c1 c2 c3
     go_wp2
     go_ret2
     exact⟨HA.out _ Y.out,R.out⟩
    ·have J:(nC (D i) t==0)=false:=by
      have:nC (D i) t≠0:=by unfold nC;split<;>first|omega|(split<;>omega)
      simpa using this
     have Y:Hid (false=decide (i<n∧D i=t)):=(Z4 (fun h=>G h.2)).symm
     generalize nC (D i) t=z at*;clear I G U c0 c1 c2 c3
     go_wp2
     go_ret2
     exact⟨HA.out _ Y.out,R.out⟩
   ·have Y:Hid (false=decide (i<n∧D i=t)):=(Z4 (fun h=>O h.1)).symm
    clear E
    go_wp2
    go_ret2
    exact⟨HA.out _ Y.out,V.out⟩
theorem yn {cap:Nat} (hc:Cq w D 1 (Sq E n cap)) (h:vz w E n U V Y z) (Z:n≤5000) (G:∀i j,i<j→j<n→z i<z j):
 Calls prog 230 #[Pq D,Iq t] w fun e w'=>ot n z t e∧Below w.heap.size w w':=by
 have I:=Ep (cap:=cap) (t:=t) h Z G;go_enter func230,ntmps230;go_wp2_with fail;apply I.mono;rintro e w2 ⟨⟨i,hi,rfl,J,O⟩,R⟩;have HA:Hid (ot n z t (.returned (.tuple #[Iq i,.bool (decide (i<n∧z i=t))]))∧Below w.heap.size w w2):=⟨⟨i,hi,rfl,J,O⟩,R⟩;generalize decide (i<n∧z i=t)=r at*
 go_wp2
 go_ret2
 exact HA.out
def nr (ins:List hH):(Nat→Int)×(Nat→Int)×(Nat→Int):=(fun i=>((ins.getD i dw).op:Nat),fun i=>(ins.getD i dw).n,fun i=>((ins.getD i dw).pl:Nat))
def Cz (w:World) (E:Nat) (ins:List hH) (k:Nat):Prop:=vz w E ins.length (nr ins).1 (nr ins).2.1 (fun i=>if i<k then jf ins (ins.getD i dw) else 0) (nr ins).2.2
theorem vz.put {D:Nat→Int} (h:vz w E n G I J O) (V:k<n) (R:D k=x) (U:∀i,i<n→i≠k→D i=J i):vz (w.setCell ⟨E,k*4+2,none⟩ (Iq x)) E n G I D O:=by
 refine⟨fun i z=>?_,fun i z=>?_,fun i z=>?_,fun i z=>?_⟩
 ·rw[dU _ _ _ _ _ (by omega)];exact h.op i z
 ·rw[dU _ _ _ _ _ (by omega)];exact h.num i z
 ·by_cases e:i=k
  ·subst e;rw[fg _ _ _ _ (by rw[h.tos i z];rfl),R]
  ·rw[dU _ _ _ _ _ (by omega),U i z e];exact h.tos i z
 ·rw[dU _ _ _ _ _ (by omega)];exact h.pls i z
theorem vz.weak {E:Nat→Int} (h:vz w D n E G I J) (R:∀i,i<n→z i=I i):vz w D n E G z J:=
 ⟨h.op,h.num,fun i O=>by rw[R i O];exact h.tos i O,h.pls⟩
theorem Ht {ins:List hH} (h:gV b ins) {x:hH} (R:0≤x.n) (h0:i≤ins.length) (U:∀j,j<i→(nr ins).2.2 j<(x.pl:Int)+3+x.n) (h2:∀j,i≤j→j<ins.length→(x.pl:Int)+3+x.n≤(nr ins).2.2 j):
 gN ins x=if i<ins.length∧(nr ins).2.2 i=(x.pl:Int)+3+x.n then some i else none:=by
 have E:∀j,(nr ins).2.2 j=((ins.getD j dw).pl:Nat):=fun _=>rfl
 by_cases z:i<ins.length∧(nr ins).2.2 i=(x.pl:Int)+3+x.n
 ·rw[Zu z]
  unfold gN;rw[abd];refine⟨z.1,?_,fun j D=>?_⟩
  ·have e:=z.2
   rw[E,Zs,Zv z.1] at e;simp only[abo] at e;simp;omega
  ·have e:=U j D
   have V:j<ins.length:=by omega
   rw[E,Zs,Zv V] at e;simp only[abo] at e;simp;omega
 ·rw[Zt z]
  unfold gN;rw[ach];intro y hy;obtain⟨j,D,rfl⟩:=aa0.1 hy;have G:(nr ins).2.2 j=((ins[j]).pl:Nat):=by rw[E,Zs,Zv D];rfl
  simp only[beq_eq_false_iff_ne,ne_eq];intro e
  by_cases Y:j<i
  ·have:=U j Y;rw[G] at this;omega
  ·by_cases J:j=i
   ·subst J;exact z ⟨D,by rw[G];omega⟩
   ·have I:i<ins.length:=by omega
    have q1:=h2 i (Zw _) I;have q2:=mX (fun x R=>(h.1 x R).size) h.2 i j (by omega) D
    rw[E] at q1;have q3:(ins.getD j dw).pl=(ins[j]).pl:=by rw[Zs,Zv D];rfl
    have q4:=(h.1 _ (kP I)).size;omega
theorem L7 {ins:List hH} (h:gV b ins):∀i j,i<j→j<ins.length→(nr ins).2.2 i<(nr ins).2.2 j:=fun i j z D=>by
 have G:=mX (fun x E=>(h.1 x E).size) h.2 i j z D
 have I:dr (ins.getD i dw).op≠0:=(h.1 _ (kP (by omega))).size
 show(((ins.getD i dw).pl:Nat):Int)<((ins.getD j dw).pl:Nat)
 omega
theorem yo {ins:List hH} {J z cap:Nat} {v0 v2:Value} (h:gV b ins) (D:b.length≤4000) (hn:ins.length≤4000) (E:w.heap[J]?=some (.cells #[v0,Sq z ins.length cap,v2] 253 (0,0))) (U:∃cs,w.heap[z]?=some (.cells cs 247 (0,0))) (hr:Cz w z ins 0):
 Calls prog 187 #[Pq J] w fun e w'=>e= .returned (.tuple #[])∧Cz w' z ins ins.length∧dt (fun b=>b=z) w w':=by
 have p1:w.cell? ⟨J,1,none⟩=some (Sq z ins.length cap):=by rw[Zz w J 1 _ _ _ E];rfl
 have ax:z≠J:=fun e=>by obtain⟨cs,U⟩:=U;rw[e,E] at U;simp at U
 have H:=Hi h;have HC:=Hi E;have HG:=Hi U;have HR:=Hi hr;generalize ah:ins.length=n at p1 hn;have HL:=Hi ah;go_enter func187,ntmps187;go_wp2_with fail
 go_loopw [11] (fun kv wr=> ∃k:Nat,k≤n∧kv= Iq k∧Hid (dt (fun b=>b=z) w wr)∧Hid (Cz wr z ins k)∧Hid (∀o,wr.frozen? ⟨z,o,none⟩=false)) (fun kv _=>n - (intOf kv).toNat)
 case atStart=>exact⟨0,ZL _,rfl,dt.refl _ _,HR.out,fun o=>by obtain⟨cs,U⟩:=HG.out;simp[World.frozen?,U]⟩
 case round=>
  obtain⟨k,hk,rfl,HO,O,ay⟩:=hrel;have FR:=Hi ay.out;have ao:wr.cell? ⟨J,1,none⟩=some (Sq z n cap):=by
   rw[ZI (w:=w) (a:=⟨J,1,none⟩) (HO.out.block J (be HC.out) (fun e=>ax e.symm))];exact p1
  by_cases az:k<n
  ·have G:k<ins.length:=by rw[HL.out];exact az
   have c0:=O.out.op k G;have c1:=O.out.num k G;have c2:=O.out.tos k G;have c3:=O.out.pls k G;rw[Zt (Nat.lt_irrefl k)] at c2;have aO:(0:Int)≤(k:Int)∧(k:Int)<(n:Int):=by omega
   have ad:=H.out.1 _ (kP G);have ai:=wS ad;have R:=ad.fits;have HX:Hid (∀x,ins.getD k dw=x→ins.getD k dw=x):=fun _ h=>h
   have e0:(nr ins).1 k=((ins.getD k dw).op:Nat):=rfl;have e1:(nr ins).2.1 k=(ins.getD k dw).n:=rfl;have e3:(nr ins).2.2 k=((ins.getD k dw).pl:Nat):=rfl;rw[e0] at c0;rw[e1] at c1;rw[e3] at c3;have aA:Hid (∀(W:World) (t:Int),(∀i,i<ins.length→(if i<k+1 then jf ins (ins.getD i dw) else 0)=if i=k then t else(if i<k then jf ins (ins.getD i dw) else 0))↔jf ins (ins.getD k dw)=t):=fun W t=>by
    constructor
    ·intro h;have:=h k G;rw[Zu (by omega),Zu rfl] at this;exact this
    ·intro h i hi
     by_cases e:i=k
     ·subst e;rw[Zu (by omega),Zu rfl,h]
     ·rw[Zt e]
      by_cases I:i<k
      ·rw[Zu (by omega),Zu I]
      ·rw[Zt (by omega),Zt I]
   have aB:Hid (∃t,jf ins (ins.getD k dw)=t):=⟨_,rfl⟩;generalize hx:ins.getD k dw=x at*;have W1:=fun w=>zg x.op x.n 0 (x.pl:Nat) w
   unfold fI at W1
   by_cases V:x.op=15∨x.op=16
   ·have Y:decide (x.op=15∨x.op=16)=true:=aad V
    rw[Y] at W1;have hf:dK x.op=2:=by rcases V with e|e<;>rw[e]<;>rfl
    have ac:dr x.op=3:=by rcases V with e|e<;>rw[e]<;>rfl
    obtain⟨aC,aP⟩:=ai.jump ac;rw[ac] at R;have W2:∀w,Calls prog 139 #[.agg #[Iq (x.op:Nat),Iq x.n,Iq 0,Iq (x.pl:Nat)]] w fun e w'=>e= .returned (Iq 3)∧Below w.heap.size w w':=fun w=>by
     have:=qQ x.op x.n 0 (x.pl:Nat) w;rw[hf] at this;exact this
    have W3:∀W,Below wr.heap.size wr W→Calls prog 230 #[Pq J,Iq ((x.pl:Int)+3+x.n)] W fun e w'=>ot n (nr ins).2.2 ((x.pl:Int)+3+x.n) e∧Below W.heap.size W w':=fun W D=>by
     rw[←HL.out];exact yn (cap:=cap) (by show _=_;rw[D.cell (Zx wr _ ao),HL.out];exact ao) (O.out.below D) (by rw[HL.out];omega) (L7 H.out)
    have HN:Hid (∀(w':World) (i:Nat),Below wr.heap.size wr w'→i≤n→(∀j,j<i→(nr ins).2.2 j<(x.pl:Int)+3+x.n)→(∀j,i≤j→j<n→(x.pl:Int)+3+x.n≤(nr ins).2.2 j)→((i<n∧(nr ins).2.2 i=(x.pl:Int)+3+x.n)→w'.frozen? ⟨z,k*4+2,none⟩=false∧w'.cell? ⟨z,k*4+2,none⟩=some (Iq 0)∧dt (fun b=>b=z) w (w'.setCell ⟨z,k*4+2,none⟩ (Iq i))∧Cz (w'.setCell ⟨z,k*4+2,none⟩ (Iq i)) z ins (k+1))∧(¬(i<n∧(nr ins).2.2 i=(x.pl:Int)+3+x.n)→dt (fun b=>b=z) w w'∧Cz w' z ins (k+1))):=fun w' i D hi h1 h2=>by
     have Z:=Ht H.out aC (x:=x) (i:=i) (by rw[HL.out];exact hi) h1 (by rw[HL.out];exact h2)
     rw[HL.out] at Z;have ae:jf ins x=((gN ins x).getD 0:Nat):=by unfold jf;rw[Zu V]
     have ap:dt (fun b=>b=z) w w':=HO.out.trans (dt.of_below (F:=fun _=>False) D) (fun _ _ h=>h) (fun _ _ h=>h.elim)
     have aq:z<wr.heap.size:=Zx wr _ c0;refine⟨fun E=>?_,fun E=>?_⟩
     ·rw[Zu E] at Z
      rw[Z] at ae;have aw:jf ins x=(i:Int):=ae;obtain⟨cs,aN⟩:=HG.out;have aD:w'.frozen? ⟨z,k*4+2,none⟩=false:=by
       have aE:wr.frozen? ⟨z,k*4+2,none⟩=false:=FR.out _;rw[D.frozen (p:=⟨z,k*4+2,none⟩) aq];exact aE
      refine⟨aD,by rw[D.cell (p:=⟨z,k*4+2,none⟩) aq];exact c2,ap.setCell (.inl rfl) _,?_⟩
      refine(O.out.below D).put G (by rw[Zu (by omega),hx];exact aw) (fun i' aF aQ=>?_)
      by_cases I:i'<k
      ·rw[Zu (by omega),Zu I]
      ·rw[Zt (by omega),Zt I]
     ·rw[Zt E] at Z
      rw[Z] at ae;refine⟨ap,(O.out.below D).weak (fun i' aF=>?_)⟩
      by_cases e:i'=k
      ·subst e;rw[Zu (by omega),Zt (by omega),hx,ae];rfl
      ·by_cases I:i'<k
       ·rw[Zu (by omega),Zu I]
       ·rw[Zt (by omega),Zt I]
    have aG:z<wr.heap.size:=Zx wr ⟨z,k*4,none⟩ c0;have ar:Hid (∀(w':World) (v:Value),Below wr.heap.size wr w'→(∀o,w'.frozen? ⟨z,o,none⟩=false)∧ ∀o,(w'.setCell ⟨z,k*4+2,none⟩ v).frozen? ⟨z,o,none⟩=false):=fun w' v D=>by
     have h1:∀o,w'.frozen? ⟨z,o,none⟩=false:=fun o=>by rw[D.frozen (p:=⟨z,o,none⟩) aG];exact FR.out o
     exact⟨h1,fun o=>by simpa using h1 o⟩
    have KP:Hid (∀W W',(Below wr.heap.size wr W∧W.cell? ⟨z,k*4,none⟩=some (Iq (x.op:Nat))∧W.cell? ⟨z,k*4+1,none⟩=some (Iq x.n)∧W.cell? ⟨z,k*4+2,none⟩=some (Iq 0)∧W.cell? ⟨z,k*4+3,none⟩=some (Iq (x.pl:Nat)))→Below W.heap.size W W'→(Below wr.heap.size wr W'∧W'.cell? ⟨z,k*4,none⟩=some (Iq (x.op:Nat))∧W'.cell? ⟨z,k*4+1,none⟩=some (Iq x.n)∧W'.cell? ⟨z,k*4+2,none⟩=some (Iq 0)∧W'.cell? ⟨z,k*4+3,none⟩=some (Iq (x.pl:Nat)))):=fun W W' hS D=>by
     obtain⟨s0,s1,s2,s3,s4⟩:=hS;have af:z<W.heap.size:=Zx W ⟨z,k*4,none⟩ s1;exact⟨s0.trans (D.mono s0.size),by rw[D.cell (p:=⟨z,k*4,none⟩) af];exact s1,by rw[D.cell (p:=⟨z,k*4+1,none⟩) af];exact s2,by rw[D.cell (p:=⟨z,k*4+2,none⟩) af];exact s3,by rw[D.cell (p:=⟨z,k*4+3,none⟩) af];exact s4⟩
    have KD:Hid (∀W:World,(Below wr.heap.size wr W∧Cq W z (k*4) (Iq (x.op:Nat))∧Cq W z (k*4+1) (Iq x.n)∧Cq W z (k*4+2) (Iq 0)∧Cq W z (k*4+3) (Iq (x.pl:Nat)))→(Below wr.heap.size wr W.drew∧Cq W.drew z (k*4) (Iq (x.op:Nat))∧Cq W.drew z (k*4+1) (Iq x.n)∧Cq W.drew z (k*4+2) (Iq 0)∧Cq W.drew z (k*4+3) (Iq (x.pl:Nat)))):=fun W hS=>⟨hS.1.drew,hS.2⟩
    have au:Below wr.heap.size wr wr∧Cq wr z (k*4) (Iq (x.op:Nat))∧Cq wr z (k*4+1) (Iq x.n)∧Cq wr z (k*4+2) (Iq 0)∧Cq wr z (k*4+3) (Iq (x.pl:Nat)):=⟨ZA _ _,c0,c1,c2,c3⟩;have aR:x.pl≤4000:=by omega
    have aS:IntKind.i64.wrap ((x.pl:Int)+3)=(x.pl:Int)+3:=by rw[ZY];omega
    have aT:IntKind.i64.wrap ((x.pl:Int)+3+x.n)=(x.pl:Int)+3+x.n:=by rw[ZY];omega
    go_wp2_with (
     go_at_call 138
     apply(W1 _).mono;rintro e w2 ⟨rfl,aa⟩;have aH:=KP.out _ _ au aa
     clear aa)
    go_region_held3 (fun W=>Below wr.heap.size wr W∧Cq W z (k*4) (Iq (x.op:Nat))∧Cq W z (k*4+1) (Iq x.n)∧Cq W z (k*4+2) (Iq 0)∧Cq W z (k*4+3) (Iq (x.pl:Nat))) (first|with_reducible exact KD.out _ (by assumption)|with_reducible exact KP.out _ _ (by assumption) (by assumption)|with_reducible assumption|go_keep)
     (first
      |(go_at_call 139;refine(W2 _).mono ?_;rintro e w3 ⟨rfl,aI⟩)
      |(go_at_call 230;refine(W3 _ (by exact acf (by assumption))).mono ?_;rintro e w4 ⟨⟨j,aJ,rfl,aj,ak⟩,aK⟩;generalize av:decide (j<n∧(nr ins).2.2 j=(x.pl:Int)+3+x.n)=r;have ag:Hid _:=av;clear av))
    rename_i hHeld
    obtain⟨a1,a2⟩:=HN.out w4 j hHeld.1 aJ aj ak;obtain⟨z1,z2⟩:=ar.out w4 (Iq j) hHeld.1;have aL:=Hi z1;have aM:=Hi z2
    by_cases E:j<n∧(nr ins).2.2 j=(x.pl:Int)+3+x.n
    ·have ab:decide (j<n∧(nr ins).2.2 j=(x.pl:Int)+3+x.n)=true:=aad E
     obtain⟨b1,b2,b3,b4⟩:=a1 E;have am:=Hi b3;have an:=Hi b4;obtain rfl:r=_:=ag.out.symm.trans ab
     go_wp2
     go_roundw
     case rel=>exact⟨k+1,by omega,by go_num,am.out,an.out,aM.out⟩
     case measure=>simp[intOf];omega
    ·have ab:decide (j<n∧(nr ins).2.2 j=(x.pl:Int)+3+x.n)=false:=Z4 E
     obtain⟨b3,b4⟩:=a2 E;have am:=Hi b3;have an:=Hi b4;obtain rfl:r=_:=ag.out.symm.trans ab
     go_wp2
     go_roundw
     case rel=>exact⟨k+1,by omega,by go_num,am.out,an.out,aL.out⟩
     case measure=>simp[intOf];omega
   ·have Y:decide (x.op=15∨x.op=16)=false:=Z4 V
    rw[Y] at W1;have HN:Hid (∀w',Below wr.heap.size wr w'→dt (fun b=>b=z) w w'∧Cz w' z ins (k+1)∧ ∀o,w'.frozen? ⟨z,o,none⟩=false):=fun w' D=>by
     refine⟨HO.out.trans (dt.of_below (F:=fun _=>False) D) (fun _ _ h=>h) (fun _ _ h=>h.elim),?_,fun o=>by rw[D.frozen (p:=⟨z,o,none⟩) (show z<wr.heap.size from Zx wr ⟨z,k*4,none⟩ c0)];exact FR.out o⟩
     refine(O.out.below D).weak (fun i hi=>?_)
     by_cases e:i=k
     ·subst e;rw[Zu (by omega),Zt (by omega),hx];unfold jf;rw[Zt V]
     ·by_cases I:i<k
      ·rw[Zu (by omega),Zu I]
      ·rw[Zt (by omega),Zt I]
    go_wp2_with (
     go_at_call 138
     apply(W1 _).mono;rintro e w2 ⟨rfl,aa⟩;have HU:=Hi (HN.out w2 aa)
     clear aa)
    exact⟨⟨k+1,by omega,by go_num,HU.out.1,HU.out.2.1,HU.out.2.2⟩,by simp[intOf];omega⟩
  ·obtain rfl:k=n:=by omega
   go_wp2
   go_end0
   exact⟨rfl,O.out,HO.out⟩
end Go.Proofs.YtfkdailfcmnjlaaGreatDoor
set_option maxHeartbeats 40000000
set_option maxRecDepth 1000000
namespace Go.Proofs.YtfkdailfcmnjlaaGreatDoor
open Go Go.RowKit Tryz
attribute [local go_sem ↓] Go.wp_at_zero Go.wp_at_succ
def qn (b:List UInt8):Prop:=b.length<4∨4000<b.length∨de b 0≠71∨24<de b 1
def dqn (b:List UInt8):Decidable (qn b):=by unfold qn;infer_instance
def CA (b:List UInt8):Option (List hH):=@ite _ (qn b) (dqn b) none (wR (b.length+1) b 3)
def tJ (b:List UInt8) (r:Option (List hH)) (w:World) (e:Ending) (w':World):Prop:=
 (match r with
  |none=> ∃v,e= .returned (.tuple #[v,.bool false])
  |some ins=> ∃z D cap,e= .returned (.tuple #[Pq z,.bool true])∧mi w' z D cap (de b 2) (de b 1) ins)∧Below w.heap.size w w'
def C9 (l:List hH):List Value:=l.flatMap fun x=>[Iq (x.op:Nat),Iq x.n,Iq 0,Iq (x.pl:Nat)]
variable {w wr J w4:World} {base E z a n:Nat} {b:List UInt8} {D:Option (List hH)} {pre:List hH} {v R:Value}
theorem Ao (l:List hH):∀i,i<l.length→(C9 l)[i*4]?=some (Iq ((l.getD i dw).op:Nat))∧(C9 l)[i*4+1]?=some (Iq (l.getD i dw).n)∧(C9 l)[i*4+2]?=some (Iq 0)∧(C9 l)[i*4+3]?=some (Iq ((l.getD i dw).pl:Nat)):=by
 induction l with
 |nil=>intro i z;simp at z
 |cons x r ih=>
  intro i z;have e:C9 (x::r)=Value.int .i64 (x.op:Nat):: Iq x.n:: Iq 0:: Iq (x.pl:Nat)::C9 r:=rfl
  cases i with
  |zero=>rw[e];exact⟨rfl,rfl,rfl,rfl⟩
  |succ i=>
   obtain⟨a,b,c,d⟩:=ih i (by simpa using z)
   rw[e,show(i+1)*4=i*4+1+1+1+1 by omega,show i*4+1+1+1+1+1=i*4+1+1+1+1+1 by rfl,show i*4+1+1+1+1+2=i*4+2+1+1+1+1 by omega,show i*4+1+1+1+1+3=i*4+3+1+1+1+1 by omega]
   simp only[aaI,ZX];exact⟨a,b,c,d⟩
theorem Ke (l:List hH) (x:hH):C9 (l++[x])=C9 l++[Iq (x.op:Nat),Iq x.n,Iq 0,Iq (x.pl:Nat)]:=by simp[C9]
theorem OB {cap:Nat} {ins:List hH} (h:w.ownsRow base 247 4 (Sq E ins.length cap) ins.length (C9 ins)):Cz w E ins 0:=by
 have D:∀j,j<ins.length*4→w.cell? ⟨E,j,none⟩=(C9 ins)[j]?:=fun j G=>h.cellAt j G
 refine⟨fun i z=>?_,fun i z=>?_,fun i z=>?_,fun i z=>?_⟩
 ·rw[D _ (by omega)];exact(Ao ins i z).1
 ·rw[D _ (by omega)];exact(Ao ins i z).2.1
 ·rw[D _ (by omega),Zt (by omega)];exact(Ao ins i z).2.2.1
 ·rw[D _ (by omega)];exact(Ao ins i z).2.2.2
structure MM (w wr:World) (b:List UInt8) (a:Nat) (D:Option (List hH)) (pre:List hH) (v:Value):Prop where
 bel:Below w.heap.size w wr
 blk:wr.heap[w.heap.size]?=some (.cells #[Iq (de b 2:Nat),v,Iq (de b 1:Nat)] 253 (0,0))
 row:wr.ownsRow w.heap.size 247 4 v pre.length (C9 pre)
 dcd:∃f,b.length<a+f∧D=(wR f b a).map (pre++ ·)
 len:pre.length+3≤a
 lo:a≤b.length
theorem MM.at_ {z:World} (h:MM w wr b a D pre v) (h3:Below wr.heap.size wr z):z.heap[w.heap.size]?=some (.cells #[Iq (de b 2:Nat),v,Iq (de b 1:Nat)] 253 (0,0))∧z.ownsRow w.heap.size 247 4 v pre.length (C9 pre)∧Below w.heap.size w z∧w.heap.size<wr.heap.size:=
 ⟨(h3.block _ (be h.blk)).trans h.blk,dn h.row h3,h.bel.trans (h3.mono h.bel.size),be h.blk⟩
theorem uJ {xs cs:List Value} (h:w.ownsRow base 247 4 v n xs) (E:w.heap[z]?=some (.cells cs.toArray 253 (0,0))):some z≠v.ownBlock:=fun e=>by
 obtain⟨G,D⟩:=dF h e.symm;rw[E] at D;simp at D
theorem MM.next {x:hH} {U:Obj} (h:MM w wr b a D pre v) (h3:Below wr.heap.size wr J) (z:(J.alloc U).grownBy w4 v.ownBlock) (G:w4.ownsRow w.heap.size 247 4 R (pre.length+1) (C9 pre++[Iq (x.op:Nat),Iq x.n,Iq 0,Iq (x.pl:Nat)]))
 (hd:∃f,b.length<E+f∧D=(wR f b E).map ((pre++[x])++ ·)) (ha:a+1≤E) (Y:E≤b.length):MM w (w4.setCell ⟨w.heap.size,1,none⟩ R) b E D (pre++[x]) R:=by
 obtain⟨Z,q2,q3,q4⟩:=h.at_ h3;have hs:=h3.size;have aa:=uJ (cs:=[_,_,_]) q2 Z;have I:=(z.block _ (by rw[ZB];omega) aa).trans ((ZE J U _ (by omega)).trans Z)
 have V:=uJ (cs:=[_,_,_]) G I;refine⟨?_,?_,?_,hd,by have:=h.len;simp;omega,Y⟩
 ·have O:Below w.heap.size w (J.alloc U):=q3.alloc q3.size _
  exact(abZ O z O.size (fun k hk=>(q2.lt k hk).1)).setCell (by simp) _
 ·rw[ZK w4 _ 1 _ _ _ I];rfl
 ·rw[ZC,Ke]
  exact Z9 G (a:=⟨w.heap.size,1,none⟩) (fun e=>V e.symm) _
theorem CB:(prog.info? 247).map (fun i=>(i.zero,i.size,i.bytes))=some (some (.agg #[Iq 0,Iq 0,Iq 0,Iq 0]),4,32):=by kernel_rfl
theorem Hu (z:qn b) (w:World):Calls prog 142 #[S b] w fun e w'=>tJ b none w e w':=by
 have D:Hid (∀(v:Value),tJ b none w (.returned (.tuple #[v,.bool false])) w):=fun v=>⟨⟨v,rfl⟩,ZA _ _⟩
 by_cases h1:4000<b.length
 ·have O:(4000:Int)<(b.length:Int):=by omega
  go_enter func142,ntmps142
  go_wp2
  go_ret2
  exact D.out _
 by_cases h2:b.length<4
 ·have R:(b.length:Int)≤3:=by omega
  go_enter func142,ntmps142
  go_wp2
  go_ret2
  exact D.out _
 have E:0<(ByteArray.mk b.toArray).size:=by show 0<b.length;omega
 have G:1<(ByteArray.mk b.toArray).size:=by show 1<b.length;omega
 have I:=ss b 0 E;have b1:=ss b 1 G;have U:(3:Int)<(b.length:Int):=by omega
 have V: ¬((4000:Int)<(b.length:Int)):=by omega
 by_cases h3:de b 0=71
 ·have h4:24<de b 1:=by
   unfold qn at z;omega
  have Y:(24:Int)<(de b 1:Int):=by omega
  rw[h3] at I;generalize de b 1=y at*;go_enter func142,ntmps142
  go_wp2
  go_ret2
  exact D.out _
 ·have Z:((de b 0:Int) !=71)=true:=by simp;omega
  generalize de b 0=x at*;go_enter func142,ntmps142
  go_wp2
  go_ret2
  exact D.out _
theorem Er (hb: ¬qn b) (w:World):Calls prog 142 #[S b] w fun e w'=>tJ b (wR (b.length+1) b 3) w e w':=by
 have hb1:4≤b.length∧b.length≤4000∧de b 0=71∧de b 1≤24:=by unfold qn at hb;omega
 obtain⟨hl0,hl9,h71,h24⟩:=hb1;have hs0:0<(ByteArray.mk b.toArray).size:=by show 0<b.length;omega
 have hs1:1<(ByteArray.mk b.toArray).size:=by show 1<b.length;omega
 have hs2:2<(ByteArray.mk b.toArray).size:=by show 2<b.length;omega
 have b0:=ss b 0 hs0;have b1:=ss b 1 hs1;have b2:=ss b 2 hs2;rw[h71] at b0;have hc2:=lN b 2;have hl1:(3:Int)<(b.length:Int):=by omega
 have hl2: ¬((4000:Int)<(b.length:Int)):=by omega
 generalize hD:wR (b.length+1) b 3=D;have HI0:Hid (MM w (w.alloc (.cells #[Iq (de b 2:Nat),.slice none 0 0,Iq (de b 1:Nat)] 253)).drew b 3 D [] (.slice none 0 0)):=
  ⟨((ZA _ _).alloc (Zw _) _).drew,Zy w _,aam _ _ _ _,⟨b.length+1,by omega,by rw[hD];cases D<;>rfl⟩,by simp,by omega⟩
 have HD0:=Hi hD;clear hb hD h71;go_enter func142,ntmps142;go_wp2
 go_region
 go_wp2;generalize (w.alloc (.cells #[Iq (de b 2:Nat),.slice none 0 0,Iq (de b 1:Nat)] 253)).drew=W0 at*
 go_loopw [5] (fun av wr=> ∃a:Nat,a≤b.length∧av= Iq a∧Hid (∃pre v,MM w wr b a D pre v)) (fun av _=>b.length - (intOf av).toNat)
 case atStart=>exact⟨3,by omega,rfl,_,_,HI0.out⟩
 case round=>
  obtain⟨a,ha,rfl,HI⟩:=hrel;obtain⟨pre,v,hI⟩:=HI.out
  by_cases hlt:a<b.length
  ·have hsa:a<(ByteArray.mk b.toArray).size:=hlt
   have ba:=ss b a hsa;have ho:=lN b a;have hf:=mH (de b a);have W1:=fun w=>qQ (de b a) 0 0 (a:Nat) w
   unfold fI at W1;have HSH:Hid (b.length<a+1+dK (de b a)→ ¬Kb b a):=fun h=>Eo h
   have HMA:Hid (a+1+dK (de b a)≤b.length→(nS (de b a) (vy b a) (de b 2)=true↔Kb b a)):=fun h=>L6 h
   have HIN:Hid (Kb b a→rH b a=⟨de b a,vy b a,a⟩∧dr (de b a)=1+dK (de b a)):=fun h=>Cx h
   have HDN:Hid (¬Kb b a→D=none):=fun hno=>by
    obtain⟨f,h1,h2⟩:=hI.dcd;obtain⟨f',rfl⟩:∃f',f=f'+1:=⟨f - 1,by omega⟩
    rw[h2,Cw hlt,Zt hno];rfl
   have HDS:Hid (Kb b a→ ∃f,b.length<(a+(1+dK (de b a)))+f∧D=(wR f b (a+(1+dK (de b a)))).map ((pre++[⟨de b a,vy b a,a⟩])++ ·)):=fun hok=>by
    obtain⟨f,h1,h2⟩:=hI.dcd;obtain⟨f',rfl⟩:∃f',f=f'+1:=⟨f - 1,by omega⟩
    obtain⟨q1,q2⟩:=Cx hok;refine⟨f',by omega,?_⟩
    rw[h2,Cw hlt,Zu hok,q1,q2]
    cases wR f' b (a+(1+dK (de b a)))<;>simp
   have hnumb:vy b a=gH (gT (cut b (a+1) (a+1+dK (de b a))) 0 (dK (de b a))):=by rw[Ka _ _ _ _ (by omega)];rfl
   have W2:=fun w=>Cv (cut b (a+1) (a+1+dK (de b a))) (by unfold cut;simp;omega) w
   have hBl:Hid (∀w',Below wr.heap.size wr w'→Below w.heap.size w w'):=fun w' h=>hI.bel.trans (h.mono hI.bel.size)
   clear HI;generalize hok:de b a=o at*;generalize dK o=f at*
   by_cases hsh:b.length<a+1+f
   ·have HDf:Hid (D=none):=HDN.out (HSH.out hsh)
    clear HSH HMA HIN HDN HDS W2 hnumb hI;go_wp2_with fail;apply(W1 _).mono;rintro e w2 ⟨rfl,hb2⟩;have HU:Hid (Below w.heap.size w w2):=hBl.out w2 (((ZA wr.heap.size wr).alloc (Zw _) _).trans (hb2.mono (by simp)))
    clear hb2 W1
    go_wp2
    go_ret2
    rw[HDf.out];exact⟨⟨_,rfl⟩,HU.out⟩
   ·obtain⟨w1,hw1⟩:∃w1,wr.alloc (.cells #[Iq (o:Nat),Iq 0,Iq 0,Iq (a:Nat)] 247)=w1:=⟨_,rfl⟩
    have hb1:Below wr.heap.size wr w1:=by rw[←hw1];exact(ZA _ _).alloc (Zw _) _
    have hk1:w1.heap[wr.heap.size]?=some (.cells #[Iq (o:Nat),Iq 0,Iq 0,Iq (a:Nat)] 247 (0,0)):=by rw[←hw1];exact Zy wr _
    have HW1:=Hi hw1;have HI2:=Hi hI;have hcut:({data:=b.toArray}:ByteArray).extract (a+1) (a+1+f)=⟨(cut b (a+1) (a+1+f)).toArray⟩:=uh _ _ _;have hclen:(cut b (a+1) (a+1+f)).length=f:=by rw[vF _ _ _ (by omega)];omega
    rw[hclen] at W2;rw[←hnumb] at W2;have hsl:(0:Int)≤(a:Int)+1∧(a:Int)+1≤(a:Int)+1+f∧(a:Int)+1+f≤(b.length:Int):=by omega
    have hnsh: ¬((b.length:Int))<(a:Int)+((1+f:Nat):Int):=by omega
    generalize vy b a=m at*;clear hnumb hI hw1;go_wp2_with fail;rw[HW1.out];apply(W1 _).mono;rintro e w2 ⟨rfl,hb2⟩;have hk2:=(hb2.block _ (be hk1)).trans hk1;have hcc:=fun j=>Zz w2 _ j _ _ _ hk2
    have d0:=hcc 0;have d1:=hcc 1;have d2:=hcc 2;have d3:=hcc 3;have df:w2.frozen? ⟨wr.heap.size,1,none⟩=false:=by simp[World.frozen?,hk2]
    have HB2:=Hi (hb1.trans (hb2.mono hb1.size));have HK2:=Hi hk2;clear hcc hb2 hk2 hb1 hk1 W1;go_wp2_with fail;rw[show a+(1+f)=a+1+f by omega,hcut]
    apply(W2 _).mono;rintro e w2' ⟨rfl,rfl⟩;clear W2;have hS3:(w2'.setCell ⟨wr.heap.size,1,none⟩ (Iq m)).heap[wr.heap.size]?=some (.cells #[Iq (o:Nat),Iq m,Iq 0,Iq (a:Nat)] 247 (0,0)):=by rw[ZK w2' _ 1 _ _ _ HK2.out];rfl
    have hB3:Below wr.heap.size wr (w2'.setCell ⟨wr.heap.size,1,none⟩ (Iq m)):=HB2.out.setCell (by simp) _
    have hC3:(w2'.setCell ⟨wr.heap.size,1,none⟩ (Iq m)).cell? ⟨w.heap.size,0,none⟩=some (Iq (de b 2:Nat)):=by rw[Zz _ _ 0 _ _ _ (HI2.out.at_ hB3).1];rfl
    have hE3:=fun j=>Zz _ _ j _ _ _ hS3
    have e0:=hE3 0;have e1:=hE3 1;have e2:=hE3 2;have e3:=hE3 3;have W3:=Hr o m 0 (a:Nat) hC3;unfold fI at W3;have HS3:=Hi hS3;have HB3:=Hi hB3;clear hS3 hB3 hE3 hC3;go_wp2_with fail;apply W3.mono;rintro e w3 ⟨rfl,hb3⟩;have hk3:=(hb3.block _ (be HS3.out)).trans HS3.out;have hB3:=HB3.out.trans (hb3.mono HB3.out.size);clear W3 e0 e1 e2 e3 d0 d1 d2 d3 df hb3;have hma:=HMA.out (by omega)
    generalize hmm:nS o m (de b 2)=r at*;clear hmm
    cases r with
    |false=>
     have HDf:Hid (D=none):=HDN.out (fun h=>by have:=hma.2 h;cases this)
     have HU:Hid (Below w.heap.size w w3):=hBl.out w3 hB3;clear hk3 hB3 hma HSH HMA HIN HDN HDS
     go_wp2
     go_ret2
     rw[HDf.out];exact⟨⟨_,rfl⟩,HU.out⟩
    |true=>
     obtain⟨q1,q2,q3,q4⟩:=HI2.out.at_ hB3;obtain⟨va,vcap,rfl⟩:∃va vcap,v= .slice va pre.length vcap:=by
      rcases q2.2 with⟨h,h0⟩|⟨g,c,_,h,_⟩
      ·exact⟨none,0,by rw[h,h0]⟩
      ·exact⟨_,_,h⟩
     have hcc:=fun j=>Zz w3 _ j _ _ _ hk3
     have d0:=hcc 0;have d1:=hcc 1;have d2:=hcc 2;have d3:=hcc 3;have c1:w3.cell? ⟨w.heap.size,1,none⟩=some (.slice va pre.length vcap):=by rw[Zz w3 _ 1 _ _ _ q1];rfl
     have cf:w3.frozen? ⟨w.heap.size,1,none⟩=false:=by simp[World.frozen?,q1]
     have hne:=uJ (cs:=[_,_,_]) q2 q1;obtain⟨i0,hi,hz⟩:=ZP.1 CB;simp only[ZT] at hz;obtain⟨hz0,hz1,hz2⟩:=hz;have hplen:pre.length≤4000:=by have:=HI2.out.len;omega
     have hcp3:w.heap.size<w3.heap.size:=by have:=hB3.size;omega
     have hnews:∀j u,[Value.int .i64 (o:Nat),Iq m,Iq 0,Iq (a:Nat)][j]?=some u→((w3.alloc (.cells #[Iq (o:Nat),Iq m,Iq 0,Iq (a:Nat)] 247)).drew).cell? ((⟨w3.heap.size,0,none⟩:Addr).add j)=some u:=World.news_of_block (w:=(w3.alloc (.cells #[Iq (o:Nat),Iq m,Iq 0,Iq (a:Nat)] 247)).drew) (Zy w3 _);have hone:∀u∈[Value.int .i64 (o:Nat),Iq m,Iq 0,Iq (a:Nat)],u.oneCell'=true:=by
      intro u hu;simp at hu;rcases hu with rfl|rfl|rfl|rfl<;>rfl
     have hown3:((w3.alloc (.cells #[Iq (o:Nat),Iq m,Iq 0,Iq (a:Nat)] 247)).drew).ownsRow w.heap.size 247 4 (.slice va pre.length vcap) pre.length (C9 pre):=q2.alloc _;have hfar:∀w4,((w3.alloc (.cells #[Iq (o:Nat),Iq m,Iq 0,Iq (a:Nat)] 247)).drew).grownBy w4 (Value.slice va pre.length vcap).ownBlock→w4.cell? ⟨w.heap.size,1,none⟩=some (.slice va pre.length vcap)∧w4.frozen? ⟨w.heap.size,1,none⟩=false:=fun w4 hg=>by
      have e:w4.heap[w.heap.size]?=w3.heap[w.heap.size]?:=(hg.block _ (by show w.heap.size<(w3.alloc _).heap.size;rw[ZB];omega) hne).trans (ZE w3 _ _ hcp3)
      exact⟨by rw[ZI (a:=⟨w.heap.size,1,none⟩) e];exact c1,by rw[aao (a:=⟨w.heap.size,1,none⟩) e];exact cf⟩
     have HB3b:=Hi hB3;have hd':=HDS.out (hma.1 rfl);have HD':=Hi hd';clear q1 q2 q3 hcc hk3 hB3 hma HSH HMA HIN HDN HDS hd';go_wp2
     go_region_law
      ((refine step_append_lies _ (by rfl) _ _ _ (by rfl) w.heap.size 247 i0 _ 4 32 underlying192 hi hz0 hz1 hz2 (by rfl) (by decide) (.slice va pre.length vcap) pre.length (C9 pre) (by rfl) hown3 ⟨w3.heap.size,0,none⟩ 1 1 [Iq (o:Nat),Iq m,Iq 0,Iq (a:Nat)] (by rfl) (by rfl) hnews hone (by decide) (by unfold maxLen;omega) (by omega) (by simp;omega) (w3.heap.size+1) (by simp) ?_;intro gg cap4 w4 hown4 hgrow4 hat4 hlt4;obtain⟨g1,g2⟩:=hfar w4 hgrow4))
     all_goals
      have HN:Hid (∃pre' v',MM w (w4.setCell ⟨w.heap.size,1,none⟩ (Sq gg (pre.length+1) cap4)) b (a+(1+f)) D pre' v'):=⟨_,_,HI2.out.next HB3b.out (x:=⟨o,m,a⟩) ⟨hgrow4.os,hgrow4.tape,hgrow4.output,hgrow4.size,hgrow4.block⟩ hown4 HD'.out (by omega) (by omega)⟩
      clear hown4 hgrow4 hat4 hlt4 g1 g2 hfar hown3 hone hnews d0 d1 d2 d3 c1 cf
      go_wp2
      go_roundw
      case rel=>exact⟨a+(1+f),by omega,by go_num,HN.out⟩
      case measure=>simp[intOf];omega
  ·obtain rfl:a=b.length:=by omega
   have hDp:D=some pre:=by
    obtain⟨f,h1,h2⟩:=hI.dcd;obtain⟨f',rfl⟩:∃f',f=f'+1:=⟨f - 1,by omega⟩
    rw[h2,wR,Zu (Zw _)];simp
   have hcok0:=Ab _ (HD0.out.trans hDp) (by omega)
   have hcok:gV b pre:=⟨hcok0.1,hcok0.2⟩;have hp0:0<pre.length:=by
    rcases acb pre.length with h|h
    ·have e:pre=[]:=aap h
     have hbh:=hcok.2;rw[e] at hbh;have:3=b.length:=hbh;omega
    ·exact h
   have hplen:pre.length≤4000:=by have:=hI.len;omega
   obtain⟨gi,cap,rfl,_,_⟩:=hI.row.form hp0;have hgb:=dF hI.row (k:=gi) rfl;have W4:=yo hcok hl9 hplen hI.blk hgb (OB hI.row);have HA:Hid (∀w',Cz w' gi pre pre.length→dt (fun b=>b=gi) wr w'→tJ b D w (.returned (.tuple #[Pq w.heap.size,.bool true])) w'):=fun w' h1 h2=>by
    have hbl:=hI.bel.trans (h2.below hI.bel.size (fun k _ hk=>by omega))
    have hgc:w.heap.size≠gi:=fun e=>by
     obtain⟨cs,hgb⟩:=hgb;rw[←e,hI.blk] at hgb;simp at hgb
    rw[hDp];refine⟨⟨w.heap.size,gi,cap,rfl,⟨(h2.block _ (be hI.blk) hgc).trans hI.blk,h1.op,h1.num,fun i hi=>?_,h1.pls⟩⟩,hbl⟩
    have:=h1.tos i hi;rw[Zu hi] at this;exact this
   clear hI HI hcok hcok0 hp0 hDp hgb;go_wp2_with fail;apply W4.mono;rintro e w2 ⟨rfl,hj,ho⟩;have HU:=Hi (HA.out w2 hj ho);clear hj ho W4 HA
   go_wp2
   go_ret2
   exact HU.out
theorem Es (b:List UInt8) (w:World):Calls prog 142 #[S b] w fun e w'=>tJ b (CA b) w e w':=by
 unfold CA
 by_cases h:qn b
 ·rw[Zu h];exact Hu h w
 ·rw[Zt h];exact Er h w
end Go.Proofs.YtfkdailfcmnjlaaGreatDoor
namespace Go.Proofs.YtfkdailfcmnjlaaGreatDoor
open Go Go.RowKit Tryz
attribute [local go_sem ↓] Go.wp_at_zero Go.wp_at_succ
variable {w w':World} {p I n:Nat} {cs:Array Value} {ty t:TypeId} {v E G vs z D O U vc:Value} {l J pl r x:Int} {fl st cl st' cl':List Int}
theorem Kf (b:List UInt8):kO b=match CA b with
 |none=>none
 |some ins=>if ln ins (de b 1) ins 0 (kN (de b 2) ins.length) then some ins else none:=by
 by_cases h:qn b
 ·rw[show CA b=none from Zu h]
  exact Zu h
 ·rw[show CA b=wR (b.length+1) b 3 from Zt h]
  exact Zt h
theorem L8 {b:List UInt8} {ins:List hH} (h:CA b=some ins):gV b ins∧0<ins.length∧ins.length≤4000∧de b 1≤24:=by
 unfold CA at h
 by_cases z:qn b
 ·rw[Zu z] at h;cases h
 ·rw[Zt z] at h
  unfold qn at z;obtain⟨E,D⟩:=Ab _ h (by omega)
  have I:=(oi (fun x G=>(E x G).size) D).1
  refine⟨⟨E,D⟩,?_,by omega,by omega⟩
  cases ins with
  |nil=>have:3=b.length:=D;omega
  |cons x r=>simp
def jS (b:List UInt8) (w:World) (e:Ending) (w':World):Prop:=
 (match kO b with
  |none=>e= .returned (.tuple #[.pointer none,.bool false])
  |some ins=> ∃E I cap,e= .returned (.tuple #[Pq E,.bool true])∧mi w' E I cap (de b 2) (de b 1) ins)∧Below w.heap.size w w'
theorem Ap (b:List UInt8) (hE:Ef w):Calls prog 99 #[S b] w fun e w'=>jS b w e w':=by
 have U:=Es b w;have I:=Kf b
 cases V:CA b with
 |none=>
  rw[V] at U I;have Y:Hid (∀w',Below w.heap.size w w'→jS b w (.returned (.tuple #[.pointer none,.bool false])) w'):=fun w' E=>by
   unfold jS;rw[I];exact⟨rfl,E⟩
  go_enter func99,ntmps99;go_wp2_with fail;apply U.mono;rintro e z ⟨⟨v,rfl⟩,E⟩;have Z:Hid (jS b w (.returned (.tuple #[.pointer none,.bool false])) z):=Y.out z E
  go_wp2
  go_ret2
  exact Z.out
 |some ins=>
  rw[V] at U I;obtain⟨q1,q2,q3,q4⟩:=L8 V;have W2:∀z D J cap,Below w.heap.size w z→mi z D J cap (de b 2) (de b 1) ins→_:=fun z D J cap E R=>Hq (hE.below hE.pos E) q1 R q2 q3 q4
  have aa:kO b=if ln ins (de b 1) ins 0 (kN (de b 2) ins.length) then some ins else none:=I
  generalize ln ins (de b 1) ins 0 (kN (de b 2) ins.length)=r at*;have Y:Hid (∀G z D J cap,mi G D J cap (de b 2) (de b 1) ins→Below w.heap.size w G→Below G.heap.size G z→(r=false→jS b w (.returned (.tuple #[.pointer none,.bool false])) z)∧(r=true→jS b w (.returned (.tuple #[Pq D,.bool true])) z)):=fun G z D J cap R h1 h2=>by
   have O:=h1.trans (h2.mono h1.size);unfold jS;rw[aa];refine⟨fun e=>?_,fun e=>?_⟩
   ·subst e;exact⟨rfl,O⟩
   ·subst e;exact⟨⟨D,J,cap,rfl,R.below h2⟩,O⟩
  go_enter func99,ntmps99;go_wp2_with fail;apply U.mono;rintro e G ⟨⟨D,J,cap,rfl,R⟩,E⟩;have W3:=W2 G D J cap E R;have ab:Hid (∀z,Below G.heap.size G z→_):=fun z h2=>Y.out G z D J cap R E h2
  go_wp2_with fail;apply W3.mono;rintro e z ⟨rfl,O⟩;obtain⟨a1,a2⟩:=ab.out z O
  cases r with
  |false=>
   have Z:Hid (jS b w (.returned (.tuple #[.pointer none,.bool false])) z):=a1 rfl
   go_wp2
   go_ret2
   exact Z.out
  |true=>
   have Z:Hid (jS b w (.returned (.tuple #[Pq D,.bool true])) z):=a2 rfl
   go_wp2
   go_ret2
   exact Z.out
def xE (b:List UInt8) (w:World) (e:Ending) (w':World):Prop:=
 (match kO b with
  |none=>e= .returned (.tuple #[.pointer none,Iq 7])
  |some ins=> ∃lp E J cap,e= .returned (.tuple #[Pq lp,Iq 0])∧w'.heap[lp]?=some (.cells #[Pq E] 207 (0,0))∧mi w' E J cap (de b 2) (de b 1) ins)∧Below w.heap.size w w'
theorem Hv (b:List UInt8) (O:Ef w):Calls prog 52 #[S b] w fun e w'=>xE b w e w':=by
 have z:=Ap b O;unfold jS at z;unfold xE
 cases G:kO b with
 |none=>
  rw[G] at z;go_enter func52,ntmps52;go_wp2_with fail;apply z.mono;rintro e I ⟨rfl,D⟩;have E:=Hi D
  go_wp2
  go_ret2
  exact⟨rfl,E.out⟩
 |some ins=>
  rw[G] at z;go_enter func52,ntmps52;go_wp2_with fail;apply z.mono;rintro e I ⟨⟨R,U,cap,rfl,J⟩,D⟩;have E:=Hi (And.intro D J)
  go_wp2
  go_ret2
  refine⟨⟨I.heap.size,R,U,cap,rfl,Zy _ _,E.out.2.below ((ZA _ _).alloc (Zw _) _)⟩,E.out.1.alloc E.out.1.size _⟩
theorem vl:(prog.info? 112).map (fun i=>(i.zero,i.size,i.bytes))=some (some (Iq 0),1,8):=by kernel_rfl
theorem Hw {l:List Int} (x:Int) (G:w.heap[p]?=some (.cells cs ty (0,0))) (Y:cs[0]?=some v) (I:IR w 112 v l) (Z:ty≠112) (hl:l.length≤5000):
 Calls prog 238 #[Pq p,Iq x] w fun e w'=>e= .returned (.tuple #[])∧ ∃U,w'.heap[p]?=some (.cells (cs.setIfInBounds 0 U) ty (0,0))∧IR w' 112 U (l++[x])∧dt (fun b=>b=p∨v.ownBlock=some b) w w'∧ ∀b,U.ownBlock=some b→v.ownBlock=some b∨w.heap.size≤b:=by
 have aa:w.cell? ⟨p,0,none⟩=some v:=by rw[Zz w p 0 _ _ _ G];exact Y
 have ab:w.frozen? ⟨p,0,none⟩=false:=by simp[World.frozen?,G]
 have ac:=be G;have O:=I.ne G Z;obtain⟨a,cap,rfl⟩:=I.sl;obtain⟨i0,hi,hz⟩:=ZP.1 vl;simp only[ZT] at hz;obtain⟨ad,ae,af⟩:=hz;have HP:=Hi G;have HR:=Hi I;have HN:=Hi O;go_enter func238,ntmps238
 go_wp2_with (
  at_builtin
  go_must (refine wpList_append_lies _ (by rfl) _ _ 179 (by rfl) 0 112 i0 (Iq 0) 1 8 underlying179 hi ad ae af (by rfl) (by decide) _ _ _ (by rfl) (HR.out.alloc _) ⟨w.heap.size,0,none⟩ 1 1 [Iq x] (by rfl) (by rfl) (World.news_of_block (Zy w _)) (fun x hx=>by simp at hx;rcases hx with rfl;rfl) (by decide) (by unfold maxLen;omega) (by omega) (by simp) _ rfl ?_)
  intro gg D V E z R aj;have J:=(z.block _ (by simp;omega) (fun e=>HN.out e.symm)).trans (ZE w _ _ ac)
  have e1:=(ZI (a:=⟨p,0,none⟩) J).trans aa;have e2:=(aao (a:=⟨p,0,none⟩) J).trans ab;have ag:=Hi J;have ah:=Hi E;have ai:=Hi z
  clear J E z)
 go_end0
 refine⟨rfl,Sq gg (l.length+1) D,?_,?_,?_,?_⟩
 ·rw[ZK V p 0 _ _ _ (ag.out.trans HP.out)]
 ·have h1:V.ownsRow 0 112 1 (Sq gg (l.length+1) D) (l.length+1) (l.map (Value.int .i64)++[Iq x]):=ah.out
  have h2:=Z9 h1 (a:=⟨p,0,none⟩) (by
   intro e;simp[Value.ownBlock] at e;rcases R with h|h
   ·exact HN.out (by rw[h,e])
   ·rw[ZB] at h;omega) (Sq gg (l.length+1) D)
  unfold IR;simpa using h2
 ·exact(((dt.refl _ w).alloc _).grown ai.out (fun k hk=> .inl (.inr hk))).setCell (.inl (.inl rfl)) _
 ·intro b hb
  simp[Value.ownBlock] at hb;subst hb;rcases R with h|h
  ·exact .inl h
  ·right;rw[h,ZB];omega
theorem Kg {l:List Int} (E:w.heap[p]?=some (.cells cs ty (0,0))) (I:cs[0]?=some v) (z:IR w 112 v l) (O:ty≠112) (V:l.length≤5000):
 Calls prog 239 #[Pq p] w fun e w'=>e= .returned (Iq (l.getLast?.getD 0))∧ ∃G,w'.heap[p]?=some (.cells (cs.setIfInBounds 0 G) ty (0,0))∧IR w' 112 G l.dropLast∧dt (fun b=>b=p) w w'∧G.ownBlock=v.ownBlock:=by
 have R:w.cell? ⟨p,0,none⟩=some v:=by rw[Zz w p 0 _ _ _ E];exact I
 have aa:w.frozen? ⟨p,0,none⟩=false:=by simp[World.frozen?,E]
 have D:=z.ne E O;rcases List.eq_nil_or_concat l with rfl|⟨r,x,rfl⟩
 ·have Y:Hid (∃G,w.heap[p]?=some (.cells (cs.setIfInBounds 0 G) ty (0,0))∧IR w 112 G ([]:List Int).dropLast∧dt (fun b=>b=p) w w∧G.ownBlock=v.ownBlock):=⟨v,by
   rw[E]
   congr 2
   apply Array.ext_getElem?
   intro i;rw[aaE]
   split
   ·rename_i e;subst e;split
    ·exact I
    ·rename_i hh;rw[aa9 (by omega)]
   ·rfl,z,dt.refl _ _,rfl⟩
  obtain⟨a,cap,rfl⟩:=z.sl;simp only[aas] at*;go_enter func239,ntmps239
  go_wp2
  go_ret;exact⟨rfl,Y.out⟩
 ·rw[List.concat_eq_append] at*
  obtain⟨g,cap,rfl,hg⟩:=z.form (by simp)
  obtain⟨_,hx⟩:=Cm z;have U:(r++[x]).length=r.length+1:=by simp
  rw[U] at R z D V;have J:=z.cap;rw[U] at J;have q2:(0:Int)≤(r.length:Int)∧(r.length:Int)≤(cap:Int):=by omega
  have Z:=Hi E;have HR:=Hi z;have e2:(r++[x]).getLast?.getD 0=x:=by simp
  have e3:(r++[x]).dropLast=r:=by simp
  have ab:g≠p:=fun e=>D (by rw[e];rfl)
  have q1:(0:Int)≤(r.length:Int)∧(r.length:Int)<(r.length:Int)+1:=by omega
  rw[e2,e3];go_enter func239,ntmps239
  go_wp2
  go_ret;refine⟨rfl,Sq g r.length cap,?_,?_,(dt.refl (fun b=>b=p) w).setCell (.inl rfl) _,rfl⟩
  ·rw[ZK w p 0 _ _ _ Z.out]
  ·exact(IR.pop HR.out).only ((dt.refl (fun b=>b=p) _).setCell (.inl rfl) _) (fun k hk=>by simp[Value.ownBlock] at hk;omega)
def pw (n:Nat):Value:= .func (.func n) #[] #[]
def AJ:List Value:=[.nilFunc,pw 192,pw 192,pw 192,pw 193,pw 194,pw 195,pw 196,pw 197,pw 198,pw 199,pw 200,pw 201,pw 202,pw 203,pw 204,pw 205,pw 206,pw 207]
theorem Fz:∀v∈AJ,v.oneCell'=true:=by
 intro v z;simp only[AJ,ZU,aal,abk] at z;rcases z with rfl|rfl|rfl|rfl|rfl|rfl|rfl|rfl|rfl|rfl|rfl|rfl|rfl|rfl|rfl|rfl|rfl|rfl|rfl<;>rfl
theorem zh {b:Nat} (h:w.heap[b]?=some (.cells cs t (0,0))):w.there b 0 cs.size:=fun j z=>by
 rw[aaq];refine⟨?_,by simp[World.frozen?,h]⟩
 rw[Zz w b j _ _ _ h];simp[z]
theorem Et (w:World):Calls prog 144 #[] w fun e w'=>e= .returned (.agg AJ.toArray)∧Below w.heap.size w w':=by
 have E:Option.map (fun x=>x.size) (prog.info? 259)=some 19:=by kernel_rfl
 obtain⟨z,D⟩:∃z,w.alloc (.cells #[Value.nilFunc,Value.nilFunc,Value.nilFunc,Value.nilFunc,Value.nilFunc,Value.nilFunc,Value.nilFunc,Value.nilFunc,Value.nilFunc,Value.nilFunc,Value.nilFunc,Value.nilFunc,Value.nilFunc,Value.nilFunc,Value.nilFunc,Value.nilFunc,Value.nilFunc,Value.nilFunc,Value.nilFunc] 259)=z:=⟨_,rfl⟩;have V:z.heap[w.heap.size]?=some (.cells #[Value.nilFunc,Value.nilFunc,Value.nilFunc,Value.nilFunc,Value.nilFunc,Value.nilFunc,Value.nilFunc,Value.nilFunc,Value.nilFunc,Value.nilFunc,Value.nilFunc,Value.nilFunc,Value.nilFunc,Value.nilFunc,Value.nilFunc,Value.nilFunc,Value.nilFunc,Value.nilFunc,Value.nilFunc] 259 (0,0)):=by rw[←D];exact Zy w _
 have J:=zh V;have Y:=Hi D;have Z:Hid (Below w.heap.size w z):=by rw[←D];exact(ZA _ _).alloc (Zw _) _
 have G:=abM w.heap.size AJ 0 z (fun j O=>(J j O).1)
 have I:Hid (∀j v,AJ[j]?=some v→Cq ((z.setCells w.heap.size 0 AJ)) w.heap.size j v):=fun j v R=>by
  obtain⟨O,rfl⟩:=Z6.1 R;have:=G j O;rw[aaq] at this;exact this
 clear G D V;go_enter func144,ntmps144
 go_wp2_with (
  rw[Y.out];refine wpList_store_mid (by rfl) _ _ _ (by rfl) w.heap.size 0 AJ.toArray (by rfl) (by rfl) J E (all_oneCell_toArray Fz) ?_)
 have aa:Hid (Below w.heap.size w (z.setCells w.heap.size 0 AJ)):=lW (Zw _) _ _ Z.out;have HF:=I;clear I J Y Z E;generalize z.setCells w.heap.size 0 AJ=U at*;simp only[Act.put];have ab:(loadVar 259 ⟨w.heap.size,0,none⟩).run prog U= .ok (.agg AJ.toArray) U:=
  run_loadVar_mid (P:=prog) U w.heap.size 0 259 AJ _ (fun j v R=>by rw[aaq];exact HF.out j v R) underlying259 rfl (by kernel_rfl)
 refine ZH (v:= .agg AJ.toArray) ?_ rfl ?_
 ·simp only[results,results144]
  simp[asAddr,ab]
 exact⟨rfl,aa.out⟩
structure MS where
 st:List Int
 cl:List Int
 next:Int
 ended:Bool
 al:Bool
 ru:Int
 stp:Int
def L9 (vs z:Value) (fl:List Int) (s:MS):Array Value:= #[vs,z,Iq (fl.getD 0 0),Iq (fl.getD 1 0),Iq (fl.getD 2 0),Iq (fl.getD 3 0),Iq (fl.getD 4 0),Iq (fl.getD 5 0),Iq (fl.getD 6 0),Iq (fl.getD 7 0),Iq (fl.getD 8 0),Iq s.next,.bool s.ended,.bool s.al,Iq s.ru,Iq s.stp]
structure gj (w:World) (p:Nat) (vs vc:Value) (fl:List Int) (s:MS):Prop where
 blk:w.heap[p]?=some (.cells (L9 vs vc fl s) 257 (0,0))
 st:IR w 112 vs s.st
 cl:IR w 112 vc s.cl
 ne:∀b,vs.ownBlock=some b→vc.ownBlock≠some b
theorem gj.lt {w:World} {p:Nat} {vs D:Value} {fl:List Int} {s:MS} (h:gj w p vs D fl s) {b:Nat} (z:fq p vs D b):b<w.heap.size:=by
 rcases z with rfl|z|z
 ·exact be h.blk
 ·exact(h.st.lt b z).2
 ·exact(h.cl.lt b z).2
theorem gj.only {w w':World} {p:Nat} {vs z:Value} {fl:List Int} {s:MS} (h:gj w p vs z fl s) {F:Nat→Prop} (D:dt F w w') (E:∀b,fq p vs z b→ ¬F b):gj w' p vs z fl s:=
 ⟨(D.block p (be h.blk) (E p (.inl rfl))).trans h.blk,h.st.only D (fun g G=>E g (.inr (.inl G))),h.cl.only D (fun g G=>E g (.inr (.inr G))),h.ne⟩
theorem gj.drew {w:World} {p:Nat} {vs z:Value} {fl:List Int} {s:MS} (h:gj w p vs z fl s):gj w.drew p vs z fl s:=⟨h.blk,h.st,h.cl,h.ne⟩
def dH (w w':World) (p:Nat) (vs z:Value) (fl:List Int) (s:MS):Prop:=
 ∃D,gj w' p D z fl s∧dt (fq p vs z) w w'∧ ∀b,fq p D z b→fq p vs z b∨w.heap.size≤b
theorem dH.refl {w:World} {p:Nat} {vs z:Value} {fl:List Int} {s:MS} (h:gj w p vs z fl s):dH w w p vs z fl s:=⟨vs,h,dt.refl _ _,fun _ D=> .inl D⟩
theorem dH.then {E G:World} {I:MS} (J:dt (fq p vs z) w E) (O:∀b,fq p D z b→fq p vs z b∨w.heap.size≤b) (Y:dH E G p D z fl I):dH w G p vs z fl I:=by
 obtain⟨R,Z,U,V⟩:=Y;refine⟨R,Z,J.trans U (fun _ _ h=>h) (fun i hi h=>?_),fun b hb=>?_⟩
 ·rcases O i h with h|h
  ·exact h
  ·omega
 ·rcases V b hb with h|h
  ·exact O b h
  ·right;have:=J.size;omega
variable {s s':MS}
theorem dH.only (h:dH w w' p vs z fl s):dt (fq p vs z) w w':=by
 obtain⟨_,_,h,_⟩:=h;exact h
theorem dH.drew {w w':World} {p:Nat} {vs z:Value} {fl:List Int} {s:MS} (h:dH w w' p vs z fl s):dH w w'.drew p vs z fl s:=by
 obtain⟨D,E,G,h3⟩:=h;exact⟨D,E.drew,G.drew,h3⟩
theorem su:257≠112:=by decide
theorem dH.push {G:World} {I:Value} (h:dH w G p vs I fl s) (x:Int) (hl:s.st.length≤5000):
 Calls prog 238 #[Pq p,Iq x] G fun e w'=>e= .returned (.tuple #[])∧dH w w' p vs I fl {s with st:=s.st++[x]}:=by
 obtain⟨J,h,O,R⟩:=h;apply(Hw x h.blk (v:=J) rfl h.st su hl).mono;rintro e w' ⟨rfl,v',z,D,U,V⟩;refine⟨rfl,dH.then O R ?_⟩
 have Y:=h.cl.ne h.blk su;refine⟨v',⟨z,D,h.cl.only U (fun g Z E=>?_),fun b h1 h2=>?_⟩,U.weak (fun i _ D=>?_),fun b z=>?_⟩
 ·rcases E with rfl|E
  ·exact Y Z
  ·exact h.ne g E Z
 ·rcases V b h1 with h3|h3
  ·exact h.ne b h3 h2
  ·have:=(h.cl.lt b h2).2;omega
 ·rcases D with rfl|D
  ·exact .inl rfl
  ·exact .inr (.inl D)
 ·rcases z with rfl|z|z
  ·exact .inl (.inl rfl)
  ·rcases V b z with h3|h3
   ·exact .inl (.inr (.inl h3))
   ·exact .inr h3
  ·exact .inl (.inr (.inr z))
theorem dH.pop {E:World} (h:dH w E p vs G fl s) (Z:s.st.length≤5000):
 Calls prog 239 #[Pq p] E fun e w'=>e= .returned (Iq (s.st.getLast?.getD 0))∧dH w w' p vs G fl {s with st:=s.st.dropLast}:=by
 obtain⟨I,h,J,O⟩:=h;apply(Kg h.blk (v:=I) rfl h.st su Z).mono;rintro e w' ⟨rfl,v',z,D,R,U⟩;refine⟨rfl,dH.then J O ?_⟩
 have V:=h.cl.ne h.blk su;refine⟨v',⟨z,D,h.cl.only R (fun g hg hn=>?_),fun b Y h2=>?_⟩,R.weak (fun i _ D=> .inl D),fun b z=>?_⟩
 ·subst hn;exact V hg
 ·rw[U] at Y;exact h.ne b Y h2
 ·unfold fq at z⊢
  rw[U] at z;exact .inl z
theorem dH.put {z:World} (h:dH w z p vs D fl s) (o:Nat) (v:Value) (Y:∀vs D,(L9 vs D fl s).setIfInBounds o v=L9 vs D fl s') (Z:s'.st=s.st) (h2:s'.cl=s.cl):dH w (z.setCell ⟨p,o,none⟩ v) p vs D fl s':=by
 obtain⟨O,h,R,U⟩:=h;refine dH.then R U ?_
 have G:dt (fun b=>b=p) z (z.setCell ⟨p,o,none⟩ v):=(dt.refl (fun b=>b=p) z).setCell (.inl rfl) _
 refine⟨O,⟨by rw[ZK z p o _ _ _ h.blk,Y],?_,?_,h.ne⟩,G.weak (fun i _ hi=> .inl hi),fun b hb=> .inl hb⟩
 ·rw[Z];exact h.st.only G (fun g I e=>h.st.ne h.blk su (by rw[←e];exact I))
 ·rw[h2];exact h.cl.only G (fun g I e=>h.cl.ne h.blk su (by rw[←e];exact I))
theorem dH.cells {w z:World} {p:Nat} {vs E:Value} {fl:List Int} {s:MS} (h:dH w z p vs E fl s):Cq z p 11 (Iq s.next)∧Cq z p 12 (.bool s.ended)∧Cq z p 13 (.bool s.al)∧Cq z p 14 (Iq s.ru)∧Cq z p 15 (Iq s.stp)∧ ∀o,z.frozen? ⟨p,o,none⟩=false:=by
 obtain⟨G,h,_,_⟩:=h;have D:=fun j=>Zz z p j _ _ _ h.blk
 exact⟨D 11,D 12,D 13,D 14,D 15,fun o=>by simp[World.frozen?,h.blk]⟩
structure pH (w w1:World) (p:Nat) (vs vc:Value) (fl:List Int) (s:MS) (o:Obj):Prop where
 out0:dH w1 w1 p vs vc fl s
 far:∀b,fq p vs vc b→b<w.heap.size
 blk:w1.heap[w.heap.size]?=some o
 siz:w.heap.size<w1.heap.size
 out:∀w' s,dH w1 w' p vs vc fl s→dH w w' p vs vc fl s
theorem pH.of (h:gj w p vs D fl s) (o:Obj):pH w (w.alloc o) p vs D fl s o:=
 ⟨dH.refl (h.only ((dt.refl (fun _=>False) w).alloc _) (fun _ _ h=>h)),fun b z=>h.lt z,Zy w _,by rw[ZB];omega,fun _ _ h=>dH.then ((dt.refl _ w).alloc o) (fun _ z=> .inl z) h⟩
theorem pH.after {E z:World} {O:MS} {n:Int} (h:pH w E p vs G fl s (mh I n J pl)) (R:dH E z p vs G fl O):Cq z w.heap.size 0 (Iq I)∧Cq z w.heap.size 1 (Iq n)∧Cq z w.heap.size 2 (Iq J)∧Cq z w.heap.size 3 (Iq pl):=by
 have U:=(R.only.block _ h.siz (fun V=>by have:=h.far _ V;omega)).trans h.blk
 have D:=fun j=>Zz z _ j _ _ _ U
 exact⟨D 0,D 1,D 2,D 3⟩
theorem xF (J:Nat) (n O pl:Int) (h:gj w p vs E fl s) (hl:s.st.length≤4000):
 Calls prog 192 #[Pq p,fI J n O pl] w fun e w'=>e= .returned (.tuple #[])∧dH w w' p vs E fl {s with st:=s.st++[n]}:=by
 obtain⟨G,I,z⟩:∃G,w.alloc (.cells #[Iq J,Iq n,Iq O,Iq pl] 247)=G∧pH w G p vs E fl s (mh J n O pl):=⟨_,rfl,pH.of h _⟩;unfold fI;have H:=Hi z;obtain⟨c0,c1,c2,c3⟩:=z.after z.out0;have U:=z.out0.drew.push n (by omega)
 have V:=Hi I;have Y:Hid (∀R s',dH G R p vs E fl s'→R.cell? ⟨w.heap.size,1,none⟩=some (Iq n)):=fun R _ h=>(z.after h).2.1
 clear h z I;go_enter func192,ntmps192;go_wp2_with fail;rw[V.out]
 go_region_held3 (fun W=>W.cell? ⟨w.heap.size,1,none⟩=some (Iq n)) (first|with_reducible exact Y.out _ _ (by assumption)|with_reducible assumption|go_keep)
  (first|(go_at_call 238;refine U.mono ?_;rintro e w2 ⟨rfl,D⟩))
 rename_i hHeld
 have Z:=Hi D;clear hHeld D
 go_end0
 exact⟨rfl,H.out.out _ _ Z.out⟩
theorem dH.field {D:World} (h:dH w D p vs E fl s) (I:n≤8):Cq D p (2+n) (Iq (fl.getD n 0)):=by
 obtain⟨G,h,_,_⟩:=h;have z:=fun j=>Zz D p j _ _ _ h.blk
 have e:n=0∨n=1∨n=2∨n=3∨n=4∨n=5∨n=6∨n=7∨n=8:=by omega
 rcases e with rfl|rfl|rfl|rfl|rfl|rfl|rfl|rfl|rfl
 ·exact z 2
 ·exact z 3
 ·exact z 4
 ·exact z 5
 ·exact z 6
 ·exact z 7
 ·exact z 8
 ·exact z 9
 ·exact z 10
theorem Eu (O n:Nat) (R pl:Int) (h:gj w p vs E fl s) (hl:s.st.length≤4000) (V:n≤8):
 Calls prog 193 #[Pq p,fI O n R pl] w fun e w'=>e= .returned (.tuple #[])∧dH w w' p vs E fl {s with st:=s.st++[fl.getD n 0]}:=by
 obtain⟨G,J,z⟩:∃G,w.alloc (.cells #[Iq O,Iq n,Iq R,Iq pl] 247)=G∧pH w G p vs E fl s (mh O n R pl):=⟨_,rfl,pH.of h _⟩;unfold fI;have H:=Hi z;have Y:=z.out0.drew.push (fl.getD n 0) (by omega)
 have Z:=Hi J;have U:Hid (∀I s',dH G I p vs E fl s'→(I.cell? ⟨w.heap.size,1,none⟩=some (Iq n)∧I.cell? ⟨p,2+n,none⟩=some (Iq (fl.getD n 0)))):=fun I _ h=>⟨(z.after h).2.1,h.field V⟩
 have aa:=U.out _ _ z.out0;have ab:(0:Int)≤(n:Int)∧(n:Int)<9:=by omega
 generalize fl.getD n 0=x at*;clear h z J;go_enter func193,ntmps193;go_wp2_with fail;rw[Z.out]
 go_region_held3 (fun W=>W.cell? ⟨w.heap.size,1,none⟩=some (Iq n)∧W.cell? ⟨p,2+n,none⟩=some (Iq x)) (first|with_reducible exact U.out _ _ (by assumption)|with_reducible assumption|go_keep)
  (first|(go_at_call 238;refine Y.mono ?_;rintro e w2 ⟨rfl,D⟩))
 rename_i hHeld
 have HU:=Hi D;clear hHeld D
 go_end0
 exact⟨rfl,H.out.out _ _ HU.out⟩
theorem Kh (U n:Nat) (V pl:Int) (h:gj w p vs O fl s) (hl:s.st.length≤4000) (Y:n<s.cl.length) (hc:s.cl.length≤300):
 Calls prog 195 #[Pq p,fI U n V pl] w fun e w'=>e= .returned (.tuple #[])∧dH w w' p vs O fl {s with st:=s.st++[s.cl.getD n 0]}:=by
 obtain⟨z,I,E⟩:∃z,w.alloc (.cells #[Iq U,Iq n,Iq V,Iq pl] 247)=z∧pH w z p vs O fl s (mh U n V pl):=⟨_,rfl,pH.of h _⟩;unfold fI;have H:=Hi E;have W1:=E.out0.drew.push (s.cl.getD n 0) (by omega)
 have D:gj z p vs O fl s:=by rw[←I];exact h.only ((dt.refl (fun _=>False) w).alloc _) (fun _ _ h=>h)
 obtain⟨g,cap,rfl,hg⟩:=D.cl.form (by omega)
 have R:=D.cl.cell Y;have Z:z.cell? ⟨p,1,none⟩=some (Sq g s.cl.length cap):=by rw[Zz z p 1 _ _ _ D.blk];rfl
 obtain⟨c0,c1,c2,c3⟩:=E.after E.out0;have HW:=Hi I;have aa:(0:Int)≤(n:Int)∧(n:Int)<(s.cl.length:Int):=by omega
 have HK:Hid (∀G,dH z G p vs (Sq g s.cl.length cap) fl {s with st:=s.st++[s.cl.getD n 0]}→(G.cell? ⟨w.heap.size,1,none⟩=some (Iq n)∧G.cell? ⟨p,1,none⟩=some (Sq g s.cl.length cap)∧G.cell? ⟨g,n,none⟩=some (Iq (s.cl.getD n 0)))):=fun G ho=>by
  refine⟨(E.after ho).2.1,?_⟩;obtain⟨ab,hm,_,_⟩:=ho;exact⟨by rw[Zz G p 1 _ _ _ hm.blk];rfl,hm.cl.cell Y⟩
 have ac:Cq z w.heap.size 1 (Iq n)∧Cq z p 1 (Sq g s.cl.length cap)∧Cq z g n (Iq (s.cl.getD n 0)):=⟨c1,Z,R⟩;generalize s.cl.getD n 0=x at*;clear h E I D;go_enter func195,ntmps195;go_wp2_with fail;rw[HW.out]
 go_region_held3 (fun W=>W.cell? ⟨w.heap.size,1,none⟩=some (Iq n)∧W.cell? ⟨p,1,none⟩=some (Sq g s.cl.length cap)∧W.cell? ⟨g,n,none⟩=some (Iq x)) (first|with_reducible exact HK.out _ (by assumption)|with_reducible assumption|go_keep)
  (first|(go_at_call 238;refine W1.mono ?_;rintro e w2 ⟨rfl,J⟩))
 rename_i hHeld
 have HU:=Hi J;clear hHeld J
 go_end0
 exact⟨rfl,H.out.out _ _ HU.out⟩
theorem Ki (Z n:Nat) (tj pl:Int) (h:gj w p vs U fl s) (hl:s.st.length≤4000) (hn:n<s.cl.length) (hc:s.cl.length≤300):
 Calls prog 194 #[Pq p,fI Z n tj pl] w fun e w'=>e= .returned (.tuple #[])∧dH w w' p vs U fl {s with st:=s.st.dropLast,cl:=s.cl.set n (s.st.getLast?.getD 0)}:=by
 obtain⟨D,J,I⟩:∃D,w.alloc (.cells #[Iq Z,Iq n,Iq tj,Iq pl] 247)=D∧pH w D p vs U fl s (mh Z n tj pl):=⟨_,rfl,pH.of h _⟩;unfold fI;have H:=Hi I;have W1:=I.out0.drew.pop (by omega)
 have G:gj D p vs U fl s:=by rw[←J];exact h.only ((dt.refl (fun _=>False) w).alloc _) (fun _ _ h=>h)
 obtain⟨g,cap,rfl,hg⟩:=G.cl.form (by omega)
 have aa:D.cell? ⟨p,1,none⟩=some (Sq g s.cl.length cap):=by rw[Zz D p 1 _ _ _ G.blk];rfl
 obtain⟨c0,c1,c2,c3⟩:=I.after I.out0;have V:g≠p:=fun e=>G.cl.ne G.blk su (by rw[e];rfl)
 have ab:g≠w.heap.size:=fun e=>by have:=I.far g (.inr (.inr rfl));omega
 have HW:=Hi J;have ah:(0:Int)≤(n:Int)∧(n:Int)<(s.cl.length:Int):=by omega
 generalize hx:s.st.getLast?.getD 0=x at*;have HK:Hid (∀z,dH D z p vs (Sq g s.cl.length cap) fl {s with st:=s.st.dropLast}→((z.cell? ⟨w.heap.size,1,none⟩=some (Iq n)∧z.cell? ⟨p,1,none⟩=some (Sq g s.cl.length cap))∧z.cell? ⟨g,n,none⟩=some (Iq (s.cl.getD n 0))∧z.frozen? ⟨g,n,none⟩=false∧dH D (z.setCell ⟨g,n,none⟩ (Iq x)) p vs (Sq g s.cl.length cap) fl {s with st:=s.st.dropLast,cl:=s.cl.set n x})):=fun z ho=>by
  have ha:=(I.after ho).2.1;obtain⟨ac,E,ad,hf⟩:=ho;refine⟨⟨ha,by rw[Zz z p 1 _ _ _ E.blk];rfl⟩,E.cl.cell hn,E.cl.frz n,dH.then ad hf ?_⟩
  have O:dt (fun b=>b=g) z (z.setCell ⟨g,n,none⟩ (Iq x)):=(dt.refl (fun b=>b=g) z).setCell (.inl rfl) _
  refine⟨ac,⟨(O.block p (be E.blk) (fun e=>V e.symm)).trans E.blk,E.st.only O (fun b hb e=>E.ne b hb (by rw[e];rfl)),E.cl.set hn x,E.ne⟩,O.weak (fun i _ hi=> .inr (.inr (by rw[hi];rfl))),fun b hb=> .inl hb⟩
 have KS:Hid (∀(W:World) (v:Value),(W.cell? ⟨w.heap.size,1,none⟩=some (Iq n)∧W.cell? ⟨p,1,none⟩=some (Sq g s.cl.length cap))→((W.setCell ⟨g,n,none⟩ v).cell? ⟨w.heap.size,1,none⟩=some (Iq n)∧(W.setCell ⟨g,n,none⟩ v).cell? ⟨p,1,none⟩=some (Sq g s.cl.length cap))):=fun W v hS=>⟨by rw[World.cell?_setCell_far _ _ _ _ (by simpa using ab)];exact hS.1,by rw[World.cell?_setCell_far _ _ _ _ (by simpa using V)];exact hS.2⟩
 have ai:Cq D w.heap.size 1 (Iq n)∧Cq D p 1 (Sq g s.cl.length cap):=⟨c1,aa⟩;clear h I J G hx;go_enter func194,ntmps194;go_wp2_with fail;rw[HW.out]
 go_region_held3 (fun W=>W.cell? ⟨w.heap.size,1,none⟩=some (Iq n)∧W.cell? ⟨p,1,none⟩=some (Sq g s.cl.length cap)) (first|with_reducible exact KS.out _ _ (by assumption)|with_reducible exact acf (HK.out _ (by assumption))|with_reducible assumption|go_keep)
  (first|(go_at_call 239;refine W1.mono ?_;rintro e w2 ⟨rfl,R⟩;obtain⟨ae,af,ag,Y⟩:=HK.out _ R;have HU:Hid _:=Y;clear Y))
 rename_i hHeld
 clear hHeld R ae af ag
 go_end0
 exact⟨rfl,H.out.out _ _ HU.out⟩
theorem Ew (h:dH w w p vs E fl s) (hl:s.st.length≤4000) (J:s.st.getLast?.getD 0=r) (I:s.st.dropLast.getLast?.getD 0=l) (O:∀w,Calls prog 164 #[Iq l,Iq r] w fun e w'=>e= .returned (Iq x)∧w'=w):
 Calls prog 240 #[Pq p,pw 164] w fun e w'=>e= .returned (.tuple #[])∧dH w w' p vs E fl {s with st:=s.st.dropLast.dropLast++[x]}:=by
 unfold pw;have R:=h.drew.pop (by omega)
 rw[J] at R;have Z:∀W,dH w W p vs E fl {s with st:=s.st.dropLast}→Calls prog 239 #[Pq p] W fun e w'=>e= .returned (Iq l)∧dH w w' p vs E fl {s with st:=s.st.dropLast.dropLast}:=fun W h=>by
  have:=h.pop (by simp;omega)
  simp only[I] at this;exact this
 have U:∀W,dH w W p vs E fl {s with st:=s.st.dropLast.dropLast}→Calls prog 238 #[Pq p,Iq x] W fun e w'=>e= .returned (.tuple #[])∧dH w w' p vs E fl {s with st:=s.st.dropLast.dropLast++[x]}:=fun W h=>h.push x (by simp;omega)
 go_enter func240,ntmps240;go_wp2
 go_region_held3 (fun w'=>True) (exact trivial)
  (first
   |(go_at_call 239;refine(Z _ (by assumption)).mono ?_;rintro e w3 ⟨rfl,D⟩)
   |(go_at_call 239;refine R.mono ?_;rintro e w2 ⟨rfl,G⟩))
 have V:=Hi D;go_wp2
 first
  |(refine(O _).mono ?_;rintro e w4 ⟨rfl,rfl⟩;go_wp2_with fail;refine(U _ V.out).mono ?_;rintro e w5 ⟨rfl,z⟩;have Y:Hid _:=z;clear z)
  |(go_region_held3 (fun w'=>True) (exact trivial) (first
   |(go_at_call 164;refine(O _).mono ?_;rintro e w4 ⟨rfl,rfl⟩)
   |(go_at_call 238;refine(U _ (dH.drew V.out)).mono ?_;rintro e w5 ⟨rfl,z⟩;have Y:Hid _:=z;clear z)))
 go_wp2
 go_end0
 exact⟨rfl,Y.out⟩
theorem Kj (G:Nat) (n I pl:Int) (h:gj w p vs E fl s) (Y:s.st.length≤4000) (Z:s.st.getLast?.getD 0=r) (U:s.st.dropLast.getLast?.getD 0=l) (V:∀w,Calls prog 164 #[Iq l,Iq r] w fun e w'=>e= .returned (Iq x)∧w'=w):
 Calls prog 196 #[Pq p,fI G n I pl] w fun e w'=>e= .returned (.tuple #[])∧dH w w' p vs E fl {s with st:=s.st.dropLast.dropLast++[x]}:=by
 obtain⟨J,D,O⟩:∃J,w.alloc (.cells #[Iq G,Iq n,Iq I,Iq pl] 247)=J∧pH w J p vs E fl s (mh G n I pl):=⟨_,rfl,pH.of h _⟩;unfold fI;have H:=Hi O;have R:=Ew O.out0 Y Z U V;unfold pw at R;have HW:=Hi D;clear h O D V;go_enter func196,ntmps196;go_wp2_with fail;rw[HW.out];apply R.mono;rintro e w2 ⟨rfl,z⟩;have HU:=Hi z;clear z R
 go_wp2
 go_end0
 exact⟨rfl,H.out.out _ _ HU.out⟩
theorem Ex (h:dH w w p vs E fl s) (hl:s.st.length≤4000) (J:s.st.getLast?.getD 0=r) (I:s.st.dropLast.getLast?.getD 0=l) (O:∀w,Calls prog 165 #[Iq l,Iq r] w fun e w'=>e= .returned (Iq x)∧w'=w):
 Calls prog 240 #[Pq p,pw 165] w fun e w'=>e= .returned (.tuple #[])∧dH w w' p vs E fl {s with st:=s.st.dropLast.dropLast++[x]}:=by
 unfold pw;have R:=h.drew.pop (by omega)
 rw[J] at R;have Z:∀W,dH w W p vs E fl {s with st:=s.st.dropLast}→Calls prog 239 #[Pq p] W fun e w'=>e= .returned (Iq l)∧dH w w' p vs E fl {s with st:=s.st.dropLast.dropLast}:=fun W h=>by
  have:=h.pop (by simp;omega)
  simp only[I] at this;exact this
 have U:∀W,dH w W p vs E fl {s with st:=s.st.dropLast.dropLast}→Calls prog 238 #[Pq p,Iq x] W fun e w'=>e= .returned (.tuple #[])∧dH w w' p vs E fl {s with st:=s.st.dropLast.dropLast++[x]}:=fun W h=>h.push x (by simp;omega)
 go_enter func240,ntmps240;go_wp2
 go_region_held3 (fun w'=>True) (exact trivial)
  (first
   |(go_at_call 239;refine(Z _ (by assumption)).mono ?_;rintro e w3 ⟨rfl,D⟩)
   |(go_at_call 239;refine R.mono ?_;rintro e w2 ⟨rfl,G⟩))
 have V:=Hi D;go_wp2
 first
  |(refine(O _).mono ?_;rintro e w4 ⟨rfl,rfl⟩;go_wp2_with fail;refine(U _ V.out).mono ?_;rintro e w5 ⟨rfl,z⟩;have Y:Hid _:=z;clear z)
  |(go_region_held3 (fun w'=>True) (exact trivial) (first
   |(go_at_call 165;refine(O _).mono ?_;rintro e w4 ⟨rfl,rfl⟩)
   |(go_at_call 238;refine(U _ (dH.drew V.out)).mono ?_;rintro e w5 ⟨rfl,z⟩;have Y:Hid _:=z;clear z)))
 go_wp2
 go_end0
 exact⟨rfl,Y.out⟩
theorem Kk (G:Nat) (n I pl:Int) (h:gj w p vs E fl s) (Y:s.st.length≤4000) (Z:s.st.getLast?.getD 0=r) (U:s.st.dropLast.getLast?.getD 0=l) (V:∀w,Calls prog 165 #[Iq l,Iq r] w fun e w'=>e= .returned (Iq x)∧w'=w):
 Calls prog 197 #[Pq p,fI G n I pl] w fun e w'=>e= .returned (.tuple #[])∧dH w w' p vs E fl {s with st:=s.st.dropLast.dropLast++[x]}:=by
 obtain⟨J,D,O⟩:∃J,w.alloc (.cells #[Iq G,Iq n,Iq I,Iq pl] 247)=J∧pH w J p vs E fl s (mh G n I pl):=⟨_,rfl,pH.of h _⟩;unfold fI;have H:=Hi O;have R:=Ex O.out0 Y Z U V;unfold pw at R;have HW:=Hi D;clear h O D V;go_enter func197,ntmps197;go_wp2_with fail;rw[HW.out];apply R.mono;rintro e w2 ⟨rfl,z⟩;have HU:=Hi z;clear z R
 go_wp2
 go_end0
 exact⟨rfl,H.out.out _ _ HU.out⟩
theorem Aq (h:dH w w p vs E fl s) (hl:s.st.length≤4000) (J:s.st.getLast?.getD 0=r) (I:s.st.dropLast.getLast?.getD 0=l) (O:∀w,Calls prog 166 #[Iq l,Iq r] w fun e w'=>e= .returned (Iq x)∧w'=w):
 Calls prog 240 #[Pq p,pw 166] w fun e w'=>e= .returned (.tuple #[])∧dH w w' p vs E fl {s with st:=s.st.dropLast.dropLast++[x]}:=by
 unfold pw;have R:=h.drew.pop (by omega)
 rw[J] at R;have Z:∀W,dH w W p vs E fl {s with st:=s.st.dropLast}→Calls prog 239 #[Pq p] W fun e w'=>e= .returned (Iq l)∧dH w w' p vs E fl {s with st:=s.st.dropLast.dropLast}:=fun W h=>by
  have:=h.pop (by simp;omega)
  simp only[I] at this;exact this
 have U:∀W,dH w W p vs E fl {s with st:=s.st.dropLast.dropLast}→Calls prog 238 #[Pq p,Iq x] W fun e w'=>e= .returned (.tuple #[])∧dH w w' p vs E fl {s with st:=s.st.dropLast.dropLast++[x]}:=fun W h=>h.push x (by simp;omega)
 go_enter func240,ntmps240;go_wp2
 go_region_held3 (fun w'=>True) (exact trivial)
  (first
   |(go_at_call 239;refine(Z _ (by assumption)).mono ?_;rintro e w3 ⟨rfl,D⟩)
   |(go_at_call 239;refine R.mono ?_;rintro e w2 ⟨rfl,G⟩))
 have V:=Hi D;go_wp2
 first
  |(refine(O _).mono ?_;rintro e w4 ⟨rfl,rfl⟩;go_wp2_with fail;refine(U _ V.out).mono ?_;rintro e w5 ⟨rfl,z⟩;have Y:Hid _:=z;clear z)
  |(go_region_held3 (fun w'=>True) (exact trivial) (first
   |(go_at_call 166;refine(O _).mono ?_;rintro e w4 ⟨rfl,rfl⟩)
   |(go_at_call 238;refine(U _ (dH.drew V.out)).mono ?_;rintro e w5 ⟨rfl,z⟩;have Y:Hid _:=z;clear z)))
 go_wp2
 go_end0
 exact⟨rfl,Y.out⟩
theorem Ey (G:Nat) (n I pl:Int) (h:gj w p vs E fl s) (Y:s.st.length≤4000) (Z:s.st.getLast?.getD 0=r) (U:s.st.dropLast.getLast?.getD 0=l) (V:∀w,Calls prog 166 #[Iq l,Iq r] w fun e w'=>e= .returned (Iq x)∧w'=w):
 Calls prog 198 #[Pq p,fI G n I pl] w fun e w'=>e= .returned (.tuple #[])∧dH w w' p vs E fl {s with st:=s.st.dropLast.dropLast++[x]}:=by
 obtain⟨J,D,O⟩:∃J,w.alloc (.cells #[Iq G,Iq n,Iq I,Iq pl] 247)=J∧pH w J p vs E fl s (mh G n I pl):=⟨_,rfl,pH.of h _⟩;unfold fI;have H:=Hi O;have R:=Aq O.out0 Y Z U V;unfold pw at R;have HW:=Hi D;clear h O D V;go_enter func198,ntmps198;go_wp2_with fail;rw[HW.out];apply R.mono;rintro e w2 ⟨rfl,z⟩;have HU:=Hi z;clear z R
 go_wp2
 go_end0
 exact⟨rfl,H.out.out _ _ HU.out⟩
theorem CC (h:dH w w p vs E fl s) (hl:s.st.length≤4000) (J:s.st.getLast?.getD 0=r) (I:s.st.dropLast.getLast?.getD 0=l) (O:∀w,Calls prog 167 #[Iq l,Iq r] w fun e w'=>e= .returned (Iq x)∧w'=w):
 Calls prog 240 #[Pq p,pw 167] w fun e w'=>e= .returned (.tuple #[])∧dH w w' p vs E fl {s with st:=s.st.dropLast.dropLast++[x]}:=by
 unfold pw;have R:=h.drew.pop (by omega)
 rw[J] at R;have Z:∀W,dH w W p vs E fl {s with st:=s.st.dropLast}→Calls prog 239 #[Pq p] W fun e w'=>e= .returned (Iq l)∧dH w w' p vs E fl {s with st:=s.st.dropLast.dropLast}:=fun W h=>by
  have:=h.pop (by simp;omega)
  simp only[I] at this;exact this
 have U:∀W,dH w W p vs E fl {s with st:=s.st.dropLast.dropLast}→Calls prog 238 #[Pq p,Iq x] W fun e w'=>e= .returned (.tuple #[])∧dH w w' p vs E fl {s with st:=s.st.dropLast.dropLast++[x]}:=fun W h=>h.push x (by simp;omega)
 go_enter func240,ntmps240;go_wp2
 go_region_held3 (fun w'=>True) (exact trivial)
  (first
   |(go_at_call 239;refine(Z _ (by assumption)).mono ?_;rintro e w3 ⟨rfl,D⟩)
   |(go_at_call 239;refine R.mono ?_;rintro e w2 ⟨rfl,G⟩))
 have V:=Hi D;go_wp2
 first
  |(refine(O _).mono ?_;rintro e w4 ⟨rfl,rfl⟩;go_wp2_with fail;refine(U _ V.out).mono ?_;rintro e w5 ⟨rfl,z⟩;have Y:Hid _:=z;clear z)
  |(go_region_held3 (fun w'=>True) (exact trivial) (first
   |(go_at_call 167;refine(O _).mono ?_;rintro e w4 ⟨rfl,rfl⟩)
   |(go_at_call 238;refine(U _ (dH.drew V.out)).mono ?_;rintro e w5 ⟨rfl,z⟩;have Y:Hid _:=z;clear z)))
 go_wp2
 go_end0
 exact⟨rfl,Y.out⟩
theorem Hx (G:Nat) (n I pl:Int) (h:gj w p vs E fl s) (Y:s.st.length≤4000) (Z:s.st.getLast?.getD 0=r) (U:s.st.dropLast.getLast?.getD 0=l) (V:∀w,Calls prog 167 #[Iq l,Iq r] w fun e w'=>e= .returned (Iq x)∧w'=w):
 Calls prog 199 #[Pq p,fI G n I pl] w fun e w'=>e= .returned (.tuple #[])∧dH w w' p vs E fl {s with st:=s.st.dropLast.dropLast++[x]}:=by
 obtain⟨J,D,O⟩:∃J,w.alloc (.cells #[Iq G,Iq n,Iq I,Iq pl] 247)=J∧pH w J p vs E fl s (mh G n I pl):=⟨_,rfl,pH.of h _⟩;unfold fI;have H:=Hi O;have R:=CC O.out0 Y Z U V;unfold pw at R;have HW:=Hi D;clear h O D V;go_enter func199,ntmps199;go_wp2_with fail;rw[HW.out];apply R.mono;rintro e w2 ⟨rfl,z⟩;have HU:=Hi z;clear z R
 go_wp2
 go_end0
 exact⟨rfl,H.out.out _ _ HU.out⟩
theorem yp (h:dH w w p vs E fl s) (hl:s.st.length≤4000) (J:s.st.getLast?.getD 0=r) (I:s.st.dropLast.getLast?.getD 0=l) (O:∀w,Calls prog 168 #[Iq l,Iq r] w fun e w'=>e= .returned (Iq x)∧w'=w):
 Calls prog 240 #[Pq p,pw 168] w fun e w'=>e= .returned (.tuple #[])∧dH w w' p vs E fl {s with st:=s.st.dropLast.dropLast++[x]}:=by
 unfold pw;have R:=h.drew.pop (by omega)
 rw[J] at R;have Z:∀W,dH w W p vs E fl {s with st:=s.st.dropLast}→Calls prog 239 #[Pq p] W fun e w'=>e= .returned (Iq l)∧dH w w' p vs E fl {s with st:=s.st.dropLast.dropLast}:=fun W h=>by
  have:=h.pop (by simp;omega)
  simp only[I] at this;exact this
 have U:∀W,dH w W p vs E fl {s with st:=s.st.dropLast.dropLast}→Calls prog 238 #[Pq p,Iq x] W fun e w'=>e= .returned (.tuple #[])∧dH w w' p vs E fl {s with st:=s.st.dropLast.dropLast++[x]}:=fun W h=>h.push x (by simp;omega)
 go_enter func240,ntmps240;go_wp2
 go_region_held3 (fun w'=>True) (exact trivial)
  (first
   |(go_at_call 239;refine(Z _ (by assumption)).mono ?_;rintro e w3 ⟨rfl,D⟩)
   |(go_at_call 239;refine R.mono ?_;rintro e w2 ⟨rfl,G⟩))
 have V:=Hi D;go_wp2
 first
  |(refine(O _).mono ?_;rintro e w4 ⟨rfl,rfl⟩;go_wp2_with fail;refine(U _ V.out).mono ?_;rintro e w5 ⟨rfl,z⟩;have Y:Hid _:=z;clear z)
  |(go_region_held3 (fun w'=>True) (exact trivial) (first
   |(go_at_call 168;refine(O _).mono ?_;rintro e w4 ⟨rfl,rfl⟩)
   |(go_at_call 238;refine(U _ (dH.drew V.out)).mono ?_;rintro e w5 ⟨rfl,z⟩;have Y:Hid _:=z;clear z)))
 go_wp2
 go_end0
 exact⟨rfl,Y.out⟩
theorem CD (G:Nat) (n I pl:Int) (h:gj w p vs E fl s) (Y:s.st.length≤4000) (Z:s.st.getLast?.getD 0=r) (U:s.st.dropLast.getLast?.getD 0=l) (V:∀w,Calls prog 168 #[Iq l,Iq r] w fun e w'=>e= .returned (Iq x)∧w'=w):
 Calls prog 200 #[Pq p,fI G n I pl] w fun e w'=>e= .returned (.tuple #[])∧dH w w' p vs E fl {s with st:=s.st.dropLast.dropLast++[x]}:=by
 obtain⟨J,D,O⟩:∃J,w.alloc (.cells #[Iq G,Iq n,Iq I,Iq pl] 247)=J∧pH w J p vs E fl s (mh G n I pl):=⟨_,rfl,pH.of h _⟩;unfold fI;have H:=Hi O;have R:=yp O.out0 Y Z U V;unfold pw at R;have HW:=Hi D;clear h O D V;go_enter func200,ntmps200;go_wp2_with fail;rw[HW.out];apply R.mono;rintro e w2 ⟨rfl,z⟩;have HU:=Hi z;clear z R
 go_wp2
 go_end0
 exact⟨rfl,H.out.out _ _ HU.out⟩
theorem Ez (h:dH w w p vs E fl s) (hl:s.st.length≤4000) (J:s.st.getLast?.getD 0=r) (I:s.st.dropLast.getLast?.getD 0=l) (O:∀w,Calls prog 169 #[Iq l,Iq r] w fun e w'=>e= .returned (Iq x)∧w'=w):
 Calls prog 240 #[Pq p,pw 169] w fun e w'=>e= .returned (.tuple #[])∧dH w w' p vs E fl {s with st:=s.st.dropLast.dropLast++[x]}:=by
 unfold pw;have R:=h.drew.pop (by omega)
 rw[J] at R;have Z:∀W,dH w W p vs E fl {s with st:=s.st.dropLast}→Calls prog 239 #[Pq p] W fun e w'=>e= .returned (Iq l)∧dH w w' p vs E fl {s with st:=s.st.dropLast.dropLast}:=fun W h=>by
  have:=h.pop (by simp;omega)
  simp only[I] at this;exact this
 have U:∀W,dH w W p vs E fl {s with st:=s.st.dropLast.dropLast}→Calls prog 238 #[Pq p,Iq x] W fun e w'=>e= .returned (.tuple #[])∧dH w w' p vs E fl {s with st:=s.st.dropLast.dropLast++[x]}:=fun W h=>h.push x (by simp;omega)
 go_enter func240,ntmps240;go_wp2
 go_region_held3 (fun w'=>True) (exact trivial)
  (first
   |(go_at_call 239;refine(Z _ (by assumption)).mono ?_;rintro e w3 ⟨rfl,D⟩)
   |(go_at_call 239;refine R.mono ?_;rintro e w2 ⟨rfl,G⟩))
 have V:=Hi D;go_wp2
 first
  |(refine(O _).mono ?_;rintro e w4 ⟨rfl,rfl⟩;go_wp2_with fail;refine(U _ V.out).mono ?_;rintro e w5 ⟨rfl,z⟩;have Y:Hid _:=z;clear z)
  |(go_region_held3 (fun w'=>True) (exact trivial) (first
   |(go_at_call 169;refine(O _).mono ?_;rintro e w4 ⟨rfl,rfl⟩)
   |(go_at_call 238;refine(U _ (dH.drew V.out)).mono ?_;rintro e w5 ⟨rfl,z⟩;have Y:Hid _:=z;clear z)))
 go_wp2
 go_end0
 exact⟨rfl,Y.out⟩
theorem Kl (G:Nat) (n I pl:Int) (h:gj w p vs E fl s) (Y:s.st.length≤4000) (Z:s.st.getLast?.getD 0=r) (U:s.st.dropLast.getLast?.getD 0=l) (V:∀w,Calls prog 169 #[Iq l,Iq r] w fun e w'=>e= .returned (Iq x)∧w'=w):
 Calls prog 202 #[Pq p,fI G n I pl] w fun e w'=>e= .returned (.tuple #[])∧dH w w' p vs E fl {s with st:=s.st.dropLast.dropLast++[x]}:=by
 obtain⟨J,D,O⟩:∃J,w.alloc (.cells #[Iq G,Iq n,Iq I,Iq pl] 247)=J∧pH w J p vs E fl s (mh G n I pl):=⟨_,rfl,pH.of h _⟩;unfold fI;have H:=Hi O;have R:=Ez O.out0 Y Z U V;unfold pw at R;have HW:=Hi D;clear h O D V;go_enter func202,ntmps202;go_wp2_with fail;rw[HW.out];apply R.mono;rintro e w2 ⟨rfl,z⟩;have HU:=Hi z;clear z R
 go_wp2
 go_end0
 exact⟨rfl,H.out.out _ _ HU.out⟩
theorem Hy (h:dH w w p vs E fl s) (hl:s.st.length≤4000) (J:s.st.getLast?.getD 0=r) (I:s.st.dropLast.getLast?.getD 0=l) (O:∀w,Calls prog 170 #[Iq l,Iq r] w fun e w'=>e= .returned (Iq x)∧w'=w):
 Calls prog 240 #[Pq p,pw 170] w fun e w'=>e= .returned (.tuple #[])∧dH w w' p vs E fl {s with st:=s.st.dropLast.dropLast++[x]}:=by
 unfold pw;have R:=h.drew.pop (by omega)
 rw[J] at R;have Z:∀W,dH w W p vs E fl {s with st:=s.st.dropLast}→Calls prog 239 #[Pq p] W fun e w'=>e= .returned (Iq l)∧dH w w' p vs E fl {s with st:=s.st.dropLast.dropLast}:=fun W h=>by
  have:=h.pop (by simp;omega)
  simp only[I] at this;exact this
 have U:∀W,dH w W p vs E fl {s with st:=s.st.dropLast.dropLast}→Calls prog 238 #[Pq p,Iq x] W fun e w'=>e= .returned (.tuple #[])∧dH w w' p vs E fl {s with st:=s.st.dropLast.dropLast++[x]}:=fun W h=>h.push x (by simp;omega)
 go_enter func240,ntmps240;go_wp2
 go_region_held3 (fun w'=>True) (exact trivial)
  (first
   |(go_at_call 239;refine(Z _ (by assumption)).mono ?_;rintro e w3 ⟨rfl,D⟩)
   |(go_at_call 239;refine R.mono ?_;rintro e w2 ⟨rfl,G⟩))
 have V:=Hi D;go_wp2
 first
  |(refine(O _).mono ?_;rintro e w4 ⟨rfl,rfl⟩;go_wp2_with fail;refine(U _ V.out).mono ?_;rintro e w5 ⟨rfl,z⟩;have Y:Hid _:=z;clear z)
  |(go_region_held3 (fun w'=>True) (exact trivial) (first
   |(go_at_call 170;refine(O _).mono ?_;rintro e w4 ⟨rfl,rfl⟩)
   |(go_at_call 238;refine(U _ (dH.drew V.out)).mono ?_;rintro e w5 ⟨rfl,z⟩;have Y:Hid _:=z;clear z)))
 go_wp2
 go_end0
 exact⟨rfl,Y.out⟩
theorem Ma (G:Nat) (n I pl:Int) (h:gj w p vs E fl s) (Y:s.st.length≤4000) (Z:s.st.getLast?.getD 0=r) (U:s.st.dropLast.getLast?.getD 0=l) (V:∀w,Calls prog 170 #[Iq l,Iq r] w fun e w'=>e= .returned (Iq x)∧w'=w):
 Calls prog 203 #[Pq p,fI G n I pl] w fun e w'=>e= .returned (.tuple #[])∧dH w w' p vs E fl {s with st:=s.st.dropLast.dropLast++[x]}:=by
 obtain⟨J,D,O⟩:∃J,w.alloc (.cells #[Iq G,Iq n,Iq I,Iq pl] 247)=J∧pH w J p vs E fl s (mh G n I pl):=⟨_,rfl,pH.of h _⟩;unfold fI;have H:=Hi O;have R:=Hy O.out0 Y Z U V;unfold pw at R;have HW:=Hi D;clear h O D V;go_enter func203,ntmps203;go_wp2_with fail;rw[HW.out];apply R.mono;rintro e w2 ⟨rfl,z⟩;have HU:=Hi z;clear z R
 go_wp2
 go_end0
 exact⟨rfl,H.out.out _ _ HU.out⟩
theorem Km (J:Nat) (n O pl:Int) (h:gj w p vs z fl s) (hl:s.st.length≤4000) (U:s.st.getLast?.getD 0=r) (Y:∀w,Calls prog 125 #[Iq r] w fun e w'=>e= .returned (Iq x)∧w'=w):
 Calls prog 201 #[Pq p,fI J n O pl] w fun e w'=>e= .returned (.tuple #[])∧dH w w' p vs z fl {s with st:=s.st.dropLast++[x]}:=by
 obtain⟨D,I,R⟩:∃D,w.alloc (.cells #[Iq J,Iq n,Iq O,Iq pl] 247)=D∧pH w D p vs z fl s (mh J n O pl):=⟨_,rfl,pH.of h _⟩;unfold fI;have H:=Hi R;have V:=R.out0.drew.pop (by omega)
 rw[U] at V;have Z:∀W,dH D W p vs z fl {s with st:=s.st.dropLast}→Calls prog 238 #[Pq p,Iq x] W fun e w'=>e= .returned (.tuple #[])∧dH D w' p vs z fl {s with st:=s.st.dropLast++[x]}:=fun W h=>h.push x (by simp;omega)
 have HW:=Hi I;clear h R I U;go_enter func201,ntmps201;go_wp2;rw[HW.out]
 go_region_held3 (fun w'=>True) (exact trivial)
  (first
   |(go_at_call 125;refine(Y _).mono ?_;rintro e w4 ⟨rfl,rfl⟩)
   |(go_at_call 238;refine(Z _ (by assumption)).mono ?_;rintro e w5 ⟨rfl,E⟩)
   |(go_at_call 239;refine V.mono ?_;rintro e w2 ⟨rfl,G⟩))
 have HV:=Hi E;clear E G
 go_end0
 exact⟨rfl,H.out.out _ _ HV.out⟩
theorem zi (R:Nat) (n E pl:Int) (h:dH w w p vs D fl s):
 Calls prog 205 #[Pq p,fI R n E pl] w fun e w'=>e= .returned (.tuple #[])∧dH w w' p vs D fl {s with next:=E}:=by
 have hm:∃z,gj w p z D fl s∧(∀b,fq p z D b→fq p vs D b∨w.heap.size≤b):=by obtain⟨z,I,_,h3⟩:=h;exact⟨z,I,h3⟩
 obtain⟨z,I,h3⟩:=hm;obtain⟨J,O,G⟩:∃J,w.alloc (.cells #[Iq R,Iq n,Iq E,Iq pl] 247)=J∧pH w J p z D fl s (mh R n E pl):=⟨_,rfl,pH.of I _⟩;unfold fI;obtain⟨c0,c1,c2,c3⟩:=G.after G.out0;obtain⟨V,aa,ab,ac,ad,Y⟩:=G.out0.cells;have U:=Y 11;have HA:Hid (dH w (J.setCell ⟨p,11,none⟩ (Iq E)) p vs D fl {s with next:=E}):=
  dH.then (dt.refl _ w) h3 (G.out _ _ (G.out0.put 11 (Iq E) (fun _ _=>rfl) rfl rfl))
 have Z:=Hi O;clear h I h3 G O Y;rw[←Z.out] at c2 V U;go_enter func205,ntmps205;go_wp2;rw[Z.out]
 go_end0
 exact⟨rfl,HA.out⟩
theorem EA (G:Nat) (n D pl:Int) (h:gj w p vs E fl s) (hl:s.st.length≤4000):
 Calls prog 204 #[Pq p,fI G n D pl] w fun e w'=>e= .returned (.tuple #[])∧dH w w' p vs E fl {s with st:=s.st.dropLast,next:=if s.st.getLast?.getD 0=0 then D else s.next}:=by
 obtain⟨I,Z,U⟩:∃I,w.alloc (.cells #[Iq G,Iq n,Iq D,Iq pl] 247)=I∧pH w I p vs E fl s (mh G n D pl):=⟨_,rfl,pH.of h _⟩;unfold fI;have H:=Hi U;have W1:=U.out0.pop (by omega)
 generalize s.st.getLast?.getD 0=r at*;obtain⟨V,O⟩:∃V,(if r=0 then D else s.next)=V:=⟨_,rfl⟩
 rw[O];have R:=Hi O;clear O;have W2:∀W,dH I W p vs E fl {s with st:=s.st.dropLast}→Calls prog 205 #[Pq p,.agg #[Iq G,Iq n,Iq D,Iq pl]] W fun e w'=>e= .returned (.tuple #[])∧dH I w' p vs E fl {s with st:=s.st.dropLast,next:=D}:=fun W h=>by
  obtain⟨aa,h1,h2,h3⟩:=h;have:=zi G n D pl (dH.refl h1);unfold fI at this;apply this.mono;rintro e w' ⟨rfl,ho⟩;exact⟨rfl,dH.then h2 h3 ho⟩
 have HK:Hid (∀J s',dH I J p vs E fl s'→Cq J w.heap.size 0 (Iq G)∧Cq J w.heap.size 1 (Iq n)∧Cq J w.heap.size 2 (Iq D)∧Cq J w.heap.size 3 (Iq pl)):=fun J _ h=>U.after h
 have HW:=Hi Z;clear h U Z
 by_cases Y:r=0
 ·subst Y
  obtain rfl:V=D:=by rw[←R.out,Zu rfl]
  go_enter func204,ntmps204;go_wp2_with fail;rw[HW.out];apply W1.mono;rintro e w2 ⟨rfl,z⟩;obtain⟨c0,c1,c2,c3⟩:=HK.out _ _ z;have HU:=Hi z;clear z;go_wp2_with fail;apply(W2 _ HU.out).mono;rintro e w3 ⟨rfl,z⟩;have HV:=Hi z;clear z
  go_wp2
  go_end0
  exact⟨rfl,H.out.out _ _ HV.out⟩
 ·have ab:(r==0)=false:=by simpa using Y
  obtain rfl:V=s.next:=by rw[←R.out,Zt Y]
  clear Y R;go_enter func204,ntmps204;go_wp2_with fail;rw[HW.out];apply W1.mono;rintro e w2 ⟨rfl,z⟩;have HU:=Hi z;clear z
  go_wp2
  go_end0
  exact⟨rfl,H.out.out _ _ HU.out⟩
theorem tK (b:Bool) (V:Nat) (n Y pl:Int) (h:dH w w p vs E fl s):
 Calls prog 241 #[Pq p,.bool b,fI V n Y pl] w fun e w'=>e= .returned (.tuple #[])∧dH w w' p vs E fl {s with al:=b,ru:=n,ended:=true}:=by
 have hm:∃D,gj w p D E fl s∧(∀b,fq p D E b→fq p vs E b∨w.heap.size≤b):=by obtain⟨D,I,_,h3⟩:=h;exact⟨D,I,h3⟩
 obtain⟨D,I,h3⟩:=hm;obtain⟨z,R,G⟩:∃z,w.alloc (.cells #[Iq V,Iq n,Iq Y,Iq pl] 247)=z∧pH w z p D E fl s (mh V n Y pl):=⟨_,rfl,pH.of I _⟩;unfold fI;obtain⟨c0,c1,c2,c3⟩:=G.after G.out0;obtain⟨ah,aa,ai,ab,aj,J⟩:=G.out0.cells;have Z:=J 12;have ad:=J 13;have ae:=J 14;have hg:w.heap.size≠p:=fun e=>by have:=G.far p (.inl rfl);omega
 have HA:Hid (dH w (((z.setCell ⟨p,13,none⟩ (.bool b)).setCell ⟨p,14,none⟩ (Iq n)).drew.setCell ⟨p,12,none⟩ (.bool true)) p vs E fl {s with al:=b,ru:=n,ended:=true}):=
  dH.then (dt.refl _ w) h3 (G.out _ _ (((G.out0.put (s':={s with al:=b}) 13 (.bool b) (fun _ _=>rfl) rfl rfl).put (s':={s with al:=b,ru:=n}) 14 (Iq n) (fun _ _=>rfl) rfl rfl).drew.put (s':={s with al:=b,ru:=n,ended:=true}) 12 (.bool true) (fun _ _=>rfl) rfl rfl))
 have HW:=Hi R;have ac:∀v,(z.setCell ⟨p,13,none⟩ v).cell? ⟨p,14,none⟩=some (Iq s.ru):=fun v=>by rw[dU _ _ _ _ _ (by decide)];exact ab
 have U:∀v u,((z.setCell ⟨p,13,none⟩ v).setCell ⟨p,14,none⟩ u).cell? ⟨p,12,none⟩=some (.bool s.ended):=fun v u=>by rw[dU _ _ _ _ _ (by decide),dU _ _ _ _ _ (by decide)];exact aa
 have O:Hid (∀(W:World) (o:Nat) (v:Value),W.cell? ⟨w.heap.size,1,none⟩=some (Iq n)→(W.setCell ⟨p,o,none⟩ v).cell? ⟨w.heap.size,1,none⟩=some (Iq n)):=fun W o v hS=>by rw[World.cell?_setCell_far _ _ _ _ (by simpa using fun e=>hg e.symm)];exact hS
 clear h I h3 G R J;go_enter func241,ntmps241;go_wp2_with fail;rw[HW.out]
 go_region_held3 (fun W=>W.cell? ⟨w.heap.size,1,none⟩=some (Iq n)) (first|with_reducible assumption|exact O.out z 13 _ c1|exact O.out _ 14 _ (O.out z 13 _ c1)|go_keep) (fail)
 rename_i hHeld
 clear hHeld O;have af:=U (.bool b) (Iq n);have ag:((z.setCell ⟨p,13,none⟩ (.bool b)).setCell ⟨p,14,none⟩ (Iq n)).frozen? ⟨p,12,none⟩=false:=by simpa using Z
 clear U ac;generalize ak:(z.setCell ⟨p,13,none⟩ (.bool b)).setCell ⟨p,14,none⟩ (Iq n)=ww at*
 go_wp2
 go_end0
 exact⟨rfl,HA.out⟩
theorem EB (D:Nat) (n E pl:Int) (h:gj w p vs O fl s):
 Calls prog 206 #[Pq p,fI D n E pl] w fun e w'=>e= .returned (.tuple #[])∧dH w w' p vs O fl {s with al:=true,ru:=n,ended:=true}:=by
 obtain⟨J,G,z⟩:∃J,w.alloc (.cells #[Iq D,Iq n,Iq E,Iq pl] 247)=J∧pH w J p vs O fl s (mh D n E pl):=⟨_,rfl,pH.of h _⟩;have R:=tK true D n E pl z.out0;have V:=tK (w:=J.drew) true D n E pl (dH.refl (by obtain⟨Z,hm,_,_⟩:=z.out0;exact(h.only (by rw[←G];exact(dt.refl (fun _=>False) w).alloc _) (fun _ _ h=>h)).drew))
 unfold fI at*;have H:=Hi z;obtain⟨c0,c1,c2,c3⟩:=z.after z.out0;have U:=Hi G;clear h z G;rw[←U.out] at c0 c1 c2 c3;go_enter func206,ntmps206;go_wp2_with fail;rw[U.out];apply R.mono;rintro e w2 ⟨rfl,I⟩;have Y:=Hi I;clear I R V
 go_wp2
 go_end0
 exact⟨rfl,H.out.out _ _ Y.out⟩
theorem Hz (D:Nat) (n E pl:Int) (h:gj w p vs O fl s):
 Calls prog 207 #[Pq p,fI D n E pl] w fun e w'=>e= .returned (.tuple #[])∧dH w w' p vs O fl {s with al:=false,ru:=n,ended:=true}:=by
 obtain⟨J,G,z⟩:∃J,w.alloc (.cells #[Iq D,Iq n,Iq E,Iq pl] 247)=J∧pH w J p vs O fl s (mh D n E pl):=⟨_,rfl,pH.of h _⟩;have R:=tK false D n E pl z.out0;have V:=tK (w:=J.drew) false D n E pl (dH.refl (by obtain⟨Z,hm,_,_⟩:=z.out0;exact(h.only (by rw[←G];exact(dt.refl (fun _=>False) w).alloc _) (fun _ _ h=>h)).drew))
 unfold fI at*;have H:=Hi z;obtain⟨c0,c1,c2,c3⟩:=z.after z.out0;have U:=Hi G;clear h z G;rw[←U.out] at c0 c1 c2 c3;go_enter func207,ntmps207;go_wp2_with fail;rw[U.out];apply R.mono;rintro e w2 ⟨rfl,I⟩;have Y:=Hi I;clear I R V
 go_wp2
 go_end0
 exact⟨rfl,H.out.out _ _ Y.out⟩
def MN (z:Nat):Nat:=[0,192,192,192,193,194,195,196,197,198,199,200,201,202,203,204,205,206,207].getD z 0
theorem Nt {z:Nat} (h:1≤z∧z≤18):AJ[z]?=some (.func (.func (MN z)) #[] #[]):=by
 have e:z=1∨z=2∨z=3∨z=4∨z=5∨z=6∨z=7∨z=8∨z=9∨z=10∨z=11∨z=12∨z=13∨z=14∨z=15∨z=16∨z=17∨z=18:=by omega
 rcases e with rfl|rfl|rfl|rfl|rfl|rfl|rfl|rfl|rfl|rfl|rfl|rfl|rfl|rfl|rfl|rfl|rfl|rfl<;>rfl
theorem fN (v:Int) (r:List Int):(v::r).reverse.getLast?.getD 0=v:=by simp
theorem dW (v:Int) (r:List Int):(v::r).reverse.dropLast=r.reverse:=by simp
theorem fZ (v:Int) (r:List Int):r.reverse++[v]=(v::r).reverse:=by simp
theorem H6 {x:hH} {k k':Kn} {cells:Nat} (I:Int) (h:gj w p vs vc fl s) (hx:Jy cells x) (U:yi k cells st cl) (O:gU x.op x.n.toNat k=some k') (hs:s.st=st.reverse) (hc:s.cl=cl) (ad:cells≤256) (hl:st.length≤100) {j:Bool} (E:mW fl x st cl=some (st',cl',j)) (ae: ¬(x.op=17∨x.op=18)):
 Calls prog (MN x.op) #[Pq p,fI x.op x.n I (x.pl:Nat)] w fun e w'=>e= .returned (.tuple #[])∧dH w w' p vs vc fl {s with st:=st'.reverse,cl:=cl',next:=if j then I else s.next}:=by
 obtain⟨J,n,pl⟩:=x;obtain⟨aj,D,Z,af,ag,ah,ab⟩:=s;simp only[] at hs hc O ae⊢;subst hs hc;have G:({st:=st.reverse,cl:=D,next:=Z,ended:=af,al:=ag,ru:=ah,stp:=ab}:MS).st.length≤4000:=by simp;omega
 have e:J=1∨J=2∨J=3∨J=4∨J=5∨J=6∨J=7∨J=8∨J=9∨J=10∨J=11∨J=12∨J=13∨J=14∨J=15∨J=16:=by have:1≤J∧J≤18:=hx.op;omega
 have two:∀{t u:Nat} {more:List Nat},lE [t,u] more k=some k'→ ∃b a r,st=b::a::r∧qc t b∧qc u a:=fun{t u more} he=>by
  obtain⟨e1,_⟩:=lV he;have V:=U.typ;rw[e1] at V;obtain⟨b,r1,rfl,h1,h2⟩:=j7.cons V;obtain⟨a,r2,rfl,h3,_⟩:=j7.cons h2;exact⟨b,a,r2,rfl,h1,h3⟩
 have one:∀{t:Nat} {more:List Nat},lE [t] more k=some k'→ ∃b r,st=b::r∧qc t b:=fun{t more} he=>by
  obtain⟨e1,_⟩:=lV he;have V:=U.typ;rw[e1] at V;obtain⟨b,r1,rfl,h1,_⟩:=j7.cons V;exact⟨b,r1,rfl,h1⟩
 rcases e with rfl|rfl|rfl|rfl|rfl|rfl|rfl|rfl|rfl|rfl|rfl|rfl|rfl|rfl|rfl|rfl
 ·obtain⟨rfl,rfl,rfl⟩:st'=n::st∧cl'=D∧j=false:=by have:some (n::st,D,false)=some (st',cl',j):=E;simp at this;exact⟨this.1.symm,this.2.1.symm,this.2.2⟩
  have:=xF 1 n I (pl:Nat) h G;rw[fZ] at this;exact this
 ·obtain⟨rfl,rfl,rfl⟩:st'=n::st∧cl'=D∧j=false:=by have:some (n::st,D,false)=some (st',cl',j):=E;simp at this;exact⟨this.1.symm,this.2.1.symm,this.2.2⟩
  have:=xF 2 n I (pl:Nat) h G;rw[fZ] at this;exact this
 ·obtain⟨rfl,rfl,rfl⟩:st'=n::st∧cl'=D∧j=false:=by have:some (n::st,D,false)=some (st',cl',j):=E;simp at this;exact⟨this.1.symm,this.2.1.symm,this.2.2⟩
  have:=xF 3 n I (pl:Nat) h G;rw[fZ] at this;exact this
 ·obtain⟨rfl,rfl,rfl⟩:st'=fl.getD n.toNat 0::st∧cl'=D∧j=false:=by have:some (fl.getD n.toNat 0::st,D,false)=some (st',cl',j):=E;simp at this;exact⟨this.1.symm,this.2.1.symm,this.2.2⟩
  obtain⟨a1,a2,_⟩:=hx.two rfl;have aa:n≤8:=a2;obtain⟨m,rfl⟩:∃m:Nat,n=m:=⟨n.toNat,by have:0≤n:=a1;omega⟩
  have:=Eu 4 m I (pl:Nat) h G (by omega)
  rw[fZ] at this;exact this
 ·obtain⟨a1,a2,_⟩:=hx.two rfl
  have aa:n≤(cells:Int) - 1:=a2;obtain⟨m,rfl⟩:∃m:Nat,n=m:=⟨n.toNat,by have:0≤n:=a1;omega⟩
  have ac:=U.len
  cases st with
  |nil=>exact absurd E (by simp[mW])
  |cons v r=>
   obtain⟨rfl,rfl,rfl⟩:st'=r∧cl'=D.set m v∧j=false:=by have:some (r,D.set m v,false)=some (st',cl',j):=E;simp at this;exact⟨this.1.symm,this.2.1.symm,this.2.2⟩
   have:=Ki 5 m I (pl:Nat) h G (by simp only[];omega) (by simp only[];omega)
   simp only[] at this;rw[fN,dW] at this;exact this
 ·obtain⟨a1,a2,_⟩:=hx.two rfl
  have aa:n≤(cells:Int) - 1:=a2;obtain⟨m,rfl⟩:∃m:Nat,n=m:=⟨n.toNat,by have:0≤n:=a1;omega⟩
  have ac:=U.len;obtain⟨rfl,rfl,rfl⟩:st'=D.getD m 0::st∧cl'=D∧j=false:=by have:some (D.getD m 0::st,D,false)=some (st',cl',j):=E;simp at this;exact⟨this.1.symm,this.2.1.symm,this.2.2⟩
  have:=Kh 6 m I (pl:Nat) h G (by simp only[];omega) (by simp only[];omega)
  rw[fZ] at this;exact this
 ·obtain⟨b,a,r,rfl,R,Y⟩:=two O
  obtain⟨rfl,rfl,rfl⟩:st'=dM (a+b)::r∧cl'=D∧j=false:=by have:some (dM (a+b)::r,D,false)=some (st',cl',j):=E;simp at this;exact⟨this.1.symm,this.2.1.symm,this.2.2⟩
  have:=Kj 7 n I (pl:Nat) h G (fN b (a::r)) (by simp only[];rw[dW];exact fN a r) (fun w=>Bd Y.1 R.1 w)
  simp only[] at this;rw[dW,dW,fZ] at this;exact this
 ·obtain⟨b,a,r,rfl,R,Y⟩:=two O
  obtain⟨rfl,rfl,rfl⟩:st'=dM (a - b)::r∧cl'=D∧j=false:=by have:some (dM (a - b)::r,D,false)=some (st',cl',j):=E;simp at this;exact⟨this.1.symm,this.2.1.symm,this.2.2⟩
  have:=Kk 8 n I (pl:Nat) h G (fN b (a::r)) (by simp only[];rw[dW];exact fN a r) (fun w=>Be Y.1 R.1 w)
  simp only[] at this;rw[dW,dW,fZ] at this;exact this
 ·have h9:∃b a r,st=b::a::r:=by
   have e9:gU 9 n.toNat k=(match k.st with
    |x::y::r=>if x=y then some ⟨2::r,k.cl⟩ else none
    |_=>none):=rfl
   rw[e9] at O
   split at O
   ·rename_i y z q ai
    have V:=U.typ;rw[ai] at V;obtain⟨b,r1,rfl,h1,h2⟩:=j7.cons V;obtain⟨a,r2,rfl,h3,_⟩:=j7.cons h2;exact⟨b,a,r2,rfl⟩
   ·cases O
  obtain⟨b,a,r,rfl⟩:=h9;obtain⟨rfl,rfl,rfl⟩:st'=dq (a==b)::r∧cl'=D∧j=false:=by have:some (dq (a==b)::r,D,false)=some (st',cl',j):=E;simp only[ZR,ZT] at this;exact⟨this.1.symm,this.2.1.symm,this.2.2.symm⟩
  have:=Ey 9 n I (pl:Nat) h G (fN b (a::r)) (by simp only[];rw[dW];exact fN a r) (fun w=>wC a b w)
  simp only[] at this;rw[dW,dW,fZ] at this;exact this
 ·obtain⟨b,a,r,rfl,R,Y⟩:=two O
  obtain⟨rfl,rfl,rfl⟩:st'=dq (decide (a<b))::r∧cl'=D∧j=false:=by have:some (dq (decide (a<b))::r,D,false)=some (st',cl',j):=E;simp only[ZR,ZT] at this;exact⟨this.1.symm,this.2.1.symm,this.2.2.symm⟩
  have:=Hx 10 n I (pl:Nat) h G (fN b (a::r)) (by simp only[];rw[dW];exact fN a r) (fun w=>yA a b w)
  simp only[] at this;rw[dW,dW,fZ] at this;exact this
 ·obtain⟨b,a,r,rfl,R,Y⟩:=two O
  obtain⟨rfl,rfl,rfl⟩:st'=dq (decide (a≤b))::r∧cl'=D∧j=false:=by have:some (dq (decide (a≤b))::r,D,false)=some (st',cl',j):=E;simp only[ZR,ZT] at this;exact⟨this.1.symm,this.2.1.symm,this.2.2.symm⟩
  have:=CD 11 n I (pl:Nat) h G (fN b (a::r)) (by simp only[];rw[dW];exact fN a r) (fun w=>uV a b w)
  simp only[] at this;rw[dW,dW,fZ] at this;exact this
 ·obtain⟨b,r,rfl,R⟩:=one O
  obtain⟨rfl,rfl,rfl⟩:st'=(1 - b)::r∧cl'=D∧j=false:=by have:some ((1 - b)::r,D,false)=some (st',cl',j):=E;simp only[ZR,ZT] at this;exact⟨this.1.symm,this.2.1.symm,this.2.2.symm⟩
  have:=Km 12 n I (pl:Nat) h G (fN b r) (fun w=>A9 (R.2 rfl) w)
  simp only[] at this;rw[dW,fZ] at this;exact this
 ·obtain⟨b,a,r,rfl,R,Y⟩:=two O
  obtain⟨rfl,rfl,rfl⟩:st'=dq (a==1&&b==1)::r∧cl'=D∧j=false:=by have:some (dq (a==1&&b==1)::r,D,false)=some (st',cl',j):=E;simp only[ZR,ZT] at this;exact⟨this.1.symm,this.2.1.symm,this.2.2.symm⟩
  have:=Kl 13 n I (pl:Nat) h G (fN b (a::r)) (by simp only[];rw[dW];exact fN a r) (fun w=>A8 a b w)
  simp only[] at this;rw[dW,dW,fZ] at this;exact this
 ·obtain⟨b,a,r,rfl,R,Y⟩:=two O
  obtain⟨rfl,rfl,rfl⟩:st'=dq (a==1||b==1)::r∧cl'=D∧j=false:=by have:some (dq (a==1||b==1)::r,D,false)=some (st',cl',j):=E;simp only[ZR,ZT] at this;exact⟨this.1.symm,this.2.1.symm,this.2.2.symm⟩
  have:=Ma 14 n I (pl:Nat) h G (fN b (a::r)) (by simp only[];rw[dW];exact fN a r) (fun w=>Fe a b w)
  simp only[] at this;rw[dW,dW,fZ] at this;exact this
 ·obtain⟨b,r,rfl,R⟩:=one O
  obtain⟨rfl,rfl,rfl⟩:st'=r∧cl'=D∧j=(b==0):=by have:some (r,D,b==0)=some (st',cl',j):=E;simp only[ZR,ZT] at this;exact⟨this.1.symm,this.2.1.symm,this.2.2.symm⟩
  have:=EA 15 n I (pl:Nat) h G;simp only[] at this;rw[fN,dW] at this;have e2:(if b=0 then I else Z)=(if(b==0)=true then I else Z):=by simp
  rw[e2] at this;exact this
 ·obtain⟨rfl,rfl,rfl⟩:st'=st∧cl'=D∧j=true:=by have:some (st,D,true)=some (st',cl',j):=E;simp only[ZR,ZT] at this;exact⟨this.1.symm,this.2.1.symm,this.2.2.symm⟩
  exact zi 16 n I (pl:Nat) (dH.refl h)
end Go.Proofs.YtfkdailfcmnjlaaGreatDoor
