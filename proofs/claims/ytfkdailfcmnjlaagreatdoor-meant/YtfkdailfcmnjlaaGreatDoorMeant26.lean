/-
  A part.
-/
import Derived.Test.YtfkdailfcmnjlaaGreatDoorMeant20
import Derived.Deep.Upon
set_option linter.unusedVariables false
set_option linter.unusedSimpArgs false
set_option maxHeartbeats 40000000
set_option maxRecDepth 1000000
namespace Go.Proofs.YtfkdailfcmnjlaaGreatDoor
open Go Go.RowKit Tryz
attribute [local go_sem ↓] Go.wp_at_zero Go.wp_at_succ
variable {G z I:List Int} {v2 D R:Value}
theorem Mp {w:World} {G:Value} {E:List Int} (I:IR w 3 G E) (U:IR w 3 v2 z) (ai:E.length+z.length≤10000) (ty:TypeId):
 ∃V w',(Builtin.append_ #[38,38] ty #[G,v2]).run prog w= .ok V w'∧IR w' 3 V (E++z)∧dt (fun b=>G.ownBlock=some b) w w'∧ ∀g,V.ownBlock=some g→G.ownBlock=some g∨w.heap.size≤g:=by
 obtain⟨Y,hi,hz⟩:=ZP.1 CK;simp only[ZT] at hz;obtain⟨ad,ae,af⟩:=hz
 by_cases he:z=[]
 ·subst he
  obtain⟨a2,c2,rfl⟩:=U.sl;obtain⟨a1,c1,rfl⟩:=I.sl;have ag:E.length≤c1:=by
   obtain⟨_,Z⟩:=I;rcases Z with⟨e,h0⟩|⟨g,cap,aj,e,_,_,h3,_⟩
   ·simp at e;omega
   ·simp at e;omega
  have hs:Src prog Y.size 38 (.slice a2 0 c2) 0 [] w:=by
   cases a2 with
   |none=>exact Src.ofNil (w:=w) underlying38 c2
   |some a=>exact Src.ofSlice (w:=w) underlying38 a 0 c2 [] (by simp) (fun j u D=>by simp at D) (fun u D=>by simp at D)
  exact⟨_,w,run_append_nothing w 38 38 ty 3 Y underlying38 hi a1 E.length c1 ag _ hs,by rw[aaW];exact I,dt.refl _ _,fun g hg=> .inl hg⟩
 ·have hp:0<z.length:=by
   cases z with
   |nil=>exact absurd rfl he
   |cons x r=>simp
  obtain⟨g2,c2,rfl,ak⟩:=U.form hp;obtain⟨g,cap,w',Z,aa,J,ah,am⟩:=run_append_lies (P:=prog) w 38 ty 0 3 Y _ 1 8 underlying38 hi ad ae af (by rfl) (by decide) G E.length (E.map (Value.int .i64)) I ⟨g2,0,none⟩ z.length c2 (z.map (Value.int .i64)) (by simp) (fun j u D=>by
   have hj:j<z.length:=by
    have:=(Z6.1 D).1
    simpa using this
   have hc:=U.cell hj;rw[Addr.add_mid];simp only[aaq];rw[hc,←D];simp[aaj,Zv hj,Zs]) (fun u D=>by
   obtain⟨x,_,rfl⟩:=aav.1 D
   rfl) hp (by unfold maxLen;omega) (by omega) (ZL _) w.heap.size rfl
  refine⟨_,w',Z,?_,?_,?_⟩
  ·unfold IR
   rw[ZC,aag];exact aa
  ·exact(dt.refl _ w).grown J (fun k hk=> .inl hk)
  ·intro g' O
   simp[Value.ownBlock] at O;subst O;rcases ah with h|h
   ·exact .inl h
   ·right;omega
theorem xR {w:World} {E:Array Oper} {rest:List Oper} {o:Oper} {a:Act} {Q:Exit→Act→World→Prop} (O:o.guard=none) (s x:Operand) (U:o.op= .call {callee:= .builtin .append,args:= #[s,x],argTypes:= #[38,38]})
 (V:a.eval s=D) (Y:a.eval x=R) (Z:IR w 3 D G) (h2:IR w 3 R I) (J:G.length+I.length≤10000)
 (h:∀z w',IR w' 3 z (G++I)→dt (fun b=>D.ownBlock=some b) w w'→(∀g,z.ownBlock=some g→D.ownBlock=some g∨w.heap.size≤g)→wpList prog E Q rest (a.put o.dst z) w'):wpList prog E Q (o::rest) a w:=
 wpList_plain O fun _ hK=>by
  obtain⟨z,w',hr,q1,q2,q3⟩:=Mp Z h2 J o.type;unfold Oper.wp execOp;simp only[U,resolve,invoke,builtin,Sem.run_bind,Sem.run_pure,Result.andThen_ok,List.map_toArray,ZS,aai,V,Y,hr];exact hK _ _ (h z w' q1 q2 q3)
theorem AL.row {F:Nat→Prop} {U w w':World} {lp:Nat} {jmp:Bool} {v:Value} {l:List L3} {dep cells:Nat} (h:AL F U w lp jmp v l dep cells) {I:Value} {V:List Int} (J:IR w 3 I V) (Y:dt (fun b=>I.ownBlock=some b) w w'):lY w' lp jmp v l dep cells:=
 h.at_.only Y (fun b z O=>by
  rcases z with rfl|z
  ·exact J.ne h.at_.blk (by decide) O
  ·obtain⟨cs,Z⟩:=dF h.at_.row z
   exact J.ne Z (by decide) O)
theorem ez.row {w D I:World} {lp:Nat} {jmp:Bool} {v:Value} {l:List L3} {dep cells:Nat} (h:ez w D lp jmp v l dep cells) {E:Value} {V:List Int} (J:IR D 3 E V) (Y:∀g,E.ownBlock=some g→w.heap.size≤g) (O:dt (fun b=>E.ownBlock=some b) D I):ez w I lp jmp v l dep cells:=by
 obtain⟨Z,a1,o1,f1⟩:=h;refine⟨Z,a1.only O (fun b G z=>?_),o1.trans O (fun _ _ h=>h) (fun i hi z=>?_),f1⟩
 ·rcases G with rfl|G
  ·exact J.ne a1.blk (by decide) z
  ·obtain⟨cs,hc⟩:=dF a1.row G
   exact J.ne hc (by decide) z
 ·have:=Y i z;omega
theorem k9 {w:World} {lp:Nat} {jmp:Bool} {v:Value} {l:List L3} {dep cells:Nat} (h:lY w lp jmp v l dep cells) (V:l.length≤5000) (z:Bool):
 Calls prog 182 #[Pq lp,.bool z] w fun e w'=> ∃jv,e= .returned jv∧IR w' 3 jv ((if z then[l.length] else[]).map fun j=>((j:Nat):Int))∧(∀g,jv.ownBlock=some g→w.heap.size≤g)∧ez w w' lp jmp v (l++(if z then[⟨16,0,0⟩] else[])) dep cells:=by
 cases z with
 |false=>
  have I:Hid (ez w w lp jmp v (l++[]) dep cells):=by
   show ez _ _ _ _ _ _ _ _
   rw[aaW];exact ez.refl h
  go_enter func182,ntmps182;go_wp2;go_ret;exact⟨_,rfl,IR.nil _ _,fun g E=>by simp[Value.ownBlock] at E,by first|exact I.out|(have J:=I.out;rw[aaW] at J;exact J)⟩
 |true=>
  have O:=jU 16 0 h V;go_enter func182,ntmps182;go_wp2_with fail;apply O.mono;rintro e R ⟨rfl,D⟩;have U:Hid (ez w R lp jmp v (l++[⟨16,0,0⟩]) dep cells):=D;have Y:=Hi (sC R (l.length:Nat));go_wp2;go_ret;refine⟨_,rfl,Y.out,fun g E=>?_,?_⟩
  ·simp[Value.ownBlock] at E
   obtain⟨_,_,G,_⟩:=U.out;have:=G.size;omega
  ·obtain⟨Z,a1,G,f1⟩:=U.out
   exact⟨Z,⟨(ZE _ _ _ (be a1.blk)).trans a1.blk,a1.row.alloc _⟩,G.alloc _,f1⟩
end Go.Proofs.YtfkdailfcmnjlaaGreatDoor
set_option maxHeartbeats 40000000
set_option maxRecDepth 1000000
namespace Go.Proofs.YtfkdailfcmnjlaaGreatDoor
open Go Go.RowKit Tryz
attribute [local go_sem ↓] Go.wp_at_zero Go.wp_at_succ
structure xS (F:Nat→Prop) (w0 w:World) (v:Value) (wi:World) (lp:Nat) (jmp:Bool) (vi:Value) (li:List L3) (dep cells:Nat):Prop where
 ly:AL F w0 wi lp jmp vi li dep cells
 only:dt (fun b=>b=lp∨v.ownBlock=some b) w wi
 own:∀b,vi.ownBlock=some b→v.ownBlock=some b∨w.heap.size≤b
section
variable {F : Nat → Prop} {w0 w wi wj : World} {v vi : Value} {lp : Nat} {jmp : Bool} {li lj : List L3} {dep cells dj cj : Nat}
theorem xS.start (h:AL F w0 w lp jmp v li dep cells):xS F w0 w v w lp jmp v li dep cells:=⟨h,dt.refl _ _,fun _ h=> .inl h⟩
theorem xS.out (h:xS F w0 w v wi lp jmp vi li dep cells):ez w wi lp jmp v li dep cells:=⟨vi,h.ly.at_,h.only,h.own⟩
theorem xS.next (h:xS F w0 w v wi lp jmp vi li dep cells) (ho:ez wi wj lp jmp vi lj dj cj):
 ∃vj,xS F w0 w v wj lp jmp vj lj dj cj∧(∀{jv:Value} {js:List Int},IR wi 3 jv js→IR wj 3 jv js)∧wi.heap.size≤wj.heap.size:=by
 obtain⟨vj,a1,o1,f1⟩:=ho;have hb:dt F w0 wj:=h.ly.bel.trans o1 (fun _ _ h=>h) (fun k hk0 hk=>by
  rcases hk with rfl|hk
  ·exact h.ly.lp0.resolve_right (by omega)
  ·exact(h.ly.own k hk).resolve_right (by omega))
 refine⟨vj,⟨⟨a1,h.ly.lp0,fun g hg=>?_,hb⟩,h.only.trans o1 (fun _ _ h=>h) (fun i hi hF=>?_),fun b hb'=>?_⟩,fun{jv js} hj=>hj.only o1 (fun g hg hF=>?_),o1.size⟩
 ·rcases f1 g hg with h1|h1
  ·exact h.ly.own g h1
  ·right;have:=h.ly.bel.size;omega
 ·rcases hF with hF|hF
  ·exact .inl hF
  ·rcases h.own i hF with h1|h1
   ·exact .inr h1
   ·omega
 ·rcases f1 b hb' with h1|h1
  ·exact h.own b h1
  ·right;have:=h.only.size;omega
 ·rcases hF with rfl|hF
  ·exact hj.ne h.ly.at_.blk (by decide) hg
  ·obtain⟨cs,hc⟩:=dF h.ly.at_.row hF
   exact hj.ne hc (by decide) hg
theorem xS.row (h:xS F w0 w v wi lp jmp vi li dep cells) {v1:Value} {l1:List Int} (h1:IR wi 3 v1 l1) (hn:∀g,v1.ownBlock=some g→w.heap.size≤g) (hw:w0.heap.size≤w.heap.size) (ho:dt (fun b=>v1.ownBlock=some b) wi wj):xS F w0 w v wj lp jmp vi li dep cells:=by
 refine⟨⟨h.ly.row h1 ho,h.ly.lp0,h.ly.own,h.ly.bel.trans ho (fun _ _ h=>h) (fun k hk0 hk=>by have:=hn k hk;omega)⟩,h.only.trans ho (fun _ _ h=>h) (fun i hi hF=>?_),h.own⟩
 have:=hn i hF;omega
theorem xS.below (h:xS F w0 w v wi lp jmp vi li dep cells) (hb:Below wi.heap.size wi wj):xS F w0 w v wj lp jmp vi li dep cells:=
 ⟨h.ly.below hb,h.only.trans (dt.of_below (F:=fun b=>b=lp∨v.ownBlock=some b) hb) (fun _ _ h=>h) (fun _ _ h=>h),h.own⟩
end
theorem CW {w w':World} {e:TypeId} {v:Value} {l:List Int} (h:IR w e v l) (z:Below w.heap.size w w'):IR w' e v l:=dn h z
theorem Ir {jmp:Bool} {d:Nat} (HJ:sB jmp d) {F:Nat→Prop} {t:Tr} {w0 w:World} {lp b bn dep cells:Nat} {v:Value} {l:List L3} {this:Bool} (hw:iC (d+1) t) (hk:t.k=17∨t.k=18) (hj:oY jmp t.k=true) (hT:fH F (d+1) w0 b t) (h:AL F w0 w lp jmp v l dep cells) (ap:l.length+dC jmp (d+1) (some this) t≤4900) (ay:bn+(d+1)≤1000) (aq:dep≤1000):
 Calls prog 183 #[Pq lp,.bool this,.bool (decide (t.k=17)),Pq b,Iq bn] w fun e w'=> ∃jv,e= .returned jv∧IR w' 3 jv ((nU jmp (d+1) this t l.length).map fun j=>((j:Nat):Int))∧(∀g,jv.ownBlock=some g→w.heap.size≤g)∧ez w w' lp jmp v (l++gE jmp (d+1) (some this) t l.length) (max dep (gQ jmp (d+1) (some this) t bn)) cells:=by
 obtain⟨eg,es,ed,ej⟩:=Av (jmp:=jmp) (d:=d) (p:=l.length) (this:=this) hj hk;rw[es] at ap;rw[ed,eg,ej];have ar:t.kids.length=2:=by
  rcases hw.1 with⟨z,_⟩|⟨z,_⟩|⟨z,_⟩|⟨_,_,_,V⟩
  ·unfold dR at z;omega
  ·omega
  ·omega
  ·rw[V];rfl
 generalize decide (t.k=17)=s at*;obtain⟨pl,nm,u,bl,HN,HK⟩:=qR hT;obtain⟨g,cap,HF⟩:=lJ HN (by omega)
 rw[ar] at HF;have FC:Hid (∀W,dt F w0 W→Cq W b 4 (Sq g 2 cap)∧Cq W g 0 (Pq (bl 0))∧Cq W g 1 (Pq (bl 1))):=fun W hb=>⟨(HF W hb).2.1,(HF W hb).2.2 0 (by omega),(HF W hb).2.2 1 (by omega)⟩
 have ac:=mj hw (j:=0) (by omega)
 have aj:=Hi (mj hw (j:=1) (by omega))
 have ak:=Hi (HK 1 (by omega))
 have W1:=HJ (this:=s) (bn:=bn) ac (HK 0 (by omega)) h (by omega) (by omega) aq
 obtain⟨c4,q0,_⟩:=FC.out w h.bel;have Y:=jI jmp d (some s) (t.kid 0) l.length;have lB:=jI jmp d (some this) (t.kid 1) (l.length+dC jmp d (some s) (t.kid 0));have az:=r9 jmp d (some s) (t.kid 0) bn;have am:= @Aw jmp d (t.kid 0) s l.length;have aA:= @py jmp d (t.kid 0) s l.length;have ax:= @py jmp d (t.kid 1) this (l.length+dC jmp d (some s) (t.kid 0));have HS:=Hi (Ar (jmp:=jmp) d (t:=t.kid 0) (k:=⟨[],[]⟩) (this:=s) (pre:=l) (post:=gE jmp d (some this) (t.kid 1) (l.length+dC jmp d (some s) (t.kid 0))) (p:=l.length) (l.length+dC jmp d (some s) (t.kid 0)+dC jmp d (some this) (t.kid 1)) ac rfl);have HB:Hid (xS F w0 w v w lp jmp v l dep cells):=xS.start h;have au:=h.bel.size;have an:=Hi am;have em:max (max dep (gQ jmp d (some s) (t.kid 0) bn)) (gQ jmp d (some this) (t.kid 1) bn)=max dep (max (gQ jmp d (some s) (t.kid 0) bn) (gQ jmp d (some this) (t.kid 1) bn)):=by omega
 have EM:=Hi em
 by_cases hs:this=s
 ·subst hs
  rw[Zu rfl,Zu rfl];go_enter func183,ntmps183;go_wp2_with fail;apply W1.mono;rintro e w1 ⟨ad,rfl,J,O,E⟩;obtain⟨v1,z,_,z1⟩:=HB.out.next E;have W2:=HJ (this:=this) (bn:=bn) aj.out ak.out z.ly (by rw[ZC,Y];omega) (by omega) (by omega)
  rw[ZC,Y] at W2;obtain⟨d4,_,d1⟩:=FC.out w1 z.ly.bel;have Z:=Hi z;have aa:=Hi J;have ae:=Hi O;go_wp2_with fail;apply W2.mono;rintro e w2 ⟨af,rfl,R,U,G⟩;obtain⟨v2,V,k2,z2⟩:=Z.out.next G;have D:=k2 aa.out;have I:(l++gE jmp d (some this) (t.kid 0) l.length++gE jmp d (some this) (t.kid 1) (l.length+dC jmp d (some this) (t.kid 0))).length=l.length+dC jmp d (some this) (t.kid 0)+dC jmp d (some this) (t.kid 1):=by simp only[ZC,Y,lB]
  have W3:=iP (jv:=ad) (js:=nU jmp d this (t.kid 0) l.length) V.ly.at_ (by rw[I];omega) (by omega) D (fun j hj=>by have:=an.out j hj;rw[I];omega)
  rw[I] at W3;have ag:=Hi V;have ah:=Hi R;have ai:=Hi D
  go_wp2_with (at_builtin;go_must (refine xR (by rfl) _ _ (by rfl) (by rfl) (by rfl) ai.out ah.out (by simp only[aaA];omega) ?_);intro aB w3 q1 q2 q3;have Q1:Hid _:=q1;have Q2:Hid _:=q2;have Q3:Hid _:=q3;clear q1 q2 q3)
  go_ret;refine⟨_,rfl,?_,fun g hg=>?_,?_⟩
  ·rw[aag];exact Q1.out
  ·rcases Q3.out g hg with z|z
   ·exact ae.out g z
   ·omega
  ·have hf:=((ag.out.row ai.out ae.out au Q2.out).out)
   rw[EM.out,ZZ] at hf;exact hf
 ·have aC:(this==s)=false:=by simpa using hs
  rw[Zt hs,Zt hs];go_enter func183,ntmps183;go_wp2_with fail;apply W1.mono;rintro e w1 ⟨ad,rfl,J,O,E⟩;obtain⟨v1,z,_,z1⟩:=HB.out.next E;have W2:=HJ (this:=this) (bn:=bn) aj.out ak.out z.ly (by rw[ZC,Y];omega) (by omega) (by omega)
  rw[ZC,Y] at W2;obtain⟨d4,_,d1⟩:=FC.out w1 z.ly.bel;have Z:=Hi z;have aa:=Hi J;go_wp2_with fail;apply W2.mono;rintro e w2 ⟨af,rfl,R,U,G⟩;obtain⟨v2,V,k2,z2⟩:=Z.out.next G;have D:=k2 aa.out;have I:(l++gE jmp d (some s) (t.kid 0) l.length++gE jmp d (some this) (t.kid 1) (l.length+dC jmp d (some s) (t.kid 0))).length=l.length+dC jmp d (some s) (t.kid 0)+dC jmp d (some this) (t.kid 1):=by simp only[ZC,Y,lB]
  have W3:=iP (jv:=ad) (js:=nU jmp d s (t.kid 0) l.length) V.ly.at_ (by rw[I];omega) (by omega) D (fun j hj=>by have:=an.out j hj;rw[I];omega)
  rw[I] at W3;have ag:=Hi V;have ah:=Hi R;have ao:Hid (∀g,af.ownBlock=some g→w.heap.size≤g):=fun g hg=>by have:=U g hg;omega
  go_wp2_with fail;apply W3.mono;rintro e w3 ⟨rfl,ab⟩;obtain⟨v3,h3,k3,z3⟩:=ag.out.next ab;have av:=Hi (k3 ah.out);have aw:=Hi h3;go_wp2;go_ret;refine⟨_,rfl,av.out,ao.out,?_⟩;have hf:=aw.out.out;have ea:l++gE jmp d (some s) (t.kid 0) l.length++gE jmp d (some this) (t.kid 1) (l.length+dC jmp d (some s) (t.kid 0))=l++((gp jmp d (some s) (t.kid 0) ⟨[],[]⟩ l.length 0).map er++gE jmp d (some this) (t.kid 1) (l.length+dC jmp d (some s) (t.kid 0))):=by
   show l++(gp jmp d (some s) (t.kid 0) ⟨[],[]⟩ l.length 0).map er++_=_
   simp
  rw[EM.out,ea,HS.out] at hf;exact hf
end Go.Proofs.YtfkdailfcmnjlaaGreatDoor
namespace Go.Proofs.YtfkdailfcmnjlaaGreatDoor
open Go Go.RowKit Tryz
attribute [local go_sem ↓] Go.wp_at_zero Go.wp_at_succ
variable {d b bn D R z e O base size k I gg rp kd wh i j a c f:Nat} {t:Tr} {l Z:List L3} {this:Bool} {w' wr:World} {G U E bl kb:Nat→Nat} {x:fV} {a1 a2 a3 a4 a5 a6 a7 u lv:Value} {ks lets:List Tr} {lt':List Nat} {n pl:Int} {xs L:List fV} {o:Obj} {nm:List Bool} {aR aQ fl:List Int}
theorem Is {jmp:Bool} (HJ:sB jmp d) {F:Nat→Prop} {w0 w:World} {lp dep cells:Nat} {v:Value} (hw:iC (d+1) t) (hk:t.k=14) (G:oY jmp t.k=true) (hT:fH F (d+1) w0 b t) (h:AL F w0 w lp jmp v l dep cells) (aC:l.length+dC jmp (d+1) (some this) t≤4900) (aW:bn+(d+1)≤1000) (aD:dep≤1000):
 Calls prog 184 #[Pq lp,.bool this,Pq b,Iq bn] w fun e w'=> ∃jv,e= .returned jv∧IR w' 3 jv ((nU jmp (d+1) this t l.length).map fun j=>((j:Nat):Int))∧(∀g,jv.ownBlock=some g→w.heap.size≤g)∧ez w w' lp jmp v (l++gE jmp (d+1) (some this) t l.length) (max dep (gQ jmp (d+1) (some this) t bn)) cells:=by
 obtain⟨eg,es,ed,ej⟩:=Ks (jmp:=jmp) (d:=d) (p:=l.length) (this:=this) G hk;rw[es] at aC;rw[ed,eg,ej];have aE:t.kids.length=3:=by
  rcases hw.1 with⟨z,_⟩|⟨z,_⟩|⟨_,_,_,_,h2⟩|⟨z,_⟩
  ·unfold dR at z;omega
  ·omega
  ·rw[h2];rfl
  ·unfold fL at z;omega
 obtain⟨pl,nm,u,bl,HN,HK⟩:=qR hT;obtain⟨g,cap,Y⟩:=lJ HN (by omega)
 rw[aE] at Y;have FC:Hid (∀W,dt F w0 W→Cq W b 4 (Sq g 3 cap)∧Cq W g 0 (Pq (bl 0))∧Cq W g 1 (Pq (bl 1))∧Cq W g 2 (Pq (bl 2))):=fun W hb=>⟨(Y W hb).2.1,(Y W hb).2.2 0 (by omega),(Y W hb).2.2 1 (by omega),(Y W hb).2.2 2 (by omega)⟩
 have aa:=mj hw (j:=0) (by omega)
 have aF:=Hi (mj hw (j:=1) (by omega))
 have aG:=Hi (HK 1 (by omega))
 have aH:=Hi (mj hw (j:=2) (by omega))
 have aI:=Hi (HK 2 (by omega))
 have W1:=HJ (this:=false) (bn:=bn) aa (HK 0 (by omega)) h (by omega) (by omega) aD
 obtain⟨c4,q0,_,_⟩:=FC.out w h.bel;have Z:=jI jmp d (some false) (t.kid 0) l.length;have lB:=jI jmp d (some this) (t.kid 1) (l.length+dC jmp d (some false) (t.kid 0));have aX:=r9 jmp d (some false) (t.kid 0) bn;have aY:=r9 jmp d (some this) (t.kid 1) bn;have aJ:=Hi (FA (jmp:=jmp) (d:=d) (a:=t.kid 0) (b:=t.kid 1) (c:=t.kid 2) (m:=some this) (l:=l) (p:=l.length) rfl aa);have an:= @Aw jmp d (t.kid 0) false l.length;have aZ:= @py jmp d (t.kid 0) false l.length;have aU:= @py jmp d (t.kid 1) this (l.length+dC jmp d (some false) (t.kid 0));have aV:= @py jmp d (t.kid 2) this (l.length+dC jmp d (some false) (t.kid 0)+dC jmp d (some this) (t.kid 1)+1);have HB:Hid (xS F w0 w v w lp jmp v l dep cells):=xS.start h;have aK:=h.bel.size;have aL:=Hi an;have em:max (max (max dep (gQ jmp d (some false) (t.kid 0) bn)) (gQ jmp d (some this) (t.kid 1) bn)) (gQ jmp d (some this) (t.kid 2) bn)=max dep (max (gQ jmp d (some false) (t.kid 0) bn) (max (gQ jmp d (some this) (t.kid 1) bn) (gQ jmp d (some this) (t.kid 2) bn))):=by omega
 have EM:=Hi em;go_enter func184,ntmps184;go_wp2_with fail;apply W1.mono;rintro e w1 ⟨aM,rfl,ab,_,I⟩;obtain⟨v1,z,_,z1⟩:=HB.out.next I;have W2:=HJ (this:=this) (bn:=bn) aF.out aG.out z.ly (by rw[ZC,Z];omega) (by omega) (by omega)
 rw[ZC,Z] at W2;obtain⟨d4,_,d1,_⟩:=FC.out w1 z.ly.bel;have ao:=Hi z;have ap:=Hi ab;go_wp2_with fail;apply W2.mono;rintro e w2 ⟨aN,rfl,ac,ad,J⟩;obtain⟨v2,h2,k2,z2⟩:=ao.out.next J;have ae:=Hi (k2 ap.out);have W3:=jU 16 0 h2.ly.at_ (by simp only[ZC,Z,lB];omega)
 obtain⟨ix,af⟩:∃ix:Nat,l.length+dC jmp d (some false) (t.kid 0)+dC jmp d (some this) (t.kid 1)=ix:=⟨_,rfl⟩;have hJ:(l++gE jmp d (some false) (t.kid 0) l.length++gE jmp d (some this) (t.kid 1) (l.length+dC jmp d (some false) (t.kid 0))).length=ix:=by
  simp only[ZC,Z,lB];exact af
 rw[hJ] at W3;have aq:=Hi af;have ar:=Hi h2;have au:=Hi ac;have av:Hid (∀g,aN.ownBlock=some g→w.heap.size≤g):=fun g hg=>by have:=ad g hg;omega
 go_wp2_with fail;apply W3.mono;rintro e w3 ⟨rfl,O⟩;obtain⟨v3,h3,k3,z3⟩:=ar.out.next O;have D:(l++gE jmp d (some false) (t.kid 0) l.length++gE jmp d (some this) (t.kid 1) (l.length+dC jmp d (some false) (t.kid 0))++[(⟨16,0,0⟩:L3)]).length=l.length+dC jmp d (some false) (t.kid 0)+dC jmp d (some this) (t.kid 1)+1:=by
  simp only[ZC,Z,lB,Z7,aas]
 have W4:=iP (jv:=aM) (js:=nU jmp d false (t.kid 0) l.length) h3.ly.at_ (by rw[D];omega) (by omega) (k3 ae.out) (fun j G=>by have:=aL.out j G;rw[D];omega)
 rw[D] at W4;have aw:=Hi h3;have ag:=Hi (k3 au.out);go_wp2_with fail;apply W4.mono;rintro e w4 ⟨rfl,R⟩;obtain⟨v4,h4,k4,z4⟩:=aw.out.next R;have E:=sw (nU jmp d false (t.kid 0) l.length) (l++gE jmp d (some false) (t.kid 0) l.length++gE jmp d (some this) (t.kid 1) (l.length+dC jmp d (some false) (t.kid 0))++[(⟨16,0,0⟩:L3)]) (l.length+dC jmp d (some false) (t.kid 0)+dC jmp d (some this) (t.kid 1)+1);rw[D] at E;have W5:=HJ (this:=this) (bn:=bn) aH.out aI.out h4.ly (by rw[E];omega) (by omega) (by omega)
 rw[E] at W5;obtain⟨d4,_,_,d2⟩:=FC.out w4 h4.ly.bel;have ax:=Hi h4;have ah:=Hi (k4 ag.out);go_wp2_with fail;apply W5.mono;rintro e w5 ⟨a0,rfl,ai,aA,U⟩;obtain⟨v5,h5,k5,z5⟩:=ax.out.next U;have aj:=Hi (k5 ah.out);have aO:=Hi ai;have aP:=Hi h5;have ay:(gd (l++gE jmp d (some false) (t.kid 0) l.length++gE jmp d (some this) (t.kid 1) (l.length+dC jmp d (some false) (t.kid 0))++[(⟨16,0,0⟩:L3)]) (nU jmp d false (t.kid 0) l.length) (l.length+dC jmp d (some false) (t.kid 0)+dC jmp d (some this) (t.kid 1)+1)++gE jmp d (some this) (t.kid 2) (l.length+dC jmp d (some false) (t.kid 0)+dC jmp d (some this) (t.kid 1)+1)).length=l.length+dC jmp d (some false) (t.kid 0)+dC jmp d (some this) (t.kid 1)+1+dC jmp d (some this) (t.kid 2):=by
  rw[ZC,E,jI]
 have ak:=Hi ay
 go_wp2_with (at_builtin;go_must (refine xR (by rfl) _ _ (by rfl) (by rfl) (by rfl) aj.out aO.out (by simp only[aaA];omega) ?_);intro a8 w6 q1 q2 q3;have h6:=aP.out.row aj.out av.out aK q2;have z6:=q2.size;have Q1:Hid _:=q1;have Q3:Hid _:=q3;have aQ:Hid _:=h6;clear q1 q2 q3 h6)
 have am:Below w6.heap.size w6 (w6.alloc (.cells #[Iq (ix:Nat)] 3)):=(ZA _ _).alloc (Zw _) _;have h7:=aQ.out.below am;have az:=CW Q1.out am;have W6:=iP (js:=[ix]) h7.ly.at_ (by rw[ak.out];omega) (by simp) (sC w6 _) (fun j G=>by simp only[abq] at G;have:=aq.out;rw[G,ak.out];omega)
 have aR:=Hi h7;have aB:=Hi az;apply W6.mono;rintro e w7 ⟨rfl,V⟩;obtain⟨v8,h8,k8,z8⟩:=aR.out.next V;have aS:=Hi (k8 aB.out);have aT:=Hi h8;go_wp2;go_ret;refine⟨_,rfl,?_,fun g hg=>?_,?_⟩
 ·rw[aag];exact aS.out
 ·rcases Q3.out g hg with z|z
  ·exact av.out g z
  ·omega
 ·have hf:=aT.out.out
  rw[xJ,ak.out,←aq.out,aJ.out,EM.out] at hf;exact hf
theorem N5 {jmp:Bool} (HL:zj jmp (d+1)) {F:Nat→Prop} {w0 w:World} {lp dep cells:Nat} {v:Value} (hw:iC (d+1) t) (hj:oY jmp t.k=false) (hT:fH F (d+1) w0 b t) (h:AL F w0 w lp jmp v l dep cells) (aa:l.length+dC jmp (d+1) (some this) t≤4900) (ad:bn+(d+1)≤1000) (ae:dep≤1000):
 Calls prog 134 #[Pq lp,.bool this,Pq b,Iq bn] w fun e w'=> ∃jv,e= .returned jv∧IR w' 3 jv ((nU jmp (d+1) this t l.length).map fun j=>((j:Nat):Int))∧(∀g,jv.ownBlock=some g→w.heap.size≤g)∧ez w w' lp jmp v (l++gE jmp (d+1) (some this) t l.length) (max dep (gQ jmp (d+1) (some this) t bn)) cells:=by
 rw[EC hj] at aa;rw[Nw hj,Ny hj,At hj];obtain⟨pl,nm,u,bl,HN,HK⟩:=qR hT;have c0:=(HN w h.bel).cc.c0;have p0:=Zz w lp 0 _ _ _ h.at_.blk;have W1:=HL (bn:=bn) hw hT h (by cases this<;>simp at aa<;>omega) ad ae
 have lA:=jI jmp (d+1) none t l.length;have HB:Hid (xS F w0 w v w lp jmp v l dep cells):=xS.start h;have hb:jmp=true→((t.k:Int)==20)=false∧((t.k:Int)==21)=false∧((t.k:Int)==19)=false∧((t.k:Int)==18)=false∧((t.k:Int)==17)=false∧((t.k:Int)==14)=false:=fun e=>by
  unfold oY at hj;rw[e] at hj;simp at hj;refine⟨?_,?_,?_,?_,?_,?_⟩<;>(simp;omega)
 generalize gE jmp (d+1) none t l.length=A at*;generalize dC jmp (d+1) none t=sA at*;generalize gQ jmp (d+1) none t bn=dA at*;generalize t.k=k at*
 cases this with
 |false=>
  simp only[abp,abw,aaF,abG] at aa⊢;have J:Hid (∀(E:World) (I:Value),xS F w0 w v E lp jmp I (l++A) (max dep dA) cells→Calls prog 93 #[Pq lp,Iq 15,Iq 0] E fun e w'=>e= .returned (Iq ((l.length+sA:Nat):Int))∧ez E w' lp jmp I (l++A++[⟨15,0,0⟩]) (max dep dA) cells):=fun E I G=>by
   have:=jU 15 0 G.ly.at_ (by rw[ZC,lA];omega)
   rw[ZC,lA] at this;exact this
  generalize l.length+sA=ix at*
  cases jmp with
  |false=>
   go_enter func134,ntmps134;go_wp2_with fail;apply W1.mono;rintro e E ⟨rfl,z⟩;obtain⟨I,G,_,z1⟩:=HB.out.next z;have U:=J.out E I G;have V:=Hi G;go_wp2_with fail;apply U.mono;rintro e w2 ⟨rfl,D⟩;obtain⟨v2,R,_,z2⟩:=V.out.next D;have Y:=Hi R;have HI:=Hi (sC w2 (ix:Nat));go_wp2;go_ret;refine⟨_,rfl,HI.out,fun g hg=>?_,?_⟩
   ·simp[Value.ownBlock] at hg;omega
   ·have Z:=(Y.out.below ((ZA _ _).alloc (Zw _) (.cells #[Iq (ix:Nat)] 3))).out
    rw[ZZ] at Z;exact Z
  |true=>
   obtain⟨b1,b2,b3,b4,b5,b6⟩:=hb rfl;go_enter func134,ntmps134;go_wp2_with fail;apply W1.mono;rintro e E ⟨rfl,z⟩;obtain⟨I,G,_,z1⟩:=HB.out.next z;have U:=J.out E I G;have V:=Hi G;go_wp2_with fail;apply U.mono;rintro e w2 ⟨rfl,D⟩;obtain⟨v2,R,_,z2⟩:=V.out.next D;have Y:=Hi R;have HI:=Hi (sC w2 (ix:Nat));go_wp2;go_ret;refine⟨_,rfl,HI.out,fun g hg=>?_,?_⟩
   ·simp[Value.ownBlock] at hg;omega
   ·have Z:=(Y.out.below ((ZA _ _).alloc (Zw _) (.cells #[Iq (ix:Nat)] 3))).out
    rw[ZZ] at Z;exact Z
 |true=>
  simp only[aax] at aa⊢;have J:Hid (∀(E:World) (I:Value),xS F w0 w v E lp jmp I (l++A) (max dep dA) cells→Calls prog 93 #[Pq lp,Iq 12,Iq 0] E fun e w'=>e= .returned (Iq ((l.length+sA:Nat):Int))∧ez E w' lp jmp I (l++A++[⟨12,0,0⟩]) (max dep dA) cells):=fun E I G=>by
   have:=jU 12 0 G.ly.at_ (by rw[ZC,lA];omega)
   rw[ZC,lA] at this;exact this
  have ab:Hid (∀(E:World) (I:Value),xS F w0 w v E lp jmp I (l++A++[⟨12,0,0⟩]) (max dep dA) cells→Calls prog 93 #[Pq lp,Iq 15,Iq 0] E fun e w'=>e= .returned (Iq ((l.length+sA+1:Nat):Int))∧ez E w' lp jmp I (l++A++[⟨12,0,0⟩]++[⟨15,0,0⟩]) (max dep dA) cells):=fun E I G=>by
   have:=jU 15 0 G.ly.at_ (by simp only[ZC,lA,Z7,aas];omega)
   rw[ZC,ZC,lA] at this;exact this
  generalize af:l.length+sA+1=ix at*;generalize l.length+sA=iy at*
  cases jmp with
  |false=>
   go_enter func134,ntmps134;go_wp2_with fail;apply W1.mono;rintro e E ⟨rfl,z⟩;obtain⟨I,G,_,z1⟩:=HB.out.next z;have U:=J.out E I G;have V:=Hi G;go_wp2_with fail;apply U.mono;rintro e w2 ⟨rfl,D⟩;obtain⟨v2,R,_,z2⟩:=V.out.next D;have W3:=ab.out w2 v2 R;have Y:=Hi R;go_wp2_with fail;apply W3.mono;rintro e w3 ⟨rfl,O⟩;obtain⟨v3,h3,_,z3⟩:=Y.out.next O;have ac:=Hi h3;have HI:=Hi (sC w3 (ix:Nat));go_wp2;go_ret;refine⟨_,rfl,HI.out,fun g hg=>?_,?_⟩
   ·simp[Value.ownBlock] at hg;omega
   ·have Z:=(ac.out.below ((ZA _ _).alloc (Zw _) (.cells #[Iq (ix:Nat)] 3))).out
    rw[ZZ,ZZ] at Z;exact Z
  |true=>
   obtain⟨b1,b2,b3,b4,b5,b6⟩:=hb rfl;go_enter func134,ntmps134;go_wp2_with fail;apply W1.mono;rintro e E ⟨rfl,z⟩;obtain⟨I,G,_,z1⟩:=HB.out.next z;have U:=J.out E I G;have V:=Hi G;go_wp2_with fail;apply U.mono;rintro e w2 ⟨rfl,D⟩;obtain⟨v2,R,_,z2⟩:=V.out.next D;have W3:=ab.out w2 v2 R;have Y:=Hi R;go_wp2_with fail;apply W3.mono;rintro e w3 ⟨rfl,O⟩;obtain⟨v3,h3,_,z3⟩:=Y.out.next O;have ac:=Hi h3;have HI:=Hi (sC w3 (ix:Nat));go_wp2;go_ret;refine⟨_,rfl,HI.out,fun g hg=>?_,?_⟩
   ·simp[Value.ownBlock] at hg;omega
   ·have Z:=(ac.out.below ((ZA _ _).alloc (Zw _) (.cells #[Iq (ix:Nat)] 3))).out
    rw[ZZ,ZZ] at Z;exact Z
theorem Mq {jmp:Bool} (HL:zj jmp d) (HJ:sB jmp d):sB jmp (d+1):=by
 intro F t w0 w lp b bn dep cells v l this R U h G ac ab
 cases I:oY jmp t.k with
 |false=>exact N5 (Ku HL HJ) R I U h G ac ab
 |true=>
  obtain rfl:jmp=true:=by unfold oY at I;simp at I;exact I.1
  obtain⟨pl,nm,u,bl,Y,Z⟩:=qR U;have c0:=(Y w h.bel).cc.c0;have p0:=Zz w lp 0 _ _ _ h.at_.blk
  by_cases J:t.k=20∨t.k=21
  ·obtain⟨eg,_,ed,ej⟩:=Au (jmp:=true) (d:=d) (p:=l.length) (this:=this) I J
   rw[ed,eg,ej];have eb:max dep 0=dep:=by omega
   rw[eb];clear ed eg ej eb;rcases J with J|J
   ·cases this
    ·have O: ¬(false=decide (t.k=20)):=by rw[J];decide
     rw[Zt O,Zt O];have D:=k9 h.at_ (by omega) false
     simp only[abp,abw] at D;rw[J] at c0;clear h Y Z U R O G I;go_enter func134,ntmps134;go_wp2_with fail;apply D.mono;rintro e w1 E;obtain⟨jv,rfl,x1,x2,x3⟩:=E;have z:=Hi (And.intro x1 (And.intro x2 x3));clear x1 x2 x3 D;go_wp2;go_ret;exact⟨_,rfl,z.out.1,z.out.2.1,by first|exact z.out.2.2|(have E:=z.out.2.2;rw[aaW] at E;exact E)⟩
    ·have O:(true=decide (t.k=20)):=by rw[J];decide
     rw[Zu O,Zu O];have D:=k9 h.at_ (by omega) true
     simp only[aax] at D;rw[J] at c0;clear h Y Z U R O G I;go_enter func134,ntmps134;go_wp2_with fail;apply D.mono;rintro e w1 E;obtain⟨jv,rfl,x1,x2,x3⟩:=E;have z:=Hi (And.intro x1 (And.intro x2 x3));clear x1 x2 x3 D;go_wp2;go_ret;exact⟨_,rfl,z.out.1,z.out.2.1,by first|exact z.out.2.2|(have E:=z.out.2.2;rw[aaW] at E;exact E)⟩
   ·cases this
    ·have O:(false=decide (t.k=20)):=by rw[J];decide
     rw[Zu O,Zu O];have D:=k9 h.at_ (by omega) true
     simp only[aax] at D;rw[J] at c0;clear h Y Z U R O G I;go_enter func134,ntmps134;go_wp2_with fail;apply D.mono;rintro e w1 E;obtain⟨jv,rfl,x1,x2,x3⟩:=E;have z:=Hi (And.intro x1 (And.intro x2 x3));clear x1 x2 x3 D;go_wp2;go_ret;exact⟨_,rfl,z.out.1,z.out.2.1,by first|exact z.out.2.2|(have E:=z.out.2.2;rw[aaW] at E;exact E)⟩
    ·have O: ¬(true=decide (t.k=20)):=by rw[J];decide
     rw[Zt O,Zt O];have D:=k9 h.at_ (by omega) false
     simp only[abp,abw] at D;rw[J] at c0;clear h Y Z U R O G I;go_enter func134,ntmps134;go_wp2_with fail;apply D.mono;rintro e w1 E;obtain⟨jv,rfl,x1,x2,x3⟩:=E;have z:=Hi (And.intro x1 (And.intro x2 x3));clear x1 x2 x3 D;go_wp2;go_ret;exact⟨_,rfl,z.out.1,z.out.2.1,by first|exact z.out.2.2|(have E:=z.out.2.2;rw[aaW] at E;exact E)⟩
  by_cases h3:t.k=19
  ·obtain⟨eg,es,ed,ej⟩:=ED (jmp:=true) (d:=d) (p:=l.length) (this:=this) I h3
   rw[es] at G;rw[ed,eg,ej];have ad:t.kids.length=1:=by
    rcases R.1 with⟨h1,_⟩|⟨_,_,h4⟩|⟨h1,_⟩|⟨h1,_⟩
    ·unfold dR at h1;omega
    ·rw[h4];rfl
    ·omega
    ·unfold fL at h1;omega
   obtain⟨g,cap,HF⟩:=lJ Y (by omega)
   rw[ad] at HF;obtain⟨_,c4,hg⟩:=HF w h.bel;have q0:=hg 0 (by omega)
   have D:=HJ (this:=!this) (bn:=bn) (mj R (j:=0) (by omega)) (Z 0 (by omega)) h (by omega) (by omega) ab
   rw[h3] at c0;clear HF hg h Y Z U R es ed eg ej G I J;go_enter func134,ntmps134;go_wp2_with fail;apply D.mono;rintro e w1 E;obtain⟨jv,rfl,x1,x2,x3⟩:=E;have z:=Hi (And.intro x1 (And.intro x2 x3));clear x1 x2 x3 D;go_wp2;go_ret;exact⟨_,rfl,z.out.1,z.out.2.1,z.out.2.2⟩
  by_cases h4:t.k=14
  ·have D:=Is (this:=this) HJ R h4 I U h G ac ab
   rw[h4] at c0;clear h Y Z U R G I J h3;go_enter func134,ntmps134;go_wp2_with fail;apply D.mono;rintro e w1 E;obtain⟨jv,rfl,x1,x2,x3⟩:=E;have z:=Hi (And.intro x1 (And.intro x2 x3));clear x1 x2 x3 D;go_wp2;go_ret;exact⟨_,rfl,z.out.1,z.out.2.1,z.out.2.2⟩
  ·have V:t.k=17∨t.k=18:=by unfold oY at I;simp at I;omega
   have D:=Ir (this:=this) HJ R V I U h G ac ab;clear h Y Z U R G I J h3 h4;rcases V with V|V
   ·have aa:decide (t.k=17)=true:=by simp[V]
    rw[aa] at D;rw[V] at c0;clear V aa;go_enter func134,ntmps134;go_wp2_with fail;apply D.mono;rintro e w1 E;obtain⟨jv,rfl,x1,x2,x3⟩:=E;have z:=Hi (And.intro x1 (And.intro x2 x3));clear x1 x2 x3 D;go_wp2;go_ret;exact⟨_,rfl,z.out.1,z.out.2.1,z.out.2.2⟩
   ·have aa:decide (t.k=17)=false:=by simp[V]
    rw[aa] at D;rw[V] at c0;clear V aa;go_enter func134,ntmps134;go_wp2_with fail;apply D.mono;rintro e w1 E;obtain⟨jv,rfl,x1,x2,x3⟩:=E;have z:=Hi (And.intro x1 (And.intro x2 x3));clear x1 x2 x3 D;go_wp2;go_ret;exact⟨_,rfl,z.out.1,z.out.2.1,z.out.2.2⟩
theorem N6 (jmp:Bool) (d:Nat):zj jmp d∧sB jmp d:=by
 induction d with
 |zero=>exact⟨fun{_ _ _ _ _ _ _ _ _ _ _} h=>h.elim,fun{_ _ _ _ _ _ _ _ _ _ _ _} h=>h.elim⟩
 |succ d ih=>exact⟨Ku ih.1 ih.2,Mq ih.1 ih.2⟩
def iE (jmp:Bool) (d:Nat) (x:fV) (p:Nat):List L3:=
 if x.kind=11 then gE jmp d none x.c p++[⟨5,x.wh,0⟩] else(gp jmp d (some false) x.c ⟨[],[]⟩ p (p+dC jmp d (some false) x.c+1)).map er++[⟨gC x.kind,x.wh,0⟩]
def iD (jmp:Bool) (d:Nat) (x:fV):Nat:=gQ jmp d (if x.kind=11 then none else some false) x.c 0
def iS (jmp:Bool) (d:Nat) (x:fV):Nat:=dC jmp d (if x.kind=11 then none else some false) x.c+1
theorem KL (jmp:Bool) (d:Nat) (x:fV) (p:Nat):(iE jmp d x p).length=iS jmp d x:=by
 unfold iE iS
 by_cases h:x.kind=11
 ·rw[Zu h,Zu h,ZC,jI];rfl
 ·rw[Zt h,Zt h,ZC,j9];rfl
theorem ez.keep {w:World} {lp:Nat} {jmp:Bool} {v:Value} {dep cells G:Nat} (h:lY w lp jmp v l dep cells) (ho:ez w w' lp jmp v Z G D) {cs:Array Value} {T:TypeId} {z:Nat×Nat} (E:w.heap[R]?=some (.cells cs T z)) (h1:T≠194) (h2:T≠247):w'.heap[R]?=some (.cells cs T z):=by
 obtain⟨v',_,o1,_⟩:=ho;refine(o1.block _ (be E) (fun I=>?_)).trans E
 rcases I with rfl|I
 ·have:=h.blk
  rw[E] at this;simp at this;exact h1 this.2.1
 ·obtain⟨aa,J⟩:=dF h.row I
  rw[E] at J;simp at J;exact h2 J.2.1
theorem ez.cells {w z:World} {lp:Nat} {jmp:Bool} {v:Value} {l:List L3} {dep cells:Nat} (h:ez w z lp jmp v l dep cells) (x:Nat):ez w (z.setCell ⟨lp,3,none⟩ (Iq (x:Nat))) lp jmp v l dep x:=by
 obtain⟨I,a1,J,O⟩:=h;refine⟨I,⟨?_,?_⟩,J.setCell (.inl (.inl rfl)) _,O⟩
 ·rw[ZK z lp 3 _ _ _ a1.blk];rfl
 ·exact Z9 a1.row (a:=⟨lp,3,none⟩) a1.ne _
theorem CX {F:Nat→Prop} {jmp:Bool} {w0 w:World} {lp dep cells:Nat} {v:Value} (o1:a1.oneCell'=true) (o2:a2.oneCell'=true) (o3:a3.oneCell'=true) (o4:a4.oneCell'=true) (o5:a5.oneCell'=true) (o6:a6.oneCell'=true) (o7:a7.oneCell'=true)
 (aj:x.kind=11∨x.kind=12∨x.kind=13) (aB:x.wh≤255) (hw:iC d x.c) (hT:fH F d w0 b x.c) (h:AL F w0 w lp jmp v l dep cells) (I:l.length+iS jmp d x≤4900) (hd:d≤1000) (ak:dep≤1000):
 Calls prog 92 #[Pq lp,.agg #[Iq x.kind,a1,a2,a3,a4,a5,a6,a7,Iq x.wh,Pq b]] w fun e w'=>e= .returned (.tuple #[])∧ez w w' lp jmp v (l++iE jmp d x l.length) (max dep (iD jmp d x)) (if x.kind=11 then x.wh+1 else cells):=by
 obtain⟨HL,HJ⟩:=N6 jmp d;have ad:Below w.heap.size w (w.alloc (.cells #[Iq x.kind,a1,a2,a3,a4,a5,a6,a7,Iq x.wh,Pq b] 163)):=(ZA _ _).alloc (Zw _) _;have V:(w.alloc (.cells #[Iq x.kind,a1,a2,a3,a4,a5,a6,a7,Iq x.wh,Pq b] 163)).heap[w.heap.size]?=some (.cells #[Iq x.kind,a1,a2,a3,a4,a5,a6,a7,Iq x.wh,Pq b] 163 (0,0)):=Zy w _;have R:=(xS.start h).below ad;generalize ae:w.alloc (.cells #[Iq x.kind,a1,a2,a3,a4,a5,a6,a7,Iq x.wh,Pq b] 163)=wA at*;have c0:=Zz wA _ 0 _ _ _ V;have c9:=Zz wA _ 9 _ _ _ V;have HW:=Hi ae;have am:=Hi V;have ab:=Hi R
 by_cases D:x.kind=11
 ·have W1:=HL (bn:=0) hw hT R.ly (by unfold iS at I;rw[Zu D] at I;omega) (by omega) ak
  have lA:=jI jmp d none x.c l.length;have HE:Hid (iE jmp d x l.length=gE jmp d none x.c l.length++[⟨5,x.wh,0⟩]∧iD jmp d x=gQ jmp d none x.c 0):=⟨by unfold iE;rw[Zu D],by unfold iD;rw[Zu D]⟩
  have av:l.length+dC jmp d none x.c≤4900:=by unfold iS at I;rw[Zu D] at I;omega
  rw[HE.out.1,HE.out.2,Zu D];have au:((x.kind:Int)==11)=true:=by simp;omega
  clear HE h V R ae ad HL HJ hw hT I D aj;go_enter func92,ntmps92;go_wp2_with fail;rw[HW.out];apply W1.mono;rintro e J ⟨rfl,z⟩;obtain⟨v1,R,_,z1⟩:=ab.out.next z;have E:=ez.keep ab.out.ly.at_ z am.out (by decide) (by decide)
  have c8:=Zz J _ 8 _ _ _ E;have W2:=jU 5 x.wh R.ly.at_ (by rw[ZC,lA];omega)
  have Y:=Hi R;have aa:=Hi E;clear W1 z R E c0 c9 lA;generalize (l++gE jmp d none x.c l.length).length=ix at*;go_wp2_with fail;apply W2.mono;rintro e O ⟨rfl,G⟩;obtain⟨v2,Z,_,z2⟩:=Y.out.next G;have U:=ez.keep Y.out.ly.at_ G aa.out (by decide) (by decide)
  have d8:=Zz O _ 8 _ _ _ U;have p3:=Zz O lp 3 _ _ _ Z.ly.at_.blk;have pf:O.frozen? ⟨lp,3,none⟩=false:=by simp[World.frozen?,Z.ly.at_.blk]
  have af:=Hi Z;clear W2 G Z U c8;go_wp2;refine ZH (v:= .tuple #[]) (by simp[results,results92,go_sem]) rfl ?_
  refine⟨rfl,?_⟩;have hf:=ez.cells af.out.out (x.wh+1);rw[ZZ] at hf;exact hf
 ·have W1:=HJ (this:=false) (bn:=0) hw hT R.ly (by unfold iS at I;rw[Zt D] at I;omega) (by omega) ak
  have lA:=jI jmp d (some false) x.c l.length;have HE:Hid (iE jmp d x l.length=(gp jmp d (some false) x.c ⟨[],[]⟩ l.length (l.length+dC jmp d (some false) x.c+1)).map er++[⟨gC x.kind,x.wh,0⟩]∧iD jmp d x=gQ jmp d (some false) x.c 0):=⟨by unfold iE;rw[Zt D],by unfold iD;rw[Zt D]⟩
  have av:l.length+dC jmp d (some false) x.c+1≤4900:=by unfold iS at I;rw[Zt D] at I;omega
  have an:= @Aw jmp d x.c false l.length;have aC:= @py jmp d x.c false l.length;have HS:=Hi (Ar (jmp:=jmp) d (t:=x.c) (k:=⟨[],[]⟩) (this:=false) (pre:=l) (post:=[⟨gC x.kind,x.wh,0⟩]) (p:=l.length) (l.length+dC jmp d (some false) x.c+1) hw rfl);rw[HE.out.1,HE.out.2,Zt D];have au:((x.kind:Int)==11)=false:=by simp;omega
  have ao:x.kind=12∨x.kind=13:=by omega
  have W3:=fun W=>CF x.kind ao W
  have aw:=Hi an;clear HE h V R ae ad HL HJ hw hT I D aj an ao;generalize ap:gC x.kind=vo at*;clear ap;go_enter func92,ntmps92;go_wp2_with fail;rw[HW.out];apply W1.mono;rintro e J ⟨jv,rfl,ag,_,z⟩;obtain⟨v1,R,_,z1⟩:=ab.out.next z;have E:=ez.keep ab.out.ly.at_ z am.out (by decide) (by decide)
  have e0:=Zz J _ 0 _ _ _ E;have e8:=Zz J _ 8 _ _ _ E;have ah:=R.below ((ZA _ _).drew);have W2:=jU vo x.wh ah.ly.at_ (by rw[ZC,lA];omega)
  have Y:=Hi ah;have aa:Hid (J.drew.heap[w.heap.size]?=_):=E;have ax:=Hi (CW ag ((ZA _ J).drew));have aq:(l++gE jmp d (some false) x.c l.length++[(⟨vo,x.wh,0⟩:L3)]).length=l.length+dC jmp d (some false) x.c+1:=by simp only[ZC,lA,Z7,aas]
  have ai:=Hi aq;have KP:Hid (∀O,ez J.drew O lp jmp v1 (l++gE jmp d (some false) x.c l.length++[⟨vo,x.wh,0⟩]) (max dep (gQ jmp d (some false) x.c 0)) cells→Cq O w.heap.size 0 (Iq x.kind)∧Cq O w.heap.size 8 (Iq x.wh)):=fun O ho=>by
   have U:=ez.keep Y.out.ly.at_ ho aa.out (by decide) (by decide)
   exact⟨Zz O _ 0 _ _ _ U,Zz O _ 8 _ _ _ U⟩
  have ay:Cq J w.heap.size 0 (Iq x.kind)∧Cq J w.heap.size 8 (Iq x.wh):=⟨e0,e8⟩;clear W1 z R E c0 c9 lA ag ah aq;generalize (l++gE jmp d (some false) x.c l.length).length=ix at*;go_wp2
  go_region_held3 (fun W=>Cq W w.heap.size 0 (Iq x.kind)∧Cq W w.heap.size 8 (Iq x.wh)) (first|assumption|exact ay|exact KP.out _ (by assumption)|go_keep)
   (first
    |(go_at_call 135;refine(W3 _).mono ?_;rintro e w' ⟨rfl,ar⟩;have az:=ar.symm;clear ar;subst az)
    |(go_at_call 93;refine W2.mono ?_;rintro e O ⟨rfl,G⟩))
  all_goals
   obtain⟨v2,Z,k2,z2⟩:=Y.out.next G;have W4:=iP (jv:=jv) (js:=nU jmp d false x.c l.length) Z.ly.at_ (by rw[ai.out];omega) (by omega) (k2 ax.out) (fun j hj=>by have:=aw.out j hj;rw[ai.out];omega)
   rw[ai.out] at W4;have af:=Hi Z;clear Z k2 G W2;go_wp2_with fail;apply W4.mono;rintro e w3 ⟨rfl,ac⟩;obtain⟨v3,h3,_,z3⟩:=af.out.next ac;have aA:=Hi h3;clear W4 ac h3;go_wp2
   go_end0
   refine⟨rfl,?_⟩;have hf:=aA.out.out;have ea:l++gE jmp d (some false) x.c l.length++[(⟨vo,x.wh,0⟩:L3)]=l++((gp jmp d (some false) x.c ⟨[],[]⟩ l.length 0).map er++[⟨vo,x.wh,0⟩]):=by
    show l++(gp jmp d (some false) x.c ⟨[],[]⟩ l.length 0).map er++_=_
    simp
   rw[ea,HS.out] at hf;exact hf
def N7 (d:Nat):Prop:= ∀{t:Tr} {w:World} {b:Nat},iC d t→pK d w b t→Calls prog 254 #[Pq b] w fun e w'=>e= .returned (.bool (gr d t))∧Below w.heap.size w w'
theorem Mr (H:N7 d) {w:World} (hu:ph w u ks.length U) (hk:∀j,j<ks.length→iC d (ks.getD j gI)∧pK d w (U j) (ks.getD j gI)) (hl:ks.length≤3):
 Calls prog 280 #[u,.func (.func 254) #[] #[]] w fun e w'=>(∃r:Int,e= .returned (Iq r)∧decide (0≤r)=ks.any (gr d))∧Below w.heap.size w w':=by
 obtain⟨a,cap,rfl,hc⟩:=hu;have HC:=Hi hc;have HK:=Hi hk;have H0:Hid (Below w.heap.size w w):=ZA _ _;go_enter func280,ntmps280;go_wp2
 go_loopw [8] (fun V wr=> ∃k:Nat,k≤ks.length∧V= Iq k∧Hid (Below w.heap.size w wr∧(ks.take k).any (gr d)=false)) (fun V _=>ks.length - (intOf V).toNat)
 case atStart=>exact⟨0,ZL _,rfl,H0.out,rfl⟩
 case round=>
  obtain⟨k,aa,rfl,I⟩:=hrel
  by_cases z:k<ks.length
  ·obtain⟨O,E⟩:=I.out
   obtain⟨g,rfl,c⟩:=HC.out k z;have ab:(0:Int)≤(k:Int)∧(k:Int)<(ks.length:Int):=by omega
   have c':wr.cell? ⟨g,k,none⟩=some (Pq (U k)):=by rw[O.cell (p:=⟨g,k,none⟩) (Zx w _ c)];exact c
   obtain⟨h1,h2⟩:=HK.out k z;have R:=H h1 (h2.below O);have HS:Hid ((ks.take (k+1)).any (gr d)=gr d (ks.getD k gI)):=by
    show _=_
    rw[aa6,Zv z,List.any_append,E,Zs,Zv z];simp
   have HA:Hid (gr d (ks.getD k gI)=true→ks.any (gr d)=true):=fun hh=>by
    rw[acq];exact⟨ks.getD k gI,by rw[Zs,Zv z];exact ZV _,hh⟩
   have G:=Hi O;generalize gr d (ks.getD k gI)=hg at*
   cases hg with
   |true=>
    have Y:=Hi (HA.out rfl);go_wp2_with fail;apply R.mono;rintro e Z ⟨rfl,D⟩;have J:Hid (Below w.heap.size w Z):=G.out.trans (D.mono G.out.size);go_wp2;go_ret;exact⟨⟨(k:Int),rfl,by rw[Y.out];exact aad (by omega)⟩,J.out⟩
   |false=>
    go_wp2_with fail;apply R.mono;rintro e Z ⟨rfl,D⟩;have J:Hid (Below w.heap.size w Z):=G.out.trans (D.mono G.out.size);go_wp2
    go_roundw
    case rel=>exact⟨k+1,by omega,by go_num,J.out,HS.out⟩
    case measure=>simp[intOf];omega
  ·obtain rfl:k=ks.length:=by omega
   have G:=Hi I.out.1;have E:=I.out.2;rw[aay (Zw _)] at E;have HN:=Hi E;go_wp2;go_ret;exact⟨⟨-1,rfl,by rw[HN.out];decide⟩,G.out⟩
theorem EW (H:N7 d) {w:World} {z:Nat→Nat} (D:ph w u ks.length z) (E:∀j,j<ks.length→iC d (ks.getD j gI)∧pK d w (z j) (ks.getD j gI)) (O:ks.length≤3):
 Calls prog 270 #[u,.func (.func 254) #[] #[]] w fun e w'=>e= .returned (.bool (ks.any (gr d)))∧Below w.heap.size w w':=by
 have G:=Mr H D E O;clear D E;go_enter func270,ntmps270;go_wp2_with fail;apply G.mono;rintro e V ⟨⟨r,rfl,I⟩,J⟩;have R:=Hi J;have U:=Hi I;clear G J I;go_wp2;go_ret;exact⟨by show Ending.returned (.bool (decide (0≤r)))=_;rw[U.out],R.out⟩
theorem KM (d:Nat):N7 d:=by
 induction d with
 |zero=>intro t w b h;exact h.elim
 |succ d ih=>
  intro t w b U hT;obtain⟨pl,nm,u,bl,J,Z,HK⟩:=hT;have V:t.k≤100:=by
   rcases U.1 with⟨O,_⟩|⟨O,_⟩|⟨O,_⟩|⟨O,_⟩
   ·unfold dR at O;omega
   ·omega
   ·omega
   ·unfold fL at O;omega
  have ab:t.kids.length≤3:=by
   rcases U.1 with⟨_,D,_⟩|⟨_,_,D⟩|⟨_,_,_,_,D⟩|⟨_,_,_,D⟩<;>rw[D]<;>simp
  have I:=fun w=>sj t.k w V
  have Y:=fun(w':World) (hb:Below w.heap.size w w')=>EW ih (Z.below hb) (fun j hj=>⟨mj U hj,(HK j hj).below hb⟩) ab
  have c0:=J.c0;have c4:=J.c4;have HE:Hid (gr (d+1) t=(decide (27≤t.k∧t.k≤35)||decide (t.k=2)||t.kids.any (gr d))):=rfl;rw[HE.out];have R:=ZA w.heap.size w;generalize t.kids.any (gr d)=an at*
  by_cases E:27≤t.k∧t.k≤35
  ·rw[aad E] at I⊢
   simp only[Bool.true_or]
   generalize (if 27≤t.k∧t.k≤35 then t.k - 27 else 0)=fi at*
   generalize t.k=k at*;go_enter func254,ntmps254
   go_wp2_with (go_at_call 171;refine(I _).mono ?_;rintro e w' ⟨rfl,z⟩;have G:=z.symm;clear z;subst G)
   go_ret;exact⟨rfl,R⟩
  ·rw[Z4 E] at I⊢
   simp only[Bool.false_or]
   generalize (if 27≤t.k∧t.k≤35 then t.k - 27 else 0)=fi at*
   by_cases D:t.k=2
   ·rw[aad D]
    simp only[Bool.true_or];rw[D] at I c0;go_enter func254,ntmps254
    go_wp2_with (go_at_call 171;refine(I _).mono ?_;rintro e w' ⟨rfl,z⟩;have G:=z.symm;clear z;subst G)
    go_ret;exact⟨rfl,R⟩
   ·rw[Z4 D]
    simp only[Bool.false_or];have i2:((t.k:Int)==2)=false:=by simp;omega
    have W3:=Y w R;generalize t.k=k at*;go_enter func254,ntmps254
    go_wp2_with (go_at_call 171;refine(I _).mono ?_;rintro e w' ⟨rfl,z⟩;have G:=z.symm;clear z;subst G)
    apply W3.mono;rintro e w2 ⟨rfl,aa⟩;have HB:=Hi aa;go_wp2;go_ret;exact⟨rfl,HB.out⟩
theorem KN {lt:List Nat}:∀{t:Tr},iC d t→gr d t=false→dx lt d t=dx lt' d t:=by
 induction d with
 |zero=>intro t h;exact h.elim
 |succ d ih=>
  intro t Y D;rw[gr] at D;simp only[Bool.or_eq_false_iff,abK] at D;obtain⟨⟨h1,E⟩,h3⟩:=D;have Z:t.kids.map (dx lt d)=t.kids.map (dx lt' d):=Z5 fun c G=>ih (Y.2 c G) (by
   cases e:gr d c with
   |false=>rfl
   |true=>rw[acq.2 ⟨c,G,e⟩] at h3;cases h3)
  have I:eE lt t=eE lt' t:=by unfold eE;rw[Zt E,Zt E]
  simp only[dx];rw[Z,I]
theorem It {lt:List Nat} {w:World} (G:iC d t) (I:pK d w b t) (Y:dx lt d t≠0):
 Calls prog 228 #[Pq b] w fun e w'=>(e= .returned (if gr d t=true then .tuple #[Iq 0,.bool false] else .tuple #[Iq (fu [] jn d t),.bool true]))∧Below w.heap.size w w':=by
 have E:=KM d G I
 cases J:gr d t with
 |true=>
  rw[J] at E;rw[Zu rfl];go_enter func228,ntmps228;go_wp2_with fail;apply E.mono;rintro e z ⟨rfl,D⟩;have O:=Hi D;go_wp2
  go_ret2
  exact⟨rfl,O.out⟩
 |false=>
  rw[J] at E;rw[Zt (by decide)]
  have V:dx [] d t≠0:=by rw[KN (lt:=[]) (lt':=lt) G J];exact Y
  have HT:=Hi I;have HW:=Hi G;have Z:Hid (∀z:World,Below w.heap.size w z→Calls prog 78 #[Pq z.heap.size,Pq b] (z.alloc (.cells #[Iq 0,Iq 0,Iq 0,Iq 0,Iq 0,Iq 0,Iq 0,Iq 0,Iq 0,.slice none 0 0] 181)) fun e w'=>e= .returned (Iq (fu [] jn d t))∧Below (z.alloc (.cells #[Iq 0,Iq 0,Iq 0,Iq 0,Iq 0,Iq 0,Iq 0,Iq 0,Iq 0,.slice none 0 0] 181)).heap.size (z.alloc (.cells #[Iq 0,Iq 0,Iq 0,Iq 0,Iq 0,Iq 0,Iq 0,Iq 0,Iq 0,.slice none 0 0] 181)) w'):=fun z D=>by
   have R:=Zy z (.cells #[Iq 0,Iq 0,Iq 0,Iq 0,Iq 0,Iq 0,Iq 0,Iq 0,Iq 0,.slice none 0 0] 181);have aa:Below z.heap.size z (z.alloc (.cells #[Iq 0,Iq 0,Iq 0,Iq 0,Iq 0,Iq 0,Iq 0,Iq 0,Iq 0,.slice none 0 0] 181)):=(ZA _ _).alloc (Zw _) _;refine yW (lt:=[]) (lv:=[]) (fl:=jn) (fun i hi=>by simp at hi) my (by simp) (by simp) (a:=none) (cap:=0) ((HT.out.below D).below aa) HW.out V ⟨fun i hi=>?_,Zz _ _ 9 _ _ _ R⟩ (fun j hj=>by simp at hj)
   rw[Zz _ _ i _ _ _ R];have e9:i=0∨i=1∨i=2∨i=3∨i=4∨i=5∨i=6∨i=7∨i=8:=by omega
   rcases e9 with rfl|rfl|rfl|rfl|rfl|rfl|rfl|rfl|rfl<;>rfl
  generalize fu [] jn d t=ev at*;go_enter func228,ntmps228;go_wp2_with fail;apply E.mono;rintro e z ⟨rfl,D⟩;have W2:=Z.out z D;have O:=Hi D;go_wp2_with fail;apply W2.mono;rintro e w2 ⟨rfl,U⟩;have ab:Hid (Below w.heap.size w w2):=O.out.trans ((((ZA _ _).alloc (Zw _) _).trans (U.mono (by simp))).mono O.out.size)
  go_wp2
  go_ret2
  exact⟨rfl,ab.out⟩
theorem qq {F:Nat→Prop} {w:World} (h:fH F d w b t):Cq w b 0 (Iq t.k):=by
 cases d with
 |zero=>exact h.elim
 |succ d=>obtain⟨_,_,_,_,_,z,_⟩:=h;exact z.c0
def jh (n:Int) (k:Nat):Bool:=bits .and .i64 n k !=0
def dy (n:Int):ny:=⟨jh n 1,jh n 2,jh n 4,jh n 8⟩
theorem fP {w:World} (k:Nat) (D:Cq w z 0 (Iq n)):Calls prog 130 #[Pq z,Iq k] w fun e w'=>e= .returned (.bool (jh n k))∧w'=w:=by
 go_enter func130,ntmps130;go_wp2;go_ret;exact⟨rfl,rfl⟩
theorem uM {F:Nat→Prop} {w:World} (U:fH F (d+1) w b t) {n:Nat} (V:t.kids.length=n) (Z:0<n):∃(g cap:Nat) (z:Nat→Nat),w.cell? ⟨b,0,none⟩=some (Iq t.k)∧w.cell? ⟨b,4,none⟩=some (Sq g n cap)∧(∀j,j<n→w.cell? ⟨g,j,none⟩=some (Pq (z j)))∧(∀j,j<n→w.cell? ⟨z j,0,none⟩=some (Iq (t.kid j).k))∧ ∀j,j<n→fH F d w (z j) (t.kid j):=by
 obtain⟨pl,nm,u,z,Y,D,G,I⟩:=U;obtain⟨a,cap,rfl,J⟩:=G;obtain⟨g,rfl,_,q0⟩:=J 0 (by omega)
 refine⟨g,cap,z,D.c0,by rw[D.c4,V],fun j O=>?_,fun j O=>qq (I j (by omega)),fun j O=>I j (by omega)⟩
 obtain⟨g',e,_,c⟩:=J j (by omega)
 simp only[ZR,aaJ,aby] at e;rw[e];exact c
theorem vp {F:Nat→Prop} {w:World} (s i:Nat) (R:t.kids.length=2) (Y:fH F (d+1) w b t):
 Calls prog 229 #[Pq b,Iq s,Iq i] w fun e w'=>(∃b',e= .returned (Pq b')∧fH F (d+1) w' b' (kT t s i))∧Below w.heap.size w w':=by
 have HT:Hid (fH F (d+1) w b t):=Y;obtain⟨g,cap,z,_,c4,Z,hk,HK⟩:=uM Y R (by decide)
 have q0:=Z 0 (by decide)
 have q1:=Z 1 (by decide)
 have k0:=hk 0 (by decide)
 have k1:=hk 1 (by decide)
 have U:Hid (fH F (d+1) w (z 0) (t.kid 0)):=(HK 0 (by decide)).up (e:=d+1) (by omega)
 have V:Hid (fH F (d+1) w (z 1) (t.kid 1)):=(HK 1 (by decide)).up (e:=d+1) (by omega)
 have hD:Below w.heap.size w w.drew:=(ZA _ _).drew;have D:=Hi hD;have HE:Hid (kT t s i=if(t.kid 0).k=s∨(t.kid 1).k=i then t.kid 0 else if(t.kid 1).k=s∨(t.kid 0).k=i then t.kid 1 else t):=rfl
 rw[HE.out];have E:Cq w b 4 (Sq g 2 cap)∧Cq w g 0 (Pq (z 0))∧Cq w g 1 (Pq (z 1)):=⟨c4,q0,q1⟩;generalize aa:(t.kid 0).k=G at*;generalize ab:(t.kid 1).k=kb at*
 by_cases I:G=s∨kb=i
 ·rw[Zu I]
  by_cases J:G=s
  ·have i1:((G:Int)==(s:Int))=true:=by simp;omega
   go_enter func229,ntmps229;go_wp2
   go_region_held3 (fun W=>Cq W b 4 (Sq g 2 cap)∧Cq W g 0 (Pq (z 0))∧Cq W g 1 (Pq (z 1))) (first|assumption|exact E|go_keep) (fail)
   all_goals
    go_wp2;go_ret;exact⟨⟨_,rfl,fH.below U.out D.out⟩,D.out⟩
  ·have i1:((G:Int)==(s:Int))=false:=by simp;omega
   have i2:((kb:Int)==(i:Int))=true:=by simp;omega
   go_enter func229,ntmps229;go_wp2
   go_region_held3 (fun W=>Cq W b 4 (Sq g 2 cap)∧Cq W g 0 (Pq (z 0))∧Cq W g 1 (Pq (z 1))) (first|assumption|exact E|go_keep) (fail)
   all_goals
    go_wp2;go_ret;exact⟨⟨_,rfl,fH.below U.out D.out⟩,D.out⟩
 ·rw[Zt I]
  have i1:((G:Int)==(s:Int))=false:=by simp;omega
  have i2:((kb:Int)==(i:Int))=false:=by simp;omega
  by_cases O:kb=s∨G=i
  ·rw[Zu O]
   by_cases J:kb=s
   ·have i3:((kb:Int)==(s:Int))=true:=by simp;omega
    go_enter func229,ntmps229;go_wp2
    go_region_held3 (fun W=>Cq W b 4 (Sq g 2 cap)∧Cq W g 0 (Pq (z 0))∧Cq W g 1 (Pq (z 1))) (first|assumption|exact E|go_keep) (fail)
    all_goals
     go_wp2;go_ret;exact⟨⟨_,rfl,fH.below V.out D.out⟩,D.out⟩
   ·have i3:((kb:Int)==(s:Int))=false:=by simp;omega
    have i4:((G:Int)==(i:Int))=true:=by simp;omega
    go_enter func229,ntmps229;go_wp2
    go_region_held3 (fun W=>Cq W b 4 (Sq g 2 cap)∧Cq W g 0 (Pq (z 0))∧Cq W g 1 (Pq (z 1))) (first|assumption|exact E|go_keep) (fail)
    all_goals
     go_wp2;go_ret;exact⟨⟨_,rfl,fH.below V.out D.out⟩,D.out⟩
  ·rw[Zt O]
   have i3:((kb:Int)==(s:Int))=false:=by simp;omega
   have i4:((G:Int)==(i:Int))=false:=by simp;omega
   go_enter func229,ntmps229;go_wp2
   go_region_held3 (fun W=>Cq W b 4 (Sq g 2 cap)∧Cq W g 0 (Pq (z 0))∧Cq W g 1 (Pq (z 1))) (first|assumption|exact E|go_keep) (fail)
   all_goals
    go_wp2;go_ret;exact⟨⟨_,rfl,fH.below HT.out D.out⟩,D.out⟩
theorem qW {F:Nat→Prop} {w:World} (O:iC (d+1) t) (J:fH F (d+1) w b t):
 Calls prog 176 #[Pq b] w fun e w'=>(∃b',e= .returned (Pq b')∧fH F (d+1) w' b' (iY t))∧Below w.heap.size w w':=by
 have HT:Hid (fH F (d+1) w b t):=J;have kk:=qq J;have Z:Below w.heap.size w w:=ZA _ _
 by_cases E:t.k=19
 ·have R:t.kids.length=1:=by
   rcases O.1 with⟨z,_⟩|⟨_,_,h4⟩|⟨z,_⟩|⟨z,_⟩
   ·unfold dR at z;omega
   ·rw[h4];rfl
   ·omega
   ·unfold fL at z;omega
  obtain⟨g,cap,bl,_,c4,hq,hk,HK⟩:=uM J R (by decide)
  have q0:=hq 0 (by decide)
  have k0:=hk 0 (by decide)
  have aa:=HK 0 (by decide)
  have Y:=mj O (j:=0) (by omega)
  have G:Hid (iY t=if(t.kid 0).k=19 then(t.kid 0).kid 0 else t):=by show iY t=_;unfold iY;rw[Zu E]
  rw[G.out];rw[E] at kk;clear G hq hk HK R O J E
  by_cases D:(t.kid 0).k=19
  ·rw[Zu D]
   rw[D] at k0
   cases d with
   |zero=>exact Y.elim
   |succ d=>
    have R:(t.kid 0).kids.length=1:=by
     rcases Y.1 with⟨z,_⟩|⟨_,_,h4⟩|⟨z,_⟩|⟨z,_⟩
     ·unfold dR at z;omega
     ·rw[h4];rfl
     ·omega
     ·unfold fL at z;omega
    obtain⟨g2,af,ag,_,e4,ab,_,ac⟩:=uM aa R (by decide)
    have q2:=ab 0 (by decide)
    have HF:=Hi ((ac 0 (by decide)).up (e:=d+1+1) (by omega))
    clear aa ac ab R Y D;go_enter func176,ntmps176;go_wp2;go_ret;exact⟨⟨_,rfl,HF.out⟩,Z⟩
  ·rw[Zt D]
   have i2:(((t.kid 0).k:Int)==19)=false:=by simp;omega
   clear aa Y D;generalize (t.kid 0).k=k2 at*;go_enter func176,ntmps176;go_wp2;go_ret;exact⟨⟨_,rfl,HT.out⟩,Z⟩
 ·have ad:((t.k:Int)==19)=false:=by simp;omega
  by_cases I:t.k=18
  ·have U:t.kids.length=2:=by
    rcases O.1 with⟨z,_⟩|⟨z,_⟩|⟨z,_⟩|⟨_,_,_,D⟩
    ·unfold dR at z;omega
    ·omega
    ·omega
    ·rw[D];rfl
   have W1:=vp 21 20 U J;have G:Hid (iY t=kT t 21 20):=by show iY t=_;unfold iY;rw[Zt E,Zu I]
   rw[G.out];rw[I] at kk ad;clear G O J E I U;go_enter func176,ntmps176;go_wp2_with fail;apply W1.mono;rintro e w1 ⟨⟨b',rfl,z⟩,D⟩;have H1:=Hi (And.intro z D);clear W1 z D;go_wp2;go_ret;exact⟨⟨_,rfl,H1.out.1⟩,H1.out.2⟩
  ·have ae:((t.k:Int)==18)=false:=by simp;omega
   by_cases V:t.k=17
   ·have U:t.kids.length=2:=by
     rcases O.1 with⟨z,_⟩|⟨z,_⟩|⟨z,_⟩|⟨_,_,_,D⟩
     ·unfold dR at z;omega
     ·omega
     ·omega
     ·rw[D];rfl
    have W1:=vp 20 21 U J;have G:Hid (iY t=kT t 20 21):=by show iY t=_;unfold iY;rw[Zt E,Zt I,Zu V]
    rw[G.out];rw[V] at kk ad ae;clear G O J E I V U;go_enter func176,ntmps176;go_wp2_with fail;apply W1.mono;rintro e w1 ⟨⟨b',rfl,z⟩,D⟩;have H1:=Hi (And.intro z D);clear W1 z D;go_wp2;go_ret;exact⟨⟨_,rfl,H1.out.1⟩,H1.out.2⟩
   ·have ah:((t.k:Int)==17)=false:=by simp;omega
    have G:Hid (iY t=t):=by show iY t=_;unfold iY;rw[Zt E,Zt I,Zt V]
    rw[G.out];clear G O J E I V;generalize t.k=k at*;go_enter func176,ntmps176;go_wp2;go_ret;exact⟨⟨_,rfl,HT.out⟩,Z⟩
theorem EX {F:Nat→Prop} {w:World} (U:iC (d+1) t) (hk:t.k=14) (V:fH F (d+1) w b t):
 Calls prog 227 #[Pq b] w fun e w'=>(∃Y,e= .returned (Pq Y)∧fH F (d+1) w Y (qE t))∧w'=w:=by
 have I:t.kids.length=3:=by
  rcases U.1 with⟨E,_⟩|⟨E,_⟩|⟨_,_,_,_,h2⟩|⟨E,_⟩
  ·unfold dR at E;omega
  ·omega
  ·rw[h2];rfl
  ·unfold fL at E;omega
 have HT:=Hi V;obtain⟨pl,nm,u,bl,ad,J,Z,G⟩:=V;obtain⟨a,cap,rfl,O⟩:=Z;obtain⟨g,rfl,_,q0⟩:=O 0 (by omega)
 have R:∀j,j<3→Cq w g j (Pq (bl j)):=fun j hj=>by
  obtain⟨g',e,_,c⟩:=O j (by omega)
  simp only[ZR,aaJ,aby] at e;rw[e];exact c
 have c4:=J.c4;rw[I] at c4;have k0:=qq (G 0 (by omega))
 have aa:=Hi ((G 1 (by omega)).up (e:=d+1) (by omega))
 have ab:=Hi ((G 2 (by omega)).up (e:=d+1) (by omega))
 have HE:Hid (qE t=if(t.kid 0).k=20 then t.kid 1 else if(t.kid 0).k=21 then t.kid 2 else t):=rfl
 rw[HE.out]
 by_cases z:(t.kid 0).k=20
 ·rw[Zu z]
  rw[z] at k0;go_enter func227,ntmps227;go_wp2;go_ret;exact⟨⟨_,rfl,aa.out⟩,rfl⟩
 ·rw[Zt z]
  have ac:(((t.kid 0).k:Int)==20)=false:=by simp;omega
  by_cases D:(t.kid 0).k=21
  ·rw[Zu D]
   rw[D] at k0;go_enter func227,ntmps227;go_wp2;go_ret;exact⟨⟨_,rfl,ab.out⟩,rfl⟩
  ·rw[Zt D]
   have ae:(((t.kid 0).k:Int)==21)=false:=by simp;omega
   generalize (t.kid 0).k=kk at*;go_enter func227,ntmps227;go_wp2;go_ret;exact⟨⟨_,rfl,HT.out⟩,rfl⟩
structure nD (F:Nat→Prop) (w:World) (rp:Nat) (n:Int) (lv:Value) (bl:Nat→Nat) (D:Nat) (lets:List Tr):Prop where
 c0:w.cell? ⟨rp,0,none⟩=some (Iq n)
 c1:w.cell? ⟨rp,1,none⟩=some lv
 un:As (fun _=>False) w lv lets.length bl
 tr:∀j,j<lets.length→fH F D w (bl j) (lets.getD j gI)
theorem nD.below {F:Nat→Prop} {w w':World} {z:Nat} {n:Int} {lv:Value} {G:Nat→Nat} {D:Nat} {lets:List Tr} (h:nD F w z n lv G D lets) (E:Below w.heap.size w w'):nD F w' z n lv G D lets:=
 ⟨by rw[E.cell (p:=⟨z,0,none⟩) (Zx w _ h.c0)];exact h.c0,by rw[E.cell (p:=⟨z,1,none⟩) (Zx w _ h.c1)];exact h.c1,h.un.below E,fun j I=>(h.tr j I).below E⟩
theorem KO {F:Nat→Prop} {w:World} (h:fH F d w b t) (D:t.kids=[]):fH F (e+1) w b t:=by
 cases d with
 |zero=>exact h.elim
 |succ d=>
  obtain⟨pl,nm,u,E,G,I,J,_⟩:=h;exact⟨pl,nm,u,E,G,I,J,fun j z=>by rw[D] at z;simp at z⟩
theorem uN {F:Nat→Prop} {w:World} (h:fH F d w b t):∃a cap,Cq w b 4 (.slice a t.kids.length cap):=by
 cases d with
 |zero=>exact h.elim
 |succ d=>
  obtain⟨pl,nm,u,D,_,z,⟨a,cap,rfl,_⟩,_⟩:=h;exact⟨a,cap,z.c4⟩
theorem pD {F:Nat→Prop} {w:World} (Y:nD F w O n lv E D lets) (hT:fH F (d+1) w b t) (h2:t.k=2→0≤t.l∧t.l.toNat<lets.length) (ag:lets.length≤1000):
 Calls prog 174 #[Pq O,Pq b] w fun e w'=>(∃b',e= .returned (Pq b')∧fH F (d+1) w' b' (oU lets t))∧Below w.heap.size w w':=by
 have HT:Hid (fH F (d+1) w b t):=hT;have kk:=qq hT;have HD:Hid (Below w.heap.size w w.drew):=(ZA _ _).drew;have aa:Hid (Below w.heap.size w w.drew.drew):=(ZA _ _).drew.drew;have HE:Hid (oU lets t=if t.k=2∧(lets.getD t.l.toNat gI).kids=[] then lets.getD t.l.toNat gI else t):=rfl
 rw[HE.out]
 by_cases I:t.k=2
 ·obtain⟨ae,ab⟩:=h2 I
  obtain⟨_,_,_,_,_,ac,_,_⟩:=hT;have c5:=ac.c5;have e:t.l=(t.l.toNat:Int):=by omega
  have c1:=Y.c1;obtain⟨a,cap,ad,hq⟩:=Y.un;obtain⟨g,rfl,_,q⟩:=hq t.l.toNat ab;rw[ad] at c1;have Z:=Y.tr t.l.toNat ab;obtain⟨a2,G,u2⟩:=uN Z;have HL:Hid (∀e,(lets.getD t.l.toNat gI).kids=[]→fH F (e+1) w (E t.l.toNat) (lets.getD t.l.toNat gI)):=fun e I=>KO Z I
  generalize lets.getD t.l.toNat gI=R at*;generalize t.l.toNat=z at*;rw[I] at kk;rw[e] at c5;have ah:(0:Int)≤(z:Int)∧(z:Int)<(lets.length:Int):=by omega
  have J:Cq w b 0 (Iq ((2:Nat):Int))∧Cq w O 1 (Sq g lets.length cap)∧Cq w b 5 (Iq (z:Nat))∧Cq w g z (Pq (E z))∧Cq w (E z) 4 (.slice a2 R.kids.length G):=⟨kk,c1,c5,q,u2⟩;have V:=J
  by_cases U:R.kids=[]
  ·rw[Zu ⟨I,U⟩]
   have af:=Hi (HL.out d U);have hz:R.kids.length=0:=by rw[U];rfl
   rw[hz] at J V;go_enter func174,ntmps174;go_wp2
   go_region_held3 (fun W=>Cq W b 0 (Iq ((2:Nat):Int))∧Cq W O 1 (Sq g lets.length cap)∧Cq W b 5 (Iq (z:Nat))∧Cq W g z (Pq (E z))∧Cq W (E z) 4 (.slice a2 0 G)) (first|assumption|exact J|exact V|go_keep) (fail)
   all_goals
    go_wp2
    go_region_held3 (fun W=>Cq W b 0 (Iq ((2:Nat):Int))∧Cq W O 1 (Sq g lets.length cap)∧Cq W b 5 (Iq (z:Nat))∧Cq W g z (Pq (E z))∧Cq W (E z) 4 (.slice a2 0 G)) (first|assumption|exact J|exact V|go_keep) (fail)
    all_goals
     go_wp2;go_ret;exact⟨⟨_,rfl,fH.below af.out aa.out⟩,aa.out⟩
  ·rw[Zt (fun h=>U h.2)]
   have i0:((R.kids.length:Int)==0)=false:=by
    have:R.kids.length≠0:=fun e=>U (aap e)
    simp;omega
   generalize R.kids.length=tn at*;go_enter func174,ntmps174;go_wp2
   go_region_held3 (fun W=>Cq W b 0 (Iq ((2:Nat):Int))∧Cq W O 1 (Sq g lets.length cap)∧Cq W b 5 (Iq (z:Nat))∧Cq W g z (Pq (E z))∧Cq W (E z) 4 (.slice a2 tn G)) (first|assumption|exact J|exact V|go_keep) (fail)
   all_goals
    go_wp2;go_ret;exact⟨⟨_,rfl,fH.below HT.out HD.out⟩,HD.out⟩
 ·rw[Zt (fun h=>I h.1)]
  have i2:((t.k:Int)==2)=false:=by simp;omega
  generalize t.k=k at*;go_enter func174,ntmps174;go_wp2
  go_region
  all_goals
   go_wp2;go_ret;exact⟨⟨_,rfl,fH.below HT.out HD.out⟩,HD.out⟩
theorem tQ {F:Nat→Prop} (w:World) (I: ¬F w.heap.size) (k:Nat) (n:Int):fH F (e+1) (w.alloc (.cells #[Iq (k:Nat),Iq 0,Iq n,.string ⟨#[]⟩,.slice none 0 0,Iq 0] 229)) w.heap.size ⟨k,n,0,[]⟩:=by
 have J:=Zy w (.cells #[Iq (k:Nat),Iq 0,Iq n,.string ⟨#[]⟩,.slice none 0 0,Iq 0] 229);have z:=fun j=>Zz _ _ j _ _ _ J
 exact⟨0,[],.slice none 0 0,fun _=>0,I,⟨z 0,z 1,z 2,z 3,z 4,z 5⟩,⟨none,0,rfl,fun j D=>by simp at D⟩,fun j D=>by simp at D⟩
theorem tR {F:Nat→Prop} {lt:List Nat} {w:World} (hF:∀g,F g→g<w.heap.size) (hw:iC (d+1) t) (R:fH F (d+1) w b t) (V:dx lt (d+1) t≠0):
 Calls prog 175 #[Pq b] w fun e w'=>(∃b',e= .returned (Pq b')∧fH F (d+1) w' b' (mY (d+1) t))∧Below w.heap.size w w':=by
 have HT:Hid (fH F (d+1) w b t):=R;have I:=qq R;have ac:Below w.heap.size w w:=ZA _ _
 by_cases J:t.k=14
 ·have G:=EX hw J R
  have Y:Hid (mY (d+1) t=qE t):=by show mY (d+1) t=_;unfold mY;rw[Zu J]
  rw[Y.out];rw[J] at I;go_enter func175,ntmps175;go_wp2_with fail;apply G.mono;rintro e E ⟨⟨b',rfl,U⟩,h2⟩;have h3:=h2.symm;subst h3;have H1:=Hi U;go_wp2_with fail;go_ret;exact⟨⟨_,rfl,H1.out⟩,ac⟩
 ·have ad:((t.k:Int)==14)=false:=by simp;omega
  have G:=It hw R.tr V;obtain⟨a,cap,c4⟩:=uN R;have Y:Hid (mY (d+1) t=if gr (d+1) t=true∨t.kids=[] then t else if t.k=6∨t.k=7 then⟨1,fu [] jn (d+1) t,0,[]⟩ else if fu [] jn (d+1) t=1 then⟨20,0,0,[]⟩ else⟨21,0,0,[]⟩):=by show mY (d+1) t=_;unfold mY;rw[Zt J]
  rw[Y.out];have O:(t.kids=[]↔t.kids.length=0):=⟨fun e=>by rw[e];rfl,fun e=>aap e⟩
  by_cases Z:gr (d+1) t=true
  ·rw[Zu (Or.inl Z)]
   rw[Zu Z] at G;generalize t.kids.length=nk at*;generalize t.k=k at*;go_enter func175,ntmps175;go_wp2_with fail;apply G.mono;rintro e E ⟨rfl,z⟩;have D:=Hi z;go_wp2_with fail;go_ret;exact⟨⟨_,rfl,fH.below HT.out D.out⟩,D.out⟩
  ·rw[Zt Z] at G
   by_cases h0:t.kids=[]
   ·rw[Zu (Or.inr h0)]
    have hz:=O.1 h0;rw[hz] at c4;generalize fu [] jn (d+1) t=ev at*;generalize t.k=k at*;go_enter func175,ntmps175;go_wp2_with fail;apply G.mono;rintro e E ⟨rfl,z⟩;have aa:E.cell? ⟨b,4,none⟩=some (.slice a 0 cap):=by rw[z.cell (p:=⟨b,4,none⟩) (Zx w _ c4)];exact c4
    have D:=Hi z;go_wp2_with fail;go_ret;exact⟨⟨_,rfl,fH.below HT.out D.out⟩,D.out⟩
   ·rw[Zt (fun h=>h.elim Z h0)]
    have i0:((t.kids.length:Int)==0)=false:=by
     have:t.kids.length≠0:=fun e=>h0 (O.2 e)
     simp;omega
    generalize t.kids.length=nk at*;generalize fu [] jn (d+1) t=ev at*;generalize t.k=k at*
    by_cases h6:k=6∨k=7
    ·rw[Zu h6]
     rcases h6 with rfl|rfl
     ·go_enter func175,ntmps175
      go_wp2_with fail;apply G.mono;rintro e E ⟨rfl,z⟩;have aa:E.cell? ⟨b,4,none⟩=some (.slice a nk cap):=by rw[z.cell (p:=⟨b,4,none⟩) (Zx w _ c4)];exact c4
      have ab:E.cell? ⟨b,0,none⟩=some (Iq ((6:Nat):Int)):=by rw[z.cell (p:=⟨b,0,none⟩) (Zx w _ I)];exact I
      have D:=Hi z;go_wp2_with fail;go_ret;exact⟨⟨_,rfl,tQ E (fun x=>by have:=hF _ x;have:=D.out.size;omega) 1 ev⟩,D.out.alloc D.out.size _⟩
     ·go_enter func175,ntmps175
      go_wp2_with fail;apply G.mono;rintro e E ⟨rfl,z⟩;have aa:E.cell? ⟨b,4,none⟩=some (.slice a nk cap):=by rw[z.cell (p:=⟨b,4,none⟩) (Zx w _ c4)];exact c4
      have ab:E.cell? ⟨b,0,none⟩=some (Iq ((7:Nat):Int)):=by rw[z.cell (p:=⟨b,0,none⟩) (Zx w _ I)];exact I
      have D:=Hi z;go_wp2_with fail;go_ret;exact⟨⟨_,rfl,tQ E (fun x=>by have:=hF _ x;have:=D.out.size;omega) 1 ev⟩,D.out.alloc D.out.size _⟩
    ·rw[Zt h6]
     have i6:((k:Int)==6)=false:=by simp;omega
     have i7:((k:Int)==7)=false:=by simp;omega
     by_cases U:ev=1
     ·rw[Zu U]
      go_enter func175,ntmps175;go_wp2_with fail;apply G.mono;rintro e E ⟨rfl,z⟩;have aa:E.cell? ⟨b,4,none⟩=some (.slice a nk cap):=by rw[z.cell (p:=⟨b,4,none⟩) (Zx w _ c4)];exact c4
      have ab:E.cell? ⟨b,0,none⟩=some (Iq k):=by rw[z.cell (p:=⟨b,0,none⟩) (Zx w _ I)];exact I
      have D:=Hi z;go_wp2_with fail;go_ret;exact⟨⟨_,rfl,tQ E (fun x=>by have:=hF _ x;have:=D.out.size;omega) 20 0⟩,D.out.alloc D.out.size _⟩
     ·rw[Zt U]
      have ie:(ev==1)=false:=by simpa using U
      go_enter func175,ntmps175;go_wp2_with fail;apply G.mono;rintro e E ⟨rfl,z⟩;have aa:E.cell? ⟨b,4,none⟩=some (.slice a nk cap):=by rw[z.cell (p:=⟨b,4,none⟩) (Zx w _ c4)];exact c4
      have ab:E.cell? ⟨b,0,none⟩=some (Iq k):=by rw[z.cell (p:=⟨b,0,none⟩) (Zx w _ I)];exact I
      have D:=Hi z;go_wp2_with fail;go_ret;exact⟨⟨_,rfl,tQ E (fun x=>by have:=hF _ x;have:=D.out.size;omega) 21 0⟩,D.out.alloc D.out.size _⟩
theorem tS {w:World} {e:TypeId} {n:Nat} {v:Value} {xs:List Value} (h:w.ownsRow base e size v n xs):∃a cap,v= .slice a n cap:=by
 obtain⟨_,h⟩:=h;rcases h with⟨rfl,z⟩|⟨g,cap,D,rfl,_⟩
 ·exact⟨none,0,by rw[z]⟩
 ·exact⟨_,_,rfl⟩
theorem nD.more {F G:Nat→Prop} {w:World} {z:Nat} {n:Int} {lv:Value} {E:Nat→Nat} {D:Nat} {lets:List Tr} (h:nD F w z n lv E D lets) (I:∀g,g<w.heap.size→G g→F g):nD G w z n lv E D lets:=
 ⟨h.c0,h.c1,h.un,fun j J=>(h.tr j J).more I⟩
theorem nD.lt {F:Nat→Prop} {w:World} (h:nD F w z n lv E D lets):z<w.heap.size:=Zx w _ h.c0
def Ms (n:Int) (lets:List Tr) (lt:List Nat) (D d:Nat):Prop:= ∀{F:Nat→Prop} {t:Tr} {w:World} {G b:Nat} {lv:Value} {R:Nat→Nat},(∀g,F g→g<w.heap.size)→nD F w G n lv R D lets→iC d t→dx lt d t≠0→fH F d w b t→
 Calls prog 128 #[Pq G,Pq b] w fun e w'=>(∃I,e= .returned (Pq I)∧fH F d w' I (lr (dy n) lets d t))∧Below w.heap.size w w'
def vB (z:List Nat):List Value:=z.map fun b=> Pq b
structure Og (F:Nat→Prop) (n:Int) (lets:List Tr) (d:Nat) (ks:List Tr) (w wr:World) (v:Value) (bs:List Nat) (k:Nat):Prop where
 len:bs.length=k
 row:wr.ownsRow w.heap.size 161 1 v k (vB bs)
 bel:Below w.heap.size w wr
 tr:∀j,j<k→fH (fun g=>F g∨v.ownBlock=some g) d wr (bs.getD j 0) (lr (dy n) lets d (ks.getD j gI))
theorem zq:(prog.info? 161).map (fun i=>(i.zero,i.size,i.bytes))=some (some (.pointer none),1,8):=by kernel_rfl
theorem Og.next {F:Nat→Prop} {w D E:World} {v:Value} {G:List Nat} {cap:Nat} (h:Og F n lets d ks w wr v G k) (U:Below wr.heap.size wr D) (ht:fH (fun g=>F g∨v.ownBlock=some g) d D I (lr (dy n) lets d (ks.getD k gI)))
 (J:E.ownsRow w.heap.size 161 1 (Sq gg (k+1) cap) (k+1) (vB G++[Pq I])) (O:(D.alloc o).grownBy E v.ownBlock) (Z:v.ownBlock=some gg∨gg=D.heap.size+1):Og F n lets d ks w E (Sq gg (k+1) cap) (G++[I]) (k+1):=by
 have V:=h.bel.trans (U.mono h.bel.size);have ho:=((dt.refl (fun g=>v.ownBlock=some g) D).alloc _).grown O (fun k hk=> .inl hk)
 have step:∀{b:Nat} {t:Tr},fH (fun g=>F g∨v.ownBlock=some g) d D b t→fH (fun g=>F g∨(Value.slice (some ⟨gg,0,none⟩) (k+1) cap).ownBlock=some g) d E b t:=fun{b t} z=>by
  have h1:fH (fun g=>(F g∨v.ownBlock=some g)∨g=gg) d D b t:=z.more (fun g hg z=>by
   rcases z with z|z
   ·exact z
   ·subst z
    rcases Z with R|R
    ·exact .inr R
    ·omega)
  have R:=h1.only (w':=E) (ho.weak (fun i _ hi=> .inl (.inr hi)))
  refine R.more (fun g _ z=>?_)
  rcases z with z|z
  ·exact .inl (.inl z)
  ·simp[Value.ownBlock] at z
   exact .inr z.symm
 refine⟨by rw[ZC,h.len];rfl,?_,?_,fun j hj=>?_⟩
 ·unfold vB at J⊢
  rw[aag];exact J
 ·exact V.trans (ho.below V.size (fun g _ hg=>(h.row.lt g hg).1))
 ·by_cases Y:j<k
  ·have e:(G++[I]).getD j 0=G.getD j 0:=by
    rw[Zs,aah (by rw[h.len];exact Y),←Zs]
   rw[e];exact step ((h.tr j Y).below U)
  ·obtain rfl:j=k:=by omega
   have e:(G++[I]).getD j 0=I:=by
    rw[Zs,aaf (by rw[h.len];exact Zw _),h.len];simp
   rw[e];exact step ht
theorem yr {lt:List Nat} (H:Ms n lets lt D d) {F:Nat→Prop} {w:World} (hF:∀g,F g→g<w.heap.size) (hR:nD F w rp n lv bl D lets) (hu:As F w u ks.length kb) (hk:∀j,j<ks.length→iC d (ks.getD j gI)∧dx lt d (ks.getD j gI)≠0∧fH F d w (kb j) (ks.getD j gI)) (hl:ks.length≤3):
 Calls prog 173 #[.pointer (some ⟨rp,0,none⟩),u] w fun e w'=>(∃v G,e= .returned v∧As F w' v ks.length G∧ ∀j,j<ks.length→fH F d w' (G j) (lr (dy n) lets d (ks.getD j gI)))∧Below w.heap.size w w':=by
 obtain⟨a,cap,rfl,hq⟩:=hu;have HQ:=Hi hq;have HK:=Hi hk;have HR:=Hi hR;have HF:=Hi hF;have H0:Hid (Og F n lets d ks w w (.slice none 0 0) [] 0):=⟨rfl,aam _ _ _ _,ZA _ _,fun j Z=>by omega⟩
 obtain⟨i0,hi,hz⟩:=ZP.1 zq;simp only[ZT] at hz;obtain⟨ah,ai,aj⟩:=hz;go_enter func173,ntmps173;go_wp2
 go_loopw [5,10] (fun vv iv wr=> ∃(k:Nat) (I:List Nat),k≤ks.length∧iv= .int .i64 k∧Hid (Og F n lets d ks w wr vv I k)) (fun _ iv _=>ks.length - (intOf iv).toNat)
 case atStart=>exact⟨0,[],ZL _,rfl,H0.out⟩
 case round=>
  obtain⟨k,I,aq,rfl,HX⟩:=hrel
  by_cases aa:k<ks.length
  ·have z:=HX.out
   obtain⟨g,rfl,ak,q⟩:=HQ.out k aa;obtain⟨h1,h2,h3⟩:=HK.out k aa;have am:=Zx w _ q;have q':wr.cell? ⟨g,k,none⟩=some (.pointer (some ⟨kb k,0,none⟩)):=by rw[z.bel.cell (p:=⟨g,k,none⟩) am];exact q
   have ar:(0:Int)≤(k:Int)∧(k:Int)<(ks.length:Int):=by omega
   have Y:∀(v:Value),wr.ownsRow w.heap.size 161 1 v k (vB I)→ ∀g,g<w.heap.size→(F g∨v.ownBlock=some g)→F g:=fun v hv g hg E=>by
    rcases E with E|E
    ·exact E
    ·have:=(hv.lt g E).1;omega
   have W1:=H (F:=fun g=>F g∨_) (b:=kb k) (fun g E=>by
    rcases E with E|E
    ·have:=HF.out g E;have:=z.bel.size;omega
    ·exact(z.row.lt g E).2) ((HR.out.more (Y _ z.row)).below z.bel) h1 h2 ((h3.more (Y _ z.row)).below z.bel)
   obtain⟨va,J,V⟩:=tS z.row;obtain rfl:=V;have ae:=Hi z.row;have ab:=Hi z;go_wp2_with fail;apply W1.mono;rintro e w1 ⟨⟨b',rfl,ac⟩,O⟩;have an:=Hi ac;have ao:=Hi O;have ap:Hid (w1.ownsRow w.heap.size 161 1 (.slice va k J) k (vB I)):=dn ae.out O;have au:w.heap.size≤w1.heap.size:=by have:=ab.out.bel.size;have:=O.size;omega
   go_wp2_with (at_builtin;go_must (refine wpList_append_lies _ (by rfl) _ _ 227 (by rfl) w.heap.size 161 i0 (.pointer none) 1 8 underlying227 hi ah ai aj (by rfl) (by decide) _ _ _ (by rfl) (ap.out.alloc _) ⟨w1.heap.size,0,none⟩ 1 1 [.pointer (some ⟨b',0,none⟩)] (by rfl) (by rfl) (World.news_of_block (Zy w1 _)) (fun x E=>by simp at E;rcases E with rfl;rfl) (by decide) (by unfold maxLen;omega) (by omega) (by simp;omega) _ rfl ?_);intro gg af w5 R U ad ag;have HN:Hid (Og F n lets d ks w w5 (Sq gg (k+1) af) (I++[b']) (k+1)):=ab.out.next ao.out an.out R U (by rcases ad with h|h;exact .inl h;right;rw[h,ZB]);clear R U ad ag)
   go_roundw
   case rel=>exact⟨k+1,_,by omega,by go_num,HN.out⟩
   case measure=>simp[intOf];omega
  ·obtain rfl:k=ks.length:=by omega
   have z:=HX.out;have HU:Hid (∃G,As F wr u5 ks.length G∧ ∀j,j<ks.length→fH F d wr (G j) (lr (dy n) lets d (ks.getD j gI))):=by
    refine⟨fun j=>I.getD j 0,?_,fun j Z=>(z.tr j Z).more (fun g _ E=> .inl E)⟩
    obtain⟨va,J,V⟩:=tS z.row;subst V;refine⟨va,J,rfl,fun j Z=>?_⟩
    obtain⟨g,c2,V,av,_⟩:=World.ownsRow.form z.row (by omega)
    simp only[aak,abf] at V;obtain⟨rfl,rfl⟩:=V;refine⟨g,rfl,fun E=>by have:=HF.out g E;omega,?_⟩
    rw[aa1 z.row j (by omega)]
    unfold vB
    show(I.map fun b=>(Value.pointer (some ⟨b,0,none⟩)))[j]?=some (Value.pointer (some ⟨I.getD j 0,0,none⟩))
    rw[aaj,Zs,Zv (by rw[z.len];exact Z)]
    rfl
   have HB:=Hi z.bel;go_wp2;go_ret;obtain⟨G,u1,u2⟩:=HU.out;exact⟨⟨_,G,rfl,u1,u2⟩,HB.out⟩
structure N8 (n:Int) (lets:List Tr) (lt lt':List Nat) (lv lv' fl:List Int):Prop where
 ok:wT (dy n) lets lt lt' lv lv' fl
 hV:kR lt' lv'
 hF:eO fl
 own:∀i,lt.getD i 0≠0→i<lets.length
 few:lets.length≤1000
theorem KQ {F:Nat→Prop} {w:World} {l:Int} {nm:List UInt8} {z:List Tr} (R: ¬F w.heap.size) (U:As F w u z.length G) (V:∀j,j<z.length→fH F d w (G j) (z.getD j gI)):
 fH F (d+1) (w.alloc (.cells #[Iq (k:Nat),Iq pl,Iq n,S nm,u,Iq l] 229)) w.heap.size ⟨k,n,l,z⟩:=by
 have Y:=Zy w (.cells #[Iq (k:Nat),Iq pl,Iq n,S nm,u,Iq l] 229);have E:Below w.heap.size w (w.alloc (.cells #[Iq (k:Nat),Iq pl,Iq n,S nm,u,Iq l] 229)):=(ZA _ _).alloc (Zw _) _;have D:=fun j=>Zz _ _ j _ _ _ Y
 exact⟨pl,nm,u,G,R,⟨D 0,D 1,D 2,D 3,D 4,D 5⟩,U.below E,fun j Z=>(V j Z).below E⟩
theorem AB {lt:List Nat} (HC:N8 n lets lt lt' aR aQ fl) (H:Ms n lets lt D d):Ms n lets lt D (d+1):=by
 intro F t w rp b lv bl hF hR hw an hT;have aS:Hid (fH F (d+1) w b t):=hT;obtain⟨pl,nm,u,kb,aT,aF,aG,HK⟩:=hT;have aH:t.kids.length≤3:=by
  rcases hw.1 with⟨_,h2,_⟩|⟨_,_,h2⟩|⟨_,_,_,_,h2⟩|⟨_,_,_,h2⟩<;>rw[h2]<;>simp
 have aI:=nM hw an;have ax:∀j,j<t.kids.length→t.kids.getD j gI∈t.kids:=fun j hj=>by rw[Zs,Zv hj];exact ZV _
 have W1:=fun(W:World) (hb:Below w.heap.size w W)=>yr H (ks:=t.kids) (u:=u) (kb:=kb) (fun g hg=>by have:=hF g hg;have:=hb.size;omega) (hR.below hb) (aG.below hb) (fun j hj=>⟨hw.2 _ (ax j hj),aI _ (ax j hj),(HK j hj).below hb⟩) aH
 have aB:=yT HC.ok HC.hV HC.hF hw an;have aJ:=GQ HC.ok HC.hV HC.hF hw an;have az:(JM (dy n) lets d t).k=2→0≤(JM (dy n) lets d t).l∧(JM (dy n) lets d t).l.toNat<lets.length:=fun hk=>by
  have aK:t.k=2:=hk;have hs:=oW hw (by unfold dR;omega)
  have aU:0≤t.l:=by
   rcases hw.1 with⟨_,_,_,h4⟩|⟨h1,_⟩|⟨h1,_⟩|⟨h1,_⟩
   ·exact h4 aK
   ·omega
   ·omega
   ·unfold fL at h1;omega
  refine⟨aU,HC.own _ ?_⟩;rw[dx,Zu hs] at an;unfold eE at an
  rwa [Zt (by omega),Zu aK] at an
 have HP:Hid (∀(W:World) (u':Value) (ar:Nat→Nat),Below w.heap.size w W→As F W u' t.kids.length ar→(∀j,j<t.kids.length→fH F d W (ar j) (lr (dy n) lets d (t.kids.getD j gI)))→fH F (d+1) (W.alloc (.cells #[Iq (t.k:Nat),Iq pl,Iq t.n,S nm,u',Iq t.l] 229)) W.heap.size (JM (dy n) lets d t)):=fun W u' ar hb h1 h2=>by
  refine KQ (fun hx=>by have:=hF _ hx;have:=hb.size;omega) (by rw[aaA];exact h1) (fun j hj=>?_)
  rw[aaA] at hj;have e:(t.kids.map (lr (dy n) lets d)).getD j gI=lr (dy n) lets d (t.kids.getD j gI):=by
   simp[Zs,aaj,Zv hj]
  rw[e];exact h2 j hj
 have V:Hid (lr (dy n) lets (d+1) t=if jh n 4=true then iY (Ng (dy n) lets d t) else Ng (dy n) lets d t):=rfl
 have ae:Hid (Ng (dy n) lets d t=if jh n 2=true then mY (d+1) (K8 (dy n) lets d t) else K8 (dy n) lets d t):=rfl
 have am:Hid (K8 (dy n) lets d t=if jh n 1=true then oU lets (JM (dy n) lets d t) else JM (dy n) lets d t):=rfl
 have ah:Hid (iC (d+1) (K8 (dy n) lets d t)∧dx lt' (d+1) (K8 (dy n) lets d t)≠0):=⟨aB.wf,by rw[aB.ty];exact an⟩
 have au:Hid (iC (d+1) (Ng (dy n) lets d t)):=aJ.wf;have av:=Hi az;have HR:=Hi hR;have aA:=Hi hF;have aw:=Hi HC.few;have ap:b<w.heap.size:=Zx w _ aF.c0;obtain⟨c0,c1,c2,c3,c4,c5⟩:=aF;have E0:∀W,Below w.heap.size w W→W.cell? ⟨b,0,none⟩=some (Iq t.k):=fun W h=>by rw[h.cell (p:=⟨b,0,none⟩) ap];exact c0
 have E1:∀W,Below w.heap.size w W→W.cell? ⟨b,1,none⟩=some (Iq pl):=fun W h=>by rw[h.cell (p:=⟨b,1,none⟩) ap];exact c1
 have E2:∀W,Below w.heap.size w W→W.cell? ⟨b,2,none⟩=some (Iq t.n):=fun W h=>by rw[h.cell (p:=⟨b,2,none⟩) ap];exact c2
 have E3:∀W,Below w.heap.size w W→W.cell? ⟨b,3,none⟩=some (S nm):=fun W h=>by rw[h.cell (p:=⟨b,3,none⟩) ap];exact c3
 have E4:∀W,Below w.heap.size w W→W.cell? ⟨b,4,none⟩=some u:=fun W h=>by rw[h.cell (p:=⟨b,4,none⟩) ap];exact c4
 have E5:∀W,Below w.heap.size w W→W.cell? ⟨b,5,none⟩=some (Iq t.l):=fun W h=>by rw[h.cell (p:=⟨b,5,none⟩) ap];exact c5
 have aC:Below w.heap.size w w:=ZA _ _;have KD:Hid (∀W:World,Below w.heap.size w W→Below w.heap.size w W.drew):=fun W h=>h.drew
 have KA:Hid (∀(W:World) (o:Obj),Below w.heap.size w W→Below w.heap.size w (W.alloc o)):=fun W o h=>h.alloc h.size _
 have KB:Hid (∀W W':World,Below w.heap.size w W→Below W.heap.size W W'→Below w.heap.size w W'):=fun W W' h h'=>h.trans (h'.mono h.size)
 generalize t.kids=ks at*;go_enter func128,ntmps128;go_wp2
 go_region_held3 (fun W=>Below w.heap.size w W) (first|assumption|exact KB.out _ _ (by assumption) aD|exact KD.out _ aC|exact KD.out _ (by assumption)|exact KA.out _ _ (by assumption)|exact KD.out _ (KA.out _ _ (by assumption))|go_keep)
  (first
   |(go_at_call 173;refine(W1 _ (by assumption)).mono ?_;rintro e w1 ⟨⟨u',ar,rfl,aV,aL⟩,aD⟩;obtain⟨ua,ay,rfl,aM⟩:=aV;have aN:Hid (As F w1 (.slice ua ks.length ay) ks.length ar):=⟨ua,ay,rfl,aM⟩;have aO:Hid _:=aL;clear aM aL))
 all_goals
  rename_i hHeld
  have T0:=HP.out w1 _ ar (KB.out _ _ (KD.out _ aC) aD) aN.out aO.out;have aE:=HR.out.below hHeld;have aP:=hHeld;generalize w1.alloc (.cells #[Iq t.k,Iq pl,Iq t.n,S nm,.slice ua ks.length ay,Iq t.l] 229)=w2 at*;generalize w1.heap.size=b2 at*;have ao:Hid (fH F (d+1) w2 b2 (JM (dy n) lets d t)):=T0;have af:Hid (nD F w2 rp n lv bl D lets):=aE;have ag:Hid (Below w.heap.size w w2):=aP;have D1:=fP 1 aE.c0;generalize JM (dy n) lets d t=t0 at*;generalize aW:K8 (dy n) lets d t=t1 at*;generalize aX:Ng (dy n) lets d t=t2 at*
  cases h1:jh n 1
  ·rw[h1] at D1 am
   cases h2:jh n 2
   ·rw[h2] at ae
    cases h4:jh n 4
    ·rw[h4] at V
     go_wp2_with fail;apply D1.mono;rintro e w' ⟨rfl,z⟩;have E:=z.symm;subst E;have Y:Hid (fH F (d+1) w2 b2 t1):=by show fH F (d+1) w2 b2 t1;rw[am.out,Zt (by decide)];exact ao.out
     have G:=Hi ag.out;have I:=Hi af.out;have J:=fP 2 I.out.c0;rw[h2] at J;go_wp2_with fail;apply J.mono;rintro e w' ⟨rfl,z⟩;have E:=z.symm;subst E;have R:Hid (fH F (d+1) w2 b2 t2):=by show fH F (d+1) w2 b2 t2;rw[ae.out,Zt (by decide)];exact Y.out
     have U:=Hi G.out;have Z:=Hi I.out;have O:=fP 4 Z.out.c0;rw[h4] at O;go_wp2_with fail;apply O.mono;rintro e w' ⟨rfl,z⟩;have E:=z.symm;subst E;go_wp2;go_ret;exact⟨⟨_,rfl,by rw[V.out];first|(rw[Zt (by decide)];exact R.out)|(rw[Zt not_false];exact R.out)⟩,U.out⟩
    ·rw[h4] at V
     go_wp2_with fail;apply D1.mono;rintro e w' ⟨rfl,z⟩;have E:=z.symm;subst E;have Y:Hid (fH F (d+1) w2 b2 t1):=by show fH F (d+1) w2 b2 t1;rw[am.out,Zt (by decide)];exact ao.out
     have G:=Hi ag.out;have I:=Hi af.out;have J:=fP 2 I.out.c0;rw[h2] at J;go_wp2_with fail;apply J.mono;rintro e w' ⟨rfl,z⟩;have E:=z.symm;subst E;have R:Hid (fH F (d+1) w2 b2 t2):=by show fH F (d+1) w2 b2 t2;rw[ae.out,Zt (by decide)];exact Y.out
     have U:=Hi G.out;have Z:=Hi I.out;have O:=fP 4 Z.out.c0;rw[h4] at O;go_wp2_with fail;apply O.mono;rintro e w' ⟨rfl,z⟩;have E:=z.symm;subst E;have V3:=qW au.out R.out;go_wp2_with fail;apply V3.mono;rintro e w5 ⟨⟨b5,rfl,ai⟩,aj⟩;have aq:Hid (Below w.heap.size w w5):=U.out.trans (aj.mono U.out.size);have ak:=Hi ai;go_wp2;go_ret;exact⟨⟨_,rfl,by rw[V.out];first|(rw[Zu rfl];exact ak.out)|(rw[Zu trivial];exact ak.out)⟩,aq.out⟩
   ·rw[h2] at ae
    cases h4:jh n 4
    ·rw[h4] at V
     go_wp2_with fail;apply D1.mono;rintro e w' ⟨rfl,z⟩;have E:=z.symm;subst E;have Y:Hid (fH F (d+1) w2 b2 t1):=by show fH F (d+1) w2 b2 t1;rw[am.out,Zt (by decide)];exact ao.out
     have G:=Hi ag.out;have I:=Hi af.out;have J:=fP 2 I.out.c0;rw[h2] at J;go_wp2_with fail;apply J.mono;rintro e w' ⟨rfl,z⟩;have E:=z.symm;subst E;have V2:=tR (fun g hg=>by have:=aA.out g hg;have:=G.out.size;omega) ah.out.1 Y.out ah.out.2
     go_wp2_with fail;apply V2.mono;rintro e w4 ⟨⟨b4,rfl,aa⟩,ab⟩;have R:Hid (fH F (d+1) w4 b4 t2):=by show fH F (d+1) w4 b4 t2;rw[ae.out];first|(rw[Zu rfl];exact aa)|(rw[Zu trivial];exact aa)
     have U:Hid (Below w.heap.size w w4):=G.out.trans (ab.mono G.out.size);have Z:Hid (nD F w4 rp n lv bl D lets):=I.out.below ab;have O:=fP 4 Z.out.c0;rw[h4] at O;go_wp2_with fail;apply O.mono;rintro e w' ⟨rfl,z⟩;have E:=z.symm;subst E;go_wp2;go_ret;exact⟨⟨_,rfl,by rw[V.out];first|(rw[Zt (by decide)];exact R.out)|(rw[Zt not_false];exact R.out)⟩,U.out⟩
    ·rw[h4] at V
     go_wp2_with fail;apply D1.mono;rintro e w' ⟨rfl,z⟩;have E:=z.symm;subst E;have Y:Hid (fH F (d+1) w2 b2 t1):=by show fH F (d+1) w2 b2 t1;rw[am.out,Zt (by decide)];exact ao.out
     have G:=Hi ag.out;have I:=Hi af.out;have J:=fP 2 I.out.c0;rw[h2] at J;go_wp2_with fail;apply J.mono;rintro e w' ⟨rfl,z⟩;have E:=z.symm;subst E;have V2:=tR (fun g hg=>by have:=aA.out g hg;have:=G.out.size;omega) ah.out.1 Y.out ah.out.2
     go_wp2_with fail;apply V2.mono;rintro e w4 ⟨⟨b4,rfl,aa⟩,ab⟩;have R:Hid (fH F (d+1) w4 b4 t2):=by show fH F (d+1) w4 b4 t2;rw[ae.out];first|(rw[Zu rfl];exact aa)|(rw[Zu trivial];exact aa)
     have U:Hid (Below w.heap.size w w4):=G.out.trans (ab.mono G.out.size);have Z:Hid (nD F w4 rp n lv bl D lets):=I.out.below ab;have O:=fP 4 Z.out.c0;rw[h4] at O;go_wp2_with fail;apply O.mono;rintro e w' ⟨rfl,z⟩;have E:=z.symm;subst E;have V3:=qW au.out R.out;go_wp2_with fail;apply V3.mono;rintro e w5 ⟨⟨b5,rfl,ai⟩,aj⟩;have aq:Hid (Below w.heap.size w w5):=U.out.trans (aj.mono U.out.size);have ak:=Hi ai;go_wp2;go_ret;exact⟨⟨_,rfl,by rw[V.out];first|(rw[Zu rfl];exact ak.out)|(rw[Zu trivial];exact ak.out)⟩,aq.out⟩
  ·rw[h1] at D1 am
   cases h2:jh n 2
   ·rw[h2] at ae
    cases h4:jh n 4
    ·rw[h4] at V
     go_wp2_with fail;apply D1.mono;rintro e w' ⟨rfl,z⟩;have E:=z.symm;subst E;have V1:=pD af.out ao.out av.out aw.out;go_wp2_with fail;apply V1.mono;rintro e w3 ⟨⟨b3,rfl,ac⟩,ad⟩;have Y:Hid (fH F (d+1) w3 b3 t1):=by show fH F (d+1) w3 b3 t1;rw[am.out];first|(rw[Zu rfl];exact ac)|(rw[Zu trivial];exact ac)
     have G:Hid (Below w.heap.size w w3):=ag.out.trans (ad.mono ag.out.size);have I:Hid (nD F w3 rp n lv bl D lets):=af.out.below ad;have J:=fP 2 I.out.c0;rw[h2] at J;go_wp2_with fail;apply J.mono;rintro e w' ⟨rfl,z⟩;have E:=z.symm;subst E;have R:Hid (fH F (d+1) w3 b3 t2):=by show fH F (d+1) w3 b3 t2;rw[ae.out,Zt (by decide)];exact Y.out
     have U:=Hi G.out;have Z:=Hi I.out;have O:=fP 4 Z.out.c0;rw[h4] at O;go_wp2_with fail;apply O.mono;rintro e w' ⟨rfl,z⟩;have E:=z.symm;subst E;go_wp2;go_ret;exact⟨⟨_,rfl,by rw[V.out];first|(rw[Zt (by decide)];exact R.out)|(rw[Zt not_false];exact R.out)⟩,U.out⟩
    ·rw[h4] at V
     go_wp2_with fail;apply D1.mono;rintro e w' ⟨rfl,z⟩;have E:=z.symm;subst E;have V1:=pD af.out ao.out av.out aw.out;go_wp2_with fail;apply V1.mono;rintro e w3 ⟨⟨b3,rfl,ac⟩,ad⟩;have Y:Hid (fH F (d+1) w3 b3 t1):=by show fH F (d+1) w3 b3 t1;rw[am.out];first|(rw[Zu rfl];exact ac)|(rw[Zu trivial];exact ac)
     have G:Hid (Below w.heap.size w w3):=ag.out.trans (ad.mono ag.out.size);have I:Hid (nD F w3 rp n lv bl D lets):=af.out.below ad;have J:=fP 2 I.out.c0;rw[h2] at J;go_wp2_with fail;apply J.mono;rintro e w' ⟨rfl,z⟩;have E:=z.symm;subst E;have R:Hid (fH F (d+1) w3 b3 t2):=by show fH F (d+1) w3 b3 t2;rw[ae.out,Zt (by decide)];exact Y.out
     have U:=Hi G.out;have Z:=Hi I.out;have O:=fP 4 Z.out.c0;rw[h4] at O;go_wp2_with fail;apply O.mono;rintro e w' ⟨rfl,z⟩;have E:=z.symm;subst E;have V3:=qW au.out R.out;go_wp2_with fail;apply V3.mono;rintro e w5 ⟨⟨b5,rfl,ai⟩,aj⟩;have aq:Hid (Below w.heap.size w w5):=U.out.trans (aj.mono U.out.size);have ak:=Hi ai;go_wp2;go_ret;exact⟨⟨_,rfl,by rw[V.out];first|(rw[Zu rfl];exact ak.out)|(rw[Zu trivial];exact ak.out)⟩,aq.out⟩
   ·rw[h2] at ae
    cases h4:jh n 4
    ·rw[h4] at V
     go_wp2_with fail;apply D1.mono;rintro e w' ⟨rfl,z⟩;have E:=z.symm;subst E;have V1:=pD af.out ao.out av.out aw.out;go_wp2_with fail;apply V1.mono;rintro e w3 ⟨⟨b3,rfl,ac⟩,ad⟩;have Y:Hid (fH F (d+1) w3 b3 t1):=by show fH F (d+1) w3 b3 t1;rw[am.out];first|(rw[Zu rfl];exact ac)|(rw[Zu trivial];exact ac)
     have G:Hid (Below w.heap.size w w3):=ag.out.trans (ad.mono ag.out.size);have I:Hid (nD F w3 rp n lv bl D lets):=af.out.below ad;have J:=fP 2 I.out.c0;rw[h2] at J;go_wp2_with fail;apply J.mono;rintro e w' ⟨rfl,z⟩;have E:=z.symm;subst E;have V2:=tR (fun g hg=>by have:=aA.out g hg;have:=G.out.size;omega) ah.out.1 Y.out ah.out.2
     go_wp2_with fail;apply V2.mono;rintro e w4 ⟨⟨b4,rfl,aa⟩,ab⟩;have R:Hid (fH F (d+1) w4 b4 t2):=by show fH F (d+1) w4 b4 t2;rw[ae.out];first|(rw[Zu rfl];exact aa)|(rw[Zu trivial];exact aa)
     have U:Hid (Below w.heap.size w w4):=G.out.trans (ab.mono G.out.size);have Z:Hid (nD F w4 rp n lv bl D lets):=I.out.below ab;have O:=fP 4 Z.out.c0;rw[h4] at O;go_wp2_with fail;apply O.mono;rintro e w' ⟨rfl,z⟩;have E:=z.symm;subst E;go_wp2;go_ret;exact⟨⟨_,rfl,by rw[V.out];first|(rw[Zt (by decide)];exact R.out)|(rw[Zt not_false];exact R.out)⟩,U.out⟩
    ·rw[h4] at V
     go_wp2_with fail;apply D1.mono;rintro e w' ⟨rfl,z⟩;have E:=z.symm;subst E;have V1:=pD af.out ao.out av.out aw.out;go_wp2_with fail;apply V1.mono;rintro e w3 ⟨⟨b3,rfl,ac⟩,ad⟩;have Y:Hid (fH F (d+1) w3 b3 t1):=by show fH F (d+1) w3 b3 t1;rw[am.out];first|(rw[Zu rfl];exact ac)|(rw[Zu trivial];exact ac)
     have G:Hid (Below w.heap.size w w3):=ag.out.trans (ad.mono ag.out.size);have I:Hid (nD F w3 rp n lv bl D lets):=af.out.below ad;have J:=fP 2 I.out.c0;rw[h2] at J;go_wp2_with fail;apply J.mono;rintro e w' ⟨rfl,z⟩;have E:=z.symm;subst E;have V2:=tR (fun g hg=>by have:=aA.out g hg;have:=G.out.size;omega) ah.out.1 Y.out ah.out.2
     go_wp2_with fail;apply V2.mono;rintro e w4 ⟨⟨b4,rfl,aa⟩,ab⟩;have R:Hid (fH F (d+1) w4 b4 t2):=by show fH F (d+1) w4 b4 t2;rw[ae.out];first|(rw[Zu rfl];exact aa)|(rw[Zu trivial];exact aa)
     have U:Hid (Below w.heap.size w w4):=G.out.trans (ab.mono G.out.size);have Z:Hid (nD F w4 rp n lv bl D lets):=I.out.below ab;have O:=fP 4 Z.out.c0;rw[h4] at O;go_wp2_with fail;apply O.mono;rintro e w' ⟨rfl,z⟩;have E:=z.symm;subst E;have V3:=qW au.out R.out;go_wp2_with fail;apply V3.mono;rintro e w5 ⟨⟨b5,rfl,ai⟩,aj⟩;have aq:Hid (Below w.heap.size w w5):=U.out.trans (aj.mono U.out.size);have ak:=Hi ai;go_wp2;go_ret;exact⟨⟨_,rfl,by rw[V.out];first|(rw[Zu rfl];exact ak.out)|(rw[Zu trivial];exact ak.out)⟩,aq.out⟩
theorem KR {lt:List Nat} {E z:List Int} (G:N8 n lets lt lt' E z fl) (D d:Nat):Ms n lets lt D d:=by
 induction d with
 |zero=>intro F t w I b lv J _ _ h;exact h.elim
 |succ d ih=>exact AB G ih
theorem vq {F:Nat→Prop} {w:World} {Z:Nat} (o1:a1.oneCell'=true) (o2:a2.oneCell'=true) (o3:a3.oneCell'=true) (o4:a4.oneCell'=true) (o5:a5.oneCell'=true) (o6:a6.oneCell'=true) (o7:a7.oneCell'=true)
 (hR:nD F w Z n lv bl D lets) (hT:fH F d w b t):
 Calls prog 129 #[Pq Z,.agg #[Iq kd,a1,a2,a3,a4,a5,a6,a7,Iq wh,Pq b]] w fun e w'=>e= .returned (.bool (jh n 1&&(decide (kd=11)&&decide (t.kids=[]))))∧Below w.heap.size w w':=by
 have z:Below w.heap.size w (w.alloc (.cells #[Iq kd,a1,a2,a3,a4,a5,a6,a7,Iq wh,Pq b] 163)):=(ZA _ _).alloc (Zw _) _;have G:(w.alloc (.cells #[Iq kd,a1,a2,a3,a4,a5,a6,a7,Iq wh,Pq b] 163)).heap[w.heap.size]?=some (.cells #[Iq kd,a1,a2,a3,a4,a5,a6,a7,Iq wh,Pq b] 163 (0,0)):=Zy w _;have R:=hT.below z;have U:=hR.below z;generalize V:w.alloc (.cells #[Iq kd,a1,a2,a3,a4,a5,a6,a7,Iq wh,Pq b] 163)=I at*;have J:=Hi V;have c0:=Zz I _ 0 _ _ _ G;have c9:=Zz I _ 9 _ _ _ G;obtain⟨ua,aa,c4⟩:=uN R;have E:=fP 1 U.c0;have O:=Hi z;have e0:decide (t.kids=[])=((t.kids.length:Int)==0):=by
  cases t.kids with
  |nil=>rfl
  |cons x r=>simp;omega
 have e1:decide (kd=11)=((kd:Int)==11):=by
  by_cases h:kd=11
  ·subst h;rfl
  ·rw[Z4 h];symm;simp;omega
 rw[e0,e1];have KD:Hid (∀W:World,Below w.heap.size w W→Below w.heap.size w W.drew):=fun W h=>h.drew
 clear V G R U hT hR z e0 e1;generalize t.kids.length=tn at*
 cases Y:jh n 1
 ·rw[Y] at E
  go_enter func129,ntmps129;go_wp2_with fail;rw[J.out];apply E.mono;rintro e w' ⟨rfl,rfl⟩;go_wp2;go_ret;exact⟨rfl,O.out⟩
 ·rw[Y] at E
  cases ab:((kd:Int)==11)
  ·go_enter func129,ntmps129
   go_wp2_with fail;rw[J.out];apply E.mono;rintro e w' ⟨rfl,rfl⟩;go_wp2;go_ret;exact⟨rfl,O.out⟩
  ·cases h0:((tn:Int)==0)
   ·go_enter func129,ntmps129
    go_wp2_with fail;rw[J.out];apply E.mono;rintro e w' ⟨rfl,rfl⟩;go_wp2;go_ret;exact⟨rfl,O.out⟩
   ·go_enter func129,ntmps129
    go_wp2_with fail;rw[J.out];apply E.mono;rintro e w' ⟨rfl,rfl⟩;go_wp2;go_ret;exact⟨rfl,O.out⟩
def tT (w:World) (D:Nat) (nm:List Bool):Prop:=nm.length=10∧ ∀j,j<10→w.cell? ⟨D,j,none⟩=some (.bool (nm.getD j false))∧w.frozen? ⟨D,j,none⟩=false
theorem tT.put {w:World} (h:tT w z nm) (D:i<10):tT (w.setCell ⟨z,i,none⟩ (.bool true)) z (nm.set i true):=by
 refine⟨by rw[aaX];exact h.1,fun j E=>?_⟩
 refine⟨?_,by rw[World.frozen?_setCell];exact(h.2 j E).2⟩
 by_cases e:i=j
 ·subst e
  rw[dD (by rw[h.1];exact D)]
  exact World.cell?_setCell_same _ _ _ (h.2 i D).1
 ·rw[getD_set_ne e,abC _ _ _ _ (by intro q;injection q;omega)]
  exact(h.2 j E).1
theorem tT.drew {w:World} {z:Nat} {nm:List Bool} (h:tT w z nm):tT w.drew z nm:=h
def N9 (lt:List Nat) (d:Nat):Prop:= ∀{t:Tr} {w:World} {b z:Nat} {nm:List Bool},iC d t→dx lt d t≠0→fH (fun g=>g=z) d w b t→tT w z nm→
 Calls prog 177 #[Pq b,Pq z] w fun e w'=>e= .returned (.tuple #[])∧dt (fun g=>g=z) w w'∧tT w' z (jd d t nm)
structure OI (d np:Nat) (ks:List Tr) (nm:List Bool) (w wr:World) (k:Nat):Prop where
 only:dt (fun g=>g=np) w wr
 at_:tT wr np ((ks.take k).foldl (fun a c=>jd d c a) nm)
theorem OI.next {w D:World} (h:OI d z ks nm w wr k) (E:k<ks.length) (G:dt (fun g=>g=z) wr D) (I:tT D z (jd d (ks.getD k gI) ((ks.take k).foldl (fun a c=>jd d c a) nm))):OI d z ks nm w D (k+1):=by
 refine⟨h.only.trans G (fun _ _ x=>x) (fun _ _ x=>x),?_⟩
 have e:ks.take (k+1)=ks.take k++[ks.getD k gI]:=by
  rw[aa6,Zv E,Zs,Zv E];rfl
 rw[e,aaQ];exact I
theorem Mu {lt:List Nat} (ai:lt.length=10) (H:N9 lt d):N9 lt (d+1):=by
 intro t w b I nm J z hT V;have HT:Hid (fH (fun g=>g=I) (d+1) w b t):=hT
 obtain⟨pl,ao,u,kb,Y,G,aj,HK⟩:=hT;have Z:=nM J z;have E:∀j,j<t.kids.length→t.kids.getD j gI∈t.kids:=fun j hj=>by rw[Zs,Zv hj];exact ZV _
 have ap:t.kids.length≤3:=by
  rcases J.1 with⟨_,O,_⟩|⟨_,_,O⟩|⟨_,_,_,_,O⟩|⟨_,_,_,O⟩<;>rw[O]<;>simp
 have ac:Hid (∀j,j<t.kids.length→iC d (t.kids.getD j gI)∧dx lt d (t.kids.getD j gI)≠0∧fH (fun g=>g=I) d w (kb j) (t.kids.getD j gI)):=fun j hj=>⟨J.2 _ (E j hj),Z _ (E j hj),HK j hj⟩
 have HN:=Hi V;have c0:=G.c0;have c4:=G.c4;have ak:=Hi c4;have c5:=G.c5;obtain⟨a,cap,rfl,hq⟩:=aj;have HQ:=Hi hq;have aq:=Hi Y;have HE:Hid (jd (d+1) t nm=t.kids.foldl (fun a c=>jd d c a) (if t.k=2 then nm.set t.l.toNat true else nm)):=rfl
 by_cases D:t.k=2
 ·have hs:=oW J (by unfold dR;omega)
  have am:0≤t.l:=by
   rcases J.1 with⟨_,_,_,h4⟩|⟨U,_⟩|⟨U,_⟩|⟨U,_⟩
   ·exact h4 D
   ·omega
   ·omega
   ·unfold fL at U;omega
  have ad:t.l.toNat<10:=by
   rw[dx,Zu hs] at z;unfold eE at z;rw[Zt (by omega),Zu D] at z
   rw[←ai]
   by_cases e:t.l.toNat<lt.length
   ·exact e
   ·exfalso;apply z;rw[Zs,ZQ (by omega)];rfl
  have e:t.l=(t.l.toNat:Int):=by omega
  rw[e] at c5;rw[D] at c0;have ae:Hid (jd (d+1) t nm=nm.set t.l.toNat true):=by
   show jd (d+1) t nm=_
   rw[HE.out,Zu D,hs];rfl
  have aa:t.kids.length=0:=by rw[hs];rfl
  rw[aa] at c4;generalize t.l.toNat=li at*;obtain⟨n1,n2⟩:=V.2 li ad;have ar:(0:Int)≤(li:Int)∧(li:Int)<10:=by omega
  have au:(w.setCell ⟨I,li,none⟩ (.bool true)).cell? ⟨b,4,none⟩=some (.slice a 0 cap):=by
   rw[World.cell?_setCell_far _ _ _ _ (by intro q;exact Y q.symm)];exact c4
  rw[ae.out];go_enter func177,ntmps177;go_wp2
  go_region
  all_goals
   go_wp2
   go_loopw [24] (fun iv wr=>iv= Iq 0∧Hid (wr=(w.setCell ⟨I,li,none⟩ (.bool true)).drew)) (fun _ _=>0)
   case atStart=>exact⟨rfl,(rfl:_=_)⟩
   case round=>
    obtain⟨rfl,HW⟩:=hrel
    go_wp2
    go_end0
    rw[HW.out];exact⟨rfl,((dt.refl (fun g=>g=I) w).setCell (.inl rfl) _).drew,(tT.put HN.out ad).drew⟩
 ·rw[HE.out,Zt D]
  have i2:((t.k:Int)==2)=false:=by simp;omega
  have H0:Hid (OI d I t.kids nm w w 0):=⟨dt.refl _ _,by rw[List.take_zero];exact V⟩
  generalize t.kids=ks at*;generalize t.k=tk at*;go_enter func177,ntmps177;go_wp2
  go_loopw [24] (fun iv wr=> ∃(k:Nat),k≤ks.length∧iv= Iq k∧Hid (OI d I ks nm w wr k)) (fun iv _=>ks.length - (intOf iv).toNat)
  case atStart=>exact⟨0,ZL _,rfl,H0.out⟩
  case round=>
   obtain⟨k,av,rfl,HX⟩:=hrel
   by_cases ab:k<ks.length
   ·have R:=HX.out
    obtain⟨g,rfl,af,q⟩:=HQ.out k ab;obtain⟨U,O,h3⟩:=ac.out k ab;have q':wr.cell? ⟨g,k,none⟩=some (Pq (kb k)):=by rw[ZI (w:=w) (a:=⟨g,k,none⟩) (R.only.block g (Zx w _ q) af)];exact q
    have aw:(0:Int)≤(k:Int)∧(k:Int)<(ks.length:Int):=by omega
    have W1:=H U O (h3.only R.only) R.at_;go_wp2_with fail;apply W1.mono;rintro e w1 ⟨rfl,ag,ah⟩;have an:=Hi (HX.out.next ab ag ah);go_wp2
    go_roundw
    case rel=>exact⟨k+1,by omega,by go_num,an.out⟩
    case measure=>simp[intOf];omega
   ·obtain rfl:k=ks.length:=by omega
    go_wp2
    go_end0
    have R:=HX.out;refine⟨rfl,R.only,?_⟩;have:=R.at_
    rwa [abc] at this
theorem OJ {lt:List Nat} (z:lt.length=10) (d:Nat):N9 lt d:=by
 induction d with
 |zero=>intro t w b D nm h;exact h.elim
 |succ d ih=>exact Mu z ih
abbrev Yt:=Tok×Tok×Nat×Int
def CY:Yt:=(ff,ff,0,0)
def nw:fV:=⟨0,0,gI⟩
structure Oh (F:Nat→Prop) (d:Nat) (w:World) (x:fV) (y:Yt):Prop where
 kd:da y.1=x.kind
 wh:y.2.2.2=(x.wh:Int)
 tr:fH F d w y.2.2.1 x.c
def iZ (F:Nat→Prop) (d:Nat) (w:World) (xs:List fV) (ys:List Yt):Prop:=xs.length=ys.length∧ ∀j,j<ys.length→Oh F d w (xs.getD j nw) (ys.getD j CY)
theorem iZ.nil {F:Nat→Prop} {w:World}:iZ F d w [] []:=⟨rfl,fun j z=>by simp at z⟩
variable {ys:List Yt} {y:Yt}
theorem iZ.snoc {F:Nat→Prop} {w:World} (h:iZ F d w xs ys) (D:Oh F d w x y):iZ F d w (xs++[x]) (ys++[y]):=by
 have z:=h.1;refine⟨by simp[z],fun j E=>?_⟩
 by_cases e:j<ys.length
 ·rw[kU e,kU (by omega)];exact h.2 j e
 ·have G:j=ys.length:=by simp at E;omega
  subst G;rw[iM,←z,iM];exact D
theorem iZ.map {F G:Nat→Prop} {w:World} (h:iZ F d w xs ys) (D:∀b t,fH F d w b t→fH G d w' b t):iZ G d w' xs ys:=⟨h.1,fun j z=>⟨(h.2 j z).kd,(h.2 j z).wh,D _ _ (h.2 j z).tr⟩⟩
def l6 (w:World) (v:Value) (ys:List Yt):Prop:= ∃a cap,v= .slice a ys.length cap∧ ∀k,k<ys.length→ ∃g,a=some ⟨g,0,none⟩∧g<w.heap.size∧ ∀j,j<10→w.cell? ⟨g,k*10+j,none⟩=(fC (ys.getD k CY))[j]?
theorem l6.of_row {w:World} {v:Value} (h:w.ownsRow base 163 10 v ys.length (dV ys)):l6 w v ys:=by
 obtain⟨a,cap,e,z⟩:=lD h;refine⟨a,cap,e,fun k D=>?_⟩
 obtain⟨g,e,⟨cs,E⟩,G⟩:=z k D;exact⟨g,e,be E,G⟩
theorem l6.below {w:World} {v:Value} (h:l6 w v ys) (z:Below w.heap.size w w'):l6 w' v ys:=by
 obtain⟨a,cap,e,E⟩:=h;refine⟨a,cap,e,fun k G=>?_⟩
 obtain⟨g,e,I,J⟩:=E k G;exact⟨g,e,by have:=z.size;omega,fun j D=>by rw[z.cell (p:=⟨g,k*10+j,none⟩) I];exact J j D⟩
theorem AD {α:Type} {l:List α} (h:k<l.length) (d:α):l.drop k=l.getD k d::l.drop (k+1):=by
 rw[ZW h,Zs,Zv h];rfl
theorem OK {F:Nat→Prop} {w:World} (h:fH F d w b t):b<w.heap.size∧Cq w b 0 (Iq t.k):=by
 cases d with
 |zero=>exact h.elim
 |succ d=>
  obtain⟨_,_,_,_,_,z,_,_⟩:=h;exact⟨Zx w _ z.c0,z.c0⟩
structure Iu (F:Nat→Prop) (d:Nat) (w wr:World) (v:Value) (ks:List fV) (ys:List Yt):Prop where
 row:wr.ownsRow w.heap.size 163 10 v ys.length (dV ys)
 bel:Below w.heap.size w wr
 its:iZ F d w ks ys
theorem Iu.next {F:Nat→Prop} {w z D:World} {v:Value} {ks:List fV} {cap:Nat} (h:Iu F d w wr v ks ys) (J:Below wr.heap.size wr z) (O:Oh F d w x y)
 (I:D.ownsRow w.heap.size 163 10 (Sq gg (ys.length+1) cap) (ys.length+1) (dV ys++fC y)) (E:(z.alloc o).grownBy D v.ownBlock):Iu F d w D (Sq gg (ys.length+1) cap) (ks++[x]) (ys++[y]):=by
 have G:=h.bel.trans (J.mono h.bel.size);have R:=((dt.refl (fun g=>v.ownBlock=some g) z).alloc _).grown E (fun k U=> .inl U)
 refine⟨?_,G.trans (R.below G.size (fun g _ V=>(h.row.lt g V).1)),h.its.snoc O⟩
 rw[nJ,ZC];exact I
theorem Iu.grow {F:Nat→Prop} {w z:World} {v:Value} {ks:List fV} (h:Iu F d w wr v ks ys) (D:Below wr.heap.size wr z):Iu F d w z v ks ys:=⟨dn h.row D,h.bel.trans (D.mono h.bel.size),h.its⟩
theorem jA {z E:World} {row:Option Nat} (D:(z.alloc o).grownBy E row) (U:b<z.heap.size) (J:row≠some b):E.cell? ⟨b,j,none⟩=z.cell? ⟨b,j,none⟩:=by
 have V:=((dt.refl (fun g=>row=some g) z).alloc _).grown D (fun k Y=> .inl Y)
 exact ZI (w:=z) (a:=⟨b,j,none⟩) (V.block b U J)
def ko (jmp:Bool) (d:Nat) (L:List fV) (l:List L3):List L3:=L.foldl (fun l x=>l++iE jmp d x l.length) l
def sE (jmp:Bool) (d:Nat) (L:List fV) (a:Nat):Nat:=L.foldl (fun a x=>max a (iD jmp d x)) a
def uO (L:List fV) (c:Nat):Nat:=L.foldl (fun c x=>if x.kind=11 then x.wh+1 else c) c
theorem qX {α:Type} {L:List α} {x:α} (h:L[k]?=some x):L.take (k+1)=L.take k++[x]:=by
 rw[aa6,h];rfl
theorem EY {jmp:Bool} (h:L[k]?=some x):ko jmp d (L.take (k+1)) l=ko jmp d (L.take k) l++iE jmp d x (ko jmp d (L.take k) l).length:=by
 rw[qX h];unfold ko;rw[aaQ];rfl
theorem Iv {jmp:Bool} (h:L[k]?=some x):sE jmp d (L.take (k+1)) a=max (sE jmp d (L.take k) a) (iD jmp d x):=by
 rw[qX h];unfold sE;rw[aaQ];rfl
theorem Iw (h:L[k]?=some x):uO (L.take (k+1)) c=if x.kind=11 then x.wh+1 else uO (L.take k) c:=by
 rw[qX h];unfold uO;rw[aaQ];rfl
theorem uP {jmp:Bool} {d:Nat}:∀{L:List fV} {l:List L3} {lt:List Nat},ko jmp d L l++[⟨18,0,0⟩]=l++(lg jmp d L lt l.length).map er
 |[],l,lt=>rfl
 |x::r,l,lt=>by
  have D:=KL jmp d x l.length
  by_cases z:x.kind=11
  ·have ih:=uP (jmp:=jmp) (d:=d) (L:=r) (l:=l++iE jmp d x l.length) (lt:=lt.set x.wh (dx lt d x.c))
   have e:ko jmp d (x::r) l=ko jmp d r (l++iE jmp d x l.length):=rfl;rw[e,ih,lg,Zu z,ZC,D];unfold iE iS;rw[Zu z,Zu z];unfold gE;rw[xH jmp d none x.c ⟨[],[]⟩ ⟨[],lt⟩];simp[er,aaV]
  ·have ih:=uP (jmp:=jmp) (d:=d) (L:=r) (l:=l++iE jmp d x l.length) (lt:=lt)
   have e:ko jmp d (x::r) l=ko jmp d r (l++iE jmp d x l.length):=rfl;rw[e,ih,lg,Zt z,ZC,D];unfold iE iS;rw[Zt z,Zt z];rw[xH jmp d (some false) x.c ⟨[],[]⟩ ⟨[],lt⟩];simp[er,aaV]
theorem AE {jmp:Bool} {d:Nat}:∀{L:List fV} {a:Nat},sE jmp d L a=max a (JG jmp d L)
 |[],a=>by simp[sE,JG]
 |x::r,a=>by
  have e:sE jmp d (x::r) a=sE jmp d r (max a (iD jmp d x)):=rfl;rw[e,AE,JG];unfold iD;omega
theorem xT:∀{L:List fV} {c:Nat},uO L c=kV L c
 |[],c=>rfl
 |x::r,c=>by
  have e:uO (x::r) c=uO r (if x.kind=11 then x.wh+1 else c):=rfl
  rw[e,xT,kV]
theorem qs (h:1≤z∧z≤18):1+dK z=dr z:=by
 have e:z=1∨z=2∨z=3∨z=4∨z=5∨z=6∨z=7∨z=8∨z=9∨z=10∨z=11∨z=12∨z=13∨z=14∨z=15∨z=16∨z=17∨z=18:=by omega
 rcases e with e|e|e|e|e|e|e|e|e|e|e|e|e|e|e|e|e|e<;>rw[e]<;>decide
theorem MP {F:List j8} (h:∀x∈F,1≤x.op∧x.op≤18) (i:Nat):tL (F.map er) i=Aj F i:=by
 unfold tL Aj vw;rw[←List.map_take,aa4]
 congr 2
 refine Z5 fun x z=>?_
 exact qs (h x (abB z))
theorem KT {F:List j8} (dep cells:Nat) (h:∀x∈F,1≤x.op∧x.op≤18):OC dep cells (F.map er)=ni dep cells F:=by
 unfold OC ni;rw[aaF]
 congr 1
 unfold Ia mf;have e:qF F=(List.range (F.map er).length).map fun i=>(((F.map er).getD i gL).op,CM (F.map er) i ((F.map er).getD i gL)):=by
  apply abP
  intro i;rw[aaj,aaA]
  by_cases z:i<F.length
  ·have D:F[i]?=some F[i]:=Zv z
   have E:=h F[i] (ZV z);generalize F[i]=x at*;have G:(F.map er).getD i gL=er x:=by rw[Zs,aaj,D];rfl
   rw[BU D,abm z,abI,G];have:CM (F.map er) i (er x)=BS F i x:=by
    unfold CM BS
    by_cases g:x.op=15∨x.op=16
    ·have I:(er x).op=15∨(er x).op=16:=g
     have:1+dK (er x).op=3:=by
      have O:=qs E;have:dr x.op=3:=by rcases g with e|e<;>rw[e]<;>rfl
      rw[this] at O;exact O
     rw[Zu g,Zu I,MP h,MP h,this];rfl
    ·have I: ¬((er x).op=15∨(er x).op=16):=g
     rw[Zt g,Zt I];rfl
   rw[this];rfl
  ·rw[ZQ (by rw[sg];omega),ZQ (by simp;omega)];rfl
 rw[e,List.flatMap_map];have J:∀i,i∈List.range (F.map er).length→H9 (F.map er) i ((F.map er).getD i gL)=oZ (((F.map er).getD i gL).op,CM (F.map er) i ((F.map er).getD i gL)):=fun i z=>by
  have z:i<F.length:=by simpa using z
  have D:=Zv z;have E:=h F[i] (ZV z);generalize F[i]=x at*;have G:(F.map er).getD i gL=er x:=by rw[Zs,aaj,D];rfl
  rw[G];unfold H9 oZ;have:=qs E;have R:dK (er x).op=dr (er x).op - 1:=by simp only[er];omega
  rw[R]
 rw[List.flatMap_def,List.flatMap_def,Z5 J]
theorem Mv {jmp:Bool} (d:Nat):∀{t:Tr} {m:Option Bool},iC d t→dC jmp d m t+(if m=none then 2 else 0)≤3*fz d t:=by
 induction d with
 |zero=>intro t m h;exact h.elim
 |succ d ih=>
  intro t m h;have G:=h.2;have ac:dC jmp (d+1) none t+2≤3*fz (d+1) t:=by
   rcases h.1 with⟨D,z,_⟩|⟨D,a,z⟩|⟨D,a,b,c,z⟩|⟨D,a,b,z⟩
   ·have I: ¬t.k=14:=by unfold dR at D;omega
    have J: ¬t.k=19:=by unfold dR at D;omega
    simp only[dC,Zt I,Zt J,z,aas];rw[Zt (by decide)]
    have:=oV h;omega
   ·have I: ¬t.k=14:=by omega
    have O:t.kid 0=a:=by unfold Tr.kid;rw[z];rfl
    simp only[dC,Zt I,Zu D,O];have R:=ih (m:=none) (G a (by rw[z];simp))
    rw[vM z];simp at R;omega
   ·have O:t.kid 0=a:=by unfold Tr.kid;rw[z];rfl
    have U:t.kid 1=b:=by unfold Tr.kid;rw[z];rfl
    have e2:t.kid 2=c:=by unfold Tr.kid;rw[z];rfl
    simp only[dC,Zu D,O,U,e2];have R:=ih (m:=some false) (G a (by rw[z];simp))
    have E:=ih (m:=none) (G b (by rw[z];simp))
    have h3:=ih (m:=none) (G c (by rw[z];simp))
    simp only[aax,reduceCtorEq,abw] at R E h3;rw[Ai z];omega
   ·have I: ¬t.k=14:=by unfold fL at D;omega
    have J: ¬t.k=19:=by unfold fL at D;omega
    have hl:t.kids.length=2:=by rw[z];rfl
    have O:t.kid 0=a:=by unfold Tr.kid;rw[z];rfl
    have U:t.kid 1=b:=by unfold Tr.kid;rw[z];rfl
    simp only[dC,Zt I,Zt J,Zu hl,O,U];have R:=ih (m:=none) (G a (by rw[z];simp))
    have E:=ih (m:=none) (G b (by rw[z];simp))
    rw[vN z];simp at R E;omega
  cases m with
  |none=>exact ac
  |some this=>
   simp only[reduceCtorEq,abw,abG]
   cases Y:oY jmp t.k with
   |false=>
    have aa:dC jmp (d+1) (some this) t=dC jmp (d+1) none t+(if this then 2 else 1):=by
     simp only[dC,Y];rfl
    rw[aa];have:(if this then 2 else 1)≤2:=by cases this<;>simp
    omega
   |true=>
    simp only[dC,Y,aax];rcases h.1 with⟨D,z,_⟩|⟨D,a,z⟩|⟨D,a,b,c,z⟩|⟨D,a,b,z⟩
    ·have E:t.k=20∨t.k=21:=by
      unfold oY at Y;unfold dR at D
      simp at Y;omega
     rw[Zu E];have:=oV h
     split<;>omega
    ·have E: ¬(t.k=20∨t.k=21):=by omega
     have O:t.kid 0=a:=by unfold Tr.kid;rw[z];rfl
     rw[Zt E,Zu D,O,vM z];have R:=ih (m:=some (!this)) (G a (by rw[z];simp))
     simp at R;omega
    ·have E: ¬(t.k=20∨t.k=21):=by omega
     have J: ¬t.k=19:=by omega
     have O:t.kid 0=a:=by unfold Tr.kid;rw[z];rfl
     have U:t.kid 1=b:=by unfold Tr.kid;rw[z];rfl
     have e2:t.kid 2=c:=by unfold Tr.kid;rw[z];rfl
     rw[Zt E,Zt J,Zu D,O,U,e2,Ai z];have R:=ih (m:=some false) (G a (by rw[z];simp))
     have E:=ih (m:=some this) (G b (by rw[z];simp))
     have h3:=ih (m:=some this) (G c (by rw[z];simp))
     simp only[reduceCtorEq,abw] at R E h3;omega
    ·have E: ¬(t.k=20∨t.k=21):=by unfold fL at D;omega
     have J: ¬t.k=19:=by unfold fL at D;omega
     have I: ¬t.k=14:=by unfold fL at D;omega
     have O:t.kid 0=a:=by unfold Tr.kid;rw[z];rfl
     have U:t.kid 1=b:=by unfold Tr.kid;rw[z];rfl
     rw[Zt E,Zt J,Zt I,O,U,vN z];have R:=ih (m:=some (decide (t.k=17))) (G a (by rw[z];simp))
     have E:=ih (m:=some this) (G b (by rw[z];simp))
     simp only[reduceCtorEq,abw] at R E;omega
theorem KU {jmp:Bool} (h:iC d x.c):iS jmp d x≤3*fz d x.c+1:=by
 unfold iS;have z:=Mv (jmp:=jmp) d (m:=if x.kind=11 then none else some false) h
 omega
theorem uQ {jmp:Bool} {d:Nat}:∀{L:List fV} {l:List L3},(∀x∈L,iC d x.c)→(ko jmp d L l).length≤l.length+3*gY d L+L.length
 |[],l,_=>by simp[ko,gY]
 |x::r,l,h=>by
  have e:ko jmp d (x::r) l=ko jmp d r (l++iE jmp d x l.length):=rfl;have z:gY d (x::r)=fz d x.c+gY d r:=by simp[gY]
  have ih:=uQ (jmp:=jmp) (l:=l++iE jmp d x l.length) (L:=r) (fun y D=>h y (by simp[D]))
  rw[ZC,KL] at ih;have:=KU (jmp:=jmp) (h x (by simp))
  rw[e,z,Z7];omega
theorem Ix (L:List fV) (k:Nat):gY d (L.take k)≤gY d L:=by
 have h:gY d L=gY d (L.take k)+gY d (L.drop k):=by
  have e:=aaY (fun l=>(l.map fun x:fV=>fz d x.c).sum) (abS k L)
  simp only[aag,List.sum_append] at e;exact e.symm
 omega
theorem AF {d:Nat}:∀{l:List fV} {lt:List Nat},pJ d lt l→ ∀x∈l,iC d x.c
 |[],_,_=>by simp
 |x::r,lt,h=>by
  obtain⟨E,G,h3⟩:=h;intro y z;simp only[ZU] at z;rcases z with rfl|z
  ·exact E
  ·rcases h3 with⟨_,_,D⟩|⟨_,_,_,D⟩<;>exact AF D y z
theorem Iy {p:ny} (hd:d≤24) {l:List fV} {G:List L3} (hT:pJ d eZ l) (hS:oj 0 l) (hn:gY d l≤200) (hl:l.length≤30) (eL:pI p d l=L) (R:ko p.jmp d L []++[⟨18,0,0⟩]=G):
 OC (sE p.jmp d L 0) (uO L 0) G=lG p d l∧G.length≤700∧(∀x∈G,x.op<256∧((x.op=15∨x.op=16)→x.tj<G.length))∧sE p.jmp d L 0≤24∧uO L 0≤10∧pJ d eZ L∧gY d L≤200∧L.length≤30:=by
 obtain⟨J,_,r3,r4⟩:=Fl (p:=p) my hT hS;have ab:=(tz hS).1.sublist (BX (p:=p) (d:=d) (l:=l));unfold lG;rw[eL] at*;have ac:=Ak J;have an:eZ.length=10:=rfl;have ad:kV L 0≤10:=yS (fun x z V=>by have:=ac x z V;omega) (by omega)
 have ae:=(qK (c:=0) ab (fun _ _ _=>ZL _)).2
 rw[xT,AE,Nat.zero_max];generalize kV L 0=C at*;have hz:∀i,(List.replicate C 0).getD i 0=eZ.getD i 0:=fun i=>by
  rw[iz,Zs,aat];split<;>rfl
 have af:=J.other hz (fun x z V=>by rw[aaw];exact ae x z V)
 have Y:Sub (lg p.jmp d L (List.replicate C 0) 0) 0 (lg p.jmp d L (List.replicate C 0) 0):=⟨[],[],by simp,rfl⟩
 have E:=qI (jmp:=p.jmp) (dep:=JG p.jmp d L) (cells:=C) (by omega) af (by simp) (Zw _) Y
 rw[aaq] at E;have D:=uP (jmp:=p.jmp) (d:=d) (L:=L) (l:=[]) (lt:=List.replicate C 0);rw[R,aaF,aas] at D;have Z:=uQ (jmp:=p.jmp) (l:=[]) (AF J);have ag:G.length≤700:=by
  rw[←R,ZC];simp only[aas,Z7] at Z⊢;have:=r4;omega
 have I:∀x∈lg p.jmp d L (List.replicate C 0) 0,(1≤x.op∧x.op≤18)∧((x.op=15∨x.op=16)→x.to<(lg p.jmp d L (List.replicate C 0) 0).length):=fun x z=>by
  obtain⟨i,hi⟩:=abt.1 z;have ah:i<_:=(Z6.1 hi).1;have c:=E i x (ZL _) ah hi;refine⟨c.num.ops,fun g=>?_⟩
  obtain⟨k',_,_,_,hj⟩:=c.doe;obtain⟨_,y,j2,_⟩:=hj g;exact(Z6.1 j2).1
 have aq:=Af p.jmp d L;refine⟨?_,ag,?_,by omega,ad,J,by omega,by omega⟩
 ·rw[D]
  exact KT _ _ (fun x z=>(I x z).1)
 ·rw[D]
  intro x z;obtain⟨y,hy,rfl⟩:=aav.1 z;obtain⟨q1,q2⟩:=I y hy;exact⟨by simp only[er];omega,fun g=>by rw[aaA];exact q2 g⟩
theorem MQ:∀{g:Nat} {w:World} {b:Nat} {t:Tr},pK f w b t→iC g t→pK g w b t:=by
 induction f with
 |zero=>intro g w b t h;exact h.elim
 |succ f ih=>
  intro g w b t h z
  cases g with
  |zero=>exact z.elim
  |succ g=>
   obtain⟨pl,nm,u,E,G,I,h3⟩:=h;exact⟨pl,nm,u,E,G,I,fun j D=>ih (h3 j D) (mj z D)⟩
theorem iZ.cons {F:Nat→Prop} {d:Nat} {w:World} {xs:List fV} {ys:List Yt} {x:fV} {y:Yt} (z:Oh F d w x y) (h:iZ F d w xs ys):iZ F d w (x::xs) (y::ys):=by
 refine⟨by simp[h.1],fun j D=>?_⟩
 cases j with
 |zero=>exact z
 |succ j=>exact h.2 j (by simpa using D)
theorem AG {bs:Nat} {L:List Pt} {ix:List UInt8→Int} {w:World}:∀{xs:List dY} {ys:List Yt} {l r fr:Nat},fB L xs fr→dQ (ey bs L (N1 ix) w) xs ys→sT l r xs ys→(∀x∈tC ix L l r xs,iC 24 x.c)→iZ (fun g=>w.heap.size≤g) 24 w (tC ix L l r xs) ys
 |[],[],_,_,_,_,_,_,_=>iZ.nil
 |[],_::_,_,_,_,_,h,_,_=>h.elim
 |_::_,[],_,_,_,_,h,_,_=>h.elim
 |x::xs,y::ys,l,r,fr,J,G,Z,D=>by
  have ht:=ey.tr _ J.1.fit G.1.1;rw[tC] at D⊢
  by_cases E:x.name=[]
  ·rw[Zu E] at D⊢
   have I:=D _ (List.mem_cons_self ..);rcases Z with⟨O,_⟩|⟨_,R,h3⟩
   ·exact absurd E O
   rcases G.1.2 with⟨U,_⟩|⟨_,V,_⟩
   ·exact absurd E U
   exact iZ.cons ⟨V,R,(MQ ht I).off⟩ (AG J.2.2 G.2 h3 (fun z Y=>D z (abV _ Y)))
  ·rw[Zt E] at D⊢
   have I:=D _ (List.mem_cons_self ..);rcases Z with⟨_,R,h3⟩|⟨O,_⟩
   ·rcases G.1.2 with⟨_,V,_⟩|⟨U,_⟩
    ·exact iZ.cons ⟨V,R,(MQ ht I).off⟩ (AG J.2.2 G.2 h3 (fun z Y=>D z (abV _ Y)))
    ·exact absurd U E
   ·exact absurd O E
theorem Mw {L:List Pt} {xs:List dY} {v:Value} {w:World} (h:xi D L xs base v ys w) (E:nq L xs):l6 w v ys∧iZ (fun g=>w.heap.size≤g) 24 w (xt L xs) ys∧Oy xs L:=by
 have z:=MJ E h.many;exact⟨l6.of_row h.row,AG h.trees h.items h.numb (AF z.ty),z⟩
theorem CZ {F:Nat→Prop} {v:Value} {w:World} (hv:l6 w v ys) (hI:iZ F d w xs ys) (hl:ys.length≤1001):
 Calls prog 132 #[v] w fun e w'=> ∃v' aB,e= .returned v'∧Iu F d w w' v' (jF xs) aB∧aB.length≤ys.length:=by
 obtain⟨a,cap,rfl,hq⟩:=hv;have HQ:=Hi hq;have HI:Hid (iZ F d w xs ys):=hI;have H0:Hid (Iu F d w w (.slice none 0 0) [] []∧[]++jF (xs.drop 0)=jF xs):=⟨⟨aam _ _ _ _,ZA _ _,iZ.nil⟩,rfl⟩;obtain⟨i0,hi,am,an,ao⟩:=abF oR;clear hq hI;go_enter func132,ntmps132;go_wp2_with fail
 go_loopw [3,9] (fun vv iv wr=> ∃(k:Nat) (ks:List fV) (zs:List Yt),k≤ys.length∧iv= Iq k∧zs.length≤k∧Hid (Iu F d w wr vv ks zs∧ks++jF (xs.drop k)=jF xs)) (fun _ iv _=>ys.length - (intOf iv).toNat)
 case atStart=>exact⟨0,[],[],ZL _,rfl,Zw _,H0.out⟩
 case round=>
  obtain⟨k,ks,zs,aM,rfl,aG,HX⟩:=hrel
  by_cases ap:k<ys.length
  ·have hX:=HX.out.1
   have hE:=HX.out.2;obtain⟨g,rfl,aC,Z⟩:=HQ.out k ap;have aa:=HI.out.2 k ap;rw[AD (by rw[HI.out.1];exact ap) nw] at hE
   generalize xs.getD k nw=x at*;generalize ys.getD k CY=y at*;obtain⟨z,u0,b,wh⟩:=y;have aq:=Hi aa;have J:=aa.kd;have aD:=aa.wh;obtain⟨ar,au⟩:=OK aa.tr;simp only[] at J aD ar au;obtain⟨va,ag,ev⟩:=tS hX.row;obtain rfl:=ev;have ab:=hX.bel;have G:∀j,j<10→wr.cell? ⟨g,k*10+j,none⟩=(fC (z,u0,b,wh))[j]?:=fun j hj=>by
    rw[ab.cell (p:=⟨g,k*10+j,none⟩) aC];exact Z j hj
   have c0:wr.cell? ⟨g,k*10,none⟩=some (Iq (da z)):=G 0 (by omega)
   have c1:wr.cell? ⟨g,k*10+1,none⟩=some (Iq z.pl):=G 1 (by omega)
   have c2:wr.cell? ⟨g,k*10+2,none⟩=some (Iq (dz z)):=G 2 (by omega)
   have c3:wr.cell? ⟨g,k*10+3,none⟩=some (S (di z)):=G 3 (by omega)
   have c4:wr.cell? ⟨g,k*10+4,none⟩=some (Iq (da u0)):=G 4 (by omega)
   have c5:wr.cell? ⟨g,k*10+5,none⟩=some (Iq u0.pl):=G 5 (by omega)
   have c6:wr.cell? ⟨g,k*10+6,none⟩=some (Iq (dz u0)):=G 6 (by omega)
   have c7:wr.cell? ⟨g,k*10+7,none⟩=some (S (di u0)):=G 7 (by omega)
   have c8:wr.cell? ⟨g,k*10+8,none⟩=some (Iq wh):=G 8 (by omega)
   have c9:wr.cell? ⟨g,k*10+9,none⟩=some (Pq b):=G 9 (by omega)
   have aN:(0:Int)≤(k:Int)∧(k:Int)<(ys.length:Int):=by omega
   have av:wr.cell? ⟨b,0,none⟩=some (Iq (x.c.k:Nat)):=by rw[ab.cell (p:=⟨b,0,none⟩) ar];exact au
   have ac:Below wr.heap.size wr (wr.alloc (jZ z u0 wh (Pq b))):=(ZA _ _).alloc (Zw _) _;have ah:(wr.alloc (jZ z u0 wh (Pq b))).heap[wr.heap.size]?=some (jZ z u0 wh (Pq b)):=Zy wr _;have Y:(wr.alloc (jZ z u0 wh (Pq b))).cell? ⟨b,0,none⟩=some (Iq (x.c.k:Nat)):=by rw[ac.cell (p:=⟨b,0,none⟩) (by have:=ab.size;simp only[];omega)];exact av
   have aj:=Hi hX;have aO:w.heap.size≤wr.heap.size:=ab.size;unfold jZ at ac ah Y;have aw:=Hi ac;obtain⟨⟨z0,z1,z2,z3,z4,z5,z6,z7,z8,z9⟩,zf⟩:=eo ah;have aE:=Hi (aj.out.grow ac);have ax:wr.heap.size<(wr.alloc (.cells #[Iq (da z),Iq z.pl,Iq (dz z),S (di z),Iq (da u0),Iq u0.pl,Iq (dz u0),S (di u0),Iq wh,Pq b] 163)).heap.size:=by simp
   have ai:b<(wr.alloc (.cells #[Iq (da z),Iq z.pl,Iq (dz z),S (di z),Iq (da u0),Iq u0.pl,Iq (dz u0),S (di u0),Iq wh,Pq b] 163)).heap.size:=by simp;omega
   have ay:(Value.slice va zs.length ag).ownBlock≠some wr.heap.size:=fun e=>by have:=(hX.row.lt _ e).2;omega
   have az:(Value.slice va zs.length ag).ownBlock≠some b:=fun e=>by have:=(hX.row.lt _ e).1;omega
   have aL:w.heap.size≤(wr.alloc (.cells #[Iq (da z),Iq z.pl,Iq (dz z),S (di z),Iq (da u0),Iq u0.pl,Iq (dz u0),S (di u0),Iq wh,Pq b] 163)).heap.size:=by simp;omega
   generalize aF:wr.alloc (.cells #[Iq (da z),Iq z.pl,Iq (dz z),S (di z),Iq (da u0),Iq u0.pl,Iq (dz u0),S (di u0),Iq wh,Pq b] 163)=w1 at*;have ak:=Hi aF;have HE:=Hi hE;have aA:Hid (w1.ownsRow w.heap.size 163 10 (.slice va zs.length ag) zs.length (dV zs)):=aE.out.row;clear G Z hX ab aa au av ac ah aD HX aC ar aF hE
   by_cases I:x.kind=11
   ·have aH:((da z:Int)==11)=true:=by rw[J,I];rfl
    have HJ:Hid ((da z:Int)=11):=by show _=_;rw[J,I];rfl
    have ad:Hid (([Iq 11,Iq z.pl,Iq (dz z),S (di z),Iq (da u0),Iq u0.pl,Iq (dz u0),S (di u0),Iq wh,Pq b]:List Value)=fC (z,u0,b,wh)):=by
     show([Iq 11,Iq z.pl,Iq (dz z),S (di z),Iq (da u0),Iq u0.pl,Iq (dz u0),S (di u0),Iq wh,Pq b]:List Value)=[Iq (da z),Iq z.pl,Iq (dz z),S (di z),Iq (da u0),Iq u0.pl,Iq (dz u0),S (di u0),Iq wh,Pq b]
     rw[J,I];rfl
    have O:jF (x::List.drop (k+1) xs)=x::jF (List.drop (k+1) xs):=by rw[jF,Zt (fun e=>e.1 I),Zt (fun e=>e.1 I)]
    rw[O] at HE;clear O I J
    go_upto_region 5 with fail
    rw[ak.out];have aI:=HJ.out
    go_wp2_with (at_builtin;go_must (refine wpList_append_lies _ (by rfl) _ _ 84 (by rfl) w.heap.size 163 i0 (.agg #[Iq 0,Iq 0,Iq 0,.string ⟨#[]⟩,Iq 0,Iq 0,Iq 0,.string ⟨#[]⟩,Iq 0,.pointer none]) 10 96 underlying84 hi am an ao (by rfl) (by decide) _ _ _ (by rfl) (aA.out.alloc _) ⟨w1.heap.size,0,none⟩ 1 1 [Iq 11,Iq z.pl,Iq (dz z),S (di z),Iq (da u0),Iq u0.pl,Iq (dz u0),S (di u0),Iq wh,Pq b] (by rfl) (by rfl) (World.news_of_block (Zy w1 _)) (fun x hx=>by simp at hx;rcases hx with rfl|rfl|rfl|rfl|rfl|rfl|rfl|rfl|rfl|rfl<;>rfl) (by decide) (by unfold maxLen;omega) (by omega) (by simp;omega) _ rfl ?_);intro gg R w5 E D ae U;have HN:Hid (Iu F d w w5 (Sq gg (zs.length+1) R) (ks++[x]) (zs++[(z,u0,b,wh)])):=aj.out.next aw.out aq.out (by rw[←ad.out];exact E) D;have y9:=(jA D (j:=9) ax ay).trans z9;have yk:=(jA D (j:=0) ai az).trans Y;clear E D ae U)
    go_roundw
    case rel=>exact⟨k+1,_,_,by omega,by go_num,by simp;omega,HN.out,by rw[←HE.out];simp⟩
    case measure=>simp[intOf];omega
   ·have aH:((da z:Int)==11)=false:=by rw[J];simp;omega
    have aI: ¬(da z:Int)=11:=by rw[J];omega
    by_cases V:x.c.k=21
    ·have aJ:((x.c.k:Int)==21)=true:=by rw[V];rfl
     have O:jF (x::List.drop (k+1) xs)=jF (List.drop (k+1) xs):=by rw[jF,Zu ⟨I,V⟩]
     rw[O] at HE;clear O I J V
     go_upto_region 5 with fail
     rw[ak.out];go_wp2
     go_roundw
     case rel=>exact⟨k+1,_,_,by omega,by go_num,by omega,aE.out,HE.out⟩
     case measure=>simp[intOf];omega
    ·have aJ:((x.c.k:Int)==21)=false:=by simp;omega
     by_cases af:x.c.k=20
     ·have aK:((x.c.k:Int)==20)=true:=by rw[af];rfl
      have O:jF (x::List.drop (k+1) xs)=[x]:=by rw[jF,Zt (fun e=>V e.2),Zu ⟨I,af⟩]
      rw[O] at HE;clear O I J V af
      go_upto_region 5 with fail
      rw[ak.out];have ad:Hid (([Iq (da z),Iq z.pl,Iq (dz z),S (di z),Iq (da u0),Iq u0.pl,Iq (dz u0),S (di u0),Iq wh,Pq b]:List Value)=fC (z,u0,b,wh)):=rfl
      go_wp2_with (at_builtin;go_must (refine wpList_append_lies _ (by rfl) _ _ 84 (by rfl) w.heap.size 163 i0 (.agg #[Iq 0,Iq 0,Iq 0,.string ⟨#[]⟩,Iq 0,Iq 0,Iq 0,.string ⟨#[]⟩,Iq 0,.pointer none]) 10 96 underlying84 hi am an ao (by rfl) (by decide) _ _ _ (by rfl) (aA.out.alloc _) ⟨w1.heap.size,0,none⟩ 1 1 [Iq (da z),Iq z.pl,Iq (dz z),S (di z),Iq (da u0),Iq u0.pl,Iq (dz u0),S (di u0),Iq wh,Pq b] (by rfl) (by rfl) (World.news_of_block (Zy w1 _)) (fun x hx=>by simp at hx;rcases hx with rfl|rfl|rfl|rfl|rfl|rfl|rfl|rfl|rfl|rfl<;>rfl) (by decide) (by unfold maxLen;omega) (by omega) (by simp;omega) _ rfl ?_);intro gg R w5 E D ae U;have HN:Hid (Iu F d w w5 (Sq gg (zs.length+1) R) (ks++[x]) (zs++[(z,u0,b,wh)])):=aj.out.next aw.out aq.out (by rw[←ad.out];exact E) D;have y9:=(jA D (j:=9) ax ay).trans z9;have yk:=(jA D (j:=0) ai az).trans Y;clear E D ae U)
      go_ret;exact⟨_,_,rfl,by rw[←HE.out];exact HN.out,by simp;omega⟩
     ·have aK:((x.c.k:Int)==20)=false:=by simp;omega
      have O:jF (x::List.drop (k+1) xs)=x::jF (List.drop (k+1) xs):=by rw[jF,Zt (fun e=>V e.2),Zt (fun e=>af e.2)]
      rw[O] at HE;clear O I J V af
      go_upto_region 5 with fail
      rw[ak.out];have ad:Hid (([Iq (da z),Iq z.pl,Iq (dz z),S (di z),Iq (da u0),Iq u0.pl,Iq (dz u0),S (di u0),Iq wh,Pq b]:List Value)=fC (z,u0,b,wh)):=rfl
      go_wp2_with (at_builtin;go_must (refine wpList_append_lies _ (by rfl) _ _ 84 (by rfl) w.heap.size 163 i0 (.agg #[Iq 0,Iq 0,Iq 0,.string ⟨#[]⟩,Iq 0,Iq 0,Iq 0,.string ⟨#[]⟩,Iq 0,.pointer none]) 10 96 underlying84 hi am an ao (by rfl) (by decide) _ _ _ (by rfl) (aA.out.alloc _) ⟨w1.heap.size,0,none⟩ 1 1 [Iq (da z),Iq z.pl,Iq (dz z),S (di z),Iq (da u0),Iq u0.pl,Iq (dz u0),S (di u0),Iq wh,Pq b] (by rfl) (by rfl) (World.news_of_block (Zy w1 _)) (fun x hx=>by simp at hx;rcases hx with rfl|rfl|rfl|rfl|rfl|rfl|rfl|rfl|rfl|rfl<;>rfl) (by decide) (by unfold maxLen;omega) (by omega) (by simp;omega) _ rfl ?_);intro gg R w5 E D ae U;have HN:Hid (Iu F d w w5 (Sq gg (zs.length+1) R) (ks++[x]) (zs++[(z,u0,b,wh)])):=aj.out.next aw.out aq.out (by rw[←ad.out];exact E) D;have y9:=(jA D (j:=9) ax ay).trans z9;have yk:=(jA D (j:=0) ai az).trans Y;clear E D ae U)
      go_roundw
      case rel=>exact⟨k+1,_,_,by omega,by go_num,by simp;omega,HN.out,by rw[←HE.out];simp⟩
      case measure=>simp[intOf];omega
  ·obtain rfl:k=ys.length:=by omega
   have HR:Hid (Iu F d w wr u3 (jF xs) zs):=by
    have:=HX.out;rw[aab (by rw[HI.out.1];exact Zw _)] at this
    simp only[jF,aaW] at this;rw[←this.2];exact this.1
   clear HX;go_wp2;go_ret;exact⟨_,zs,rfl,HR.out,aG⟩
end Go.Proofs.YtfkdailfcmnjlaaGreatDoor
