/-
  A part.
-/
import Derived.Test.YtfkdailfcmnjlaaGreatDoorAll29
import Derived.Deep.Upon
set_option linter.all false
set_option maxHeartbeats 40000000
set_option maxRecDepth 1000000
namespace Go.Proofs.YtfkdailfcmnjlaaGreatDoor
open Go Go.RowKit Tryz
attribute [local go_sem ↓] Go.wp_at_zero Go.wp_at_succ
variable {w G v2 E z o a D R I lp jmp v l}
theorem MX (I:IR w 3 G E) (U:IR w 3 v2 z) (ai:E.length+z.length<=10000) (ty):
 ∃V w',(Builtin.append_ #[38,38] ty #[G,v2]).run prog w= .ok V w'/\IR w' 3 V (E++z)/\cI (λb=>G.ownBlock=some b) w w'/\ ∀g,V.ownBlock=some g->G.ownBlock=some g\/w.heap.size<=g:=by
 obtain⟨Y,hi,hz⟩:=QP.1 Ck;simp only[QS] at hz;obtain⟨ad,ae,af⟩:=hz;by_cases he:z=[]
 ·subst he;obtain⟨a2,c2,rfl⟩:=U.sl;obtain⟨a1,c1,rfl⟩:=I.sl;have ag:E.length<=c1:=by
   obtain⟨_,Z⟩:=I;rcases Z with⟨e,h0⟩|⟨g,cap,aj,e,_,_,h3,_⟩
   ·simp at e;omega
   simp at e;omega
  have hs:Src prog Y.size 38 (.slice a2 0 c2) 0 [] w:=by
   cases a2 with
   |none=>exact Src.ofNil (w:=w) underlying38 c2
   |some a=>exact Src.ofSlice (w:=w) underlying38 a 0 c2 [] (by simp) (λj u D=>by simp at D) (λu D=>by simp at D)
  exact⟨_,w,run_append_nothing w 38 38 ty 3 Y underlying38 hi a1 E.length c1 ag _ hs,by rw[Sd];exact I,cI.refl _ _,λg hg=> .inl hg⟩
 have hp:0<z.length:=by
  cases z with
  |nil=>exact absurd rfl he
  |cons x r=>simp
 obtain⟨g2,c2,rfl,ak⟩:=U.form hp;obtain⟨g,cap,w',Z,aa,J,ah,am⟩:=run_append_lies w 38 ty 0 3 Y _ 1 8 underlying38 hi ad ae af (by rfl) (by decide) G E.length (E.map (Value.int .i64)) I ⟨g2,0,none⟩ z.length c2 (z.map (Value.int .i64)) (by simp) (λj u D=>by
  have hj:j<z.length:=by
   have:=(Rz.1 D).1;simpa using this
  have hc:=U.cell hj;rw[Addr.add_mid];simp only[QO];rw[hc,<-D];simp[QN,Ql hj,Qi]) (λu D=>by
  obtain⟨x,_,rfl⟩:=RC.1 D;rfl) hp (by unfold maxLen;omega) (by omega) (QA _) w.heap.size rfl
 refine⟨_,w',Z,?_,?_,?_⟩
 ·unfold IR;rw[Qt,QU];exact aa
 ·exact(cI.refl _ w).grown J (λk hk=> .inl hk)
 intro g' O;simp[Value.ownBlock] at O;subst O;rcases ah with h|h
 ·exact .inl h
 right;omega
theorem xi {rest Q} (O:o.guard=none) (s x) (U:o.op= .call {callee:= .builtin .append,args:= #[s,x],argTypes:= #[38,38]})
 (V:a.eval s=D) (Y:a.eval x=R) (Z:IR w 3 D G) (h2:IR w 3 R I) (J:G.length+I.length<=10000)
 (h:∀z w',IR w' 3 z (G++I)->cI (λb=>D.ownBlock=some b) w w'->(∀g,z.ownBlock=some g->D.ownBlock=some g\/w.heap.size<=g)->wpList prog E Q rest (a.put o.dst z) w'):wpList prog E Q (o::rest) a w:=
 wpList_plain O λ_ hK=>by
  obtain⟨z,w',hr,q1,q2,q3⟩:=MX Z h2 J o.type;unfold Oper.wp execOp;simp only[U,resolve,invoke,builtin,Sem.run_bind,Sem.run_pure,Result.andThen_ok,List.map_toArray,QL,Q9,V,Y,hr];exact hK _ _ (h z w' q1 q2 q3)
theorem Ax.row {F U w w' lp jmp v l dep cells} (h:Ax F U w lp jmp v l dep cells) {I V} (J:IR w 3 I V) (Y:cI (λb=>I.ownBlock=some b) w w'):kV w' lp jmp v l dep cells:=
 h.at_.only Y (λb z O=>by
  rcases z with rfl|z
  ·exact J.ne h.at_.blk (by decide) O
  obtain⟨cs,Z⟩:=cK h.at_.row z;exact J.ne Z (by decide) O)
theorem dG.row {w D I lp jmp v l dep cells} (h:dG w D lp jmp v l dep cells) {E V} (J:IR D 3 E V) (Y:∀g,E.ownBlock=some g->w.heap.size<=g) (O:cI (λb=>E.ownBlock=some b) D I):dG w I lp jmp v l dep cells:=by
 obtain⟨Z,a1,o1,f1⟩:=h;refine⟨Z,a1.only O (λb G z=>?_),o1.trans O (λ_ _ h=>h) (λi hi z=>?_),f1⟩
 ·rcases G with rfl|G
  ·exact J.ne a1.blk (by decide) z
  obtain⟨cs,hc⟩:=cK a1.row G;exact J.ne hc (by decide) z
 have:=Y i z;omega
theorem xj {dep cells} (h:kV w lp jmp v l dep cells) (V:l.length<=5000) (z):
 Calls prog 182 #[Pq lp,.bool z] w λe w'=> ∃jv,e= .returned jv/\IR w' 3 jv ((if z then[l.length] else[]).map λj=>(j:Nat))/\(∀g,jv.ownBlock=some g->w.heap.size<=g)/\dG w w' lp jmp v (l++(if z then[⟨16,0,0⟩] else[])) dep cells:=by
 cases z with
 |false=>
  have I:Hid (dG w w lp jmp v (l++[]) dep cells):=by
   show dG _ _ _ _ _ _ _ _;rw[Sd];exact dG.refl h
  go_enter func182,ntmps182;go_wp2;go_ret;exact⟨_,rfl,IR.nil _ _,λg E=>by simp[Value.ownBlock] at E,by first|exact I.out|(have J:=I.out;rw[Sd] at J;exact J)⟩
 |true=>
  have O:=jE 16 0 h V;go_enter func182,ntmps182;go_wp2_with fail;apply O.mono;rintro e R ⟨rfl,D⟩;have U:Hid (dG w R lp jmp v (l++[⟨16,0,0⟩]) dep cells):=D;have Y:=Hi (xh R l.length);go_wp2;go_ret;refine⟨_,rfl,Y.out,λg E=>?_,?_⟩
  ·simp[Value.ownBlock] at E;obtain⟨_,_,G,_⟩:=U.out;have:=G.size;omega
  obtain⟨Z,a1,G,f1⟩:=U.out;exact⟨Z,⟨(Qu _ _ _ (be a1.blk)).trans a1.blk,a1.row.alloc _⟩,G.alloc _,f1⟩
section
structure xk (F) (w0 w) (v:Value) (wi) (lp) (jmp) (vi) (li) (dep cells):Prop where
 ly:Ax F w0 wi lp jmp vi li dep cells
 only:cI (λb=>b=lp\/v.ownBlock=some b) w wi
 own:∀b,vi.ownBlock=some b->v.ownBlock=some b\/w.heap.size<=b
section
variable {F : Nat -> Prop} {w0 w wi wj : World} {v vi : Value} {lp : Nat} {jmp : Bool} {li lj : List L3} {dep cells dj cj : Nat}
theorem xk.start (h:Ax F w0 w lp jmp v li dep cells):xk F w0 w v w lp jmp v li dep cells:=⟨h,cI.refl _ _,λ_ h=> .inl h⟩
theorem xk.out (h:xk F w0 w v wi lp jmp vi li dep cells):dG w wi lp jmp v li dep cells:=⟨vi,h.ly.at_,h.only,h.own⟩
theorem xk.next (h:xk F w0 w v wi lp jmp vi li dep cells) (ho:dG wi wj lp jmp vi lj dj cj):
 ∃vj,xk F w0 w v wj lp jmp vj lj dj cj/\(∀{jv js},IR wi 3 jv js->IR wj 3 jv js)/\wi.heap.size<=wj.heap.size:=by
 obtain⟨vj,a1,o1,f1⟩:=ho;have hb:cI F w0 wj:=h.ly.bel.trans o1 (λ_ _ h=>h) (λk hk0 hk=>by
  rcases hk with rfl|hk
  ·exact h.ly.lp0.resolve_right (by omega)
  exact(h.ly.own k hk).resolve_right (by omega))
 refine⟨vj,⟨⟨a1,h.ly.lp0,λg hg=>?_,hb⟩,h.only.trans o1 (λ_ _ h=>h) (λi hi hF=>?_),λb hb'=>?_⟩,λ{jv js} hj=>hj.only o1 (λg hg hF=>?_),o1.size⟩
 ·rcases f1 g hg with h1|h1
  ·exact h.ly.own g h1
  right;have:=h.ly.bel.size;omega
 ·rcases hF with hF|hF
  ·exact .inl hF
  rcases h.own i hF with h1|h1
  ·exact .inr h1
  omega
 ·rcases f1 b hb' with h1|h1
  ·exact h.own b h1
  right;have:=h.only.size;omega
 rcases hF with rfl|hF
 ·exact hj.ne h.ly.at_.blk (by decide) hg
 obtain⟨cs,hc⟩:=cK h.ly.at_.row hF;exact hj.ne hc (by decide) hg
theorem xk.row (h:xk F w0 w v wi lp jmp vi li dep cells) {v1} {l1:List Int} (h1:IR wi 3 v1 l1) (hn:∀g,v1.ownBlock=some g->w.heap.size<=g) (hw:w0.heap.size<=w.heap.size) (ho:cI (λb=>v1.ownBlock=some b) wi wj):xk F w0 w v wj lp jmp vi li dep cells:=by
 refine⟨⟨h.ly.row h1 ho,h.ly.lp0,h.ly.own,h.ly.bel.trans ho (λ_ _ h=>h) (λk hk0 hk=>by have:=hn k hk;omega)⟩,h.only.trans ho (λ_ _ h=>h) (λi hi hF=>?_),h.own⟩
 have:=hn i hF;omega
theorem xk.below (h:xk F w0 w v wi lp jmp vi li dep cells) (hb:Bl wi wj):xk F w0 w v wj lp jmp vi li dep cells:=
 ⟨h.ly.below hb,h.only.trans (cI.of_below hb) (λ_ _ h=>h) (λ_ _ h=>h),h.own⟩
end
variable {w' e d F t b bn this}
theorem Cp (h:IR w e v l) (q:Bl w w'):IR w' e v l:=cD h q
theorem ID (HJ:rB jmp d) {dep cells} (hw:gU (d+1) t) (hk:t.k=17\/t.k=18) (hj:qe jmp t.k=true) (hT:gB F (d+1) I b t) (h:Ax F I w lp jmp v l dep cells) (ah:l.length+cZ jmp (d+1) (some this) t<=4900) (ax:bn+(d+1)<=1000) (ai:dep<=1000):
 Calls prog 183 #[Pq lp,.bool this,.bool (decide (t.k=17)),Pq b,Iq bn] w λe w'=> ∃jv,e= .returned jv/\IR w' 3 jv ((nS jmp (d+1) this t l.length).map λj=>(j:Nat))/\(∀g,jv.ownBlock=some g->w.heap.size<=g)/\dG w w' lp jmp v (l++gE jmp (d+1) (some this) t l.length) (max dep (fZ jmp (d+1) (some this) t bn)) cells:=by
 obtain⟨eg,es,ed,ej⟩:=Af (jmp:=jmp) (d:=d) (p:=l.length) (this:=this) hj hk;rw[es] at ah;rw[ed,eg,ej];have aj:t.kids.length=2:=by
  rcases hw.1 with⟨q,_⟩|⟨q,_⟩|⟨q,_⟩|⟨_,_,_,J⟩
  ·unfold dJ at q;omega
  ·omega
  ·omega
  ·rw[J];rfl
 generalize decide (t.k=17)=s at*;obtain⟨pl,nm,u,bl,HN,HK⟩:=qp hT;obtain⟨g,cap,O⟩:=kL HN (by omega)
 rw[aj] at O;have FC:Hid (∀W,cI F I W->Cq W b 4 (Sq g 2 cap)/\Cq W g 0 (Pq (bl 0))/\Cq W g 1 (Pq (bl 1))):=λW hb=>⟨(O W hb).2.1,(O W hb).2.2 0 (by omega),(O W hb).2.2 1 (by omega)⟩
 have R:=lz hw (j:=0) (by omega)
 have ak:=Hi (lz hw (j:=1) (by omega))
 have am:=Hi (HK 1 (by omega))
 have W1:=HJ (this:=s) (bn:=bn) R (HK 0 (by omega)) h (by omega) (by omega) ai
 obtain⟨c4,q0,_⟩:=FC.out w h.bel;have lA:=jA jmp d (some s) (t.kid 0) l.length;have lB:=jA jmp d (some this) (t.kid 1) (l.length+cZ jmp d (some s) (t.kid 0));have ay:=rj jmp d (some s) (t.kid 0) bn;have aa:= @Ag jmp d (t.kid 0) s l.length;have az:= @oG jmp d (t.kid 0) s l.length;have aw:= @oG jmp d (t.kid 1) this (l.length+cZ jmp d (some s) (t.kid 0));have HS:=Hi (Aa (jmp:=jmp) d (t:=t.kid 0) (k:=⟨[],[]⟩) (this:=s) (pre:=l) (post:=gE jmp d (some this) (t.kid 1) (l.length+cZ jmp d (some s) (t.kid 0))) (p:=l.length) (l.length+cZ jmp d (some s) (t.kid 0)+cZ jmp d (some this) (t.kid 1)) R rfl);have HB:Hid (xk F I w v w lp jmp v l dep cells):=xk.start h;have an:=h.bel.size;have ao:=Hi aa;have em:max (max dep (fZ jmp d (some s) (t.kid 0) bn)) (fZ jmp d (some this) (t.kid 1) bn)=max dep (max (fZ jmp d (some s) (t.kid 0) bn) (fZ jmp d (some this) (t.kid 1) bn)):=by omega
 have EM:=Hi em;go_enter func183,ntmps183;go_wp2_with fail;apply W1.mono;rintro e w1 ⟨ap,rfl,U,V,A⟩;obtain⟨v1,q,_,z1⟩:=HB.out.next A;have W2:=HJ (this:=this) (bn:=bn) ak.out am.out q.ly (by rw[Qt,lA];omega) (by omega) (by omega)
 rw[Qt,lA] at W2;obtain⟨d4,_,d1⟩:=FC.out w1 q.ly.bel;have ab:=Hi q;have ac:=Hi U;have ad:=Hi V;go_wp2_with fail;apply W2.mono;rintro e w2 ⟨aq,rfl,Y,Z,D⟩;obtain⟨v2,J,k2,z2⟩:=ab.out.next D;have z:=k2 ac.out;have E:(l++gE jmp d (some s) (t.kid 0) l.length++gE jmp d (some this) (t.kid 1) (l.length+cZ jmp d (some s) (t.kid 0))).length=l.length+cZ jmp d (some s) (t.kid 0)+cZ jmp d (some this) (t.kid 1):=by simp only[Qt,lA,lB]
 have W3:=ju (jv:=ap) (js:=nS jmp d s (t.kid 0) l.length) J.ly.at_ (by rw[E];omega) (by omega) z (λj hj=>by have:=ao.out j hj;rw[E];omega)
 rw[E] at W3;have ae:=Hi J;have af:=Hi Y;have ag:=Hi z;have ar:Hid (∀g,aq.ownBlock=some g->w.heap.size<=g):=λg hg=>by have:=Z g hg;omega
 by_cases hs:this=s
 ·subst hs
  go_wp2_with (at_builtin;go_must (refine xi (by rfl) _ _ (by rfl) (by rfl) (by rfl) ag.out af.out (by simp only[Ro];omega) ?_);intro aA w3 q1 q2 q3;have Q1:Hid _:=q1;have Q2:Hid _:=q2;have Q3:Hid _:=q3;clear q1 q2 q3)
  go_ret;refine⟨_,rfl,?_,λg hg=>?_,?_⟩
  ·exact Q1.out
  ·rcases Q3.out g hg with q|q
   ·exact ad.out g q
   ·omega
  ·have hf:=((ae.out.row ag.out ad.out an Q2.out).out)
   rw[EM.out,QW] at hf;exact hf
 ·have aB:(this==s)=false:=by simpa using hs
  go_wp2_with fail;apply W3.mono;rintro e w3 ⟨rfl,G⟩;obtain⟨v3,h3,k3,z3⟩:=ae.out.next G;have au:=Hi (k3 af.out);have av:=Hi h3;go_wp2;go_ret
  try rw[Qj hs,Qj hs]
  refine⟨_,rfl,au.out,ar.out,?_⟩;have hf:=av.out.out;have ea:l++gE jmp d (some s) (t.kid 0) l.length++gE jmp d (some this) (t.kid 1) (l.length+cZ jmp d (some s) (t.kid 0))=l++((gL jmp d (some s) (t.kid 0) ⟨[],[]⟩ l.length 0).map er++gE jmp d (some this) (t.kid 1) (l.length+cZ jmp d (some s) (t.kid 0))):=by
   show l++(gL jmp d (some s) (t.kid 0) ⟨[],[]⟩ l.length 0).map er++_=_
   simp
  rw[EM.out,ea,HS.out] at hf;exact hf
end
variable {d F t w0 b bn this Y w' Z cs T x a1 a2 a3 a4 a5 a6 a7}
theorem IE (HJ:rB jmp d) {dep cells} (hw:gU (d+1) t) (hk:t.k=14) (G:qe jmp t.k=true) (hT:gB F (d+1) w0 b t) (h:Ax F w0 w lp jmp v l dep cells) (aC:l.length+cZ jmp (d+1) (some this) t<=4900) (aW:bn+(d+1)<=1000) (aD:dep<=1000):
 Calls prog 184 #[Pq lp,.bool this,Pq b,Iq bn] w λe w'=> ∃jv,e= .returned jv/\IR w' 3 jv ((nS jmp (d+1) this t l.length).map λj=>(j:Nat))/\(∀g,jv.ownBlock=some g->w.heap.size<=g)/\dG w w' lp jmp v (l++gE jmp (d+1) (some this) t l.length) (max dep (fZ jmp (d+1) (some this) t bn)) cells:=by
 obtain⟨eg,es,ed,ej⟩:=Lj (jmp:=jmp) (d:=d) (p:=l.length) (this:=this) G hk;rw[es] at aC;rw[ed,eg,ej];have aE:t.kids.length=3:=by
  rcases hw.1 with⟨z,_⟩|⟨z,_⟩|⟨_,_,_,_,h2⟩|⟨z,_⟩
  ·unfold dJ at z;omega
  ·omega
  ·rw[h2];rfl
  unfold fW at z;omega
 obtain⟨pl,nm,u,bl,HN,HK⟩:=qp hT;obtain⟨g,cap,Y⟩:=kL HN (by omega)
 rw[aE] at Y;have FC:Hid (∀W,cI F w0 W->Cq W b 4 (Sq g 3 cap)/\Cq W g 0 (Pq (bl 0))/\Cq W g 1 (Pq (bl 1))/\Cq W g 2 (Pq (bl 2))):=λW hb=>⟨(Y W hb).2.1,(Y W hb).2.2 0 (by omega),(Y W hb).2.2 1 (by omega),(Y W hb).2.2 2 (by omega)⟩
 have aa:=lz hw (j:=0) (by omega)
 have aF:=Hi (lz hw (j:=1) (by omega))
 have aG:=Hi (HK 1 (by omega))
 have aH:=Hi (lz hw (j:=2) (by omega))
 have aI:=Hi (HK 2 (by omega))
 have W1:=HJ (this:=false) (bn:=bn) aa (HK 0 (by omega)) h (by omega) (by omega) aD
 obtain⟨c4,q0,_,_⟩:=FC.out w h.bel;have Z:=jA jmp d (some false) (t.kid 0) l.length;have lB:=jA jmp d (some this) (t.kid 1) (l.length+cZ jmp d (some false) (t.kid 0));have aX:=rj jmp d (some false) (t.kid 0) bn;have aY:=rj jmp d (some this) (t.kid 1) bn;have aJ:=Hi (FD (jmp:=jmp) (d:=d) (a:=t.kid 0) (b:=t.kid 1) (c:=t.kid 2) (m:=some this) (l:=l) (p:=l.length) rfl aa);have an:= @Ag jmp d (t.kid 0) false l.length;have aZ:= @oG jmp d (t.kid 0) false l.length;have aU:= @oG jmp d (t.kid 1) this (l.length+cZ jmp d (some false) (t.kid 0));have aV:= @oG jmp d (t.kid 2) this (l.length+cZ jmp d (some false) (t.kid 0)+cZ jmp d (some this) (t.kid 1)+1);have HB:Hid (xk F w0 w v w lp jmp v l dep cells):=xk.start h;have aK:=h.bel.size;have aL:=Hi an;have em:max (max (max dep (fZ jmp d (some false) (t.kid 0) bn)) (fZ jmp d (some this) (t.kid 1) bn)) (fZ jmp d (some this) (t.kid 2) bn)=max dep (max (fZ jmp d (some false) (t.kid 0) bn) (max (fZ jmp d (some this) (t.kid 1) bn) (fZ jmp d (some this) (t.kid 2) bn))):=by omega
 have EM:=Hi em;go_enter func184,ntmps184;go_wp2_with fail;apply W1.mono;rintro e w1 ⟨aM,rfl,ab,_,I⟩;obtain⟨v1,z,_,z1⟩:=HB.out.next I;have W2:=HJ (this:=this) (bn:=bn) aF.out aG.out z.ly (by rw[Qt,Z];omega) (by omega) (by omega)
 rw[Qt,Z] at W2;obtain⟨d4,_,d1,_⟩:=FC.out w1 z.ly.bel;have ao:=Hi z;have ap:=Hi ab;go_wp2_with fail;apply W2.mono;rintro e w2 ⟨aN,rfl,ac,ad,J⟩;obtain⟨v2,h2,k2,z2⟩:=ao.out.next J;have ae:=Hi (k2 ap.out);have W3:=jE 16 0 h2.ly.at_ (by simp only[Qt,Z,lB];omega)
 obtain⟨ix,af⟩:∃ix:Nat,l.length+cZ jmp d (some false) (t.kid 0)+cZ jmp d (some this) (t.kid 1)=ix:=⟨_,rfl⟩;have hJ:(l++gE jmp d (some false) (t.kid 0) l.length++gE jmp d (some this) (t.kid 1) (l.length+cZ jmp d (some false) (t.kid 0))).length=ix:=by
  simp only[Qt,Z,lB];exact af
 rw[hJ] at W3;have aq:=Hi af;have ar:=Hi h2;have au:=Hi ac;have av:Hid (∀g,aN.ownBlock=some g->w.heap.size<=g):=λg hg=>by have:=ad g hg;omega
 go_wp2_with fail;apply W3.mono;rintro e w3 ⟨rfl,O⟩;obtain⟨v3,h3,k3,z3⟩:=ar.out.next O;have D:(l++gE jmp d (some false) (t.kid 0) l.length++gE jmp d (some this) (t.kid 1) (l.length+cZ jmp d (some false) (t.kid 0))++[(⟨16,0,0⟩:L3)]).length=l.length+cZ jmp d (some false) (t.kid 0)+cZ jmp d (some this) (t.kid 1)+1:=by
  simp only[Qt,Z,lB,QH,Q7]
 have W4:=ju (jv:=aM) (js:=nS jmp d false (t.kid 0) l.length) h3.ly.at_ (by rw[D];omega) (by omega) (k3 ae.out) (λj G=>by have:=aL.out j G;rw[D];omega)
 rw[D] at W4;have aw:=Hi h3;have ag:=Hi (k3 au.out);go_wp2_with fail;apply W4.mono;rintro e w4 ⟨rfl,R⟩;obtain⟨v4,h4,k4,z4⟩:=aw.out.next R;have E:=rA (nS jmp d false (t.kid 0) l.length) (l++gE jmp d (some false) (t.kid 0) l.length++gE jmp d (some this) (t.kid 1) (l.length+cZ jmp d (some false) (t.kid 0))++[(⟨16,0,0⟩:L3)]) (l.length+cZ jmp d (some false) (t.kid 0)+cZ jmp d (some this) (t.kid 1)+1);rw[D] at E;have W5:=HJ (this:=this) (bn:=bn) aH.out aI.out h4.ly (by rw[E];omega) (by omega) (by omega)
 rw[E] at W5;obtain⟨d4,_,_,d2⟩:=FC.out w4 h4.ly.bel;have ax:=Hi h4;have ah:=Hi (k4 ag.out);go_wp2_with fail;apply W5.mono;rintro e w5 ⟨a0,rfl,ai,aA,U⟩;obtain⟨v5,h5,k5,z5⟩:=ax.out.next U;have aj:=Hi (k5 ah.out);have aO:=Hi ai;have aP:=Hi h5;have ay:(fA (l++gE jmp d (some false) (t.kid 0) l.length++gE jmp d (some this) (t.kid 1) (l.length+cZ jmp d (some false) (t.kid 0))++[(⟨16,0,0⟩:L3)]) (nS jmp d false (t.kid 0) l.length) (l.length+cZ jmp d (some false) (t.kid 0)+cZ jmp d (some this) (t.kid 1)+1)++gE jmp d (some this) (t.kid 2) (l.length+cZ jmp d (some false) (t.kid 0)+cZ jmp d (some this) (t.kid 1)+1)).length=l.length+cZ jmp d (some false) (t.kid 0)+cZ jmp d (some this) (t.kid 1)+1+cZ jmp d (some this) (t.kid 2):=by
  rw[Qt,E,jA]
 have ak:=Hi ay;go_wp2_with (at_builtin;go_must (refine xi (by rfl) _ _ (by rfl) (by rfl) (by rfl) aj.out aO.out (by simp only[Ro];omega) ?_);intro a8 w6 q1 q2 q3;have h6:=aP.out.row aj.out av.out aK q2;have z6:=q2.size;have Q1:Hid _:=q1;have Q3:Hid _:=q3;have aQ:Hid _:=h6;clear q1 q2 q3 h6)
 have am:Bl w6 (w6.alloc (.cells #[Iq (ix:Nat)] 3)):=(Qq _ _).alloc (Qn _) _;have h7:=aQ.out.below am;have az:=Cp Q1.out am;have W6:=ju (js:=[ix]) h7.ly.at_ (by rw[ak.out];omega) (by simp) (xh w6 _) (λj G=>by simp only[R4] at G;have:=aq.out;rw[G,ak.out];omega)
 have aR:=Hi h7;have aB:=Hi az;apply W6.mono;rintro e w7 ⟨rfl,V⟩;obtain⟨v8,h8,k8,z8⟩:=aR.out.next V;have aS:=Hi (k8 aB.out);have aT:=Hi h8;go_wp2;go_ret;refine⟨_,rfl,?_,λg hg=>?_,?_⟩
 ·rw[QU];exact aS.out
 ·rcases Q3.out g hg with z|z
  ·exact av.out g z
  omega
 have hf:=aT.out.out;rw[xg,ak.out,<-aq.out,aJ.out,EM.out] at hf;exact hf
theorem Oq (HL:yT jmp (d+1)) {dep cells} (hw:gU (d+1) t) (J:qe jmp t.k=false) (hT:gB F (d+1) Y b t) (h:Ax F Y w z jmp v l dep cells) (U:l.length+cZ jmp (d+1) (some this) t<=4900) (ad:bn+(d+1)<=1000) (ae:dep<=1000):
 Calls prog 134 #[Pq z,.bool this,Pq b,Iq bn] w λe w'=> ∃jv,e= .returned jv/\IR w' 3 jv ((nS jmp (d+1) this t l.length).map λj=>(j:Nat))/\(∀g,jv.ownBlock=some g->w.heap.size<=g)/\dG w w' z jmp v (l++gE jmp (d+1) (some this) t l.length) (max dep (fZ jmp (d+1) (some this) t bn)) cells:=by
 rw[Ez J] at U;rw[Om J,On J,Ad J];obtain⟨pl,nm,u,bl,HN,HK⟩:=qp hT;have c0:=(HN w h.bel).cc.c0;have p0:=Qm w z 0 _ _ _ h.at_.blk;have W1:=HL (bn:=bn) hw hT h (by cases this<;>simp at U<;>omega) ad ae
 have O:=jA jmp (d+1) none t l.length;have HB:Hid (xk F Y w v w z jmp v l dep cells):=xk.start h;have hb:jmp=true->((t.k:Int)==20)=false/\((t.k:Int)==21)=false/\((t.k:Int)==19)=false/\((t.k:Int)==18)=false/\((t.k:Int)==17)=false/\((t.k:Int)==14)=false:=λe=>by
  unfold qe at J;rw[e] at J;simp at J;refine⟨?_,?_,?_,?_,?_,?_⟩<;>(simp;omega)
 generalize gE jmp (d+1) none t l.length=A at*;generalize cZ jmp (d+1) none t=Z at*;generalize fZ jmp (d+1) none t bn=dA at*;generalize t.k=k at*
 cases this with
 |false=>
  simp only[Ss,Tc,RW,S2] at U⊢;have R:Hid (∀(q:World) (D:Value),xk F Y w v q z jmp D (l++A) (max dep dA) cells->Calls prog 93 #[Pq z,Iq 15,Iq 0] q λe w'=>e= .returned (Iq ((l.length+Z:Nat):Int))/\dG q w' z jmp D (l++A++[⟨15,0,0⟩]) (max dep dA) cells):=λq D I=>by
   have:=jE 15 0 I.ly.at_ (by rw[Qt,O];omega)
   rw[Qt,O] at this;exact this
  generalize l.length+Z=ix at*
  cases jmp
  rotate_left
  obtain⟨b1,b2,b3,b4,b5,b6⟩:=hb rfl
  all_goals
   go_enter func134,ntmps134;go_wp2_with fail;apply W1.mono;rintro e q ⟨rfl,E⟩;obtain⟨D,I,_,z1⟩:=HB.out.next E;have W2:=R.out q D I;have aa:=Hi I;go_wp2_with fail;apply W2.mono;rintro e w2 ⟨rfl,G⟩;obtain⟨v2,h2,_,z2⟩:=aa.out.next G;have ab:=Hi h2;have HI:=Hi (xh w2 (ix:Nat));go_wp2;go_ret;refine⟨_,rfl,HI.out,λg hg=>?_,?_⟩
   ·simp[Value.ownBlock] at hg;omega
   ·have hf:=(ab.out.below ((Qq _ _).alloc (Qn _) (.cells #[Iq (ix:Nat)] 3))).out
    rw[QW] at hf;exact hf
 |true=>
  simp only[RO] at U⊢;have R:Hid (∀(q:World) (D:Value),xk F Y w v q z jmp D (l++A) (max dep dA) cells->Calls prog 93 #[Pq z,Iq 12,Iq 0] q λe w'=>e= .returned (Iq ((l.length+Z:Nat):Int))/\dG q w' z jmp D (l++A++[⟨12,0,0⟩]) (max dep dA) cells):=λq D I=>by
   have:=jE 12 0 I.ly.at_ (by rw[Qt,O];omega)
   rw[Qt,O] at this;exact this
  have ac:Hid (∀(q:World) (D:Value),xk F Y w v q z jmp D (l++A++[⟨12,0,0⟩]) (max dep dA) cells->Calls prog 93 #[Pq z,Iq 15,Iq 0] q λe w'=>e= .returned (Iq ((l.length+Z+1:Nat):Int))/\dG q w' z jmp D (l++A++[⟨12,0,0⟩]++[⟨15,0,0⟩]) (max dep dA) cells):=λq D I=>by
   have:=jE 15 0 I.ly.at_ (by simp only[Qt,O,QH,Q7];omega)
   rw[Qt,Qt,O] at this;exact this
  generalize af:l.length+Z+1=ix at*;generalize l.length+Z=iy at*
  cases jmp
  rotate_left
  obtain⟨b1,b2,b3,b4,b5,b6⟩:=hb rfl
  all_goals
   go_enter func134,ntmps134;go_wp2_with fail;apply W1.mono;rintro e q ⟨rfl,E⟩;obtain⟨D,I,_,z1⟩:=HB.out.next E;have W2:=R.out q D I;have aa:=Hi I;go_wp2_with fail;apply W2.mono;rintro e w2 ⟨rfl,G⟩;obtain⟨v2,h2,_,z2⟩:=aa.out.next G;have W3:=ac.out w2 v2 h2;have ab:=Hi h2;go_wp2_with fail;apply W3.mono;rintro e w3 ⟨rfl,V⟩;obtain⟨v3,h3,_,z3⟩:=ab.out.next V;have ag:=Hi h3;have HI:=Hi (xh w3 (ix:Nat));go_wp2;go_ret;refine⟨_,rfl,HI.out,λg hg=>?_,?_⟩
   ·simp[Value.ownBlock] at hg;omega
   ·have hf:=(ag.out.below ((Qq _ _).alloc (Qn _) (.cells #[Iq (ix:Nat)] 3))).out
    rw[QW,QW] at hf;exact hf
theorem MY (HL:yT jmp d) (Y:rB jmp d):rB jmp (d+1):=by
 intro F t w0 w lp b bn dep cells v l this G J h z O E
 cases q:qe jmp t.k with
 |false=>exact Oq (Lm HL Y) G q J h z O E
 |true=>
  obtain rfl:jmp=true:=by unfold qe at q;simp at q;exact q.1
  obtain⟨pl,nm,u,bl,HN,HK⟩:=qp J;have c0:=(HN w h.bel).cc.c0;have p0:=Qm w lp 0 _ _ _ h.at_.blk
  by_cases I:t.k=20\/t.k=21
  obtain⟨R,_,U,V⟩:=Ae (jmp:=true) (d:=d) (p:=l.length) (this:=this) q I;rw[U,R,V,show max dep 0=dep by omega]
  have A:=xj h.at_ (by omega) (decide (this=decide (t.k=20)))
  rcases I with I|I<;>cases this<;>simp only[I,Nat.reduceEqDiff,decide_true,decide_false,Ss,Bool.true_eq_false,Tc,RO] at A⊢ <;>rw[I] at c0
  rotate_left 4
  by_cases h3:t.k=19
  obtain⟨R,es,U,V⟩:=EA (jmp:=true) (d:=d) (p:=l.length) (this:=this) q h3;rw[es] at z;rw[U,R,V];have aa:t.kids.length=1:=by
   rcases G.1 with⟨Z,_⟩|⟨_,_,h4⟩|⟨Z,_⟩|⟨Z,_⟩
   ·unfold dJ at Z;omega
   ·rw[h4];rfl
   ·omega
   ·unfold fW at Z;omega
  obtain⟨g,cap,HF⟩:=kL HN (by omega)
  rw[aa] at HF;obtain⟨_,c4,hg⟩:=HF w h.bel;have q0:=hg 0 (by omega)
  have A:=Y (this:=!this) (bn:=bn) (lz G (j:=0) (by omega)) (HK 0 (by omega)) h (by omega) (by omega) E
  rw[h3] at c0
  rotate_left
  by_cases h4:t.k=14
  have A:=IE (this:=this) Y G h4 q J h z O E;rw[h4] at c0
  rotate_left
  have D:t.k=17\/t.k=18:=by unfold qe at q;simp at q;omega
  have A:=ID (this:=this) Y G D q J h z O E;rcases D with D|D;rw[show decide (t.k=17)=true by simp[D]] at A
  rw[D] at c0
  rotate_left
  rw[show decide (t.k=17)=false by simp[D]] at A
  rw[D] at c0
  all_goals
   go_enter func134,ntmps134;go_wp2_with fail;apply A.mono;rintro e w1 hx;obtain⟨jv,rfl,x1,x2,x3⟩:=hx;have HX:=Hi (And.intro x1 (And.intro x2 x3));go_wp2;go_ret;exact⟨_,rfl,HX.out.1,HX.out.2.1,by first|exact HX.out.2.2|(have hx:=HX.out.2.2;rw[Sd] at hx;exact hx)⟩
theorem Ot (jmp) (d):yT jmp d/\rB jmp d:=by
 induction d with
 |zero=>exact⟨λ{_ _ _ _ _ _ _ _ _ _ _} h=>h.elim,λ{_ _ _ _ _ _ _ _ _ _ _ _} h=>h.elim⟩
 |succ d ih=>exact⟨Lm ih.1 ih.2,MY ih.1 ih.2⟩
def iE (jmp:Bool) (d:Nat) (x:fM) (p:Nat):List L3:=
 if x.kind=11 then gE jmp d none x.c p++[⟨5,x.wh,0⟩] else(gL jmp d (some false) x.c ⟨[],[]⟩ p (p+cZ jmp d (some false) x.c+1)).map er++[⟨jt x.kind,x.wh,0⟩]
def iD (jmp:Bool) (d:Nat) (x:fM):Nat:=fZ jmp d (if x.kind=11 then none else some false) x.c 0
def iS (jmp:Bool) (d:Nat) (x:fM):Nat:=cZ jmp d (if x.kind=11 then none else some false) x.c+1
theorem Ln (jmp) (d) (x) (p:Nat):(iE jmp d x p).length=iS jmp d x:=by
 unfold iE iS
 by_cases h:x.kind=11
 ·rw[Qo h,Qo h,Qt,jA];rfl
 ·rw[Qj h,Qj h,Qt,jL];rfl
theorem dG.keep {dep cells} (h:kV w lp jmp v l dep cells) (ho:dG w w' lp jmp v Z G D) {R:Nat} (E:w.heap[R]?=some (.cells cs T z)) (h1:T≠194) (h2:T≠247):w'.heap[R]?=some (.cells cs T z):=by
 obtain⟨v',_,o1,_⟩:=ho;refine(o1.block _ (be E) (λI=>?_)).trans E
 rcases I with rfl|I
 ·have:=h.blk
  rw[E] at this;simp at this;exact h1 this.2.1
 ·obtain⟨aa,J⟩:=cK h.row I
  rw[E] at J;simp at J;exact h2 J.2.1
theorem dG.cells {w z lp jmp v l dep cells} (h:dG w z lp jmp v l dep cells) (x):dG w (z.setCell ⟨lp,3,none⟩ (Iq (x:Nat))) lp jmp v l dep x:=by
 obtain⟨I,a1,J,O⟩:=h;refine⟨I,⟨?_,?_⟩,J.setCell (.inl (.inl rfl)) _,O⟩
 ·rw[QB z lp 3 _ _ _ a1.blk];rfl
 ·exact Rg a1.row (a:=⟨lp,3,none⟩) a1.ne _
theorem Cr {dep cells} (o1:a1.oneCell'=true) (o2:a2.oneCell'=true) (o3:a3.oneCell'=true) (o4:a4.oneCell'=true) (o5:a5.oneCell'=true) (o6:a6.oneCell'=true) (o7:a7.oneCell'=true)
 (aj:x.kind=11\/x.kind=12\/x.kind=13) (aB:x.wh<=255) (hw:gU d x.c) (hT:gB F d w0 b x.c) (h:Ax F w0 w lp jmp v l dep cells) (I:l.length+iS jmp d x<=4900) (hd:d<=1000) (ak:dep<=1000):
 Calls prog 92 #[Pq lp,.agg #[Iq x.kind,a1,a2,a3,a4,a5,a6,a7,Iq x.wh,Pq b]] w λe w'=>e= .returned (.tuple #[])/\dG w w' lp jmp v (l++iE jmp d x l.length) (max dep (iD jmp d x)) (if x.kind=11 then x.wh+1 else cells):=by
 obtain⟨HL,HJ⟩:=Ot jmp d;have ad:Below w.heap.size w (w.alloc (.cells #[Iq x.kind,a1,a2,a3,a4,a5,a6,a7,Iq x.wh,Pq b] 163)):=(Qq _ _).alloc (Qn _) _;have V:(w.alloc (.cells #[Iq x.kind,a1,a2,a3,a4,a5,a6,a7,Iq x.wh,Pq b] 163)).heap[w.heap.size]?=some (.cells #[Iq x.kind,a1,a2,a3,a4,a5,a6,a7,Iq x.wh,Pq b] 163 (0,0)):=Qp w _;have R:=(xk.start h).below ad;generalize ae:w.alloc (.cells #[Iq x.kind,a1,a2,a3,a4,a5,a6,a7,Iq x.wh,Pq b] 163)=wA at*;have c0:=Qm wA _ 0 _ _ _ V;have c9:=Qm wA _ 9 _ _ _ V;have HW:=Hi ae;have am:=Hi V;have ab:=Hi R
 by_cases D:x.kind=11
 ·have W1:=HL (bn:=0) hw hT R.ly (by unfold iS at I;rw[Qo D] at I;omega) (by omega) ak
  have lA:=jA jmp d none x.c l.length;have HE:Hid (iE jmp d x l.length=gE jmp d none x.c l.length++[⟨5,x.wh,0⟩]/\iD jmp d x=fZ jmp d none x.c 0):=⟨by unfold iE;rw[Qo D],by unfold iD;rw[Qo D]⟩
  have av:l.length+cZ jmp d none x.c<=4900:=by unfold iS at I;rw[Qo D] at I;omega
  rw[HE.out.1,HE.out.2,Qo D];have au:((x.kind:Int)==11)=true:=by simp;omega
  clear HE h V R ae ad HL HJ hw hT I D aj;go_enter func92,ntmps92;go_wp2_with fail;rw[HW.out];apply W1.mono;rintro e J ⟨rfl,z⟩;obtain⟨v1,R,_,z1⟩:=ab.out.next z;have E:=dG.keep ab.out.ly.at_ z am.out (by decide) (by decide)
  have c8:=Qm J _ 8 _ _ _ E;have W2:=jE 5 x.wh R.ly.at_ (by rw[Qt,lA];omega)
  have Y:=Hi R;have aa:=Hi E;clear W1 z R E c0 c9 lA;generalize (l++gE jmp d none x.c l.length).length=ix at*;go_wp2_with fail;apply W2.mono;rintro e O ⟨rfl,G⟩;obtain⟨v2,Z,_,z2⟩:=Y.out.next G;have U:=dG.keep Y.out.ly.at_ G aa.out (by decide) (by decide)
  have d8:=Qm O _ 8 _ _ _ U;have p3:=Qm O lp 3 _ _ _ Z.ly.at_.blk;have pf:O.frozen? ⟨lp,3,none⟩=false:=by simp[World.frozen?,Z.ly.at_.blk]
  have af:=Hi Z;clear W2 G Z U c8;go_wp2;refine Qs (v:= .tuple #[]) (by simp[results,results92,go_sem]) rfl ?_
  refine⟨rfl,?_⟩;have hf:=dG.cells af.out.out (x.wh+1);rw[QW] at hf;exact hf
 ·have W1:=HJ (this:=false) (bn:=0) hw hT R.ly (by unfold iS at I;rw[Qj D] at I;omega) (by omega) ak
  have lA:=jA jmp d (some false) x.c l.length;have HE:Hid (iE jmp d x l.length=(gL jmp d (some false) x.c ⟨[],[]⟩ l.length (l.length+cZ jmp d (some false) x.c+1)).map er++[⟨jt x.kind,x.wh,0⟩]/\iD jmp d x=fZ jmp d (some false) x.c 0):=⟨by unfold iE;rw[Qj D],by unfold iD;rw[Qj D]⟩
  have av:l.length+cZ jmp d (some false) x.c+1<=4900:=by unfold iS at I;rw[Qj D] at I;omega
  have an:= @Ag jmp d x.c false l.length;have aC:= @oG jmp d x.c false l.length;have HS:=Hi (Aa (jmp:=jmp) d (t:=x.c) (k:=⟨[],[]⟩) (this:=false) (pre:=l) (post:=[⟨jt x.kind,x.wh,0⟩]) (p:=l.length) (l.length+cZ jmp d (some false) x.c+1) hw rfl);rw[HE.out.1,HE.out.2,Qj D];have au:((x.kind:Int)==11)=false:=by simp;omega
  have ao:x.kind=12\/x.kind=13:=by omega
  have W3:=λW=>Cf x.kind ao W
  have aw:=Hi an;clear HE h V R ae ad HL HJ hw hT I D aj an ao;generalize ap:jt x.kind=vo at*;clear ap;go_enter func92,ntmps92;go_wp2_with fail;rw[HW.out];apply W1.mono;rintro e J ⟨jv,rfl,ag,_,z⟩;obtain⟨v1,R,_,z1⟩:=ab.out.next z;have E:=dG.keep ab.out.ly.at_ z am.out (by decide) (by decide)
  have e0:=Qm J _ 0 _ _ _ E;have e8:=Qm J _ 8 _ _ _ E;have ah:=R.below ((Qq _ _).drew);have W2:=jE vo x.wh ah.ly.at_ (by rw[Qt,lA];omega)
  have Y:=Hi ah;have aa:Hid (J.drew.heap[w.heap.size]?=_):=E;have ax:=Hi (Cp ag ((Qq _ J).drew));have aq:(l++gE jmp d (some false) x.c l.length++[(⟨vo,x.wh,0⟩:L3)]).length=l.length+cZ jmp d (some false) x.c+1:=by simp only[Qt,lA,QH,Q7]
  have ai:=Hi aq;have KP:Hid (∀O,dG J.drew O lp jmp v1 (l++gE jmp d (some false) x.c l.length++[⟨vo,x.wh,0⟩]) (max dep (fZ jmp d (some false) x.c 0)) cells->Cq O w.heap.size 0 (Iq x.kind)/\Cq O w.heap.size 8 (Iq x.wh)):=λO ho=>by
   have U:=dG.keep Y.out.ly.at_ ho aa.out (by decide) (by decide)
   exact⟨Qm O _ 0 _ _ _ U,Qm O _ 8 _ _ _ U⟩
  have ay:Cq J w.heap.size 0 (Iq x.kind)/\Cq J w.heap.size 8 (Iq x.wh):=⟨e0,e8⟩;clear W1 z R E c0 c9 lA ag ah aq;generalize (l++gE jmp d (some false) x.c l.length).length=ix at*;go_wp2
  go_region_held3 (λW=>Cq W w.heap.size 0 (Iq x.kind)/\Cq W w.heap.size 8 (Iq x.wh)) (first|assumption|exact ay|exact KP.out _ (by assumption)|go_keep)
   (first
    |(go_at_call 135;refine(W3 _).mono ?_;rintro e w' ⟨rfl,ar⟩;have az:=ar.symm;clear ar;subst az)
    |(go_at_call 93;refine W2.mono ?_;rintro e O ⟨rfl,G⟩))
  all_goals
   obtain⟨v2,Z,k2,z2⟩:=Y.out.next G;have W4:=ju (jv:=jv) (js:=nS jmp d false x.c l.length) Z.ly.at_ (by rw[ai.out];omega) (by omega) (k2 ax.out) (λj hj=>by have:=aw.out j hj;rw[ai.out];omega)
   rw[ai.out] at W4;have af:=Hi Z;clear Z k2 G W2;go_wp2_with fail;apply W4.mono;rintro e w3 ⟨rfl,ac⟩;obtain⟨v3,h3,_,z3⟩:=af.out.next ac;have aA:=Hi h3;clear W4 ac h3;go_wp2
   go_end0
   refine⟨rfl,?_⟩;have hf:=aA.out.out;have ea:l++gE jmp d (some false) x.c l.length++[(⟨vo,x.wh,0⟩:L3)]=l++((gL jmp d (some false) x.c ⟨[],[]⟩ l.length 0).map er++[⟨vo,x.wh,0⟩]):=by
    show l++(gL jmp d (some false) x.c ⟨[],[]⟩ l.length 0).map er++_=_
    simp
   rw[ea,HS.out] at hf;exact hf
end Go.Proofs.YtfkdailfcmnjlaaGreatDoor
