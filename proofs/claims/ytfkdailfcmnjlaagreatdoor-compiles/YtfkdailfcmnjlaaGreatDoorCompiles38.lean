/-
  A part.
-/
import Derived.Test.YtfkdailfcmnjlaaGreatDoorCompiles37
import Derived.Deep.Upon
set_option linter.all false
set_option maxHeartbeats 40000000
set_option maxRecDepth 1000000
namespace Go.Proofs.YtfkdailfcmnjlaaGreatDoor
open Go Go.RowKit Tryz
attribute [local go_sem ↓] Go.wp_at_zero Go.wp_at_succ
variable {w G v2 E z o a D R I lp jmp v l}
theorem Ox (I:IR w 3 G E) (U:IR w 3 v2 z) (ai:E.length+z.length<=10000) (ty):
 ∃V w',(Builtin.append_ #[38,38] ty #[G,v2]).run prog w= .ok V w'/\IR w' 3 V (E++z)/\cK (λb=>G.ownBlock=some b) w w'/\ ∀g,V.ownBlock=some g->G.ownBlock=some g\/w.heap.size<=g:=by
 obtain⟨Y,hi,hz⟩:=Su.1 Dr;simp only[Sj] at hz;obtain⟨ad,ae,af⟩:=hz;by_cases he:z=[]
 ·subst he;obtain⟨a2,c2,rfl⟩:=U.sl;obtain⟨a1,c1,rfl⟩:=I.sl;have ag:E.length<=c1:=by
   obtain⟨_,Z⟩:=I;rcases Z with⟨e,h0⟩|⟨g,cap,aj,e,_,_,h3,_⟩
   ·simp at e;omega
   simp at e;omega
  have hs:Src prog Y.size 38 (.slice a2 0 c2) 0 [] w:=by
   cases a2 with
   |none=>exact Src.ofNil (w:=w) underlying38 c2
   |some a=>exact Src.ofSlice (w:=w) underlying38 a 0 c2 [] (by simp) (λj u D=>by simp at D) (λu D=>by simp at D)
  exact⟨_,w,run_append_nothing w 38 38 ty 3 Y underlying38 hi a1 E.length c1 ag _ hs,by rw[TZ];exact I,cK.refl _ _,λg hg=> .inl hg⟩
 have hp:0<z.length:=by
  cases z with
  |nil=>exact absurd rfl he
  |cons x r=>simp
 obtain⟨g2,c2,rfl,ak⟩:=U.form hp;obtain⟨g,cap,w',Z,aa,J,ah,am⟩:=run_append_lies w 38 ty 0 3 Y _ 1 8 underlying38 hi ad ae af (by rfl) (by decide) G E.length (E.map (Value.int .i64)) I ⟨g2,0,none⟩ z.length c2 (z.map (Value.int .i64)) (by simp) (λj u D=>by
  have hj:j<z.length:=by
   have:=(Sf.1 D).1;simpa using this
  have hc:=U.cell hj;rw[Addr.add_mid];simp only[Sw];rw[hc,<-D];simp[Se,RI hj,RG]) (λu D=>by
  obtain⟨x,_,rfl⟩:=Tc.1 D;rfl) hp (by unfold maxLen;omega) (by omega) (R0 _) w.heap.size rfl
 refine⟨_,w',Z,?_,?_,?_⟩
 ·unfold IR;rw[RT,Sv];exact aa
 ·exact(cK.refl _ w).grown J (λk hk=> .inl hk)
 intro g' O;simp[Value.ownBlock] at O;subst O;rcases ah with h|h
 ·exact .inl h
 right;omega
theorem xR {rest Q} (O:o.guard=none) (s x) (U:o.op= .call {callee:= .builtin .append,args:= #[s,x],argTypes:= #[38,38]})
 (V:a.eval s=D) (Y:a.eval x=R) (Z:IR w 3 D G) (h2:IR w 3 R I) (J:G.length+I.length<=10000)
 (h:∀z w',IR w' 3 z (G++I)->cK (λb=>D.ownBlock=some b) w w'->(∀g,z.ownBlock=some g->D.ownBlock=some g\/w.heap.size<=g)->wpList prog E Q rest (a.put o.dst z) w'):wpList prog E Q (o::rest) a w:=
 wpList_plain O λ_ hK=>by
  obtain⟨z,w',hr,q1,q2,q3⟩:=Ox Z h2 J o.type;unfold Oper.wp execOp;simp only[U,resolve,invoke,builtin,Sem.run_bind,Sem.run_pure,Result.andThen_ok,List.map_toArray,Sa,SA,V,Y,hr];exact hK _ _ (h z w' q1 q2 q3)
theorem Bj.row {F U w w' lp jmp v l dep cells} (h:Bj F U w lp jmp v l dep cells) {I V} (J:IR w 3 I V) (Y:cK (λb=>I.ownBlock=some b) w w'):lE w' lp jmp v l dep cells:=
 h.at_.only Y (λb z O=>by
  rcases z with rfl|z
  ·exact J.ne h.at_.blk (by decide) O
  obtain⟨cs,Z⟩:=cM h.at_.row z;exact J.ne Z (by decide) O)
theorem dH.row {w D I lp jmp v l dep cells} (h:dH w D lp jmp v l dep cells) {E V} (J:IR D 3 E V) (Y:∀g,E.ownBlock=some g->w.heap.size<=g) (O:cK (λb=>E.ownBlock=some b) D I):dH w I lp jmp v l dep cells:=by
 obtain⟨Z,a1,o1,f1⟩:=h;refine⟨Z,a1.only O (λb G z=>?_),o1.trans O (λ_ _ h=>h) (λi hi z=>?_),f1⟩
 ·rcases G with rfl|G
  ·exact J.ne a1.blk (by decide) z
  obtain⟨cs,hc⟩:=cM a1.row G;exact J.ne hc (by decide) z
 have:=Y i z;omega
theorem xS {dep cells} (h:lE w lp jmp v l dep cells) (V:l.length<=5000) (z):
 Calls prog 182 #[Pq lp,.bool z] w λe w'=> ∃jv,e= .returned jv/\IR w' 3 jv ((if z then[l.length] else[]).map λj=>(j:Nat))/\(∀g,jv.ownBlock=some g->w.heap.size<=g)/\dH w w' lp jmp v (l++(if z then[⟨16,0,0⟩] else[])) dep cells:=by
 cases z with
 |false=>
  have I:Hid (dH w w lp jmp v (l++[]) dep cells):=by
   show dH _ _ _ _ _ _ _ _;rw[TZ];exact dH.refl h
  go_enter func182,ntmps182;go_wp2;go_ret;exact⟨_,rfl,IR.nil _ _,λg E=>by simp[Value.ownBlock] at E,by first|exact I.out|(have J:=I.out;rw[TZ] at J;exact J)⟩
 |true=>
  have O:=jR 16 0 h V;go_enter func182,ntmps182;go_wp2_with fail;apply O.mono;rintro e R ⟨rfl,D⟩;have U:Hid (dH w R lp jmp v (l++[⟨16,0,0⟩]) dep cells):=D;have Y:=Hi (xQ R l.length);go_wp2;go_ret;refine⟨_,rfl,Y.out,λg E=>?_,?_⟩
  ·simp[Value.ownBlock] at E;obtain⟨_,_,G,_⟩:=U.out;have:=G.size;omega
  obtain⟨Z,a1,G,f1⟩:=U.out;exact⟨Z,⟨(RV _ _ _ (cq a1.blk)).trans a1.blk,a1.row.alloc _⟩,G.alloc _,f1⟩
section
structure xT (F) (w0 w) (v:Value) (wi) (lp) (jmp) (vi) (li) (dep cells):Prop where
 ly:Bj F w0 wi lp jmp vi li dep cells
 only:cK (λb=>b=lp\/v.ownBlock=some b) w wi
 own:∀b,vi.ownBlock=some b->v.ownBlock=some b\/w.heap.size<=b
section
variable {F : Nat -> Prop} {w0 w wi wj : World} {v vi : Value} {lp : Nat} {jmp : Bool} {li lj : List L3} {dep cells dj cj : Nat}
theorem xT.start (h:Bj F w0 w lp jmp v li dep cells):xT F w0 w v w lp jmp v li dep cells:=⟨h,cK.refl _ _,λ_ h=> .inl h⟩
theorem xT.out (h:xT F w0 w v wi lp jmp vi li dep cells):dH w wi lp jmp v li dep cells:=⟨vi,h.ly.at_,h.only,h.own⟩
theorem xT.next (h:xT F w0 w v wi lp jmp vi li dep cells) (ho:dH wi wj lp jmp vi lj dj cj):
 ∃vj,xT F w0 w v wj lp jmp vj lj dj cj/\(∀{jv js},IR wi 3 jv js->IR wj 3 jv js)/\wi.heap.size<=wj.heap.size:=by
 obtain⟨vj,a1,o1,f1⟩:=ho;have hb:cK F w0 wj:=h.ly.bel.trans o1 (λ_ _ h=>h) (λk hk0 hk=>by
  rcases hk with rfl|hk
  ·exact h.ly.lp0.resolve_right (by omega)
  exact(h.ly.own k hk).resolve_right (by omega))
 refine⟨vj,⟨⟨a1,h.ly.lp0,λg hg=>?_,hb⟩,h.only.trans o1 (λ_ _ h=>h) (λi hi hF=>?_),λb hb'=>?_⟩,λ{jv js} hj=>hj.only o1 (λg hg hF=>?_),o1.size⟩
 ·rcases f1 g hg with h1|h1
  ·exact h.ly.own g h1
  right;have:=h.ly.bel.size;omega
 ·rcases hF with hF|hF
  ·exact .inl hF
  rcases h.own i hF with h1|h1
  ·exact .inr h1
  omega
 ·rcases f1 b hb' with h1|h1
  ·exact h.own b h1
  right;have:=h.only.size;omega
 rcases hF with rfl|hF
 ·exact hj.ne h.ly.at_.blk (by decide) hg
 obtain⟨cs,hc⟩:=cM h.ly.at_.row hF;exact hj.ne hc (by decide) hg
theorem xT.row (h:xT F w0 w v wi lp jmp vi li dep cells) {v1} {l1:List Int} (h1:IR wi 3 v1 l1) (hn:∀g,v1.ownBlock=some g->w.heap.size<=g) (hw:w0.heap.size<=w.heap.size) (ho:cK (λb=>v1.ownBlock=some b) wi wj):xT F w0 w v wj lp jmp vi li dep cells:=by
 refine⟨⟨h.ly.row h1 ho,h.ly.lp0,h.ly.own,h.ly.bel.trans ho (λ_ _ h=>h) (λk hk0 hk=>by have:=hn k hk;omega)⟩,h.only.trans ho (λ_ _ h=>h) (λi hi hF=>?_),h.own⟩
 have:=hn i hF;omega
theorem xT.below (h:xT F w0 w v wi lp jmp vi li dep cells) (hb:Bl wi wj):xT F w0 w v wj lp jmp vi li dep cells:=
 ⟨h.ly.below hb,h.only.trans (cK.of_below hb) (λ_ _ h=>h) (λ_ _ h=>h),h.own⟩
end
variable {w' e d F t b bn this}
theorem Dv (h:IR w e v l) (q:Bl w w'):IR w' e v l:=cH h q
theorem J1 (HJ:se jmp d) {dep cells} (hw:hY (d+1) t) (hk:t.k=17\/t.k=18) (hj:oN jmp t.k=true) (hT:gG F (d+1) I b t) (h:Bj F I w lp jmp v l dep cells) (ah:l.length+cX jmp (d+1) (some this) t<=4900) (ax:bn+(d+1)<=1000) (ai:dep<=1000):
 Calls prog 183 #[Pq lp,.bool this,.bool (decide (t.k=17)),Pq b,Iq bn] w λe w'=> ∃jv,e= .returned jv/\IR w' 3 jv ((og jmp (d+1) this t l.length).map λj=>(j:Nat))/\(∀g,jv.ownBlock=some g->w.heap.size<=g)/\dH w w' lp jmp v (l++gE jmp (d+1) (some this) t l.length) (max dep (gn jmp (d+1) (some this) t bn)) cells:=by
 obtain⟨eg,es,ed,ej⟩:=A2 (jmp:=jmp) (d:=d) (p:=l.length) (this:=this) hj hk;rw[es] at ah;rw[ed,eg,ej];have aj:t.kids.length=2:=by
  rcases hw.1 with⟨q,_⟩|⟨q,_⟩|⟨q,_⟩|⟨_,_,_,J⟩
  ·unfold dy at q;omega
  ·omega
  ·omega
  ·rw[J];rfl
 generalize decide (t.k=17)=s at*;obtain⟨pl,nm,u,bl,HN,HK⟩:=qK hT;obtain⟨g,cap,O⟩:=lh HN (by omega)
 rw[aj] at O;have FC:Hid (∀W,cK F I W->Cq W b 4 (Sq g 2 cap)/\Cq W g 0 (Pq (bl 0))/\Cq W g 1 (Pq (bl 1))):=λW hb=>⟨(O W hb).2.1,(O W hb).2.2 0 (by omega),(O W hb).2.2 1 (by omega)⟩
 have R:=lM hw (j:=0) (by omega)
 have ak:=Hi (lM hw (j:=1) (by omega))
 have am:=Hi (HK 1 (by omega))
 have W1:=HJ (this:=s) (bn:=bn) R (HK 0 (by omega)) h (by omega) (by omega) ai
 obtain⟨c4,q0,_⟩:=FC.out w h.bel;have lA:=jI jmp d (some s) (t.kid 0) l.length;have lB:=jI jmp d (some this) (t.kid 1) (l.length+cX jmp d (some s) (t.kid 0));have ay:=rQ jmp d (some s) (t.kid 0) bn;have aa:= @A3 jmp d (t.kid 0) s l.length;have az:= @oX jmp d (t.kid 0) s l.length;have aw:= @oX jmp d (t.kid 1) this (l.length+cX jmp d (some s) (t.kid 0));have HS:=Hi (AY (jmp:=jmp) d (t:=t.kid 0) (k:=⟨[],[]⟩) (this:=s) (pre:=l) (post:=gE jmp d (some this) (t.kid 1) (l.length+cX jmp d (some s) (t.kid 0))) (p:=l.length) (l.length+cX jmp d (some s) (t.kid 0)+cX jmp d (some this) (t.kid 1)) R rfl);have HB:Hid (xT F I w v w lp jmp v l dep cells):=xT.start h;have an:=h.bel.size;have ao:=Hi aa;have em:max (max dep (gn jmp d (some s) (t.kid 0) bn)) (gn jmp d (some this) (t.kid 1) bn)=max dep (max (gn jmp d (some s) (t.kid 0) bn) (gn jmp d (some this) (t.kid 1) bn)):=by omega
 have EM:=Hi em;go_enter func183,ntmps183;go_wp2_with fail;apply W1.mono;rintro e w1 ⟨ap,rfl,U,V,A⟩;obtain⟨v1,q,_,z1⟩:=HB.out.next A;have W2:=HJ (this:=this) (bn:=bn) ak.out am.out q.ly (by rw[RT,lA];omega) (by omega) (by omega)
 rw[RT,lA] at W2;obtain⟨d4,_,d1⟩:=FC.out w1 q.ly.bel;have ab:=Hi q;have ac:=Hi U;have ad:=Hi V;go_wp2_with fail;apply W2.mono;rintro e w2 ⟨aq,rfl,Y,Z,D⟩;obtain⟨v2,J,k2,z2⟩:=ab.out.next D;have z:=k2 ac.out;have E:(l++gE jmp d (some s) (t.kid 0) l.length++gE jmp d (some this) (t.kid 1) (l.length+cX jmp d (some s) (t.kid 0))).length=l.length+cX jmp d (some s) (t.kid 0)+cX jmp d (some this) (t.kid 1):=by simp only[RT,lA,lB]
 have W3:=jA (jv:=ap) (js:=og jmp d s (t.kid 0) l.length) J.ly.at_ (by rw[E];omega) (by omega) z (λj hj=>by have:=ao.out j hj;rw[E];omega)
 rw[E] at W3;have ae:=Hi J;have af:=Hi Y;have ag:=Hi z;have ar:Hid (∀g,aq.ownBlock=some g->w.heap.size<=g):=λg hg=>by have:=Z g hg;omega
 by_cases hs:this=s
 ·subst hs
  go_wp2_with (at_builtin;go_must (refine xR (by rfl) _ _ (by rfl) (by rfl) (by rfl) ag.out af.out (by simp only[SR];omega) ?_);intro aA w3 q1 q2 q3;have Q1:Hid _:=q1;have Q2:Hid _:=q2;have Q3:Hid _:=q3;clear q1 q2 q3)
  go_ret;refine⟨_,rfl,?_,λg hg=>?_,?_⟩
  ·exact Q1.out
  ·rcases Q3.out g hg with q|q
   ·exact ad.out g q
   ·omega
  ·have hf:=((ae.out.row ag.out ad.out an Q2.out).out)
   rw[EM.out,Sk] at hf;exact hf
 ·have aB:(this==s)=false:=by simpa using hs
  go_wp2_with fail;apply W3.mono;rintro e w3 ⟨rfl,G⟩;obtain⟨v3,h3,k3,z3⟩:=ae.out.next G;have au:=Hi (k3 af.out);have av:=Hi h3;go_wp2;go_ret
  try rw[RH hs,RH hs]
  refine⟨_,rfl,au.out,ar.out,?_⟩;have hf:=av.out.out;have ea:l++gE jmp d (some s) (t.kid 0) l.length++gE jmp d (some this) (t.kid 1) (l.length+cX jmp d (some s) (t.kid 0))=l++((fP jmp d (some s) (t.kid 0) ⟨[],[]⟩ l.length 0).map er++gE jmp d (some this) (t.kid 1) (l.length+cX jmp d (some s) (t.kid 0))):=by
   show l++(fP jmp d (some s) (t.kid 0) ⟨[],[]⟩ l.length 0).map er++_=_
   simp
  rw[EM.out,ea,HS.out] at hf;exact hf
end
variable {d F t w0 b bn this Y w' Z cs T x a1 a2 a3 a4 a5 a6 a7 u U lt' q n e O lv lets base size xs ks wr k gg rp bl kb}
theorem J2 (HJ:se jmp d) {dep cells} (hw:hY (d+1) t) (hk:t.k=14) (G:oN jmp t.k=true) (hT:gG F (d+1) w0 b t) (h:Bj F w0 w lp jmp v l dep cells) (aC:l.length+cX jmp (d+1) (some this) t<=4900) (aW:bn+(d+1)<=1000) (aD:dep<=1000):
 Calls prog 184 #[Pq lp,.bool this,Pq b,Iq bn] w λe w'=> ∃jv,e= .returned jv/\IR w' 3 jv ((og jmp (d+1) this t l.length).map λj=>(j:Nat))/\(∀g,jv.ownBlock=some g->w.heap.size<=g)/\dH w w' lp jmp v (l++gE jmp (d+1) (some this) t l.length) (max dep (gn jmp (d+1) (some this) t bn)) cells:=by
 obtain⟨eg,es,ed,ej⟩:=MM (jmp:=jmp) (d:=d) (p:=l.length) (this:=this) G hk;rw[es] at aC;rw[ed,eg,ej];have aE:t.kids.length=3:=by
  rcases hw.1 with⟨z,_⟩|⟨z,_⟩|⟨_,_,_,_,h2⟩|⟨z,_⟩
  ·unfold dy at z;omega
  ·omega
  ·rw[h2];rfl
  unfold fh at z;omega
 obtain⟨pl,nm,u,bl,HN,HK⟩:=qK hT;obtain⟨g,cap,Y⟩:=lh HN (by omega)
 rw[aE] at Y;have FC:Hid (∀W,cK F w0 W->Cq W b 4 (Sq g 3 cap)/\Cq W g 0 (Pq (bl 0))/\Cq W g 1 (Pq (bl 1))/\Cq W g 2 (Pq (bl 2))):=λW hb=>⟨(Y W hb).2.1,(Y W hb).2.2 0 (by omega),(Y W hb).2.2 1 (by omega),(Y W hb).2.2 2 (by omega)⟩
 have aa:=lM hw (j:=0) (by omega)
 have aF:=Hi (lM hw (j:=1) (by omega))
 have aG:=Hi (HK 1 (by omega))
 have aH:=Hi (lM hw (j:=2) (by omega))
 have aI:=Hi (HK 2 (by omega))
 have W1:=HJ (this:=false) (bn:=bn) aa (HK 0 (by omega)) h (by omega) (by omega) aD
 obtain⟨c4,q0,_,_⟩:=FC.out w h.bel;have Z:=jI jmp d (some false) (t.kid 0) l.length;have lB:=jI jmp d (some this) (t.kid 1) (l.length+cX jmp d (some false) (t.kid 0));have aX:=rQ jmp d (some false) (t.kid 0) bn;have aY:=rQ jmp d (some this) (t.kid 1) bn;have aJ:=Hi (GU (jmp:=jmp) (d:=d) (a:=t.kid 0) (b:=t.kid 1) (c:=t.kid 2) (m:=some this) (l:=l) (p:=l.length) rfl aa);have an:= @A3 jmp d (t.kid 0) false l.length;have aZ:= @oX jmp d (t.kid 0) false l.length;have aU:= @oX jmp d (t.kid 1) this (l.length+cX jmp d (some false) (t.kid 0));have aV:= @oX jmp d (t.kid 2) this (l.length+cX jmp d (some false) (t.kid 0)+cX jmp d (some this) (t.kid 1)+1);have HB:Hid (xT F w0 w v w lp jmp v l dep cells):=xT.start h;have aK:=h.bel.size;have aL:=Hi an;have em:max (max (max dep (gn jmp d (some false) (t.kid 0) bn)) (gn jmp d (some this) (t.kid 1) bn)) (gn jmp d (some this) (t.kid 2) bn)=max dep (max (gn jmp d (some false) (t.kid 0) bn) (max (gn jmp d (some this) (t.kid 1) bn) (gn jmp d (some this) (t.kid 2) bn))):=by omega
 have EM:=Hi em;go_enter func184,ntmps184;go_wp2_with fail;apply W1.mono;rintro e w1 ⟨aM,rfl,ab,_,I⟩;obtain⟨v1,z,_,z1⟩:=HB.out.next I;have W2:=HJ (this:=this) (bn:=bn) aF.out aG.out z.ly (by rw[RT,Z];omega) (by omega) (by omega)
 rw[RT,Z] at W2;obtain⟨d4,_,d1,_⟩:=FC.out w1 z.ly.bel;have ao:=Hi z;have ap:=Hi ab;go_wp2_with fail;apply W2.mono;rintro e w2 ⟨aN,rfl,ac,ad,J⟩;obtain⟨v2,h2,k2,z2⟩:=ao.out.next J;have ae:=Hi (k2 ap.out);have W3:=jR 16 0 h2.ly.at_ (by simp only[RT,Z,lB];omega)
 obtain⟨ix,af⟩:∃ix:Nat,l.length+cX jmp d (some false) (t.kid 0)+cX jmp d (some this) (t.kid 1)=ix:=⟨_,rfl⟩;have hJ:(l++gE jmp d (some false) (t.kid 0) l.length++gE jmp d (some this) (t.kid 1) (l.length+cX jmp d (some false) (t.kid 0))).length=ix:=by
  simp only[RT,Z,lB];exact af
 rw[hJ] at W3;have aq:=Hi af;have ar:=Hi h2;have au:=Hi ac;have av:Hid (∀g,aN.ownBlock=some g->w.heap.size<=g):=λg hg=>by have:=ad g hg;omega
 go_wp2_with fail;apply W3.mono;rintro e w3 ⟨rfl,O⟩;obtain⟨v3,h3,k3,z3⟩:=ar.out.next O;have D:(l++gE jmp d (some false) (t.kid 0) l.length++gE jmp d (some this) (t.kid 1) (l.length+cX jmp d (some false) (t.kid 0))++[(⟨16,0,0⟩:L3)]).length=l.length+cX jmp d (some false) (t.kid 0)+cX jmp d (some this) (t.kid 1)+1:=by
  simp only[RT,Z,lB,R7,Sx]
 have W4:=jA (jv:=aM) (js:=og jmp d false (t.kid 0) l.length) h3.ly.at_ (by rw[D];omega) (by omega) (k3 ae.out) (λj G=>by have:=aL.out j G;rw[D];omega)
 rw[D] at W4;have aw:=Hi h3;have ag:=Hi (k3 au.out);go_wp2_with fail;apply W4.mono;rintro e w4 ⟨rfl,R⟩;obtain⟨v4,h4,k4,z4⟩:=aw.out.next R;have E:=r9 (og jmp d false (t.kid 0) l.length) (l++gE jmp d (some false) (t.kid 0) l.length++gE jmp d (some this) (t.kid 1) (l.length+cX jmp d (some false) (t.kid 0))++[(⟨16,0,0⟩:L3)]) (l.length+cX jmp d (some false) (t.kid 0)+cX jmp d (some this) (t.kid 1)+1);rw[D] at E;have W5:=HJ (this:=this) (bn:=bn) aH.out aI.out h4.ly (by rw[E];omega) (by omega) (by omega)
 rw[E] at W5;obtain⟨d4,_,_,d2⟩:=FC.out w4 h4.ly.bel;have ax:=Hi h4;have ah:=Hi (k4 ag.out);go_wp2_with fail;apply W5.mono;rintro e w5 ⟨a0,rfl,ai,aA,U⟩;obtain⟨v5,h5,k5,z5⟩:=ax.out.next U;have aj:=Hi (k5 ah.out);have aO:=Hi ai;have aP:=Hi h5;have ay:(fM (l++gE jmp d (some false) (t.kid 0) l.length++gE jmp d (some this) (t.kid 1) (l.length+cX jmp d (some false) (t.kid 0))++[(⟨16,0,0⟩:L3)]) (og jmp d false (t.kid 0) l.length) (l.length+cX jmp d (some false) (t.kid 0)+cX jmp d (some this) (t.kid 1)+1)++gE jmp d (some this) (t.kid 2) (l.length+cX jmp d (some false) (t.kid 0)+cX jmp d (some this) (t.kid 1)+1)).length=l.length+cX jmp d (some false) (t.kid 0)+cX jmp d (some this) (t.kid 1)+1+cX jmp d (some this) (t.kid 2):=by
  rw[RT,E,jI]
 have ak:=Hi ay;go_wp2_with (at_builtin;go_must (refine xR (by rfl) _ _ (by rfl) (by rfl) (by rfl) aj.out aO.out (by simp only[SR];omega) ?_);intro a8 w6 q1 q2 q3;have h6:=aP.out.row aj.out av.out aK q2;have z6:=q2.size;have Q1:Hid _:=q1;have Q3:Hid _:=q3;have aQ:Hid _:=h6;clear q1 q2 q3 h6)
 have am:Bl w6 (w6.alloc (.cells #[Iq (ix:Nat)] 3)):=(RP _ _).alloc (RL _) _;have h7:=aQ.out.below am;have az:=Dv Q1.out am;have W6:=jA (js:=[ix]) h7.ly.at_ (by rw[ak.out];omega) (by simp) (xQ w6 _) (λj G=>by simp only[TQ] at G;have:=aq.out;rw[G,ak.out];omega)
 have aR:=Hi h7;have aB:=Hi az;apply W6.mono;rintro e w7 ⟨rfl,V⟩;obtain⟨v8,h8,k8,z8⟩:=aR.out.next V;have aS:=Hi (k8 aB.out);have aT:=Hi h8;go_wp2;go_ret;refine⟨_,rfl,?_,λg hg=>?_,?_⟩
 ·rw[Sv];exact aS.out
 ·rcases Q3.out g hg with z|z
  ·exact av.out g z
  omega
 have hf:=aT.out.out;rw[xP,ak.out,<-aq.out,aJ.out,EM.out] at hf;exact hf
theorem P5 (HL:zO jmp (d+1)) {dep cells} (hw:hY (d+1) t) (J:oN jmp t.k=false) (hT:gG F (d+1) Y b t) (h:Bj F Y w z jmp v l dep cells) (U:l.length+cX jmp (d+1) (some this) t<=4900) (ad:bn+(d+1)<=1000) (ae:dep<=1000):
 Calls prog 134 #[Pq z,.bool this,Pq b,Iq bn] w λe w'=> ∃jv,e= .returned jv/\IR w' 3 jv ((og jmp (d+1) this t l.length).map λj=>(j:Nat))/\(∀g,jv.ownBlock=some g->w.heap.size<=g)/\dH w w' z jmp v (l++gE jmp (d+1) (some this) t l.length) (max dep (gn jmp (d+1) (some this) t bn)) cells:=by
 rw[FK J] at U;rw[PY J,PZ J,A0 J];obtain⟨pl,nm,u,bl,HN,HK⟩:=qK hT;have c0:=(HN w h.bel).cc.c0;have p0:=RM w z 0 _ _ _ h.at_.blk;have W1:=HL (bn:=bn) hw hT h (by cases this<;>simp at U<;>omega) ad ae
 have O:=jI jmp (d+1) none t l.length;have HB:Hid (xT F Y w v w z jmp v l dep cells):=xT.start h;have hb:jmp=true->((t.k:Int)==20)=false/\((t.k:Int)==21)=false/\((t.k:Int)==19)=false/\((t.k:Int)==18)=false/\((t.k:Int)==17)=false/\((t.k:Int)==14)=false:=λe=>by
  unfold oN at J;rw[e] at J;simp at J;refine⟨?_,?_,?_,?_,?_,?_⟩<;>(simp;omega)
 generalize gE jmp (d+1) none t l.length=A at*;generalize cX jmp (d+1) none t=Z at*;generalize gn jmp (d+1) none t bn=dA at*;generalize t.k=k at*
 cases this with
 |false=>
  simp only[Uc,Ui,Tp,Us] at U⊢;have R:Hid (∀(q:World) (D:Value),xT F Y w v q z jmp D (l++A) (max dep dA) cells->Calls prog 93 #[Pq z,Iq 15,Iq 0] q λe w'=>e= .returned (Iq ((l.length+Z:Nat):Int))/\dH q w' z jmp D (l++A++[⟨15,0,0⟩]) (max dep dA) cells):=λq D I=>by
   have:=jR 15 0 I.ly.at_ (by rw[RT,O];omega)
   rw[RT,O] at this;exact this
  generalize l.length+Z=ix at*
  cases jmp
  rotate_left
  obtain⟨b1,b2,b3,b4,b5,b6⟩:=hb rfl
  all_goals
   go_enter func134,ntmps134;go_wp2_with fail;apply W1.mono;rintro e q ⟨rfl,E⟩;obtain⟨D,I,_,z1⟩:=HB.out.next E;have W2:=R.out q D I;have aa:=Hi I;go_wp2_with fail;apply W2.mono;rintro e w2 ⟨rfl,G⟩;obtain⟨v2,h2,_,z2⟩:=aa.out.next G;have ab:=Hi h2;have HI:=Hi (xQ w2 (ix:Nat));go_wp2;go_ret;refine⟨_,rfl,HI.out,λg hg=>?_,?_⟩
   ·simp[Value.ownBlock] at hg;omega
   ·have hf:=(ab.out.below ((RP _ _).alloc (RL _) (.cells #[Iq (ix:Nat)] 3))).out
    rw[Sk] at hf;exact hf
 |true=>
  simp only[Td] at U⊢;have R:Hid (∀(q:World) (D:Value),xT F Y w v q z jmp D (l++A) (max dep dA) cells->Calls prog 93 #[Pq z,Iq 12,Iq 0] q λe w'=>e= .returned (Iq ((l.length+Z:Nat):Int))/\dH q w' z jmp D (l++A++[⟨12,0,0⟩]) (max dep dA) cells):=λq D I=>by
   have:=jR 12 0 I.ly.at_ (by rw[RT,O];omega)
   rw[RT,O] at this;exact this
  have ac:Hid (∀(q:World) (D:Value),xT F Y w v q z jmp D (l++A++[⟨12,0,0⟩]) (max dep dA) cells->Calls prog 93 #[Pq z,Iq 15,Iq 0] q λe w'=>e= .returned (Iq ((l.length+Z+1:Nat):Int))/\dH q w' z jmp D (l++A++[⟨12,0,0⟩]++[⟨15,0,0⟩]) (max dep dA) cells):=λq D I=>by
   have:=jR 15 0 I.ly.at_ (by simp only[RT,O,R7,Sx];omega)
   rw[RT,RT,O] at this;exact this
  generalize af:l.length+Z+1=ix at*;generalize l.length+Z=iy at*
  cases jmp
  rotate_left
  obtain⟨b1,b2,b3,b4,b5,b6⟩:=hb rfl
  all_goals
   go_enter func134,ntmps134;go_wp2_with fail;apply W1.mono;rintro e q ⟨rfl,E⟩;obtain⟨D,I,_,z1⟩:=HB.out.next E;have W2:=R.out q D I;have aa:=Hi I;go_wp2_with fail;apply W2.mono;rintro e w2 ⟨rfl,G⟩;obtain⟨v2,h2,_,z2⟩:=aa.out.next G;have W3:=ac.out w2 v2 h2;have ab:=Hi h2;go_wp2_with fail;apply W3.mono;rintro e w3 ⟨rfl,V⟩;obtain⟨v3,h3,_,z3⟩:=ab.out.next V;have ag:=Hi h3;have HI:=Hi (xQ w3 (ix:Nat));go_wp2;go_ret;refine⟨_,rfl,HI.out,λg hg=>?_,?_⟩
   ·simp[Value.ownBlock] at hg;omega
   ·have hf:=(ag.out.below ((RP _ _).alloc (RL _) (.cells #[Iq (ix:Nat)] 3))).out
    rw[Sk,Sk] at hf;exact hf
theorem Oy (HL:zO jmp d) (Y:se jmp d):se jmp (d+1):=by
 intro F t w0 w lp b bn dep cells v l this G J h z O E
 cases q:oN jmp t.k with
 |false=>exact P5 (MO HL Y) G q J h z O E
 |true=>
  obtain rfl:jmp=true:=by unfold oN at q;simp at q;exact q.1
  obtain⟨pl,nm,u,bl,HN,HK⟩:=qK J;have c0:=(HN w h.bel).cc.c0;have p0:=RM w lp 0 _ _ _ h.at_.blk
  by_cases I:t.k=20\/t.k=21
  obtain⟨R,_,U,V⟩:=A1 (jmp:=true) (d:=d) (p:=l.length) (this:=this) q I;rw[U,R,V,show max dep 0=dep by omega]
  have A:=xS h.at_ (by omega) (decide (this=decide (t.k=20)))
  rcases I with I|I<;>cases this<;>simp only[I,Nat.reduceEqDiff,decide_true,decide_false,Uc,Bool.true_eq_false,Ui,Td] at A⊢ <;>rw[I] at c0
  rotate_left 4
  by_cases h3:t.k=19
  obtain⟨R,es,U,V⟩:=FL (jmp:=true) (d:=d) (p:=l.length) (this:=this) q h3;rw[es] at z;rw[U,R,V];have aa:t.kids.length=1:=by
   rcases G.1 with⟨Z,_⟩|⟨_,_,h4⟩|⟨Z,_⟩|⟨Z,_⟩
   ·unfold dy at Z;omega
   ·rw[h4];rfl
   ·omega
   ·unfold fh at Z;omega
  obtain⟨g,cap,HF⟩:=lh HN (by omega)
  rw[aa] at HF;obtain⟨_,c4,hg⟩:=HF w h.bel;have q0:=hg 0 (by omega)
  have A:=Y (this:=!this) (bn:=bn) (lM G (j:=0) (by omega)) (HK 0 (by omega)) h (by omega) (by omega) E
  rw[h3] at c0
  rotate_left
  by_cases h4:t.k=14
  have A:=J2 (this:=this) Y G h4 q J h z O E;rw[h4] at c0
  rotate_left
  have D:t.k=17\/t.k=18:=by unfold oN at q;simp at q;omega
  have A:=J1 (this:=this) Y G D q J h z O E;rcases D with D|D;rw[show decide (t.k=17)=true by simp[D]] at A
  rw[D] at c0
  rotate_left
  rw[show decide (t.k=17)=false by simp[D]] at A
  rw[D] at c0
  all_goals
   go_enter func134,ntmps134;go_wp2_with fail;apply A.mono;rintro e w1 hx;obtain⟨jv,rfl,x1,x2,x3⟩:=hx;have HX:=Hi (And.intro x1 (And.intro x2 x3));go_wp2;go_ret;exact⟨_,rfl,HX.out.1,HX.out.2.1,by first|exact HX.out.2.2|(have hx:=HX.out.2.2;rw[TZ] at hx;exact hx)⟩
theorem P6 (jmp) (d):zO jmp d/\se jmp d:=by
 induction d with
 |zero=>exact⟨λ{_ _ _ _ _ _ _ _ _ _ _} h=>h.elim,λ{_ _ _ _ _ _ _ _ _ _ _ _} h=>h.elim⟩
 |succ d ih=>exact⟨MO ih.1 ih.2,Oy ih.1 ih.2⟩
def iE (jmp:Bool) (d:Nat) (x:fQ) (p:Nat):List L3:=
 if x.kind=11 then gE jmp d none x.c p++[⟨5,x.wh,0⟩] else(fP jmp d (some false) x.c ⟨[],[]⟩ p (p+cX jmp d (some false) x.c+1)).map er++[⟨ga x.kind,x.wh,0⟩]
def iD (jmp:Bool) (d:Nat) (x:fQ):Nat:=gn jmp d (if x.kind=11 then none else some false) x.c 0
def iS (jmp:Bool) (d:Nat) (x:fQ):Nat:=cX jmp d (if x.kind=11 then none else some false) x.c+1
theorem MP (jmp) (d) (x) (p:Nat):(iE jmp d x p).length=iS jmp d x:=by
 unfold iE iS
 by_cases h:x.kind=11
 ·rw[RK h,RK h,RT,jI];rfl
 ·rw[RH h,RH h,RT,jX];rfl
theorem dH.keep {dep cells} (h:lE w lp jmp v l dep cells) (ho:dH w w' lp jmp v Z G D) {R:Nat} (E:w.heap[R]?=some (.cells cs T z)) (h1:T≠194) (h2:T≠247):w'.heap[R]?=some (.cells cs T z):=by
 obtain⟨v',_,o1,_⟩:=ho;refine(o1.block _ (cq E) (λI=>?_)).trans E
 rcases I with rfl|I
 ·have:=h.blk
  rw[E] at this;simp at this;exact h1 this.2.1
 ·obtain⟨aa,J⟩:=cM h.row I
  rw[E] at J;simp at J;exact h2 J.2.1
theorem dH.cells {w z lp jmp v l dep cells} (h:dH w z lp jmp v l dep cells) (x):dH w (z.setCell ⟨lp,3,none⟩ (Iq (x:Nat))) lp jmp v l dep x:=by
 obtain⟨I,a1,J,O⟩:=h;refine⟨I,⟨?_,?_⟩,J.setCell (.inl (.inl rfl)) _,O⟩
 ·rw[R3 z lp 3 _ _ _ a1.blk];rfl
 ·exact Tn a1.row (a:=⟨lp,3,none⟩) a1.ne _
theorem Dw {dep cells} (o1:a1.oneCell'=true) (o2:a2.oneCell'=true) (o3:a3.oneCell'=true) (o4:a4.oneCell'=true) (o5:a5.oneCell'=true) (o6:a6.oneCell'=true) (o7:a7.oneCell'=true)
 (aj:x.kind=11\/x.kind=12\/x.kind=13) (aB:x.wh<=255) (hw:hY d x.c) (hT:gG F d w0 b x.c) (h:Bj F w0 w lp jmp v l dep cells) (I:l.length+iS jmp d x<=4900) (hd:d<=1000) (ak:dep<=1000):
 Calls prog 92 #[Pq lp,.agg #[Iq x.kind,a1,a2,a3,a4,a5,a6,a7,Iq x.wh,Pq b]] w λe w'=>e= .returned (.tuple #[])/\dH w w' lp jmp v (l++iE jmp d x l.length) (max dep (iD jmp d x)) (if x.kind=11 then x.wh+1 else cells):=by
 obtain⟨HL,HJ⟩:=P6 jmp d;have ad:Below w.heap.size w (w.alloc (.cells #[Iq x.kind,a1,a2,a3,a4,a5,a6,a7,Iq x.wh,Pq b] 163)):=(RP _ _).alloc (RL _) _;have V:(w.alloc (.cells #[Iq x.kind,a1,a2,a3,a4,a5,a6,a7,Iq x.wh,Pq b] 163)).heap[w.heap.size]?=some (.cells #[Iq x.kind,a1,a2,a3,a4,a5,a6,a7,Iq x.wh,Pq b] 163 (0,0)):=RO w _;have R:=(xT.start h).below ad;generalize ae:w.alloc (.cells #[Iq x.kind,a1,a2,a3,a4,a5,a6,a7,Iq x.wh,Pq b] 163)=wA at*;have c0:=RM wA _ 0 _ _ _ V;have c9:=RM wA _ 9 _ _ _ V;have HW:=Hi ae;have am:=Hi V;have ab:=Hi R
 by_cases D:x.kind=11
 ·have W1:=HL (bn:=0) hw hT R.ly (by unfold iS at I;rw[RK D] at I;omega) (by omega) ak
  have lA:=jI jmp d none x.c l.length;have HE:Hid (iE jmp d x l.length=gE jmp d none x.c l.length++[⟨5,x.wh,0⟩]/\iD jmp d x=gn jmp d none x.c 0):=⟨by unfold iE;rw[RK D],by unfold iD;rw[RK D]⟩
  have av:l.length+cX jmp d none x.c<=4900:=by unfold iS at I;rw[RK D] at I;omega
  rw[HE.out.1,HE.out.2,RK D];have au:((x.kind:Int)==11)=true:=by simp;omega
  clear HE h V R ae ad HL HJ hw hT I D aj;go_enter func92,ntmps92;go_wp2_with fail;rw[HW.out];apply W1.mono;rintro e J ⟨rfl,z⟩;obtain⟨v1,R,_,z1⟩:=ab.out.next z;have E:=dH.keep ab.out.ly.at_ z am.out (by decide) (by decide)
  have c8:=RM J _ 8 _ _ _ E;have W2:=jR 5 x.wh R.ly.at_ (by rw[RT,lA];omega)
  have Y:=Hi R;have aa:=Hi E;clear W1 z R E c0 c9 lA;generalize (l++gE jmp d none x.c l.length).length=ix at*;go_wp2_with fail;apply W2.mono;rintro e O ⟨rfl,G⟩;obtain⟨v2,Z,_,z2⟩:=Y.out.next G;have U:=dH.keep Y.out.ly.at_ G aa.out (by decide) (by decide)
  have d8:=RM O _ 8 _ _ _ U;have p3:=RM O lp 3 _ _ _ Z.ly.at_.blk;have pf:O.frozen? ⟨lp,3,none⟩=false:=by simp[World.frozen?,Z.ly.at_.blk]
  have af:=Hi Z;clear W2 G Z U c8;go_wp2;refine RU (v:= .tuple #[]) (by simp[results,results92,go_sem]) rfl ?_
  refine⟨rfl,?_⟩;have hf:=dH.cells af.out.out (x.wh+1);rw[Sk] at hf;exact hf
 ·have W1:=HJ (this:=false) (bn:=0) hw hT R.ly (by unfold iS at I;rw[RH D] at I;omega) (by omega) ak
  have lA:=jI jmp d (some false) x.c l.length;have HE:Hid (iE jmp d x l.length=(fP jmp d (some false) x.c ⟨[],[]⟩ l.length (l.length+cX jmp d (some false) x.c+1)).map er++[⟨ga x.kind,x.wh,0⟩]/\iD jmp d x=gn jmp d (some false) x.c 0):=⟨by unfold iE;rw[RH D],by unfold iD;rw[RH D]⟩
  have av:l.length+cX jmp d (some false) x.c+1<=4900:=by unfold iS at I;rw[RH D] at I;omega
  have an:= @A3 jmp d x.c false l.length;have aC:= @oX jmp d x.c false l.length;have HS:=Hi (AY (jmp:=jmp) d (t:=x.c) (k:=⟨[],[]⟩) (this:=false) (pre:=l) (post:=[⟨ga x.kind,x.wh,0⟩]) (p:=l.length) (l.length+cX jmp d (some false) x.c+1) hw rfl);rw[HE.out.1,HE.out.2,RH D];have au:((x.kind:Int)==11)=false:=by simp;omega
  have ao:x.kind=12\/x.kind=13:=by omega
  have W3:=λW=>Dk x.kind ao W
  have aw:=Hi an;clear HE h V R ae ad HL HJ hw hT I D aj an ao;generalize ap:ga x.kind=vo at*;clear ap;go_enter func92,ntmps92;go_wp2_with fail;rw[HW.out];apply W1.mono;rintro e J ⟨jv,rfl,ag,_,z⟩;obtain⟨v1,R,_,z1⟩:=ab.out.next z;have E:=dH.keep ab.out.ly.at_ z am.out (by decide) (by decide)
  have e0:=RM J _ 0 _ _ _ E;have e8:=RM J _ 8 _ _ _ E;have ah:=R.below ((RP _ _).drew);have W2:=jR vo x.wh ah.ly.at_ (by rw[RT,lA];omega)
  have Y:=Hi ah;have aa:Hid (J.drew.heap[w.heap.size]?=_):=E;have ax:=Hi (Dv ag ((RP _ J).drew));have aq:(l++gE jmp d (some false) x.c l.length++[(⟨vo,x.wh,0⟩:L3)]).length=l.length+cX jmp d (some false) x.c+1:=by simp only[RT,lA,R7,Sx]
  have ai:=Hi aq;have KP:Hid (∀O,dH J.drew O lp jmp v1 (l++gE jmp d (some false) x.c l.length++[⟨vo,x.wh,0⟩]) (max dep (gn jmp d (some false) x.c 0)) cells->Cq O w.heap.size 0 (Iq x.kind)/\Cq O w.heap.size 8 (Iq x.wh)):=λO ho=>by
   have U:=dH.keep Y.out.ly.at_ ho aa.out (by decide) (by decide)
   exact⟨RM O _ 0 _ _ _ U,RM O _ 8 _ _ _ U⟩
  have ay:Cq J w.heap.size 0 (Iq x.kind)/\Cq J w.heap.size 8 (Iq x.wh):=⟨e0,e8⟩;clear W1 z R E c0 c9 lA ag ah aq;generalize (l++gE jmp d (some false) x.c l.length).length=ix at*;go_wp2
  go_region_held3 (λW=>Cq W w.heap.size 0 (Iq x.kind)/\Cq W w.heap.size 8 (Iq x.wh)) (first|assumption|exact ay|exact KP.out _ (by assumption)|go_keep)
   (first
    |(go_at_call 135;refine(W3 _).mono ?_;rintro e w' ⟨rfl,ar⟩;have az:=ar.symm;clear ar;subst az)
    |(go_at_call 93;refine W2.mono ?_;rintro e O ⟨rfl,G⟩))
  all_goals
   obtain⟨v2,Z,k2,z2⟩:=Y.out.next G;have W4:=jA (jv:=jv) (js:=og jmp d false x.c l.length) Z.ly.at_ (by rw[ai.out];omega) (by omega) (k2 ax.out) (λj hj=>by have:=aw.out j hj;rw[ai.out];omega)
   rw[ai.out] at W4;have af:=Hi Z;clear Z k2 G W2;go_wp2_with fail;apply W4.mono;rintro e w3 ⟨rfl,ac⟩;obtain⟨v3,h3,_,z3⟩:=af.out.next ac;have aA:=Hi h3;clear W4 ac h3;go_wp2
   go_end0
   refine⟨rfl,?_⟩;have hf:=aA.out.out;have ea:l++gE jmp d (some false) x.c l.length++[(⟨vo,x.wh,0⟩:L3)]=l++((fP jmp d (some false) x.c ⟨[],[]⟩ l.length 0).map er++[⟨vo,x.wh,0⟩]):=by
    show l++(fP jmp d (some false) x.c ⟨[],[]⟩ l.length 0).map er++_=_
    simp
   rw[ea,HS.out] at hf;exact hf
def P7 (d:Nat):Prop:= ∀{t:Tr} {w:World} {b:Nat},hY d t->ph d w b t->Calls prog 254 #[Pq b] w λe w'=>e= .returned (.bool (fT d t))/\Below w.heap.size w w'
theorem Oz (H:P7 d) {ks:List Tr} (hu:oR w u ks.length U) (hk:∀j,j<ks.length->hY d (ks.getD j fL)/\ph d w (U j) (ks.getD j fL)) (hl:ks.length<=3):
 Calls prog 280 #[u,.func (.func 254) #[] #[]] w λe w'=>(∃r,e= .returned (Iq r)/\decide (0<=r)=ks.any (fT d))/\Bl w w':=by
 obtain⟨a,cap,rfl,hc⟩:=hu;have HC:=Hi hc;have HK:=Hi hk;have H0:Hid (Bl w w):=RP _ _;go_enter func280,ntmps280;go_wp2;go_loopw [8] (λV wr=> ∃k,k<=ks.length/\V= Iq k/\Hid (Bl w wr/\(ks.take k).any (fT d)=false)) (λV _=>ks.length - (intOf V).toNat)
 case atStart=>exact⟨0,R0 _,rfl,H0.out,rfl⟩
 case round=>
  obtain⟨k,aa,rfl,I⟩:=hrel;by_cases z:k<ks.length
  ·obtain⟨O,E⟩:=I.out;obtain⟨g,rfl,c⟩:=HC.out k z;have ab:(0:Int)<=(k:Int)/\(k:Int)<(ks.length:Int):=by omega
   have c':wr.cell? ⟨g,k,none⟩=some (Pq (U k)):=by rw[O.cell (p:=⟨g,k,none⟩) (RN w _ c)];exact c
   obtain⟨h1,h2⟩:=HK.out k z;have R:=H h1 (h2.below O);have HS:Hid ((ks.take (k+1)).any (fT d)=fT d (ks.getD k fL)):=by
    show _=_;rw[TG,RI z,List.any_append,E,RG,RI z];simp
   have HA:Hid (fT d (ks.getD k fL)=true->ks.any (fT d)=true):=λhh=>by
    rw[U9];exact⟨ks.getD k fL,by rw[RG,RI z];exact R4 _,hh⟩
   have G:=Hi O;generalize fT d (ks.getD k fL)=hg at*;cases hg with
   |true=>
    have Y:=Hi (HA.out rfl);go_wp2_with fail;apply R.mono;rintro e Z ⟨rfl,D⟩;have J:Hid (Bl w Z):=G.out.trans (D.mono G.out.size);go_wp2;go_ret;exact⟨⟨k,rfl,by rw[Y.out];exact Sr (by omega)⟩,J.out⟩
   |false=>
    go_wp2_with fail;apply R.mono;rintro e Z ⟨rfl,D⟩;have J:Hid (Bl w Z):=G.out.trans (D.mono G.out.size);go_wp2;go_roundw
    case rel=>exact⟨k+1,by omega,by go_num,J.out,HS.out⟩
    case measure=>simp[intOf];omega
  obtain rfl:k=ks.length:=by omega
  have G:=Hi I.out.1;have E:=I.out.2;rw[Sz (RL _)] at E;have HN:=Hi E;go_wp2;go_ret;exact⟨⟨-1,rfl,by rw[HN.out];decide⟩,G.out⟩
theorem FM (H:P7 d) {ks:List Tr} (D:oR w u ks.length z) (E:∀j,j<ks.length->hY d (ks.getD j fL)/\ph d w (z j) (ks.getD j fL)) (O:ks.length<=3):
 Calls prog 270 #[u,.func (.func 254) #[] #[]] w λe w'=>e= .returned (.bool (ks.any (fT d)))/\Bl w w':=by
 have G:=Oz H D E O;clear D E;go_enter func270,ntmps270;go_wp2_with fail;apply G.mono;rintro e V ⟨⟨r,rfl,I⟩,J⟩;have R:=Hi J;have U:=Hi I;clear G J I;go_wp2;go_ret;exact⟨by show Ending.returned (.bool (decide (0<=r)))=_;rw[U.out],R.out⟩
theorem MQ (d:Nat):P7 d:=by
 induction d with
 |zero=>intro t w b h;exact h.elim
 |succ d ih=>
  intro t w b U hT;obtain⟨pl,nm,u,bl,J,Z,HK⟩:=hT;have V:t.k<=100:=by
   rcases U.1 with⟨O,_⟩|⟨O,_⟩|⟨O,_⟩|⟨O,_⟩
   ·unfold dy at O;omega
   ·omega
   ·omega
   unfold fh at O;omega
  have ab:t.kids.length<=3:=by
   rcases U.1 with⟨_,D,_⟩|⟨_,_,D⟩|⟨_,_,_,_,D⟩|⟨_,_,_,D⟩<;>rw[D]<;>simp
  have I:=λw=>rV t.k w V
  have Y:=λ(w':World) (hb:Below w.heap.size w w')=>FM ih (Z.below hb) (λj hj=>⟨lM U hj,(HK j hj).below hb⟩) ab
  have c0:=J.c0;have c4:=J.c4;have HE:Hid (fT (d+1) t=(decide (27<=t.k/\t.k<=35)||decide (t.k=2)||t.kids.any (fT d))):=rfl;rw[HE.out];have R:=RP w.heap.size w;generalize t.kids.any (fT d)=an at*;by_cases E:27<=t.k/\t.k<=35
  ·rw[Sr E] at I⊢;simp only[Vb];generalize (if 27<=t.k/\t.k<=35 then t.k - 27 else 0)=fi at*;generalize t.k=k at*;go_enter func254,ntmps254;go_wp2_with (go_at_call 171;refine(I _).mono ?_;rintro e w' ⟨rfl,z⟩;have G:=z.symm;clear z;subst G);go_ret;exact⟨rfl,R⟩
  rw[Sc E] at I⊢;simp only[Vk];generalize (if 27<=t.k/\t.k<=35 then t.k - 27 else 0)=fi at*;by_cases D:t.k=2
  ·rw[Sr D];simp only[Vb];rw[D] at I c0;go_enter func254,ntmps254;go_wp2_with (go_at_call 171;refine(I _).mono ?_;rintro e w' ⟨rfl,z⟩;have G:=z.symm;clear z;subst G);go_ret;exact⟨rfl,R⟩
  rw[Sc D];simp only[Vk];have i2:((t.k:Int)==2)=false:=by simp;omega
  have W3:=Y w R;generalize t.k=k at*;go_enter func254,ntmps254;go_wp2_with (go_at_call 171;refine(I _).mono ?_;rintro e w' ⟨rfl,z⟩;have G:=z.symm;clear z;subst G);apply W3.mono;rintro e w2 ⟨rfl,aa⟩;have HB:=Hi aa;go_wp2;go_ret;exact⟨rfl,HB.out⟩
theorem MR {lt}:∀{t},hY d t->fT d t=false->cP lt d t=cP lt' d t:=by
 induction d with
 |zero=>intro t h;exact h.elim
 |succ d ih=>
  intro t Y D;rw[fT] at D;simp only[UH,Uw] at D;obtain⟨⟨h1,E⟩,h3⟩:=D;have Z:t.kids.map (cP lt d)=t.kids.map (cP lt' d):=Sh λc G=>ih (Y.2 c G) (by
   cases e:fT d c with
   |false=>rfl
   |true=>rw[U9.2 ⟨c,G,e⟩] at h3;cases h3)
  have I:ee lt t=ee lt' t:=by unfold ee;rw[RH E,RH E]
  simp only[cP];rw[Z,I]
theorem J3 {lt} (G:hY d t) (I:ph d w b t) (Y:cP lt d t≠0):
 Calls prog 228 #[Pq b] w λe w'=>(e= .returned (if fT d t=true then .tuple #[Iq 0,.bool false] else .tuple #[Iq (eP [] jF d t),.bool true]))/\Bl w w':=by
 have E:=MQ d G I;cases J:fT d t with
 |true=>
  rw[J] at E;rw[RK rfl];go_enter func228,ntmps228;go_wp2_with fail;apply E.mono;rintro e z ⟨rfl,D⟩;have O:=Hi D;go_wp2;go_ret2;exact⟨rfl,O.out⟩
 |false=>
  rw[J] at E;rw[RH (by decide)]
  have V:cP [] d t≠0:=by rw[MR G J];exact Y
  have HT:=Hi I;have HW:=Hi G;have Z:Hid (∀z,Bl w z->Calls prog 78 #[Pq z.heap.size,Pq b] (z.alloc (.cells #[Iq 0,Iq 0,Iq 0,Iq 0,Iq 0,Iq 0,Iq 0,Iq 0,Iq 0,.slice none 0 0] 181)) λe w'=>e= .returned (Iq (eP [] jF d t))/\Below (z.alloc (.cells #[Iq 0,Iq 0,Iq 0,Iq 0,Iq 0,Iq 0,Iq 0,Iq 0,Iq 0,.slice none 0 0] 181)).heap.size (z.alloc (.cells #[Iq 0,Iq 0,Iq 0,Iq 0,Iq 0,Iq 0,Iq 0,Iq 0,Iq 0,.slice none 0 0] 181)) w'):=λz D=>by
   have R:=RO z (.cells #[Iq 0,Iq 0,Iq 0,Iq 0,Iq 0,Iq 0,Iq 0,Iq 0,Iq 0,.slice none 0 0] 181);have aa:Bl z (z.alloc (.cells #[Iq 0,Iq 0,Iq 0,Iq 0,Iq 0,Iq 0,Iq 0,Iq 0,Iq 0,.slice none 0 0] 181)):=(RP _ _).alloc (RL _) _;refine I5 (λi hi=>by simp at hi) lV (by simp) (by simp) ((HT.out.below D).below aa) HW.out V ⟨λi hi=>?_,RM _ _ 9 _ _ _ R⟩ (λj hj=>by simp at hj)
   rw[RM _ _ i _ _ _ R];have e9:i=0\/i=1\/i=2\/i=3\/i=4\/i=5\/i=6\/i=7\/i=8:=by omega
   rcases e9 with rfl|rfl|rfl|rfl|rfl|rfl|rfl|rfl|rfl<;>rfl
  generalize eP [] jF d t=ev at*;go_enter func228,ntmps228;go_wp2_with fail;apply E.mono;rintro e z ⟨rfl,D⟩;have W2:=Z.out z D;have O:=Hi D;go_wp2_with fail;apply W2.mono;rintro e w2 ⟨rfl,U⟩;have ab:Hid (Bl w w2):=O.out.trans ((((RP _ _).alloc (RL _) _).trans (U.mono (by simp))).mono O.out.size)
  go_wp2;go_ret2;exact⟨rfl,ab.out⟩
theorem qd (h:gG F d w b t):Cq w b 0 (Iq t.k):=by
 cases d with
 |zero=>exact h.elim
 |succ d=>obtain⟨_,_,_,_,_,q,_⟩:=h;exact q.c0
def iV (n:Int) (k:Nat):Bool:=bits .and .i64 n k !=0
def cQ (n:Int):mY:=⟨iV n 1,iV n 2,iV n 4,iV n 8⟩
theorem qe (k:Nat) (z:Cq w q 0 (Iq n)):Calls prog 130 #[Pq q,Iq k] w λe w'=>e= .returned (.bool (iV n k))/\w'=w:=by
 go_enter func130,ntmps130;go_wp2;go_ret;exact⟨rfl,rfl⟩
theorem uz (R:gG F (d+1) w b t) (U:t.kids.length=n) (Y:0<n):∃(g cap:Nat) (q:Nat->Nat),w.cell? ⟨b,0,none⟩=some (Iq t.k)/\w.cell? ⟨b,4,none⟩=some (Sq g n cap)/\(∀j,j<n->w.cell? ⟨g,j,none⟩=some (Pq (q j)))/\(∀j,j<n->w.cell? ⟨q j,0,none⟩=some (Iq (t.kid j).k))/\ ∀j,j<n->gG F d w (q j) (t.kid j):=by
 obtain⟨pl,nm,u,q,V,z,E,G⟩:=R;obtain⟨a,cap,rfl,I⟩:=E;obtain⟨g,rfl,_,Z⟩:=I 0 (by omega)
 refine⟨g,cap,q,z.c0,by rw[z.c4,U],λj J=>?_,λj J=>qd (G j (by omega)),λj J=>G j (by omega)⟩
 obtain⟨g',e,_,c⟩:=I j (by omega)
 simp only[R6,Tx,Uj] at e;rw[e];exact c
theorem uY (s i:Nat) (z:t.kids.length=2) (A:gG F (d+1) w b t):
 Calls prog 229 #[Pq b,Iq s,Iq i] w λe w'=>(∃I,e= .returned (Pq I)/\gG F (d+1) w' I (jL t s i))/\Bl w w':=by
 have HT:Hid (gG F (d+1) w b t):=A;obtain⟨g,cap,q,_,c4,D,E,G⟩:=uz A z (by decide)
 have q0:=D 0 (by decide)
 have q1:=D 1 (by decide)
 have k0:=E 0 (by decide)
 have k1:=E 1 (by decide)
 have J:Hid (gG F (d+1) w (q 0) (t.kid 0)):=(G 0 (by decide)).up (e:=d+1) (by omega)
 have O:Hid (gG F (d+1) w (q 1) (t.kid 1)):=(G 1 (by decide)).up (e:=d+1) (by omega)
 have R:Below w.heap.size w w.drew:=(RP _ _).drew;have U:=Hi R;have V:jL t s i=if(((t.kid 0).k:Int)==(s:Int))=true\/(((t.kid 1).k:Int)==(i:Int))=true then t.kid 0 else if(((t.kid 1).k:Int)==(s:Int))=true\/(((t.kid 0).k:Int)==(i:Int))=true then t.kid 1 else t:=by simp[jL,Int.ofNat_inj]
 rw[V];have Y:Cq w b 4 (Sq g 2 cap)/\Cq w g 0 (Pq (q 0))/\Cq w g 1 (Pq (q 1)):=⟨c4,q0,q1⟩;clear V A D E G R z;generalize (t.kid 0).k=Z at*;generalize (t.kid 1).k=kb at*;cases i1:((Z:Int)==(s:Int));cases i2:((kb:Int)==(i:Int));cases i3:((kb:Int)==(s:Int));cases i4:((Z:Int)==(i:Int))
 all_goals
  simp only[Uc,T2,or_true,true_or,Td,Ui];go_enter func229,ntmps229;go_wp2;go_region_held3 (λW=>Cq W b 4 (Sq g 2 cap)/\Cq W g 0 (Pq (q 0))/\Cq W g 1 (Pq (q 1))) (first|assumption|exact Y|go_keep) (fail)
  all_goals
   go_wp2;go_ret;exact⟨⟨_,rfl,gG.below (by first|exact J.out|exact O.out|exact HT.out) U.out⟩,U.out⟩
theorem J4 (I:hY (d+1) t) (G:gG F (d+1) w b t):
 Calls prog 176 #[Pq b] w λe w'=>(∃b',e= .returned (Pq b')/\gG F (d+1) w' b' (iU t))/\Bl w w':=by
 have HT:Hid (gG F (d+1) w b t):=G;have kk:=qd G;have V:Bl w w:=RP _ _;by_cases A:t.k=19
 ·have J:t.kids.length=1:=by
   rcases I.1 with⟨q,_⟩|⟨_,_,h4⟩|⟨q,_⟩|⟨q,_⟩
   ·unfold dy at q;omega
   ·rw[h4];rfl
   ·omega
   unfold fh at q;omega
  obtain⟨g,cap,bl,_,c4,hq,hk,HK⟩:=uz G J (by decide)
  have q0:=hq 0 (by decide)
  have k0:=hk 0 (by decide)
  have Y:=HK 0 (by decide)
  have U:=lM I (j:=0) (by omega)
  have D:Hid (iU t=if(t.kid 0).k=19 then(t.kid 0).kid 0 else t):=by show iU t=_;unfold iU;rw[RK A]
  rw[D.out];rw[A] at kk;clear D hq hk HK J I G A;by_cases z:(t.kid 0).k=19
  ·rw[RK z];rw[z] at k0;cases d with
   |zero=>exact U.elim
   |succ d=>
    have J:(t.kid 0).kids.length=1:=by
     rcases U.1 with⟨q,_⟩|⟨_,_,h4⟩|⟨q,_⟩|⟨q,_⟩
     ·unfold dy at q;omega
     ·rw[h4];rfl
     ·omega
     unfold fh at q;omega
    obtain⟨g2,ae,af,_,e4,aa,_,ab⟩:=uz Y J (by decide)
    have q2:=aa 0 (by decide)
    have HF:=Hi ((ab 0 (by decide)).up (e:=d+1+1) (by omega))
    clear Y ab aa J U z;go_enter func176,ntmps176;go_wp2;go_ret;exact⟨⟨_,rfl,HF.out⟩,V⟩
  rw[RH z];have i2:(((t.kid 0).k)==19)=false:=by simp;omega
  clear Y U z;generalize (t.kid 0).k=k2 at*;go_enter func176,ntmps176;go_wp2;go_ret;exact⟨⟨_,rfl,HT.out⟩,V⟩
 have ac:(t.k==19)=false:=by simp;omega
 by_cases E:t.k=18
 ·have O:t.kids.length=2:=by
   rcases I.1 with⟨q,_⟩|⟨q,_⟩|⟨q,_⟩|⟨_,_,_,z⟩
   ·unfold dy at q;omega
   ·omega
   ·omega
   rw[z];rfl
  have Z:=uY 21 20 O G;have D:Hid (iU t=jL t 21 20):=by show iU t=_;unfold iU;rw[RH A,RK E]
  rw[D.out];rw[E] at kk ac;clear D I G A E O;go_enter func176,ntmps176;go_wp2_with fail;apply Z.mono;rintro e w1 ⟨⟨b',rfl,q⟩,z⟩;have H1:=Hi (And.intro q z);clear Z q z;go_wp2;go_ret;exact⟨⟨_,rfl,H1.out.1⟩,H1.out.2⟩
 have ad:(t.k==18)=false:=by simp;omega
 by_cases R:t.k=17
 ·have O:t.kids.length=2:=by
   rcases I.1 with⟨q,_⟩|⟨q,_⟩|⟨q,_⟩|⟨_,_,_,z⟩
   ·unfold dy at q;omega
   ·omega
   ·omega
   rw[z];rfl
  have Z:=uY 20 21 O G;have D:Hid (iU t=jL t 20 21):=by show iU t=_;unfold iU;rw[RH A,RH E,RK R]
  rw[D.out];rw[R] at kk ac ad;clear D I G A E R O;go_enter func176,ntmps176;go_wp2_with fail;apply Z.mono;rintro e w1 ⟨⟨b',rfl,q⟩,z⟩;have H1:=Hi (And.intro q z);clear Z q z;go_wp2;go_ret;exact⟨⟨_,rfl,H1.out.1⟩,H1.out.2⟩
 have ag:(t.k==17)=false:=by simp;omega
 have D:Hid (iU t=t):=by show iU t=_;unfold iU;rw[RH A,RH E,RH R]
 rw[D.out];clear D I G A E R;generalize t.k=k at*;go_enter func176,ntmps176;go_wp2;go_ret;exact⟨⟨_,rfl,HT.out⟩,V⟩
theorem FN (O:hY (d+1) t) (hk:t.k=14) (R:gG F (d+1) w b t):
 Calls prog 227 #[Pq b] w λe w'=>(∃U,e= .returned (Pq U)/\gG F (d+1) w U (qx t))/\w'=w:=by
 have E:t.kids.length=3:=by
  rcases O.1 with⟨A,_⟩|⟨A,_⟩|⟨_,_,_,_,h2⟩|⟨A,_⟩
  ·unfold dy at A;omega
  ·omega
  ·rw[h2];rfl
  unfold fh at A;omega
 have HT:=Hi R;obtain⟨pl,nm,u,bl,ac,G,V,D⟩:=R;obtain⟨a,cap,rfl,I⟩:=V;obtain⟨g,rfl,_,q0⟩:=I 0 (by omega)
 have J:∀j,j<3->Cq w g j (Pq (bl j)):=λj hj=>by
  obtain⟨g',e,_,c⟩:=I j (by omega)
  simp only[R6,Tx,Uj] at e;rw[e];exact c
 have c4:=G.c4;rw[E] at c4;have Y:=qd (D 0 (by omega))
 have Z:=Hi ((D 1 (by omega)).up (e:=d+1) (by omega))
 have aa:=Hi ((D 2 (by omega)).up (e:=d+1) (by omega))
 have HE:Hid (qx t=if(t.kid 0).k=20 then t.kid 1 else if(t.kid 0).k=21 then t.kid 2 else t):=rfl;rw[HE.out];by_cases q:(t.kid 0).k=20
 ·rw[RK q];rw[q] at Y;go_enter func227,ntmps227;go_wp2;go_ret;exact⟨⟨_,rfl,Z.out⟩,rfl⟩
 rw[RH q];have ab:(((t.kid 0).k)==20)=false:=by simp;omega
 by_cases z:(t.kid 0).k=21
 ·rw[RK z];rw[z] at Y;go_enter func227,ntmps227;go_wp2;go_ret;exact⟨⟨_,rfl,aa.out⟩,rfl⟩
 rw[RH z];have ad:(((t.kid 0).k)==21)=false:=by simp;omega
 generalize (t.kid 0).k=kk at*;go_enter func227,ntmps227;go_wp2;go_ret;exact⟨⟨_,rfl,HT.out⟩,rfl⟩
structure tF (F) (w:World) (rp) (n) (lv) (bl) (D) (lets:List Tr):Prop where
 c0:w.cell? ⟨rp,0,none⟩=some (Iq n)
 c1:w.cell? ⟨rp,1,none⟩=some lv
 un:AZ (λ_=>False) w lv lets.length bl
 tr:∀j,j<lets.length->gG F D w (bl j) (lets.getD j fL)
theorem tF.below {F w w' z n lv G D lets} (h:tF F w z n lv G D lets) (E:Bl w w'):tF F w' z n lv G D lets:=
 ⟨by rw[E.cell (RN w _ h.c0)];exact h.c0,by rw[E.cell (RN w _ h.c1)];exact h.c1,h.un.below E,λj I=>(h.tr j I).below E⟩
theorem MT (h:gG F d w b t) (D:t.kids=[]):gG F (e+1) w b t:=by
 cases d with
 |zero=>exact h.elim
 |succ d=>
  obtain⟨pl,nm,u,E,G,I,J,_⟩:=h;exact⟨pl,nm,u,E,G,I,J,λj z=>by rw[D] at z;simp at z⟩
theorem uA (h:gG F d w b t):∃a cap,Cq w b 4 (.slice a t.kids.length cap):=by
 cases d with
 |zero=>exact h.elim
 |succ d=>
  obtain⟨pl,nm,u,D,_,z,⟨a,cap,rfl,_⟩,_⟩:=h;exact⟨a,cap,z.c4⟩
theorem FO (Y:tF F w O n lv E D lets) (hT:gG F (d+1) w b t) (h2:t.k=2->0<=t.l/\t.l.toNat<lets.length) (ag:lets.length<=1000):
 Calls prog 174 #[Pq O,Pq b] w λe w'=>(∃b',e= .returned (Pq b')/\gG F (d+1) w' b' (oJ lets t))/\Bl w w':=by
 have HT:Hid (gG F (d+1) w b t):=hT;have kk:=qd hT;have HD:Hid (Bl w w.drew):=(RP _ _).drew;have aa:Hid (Bl w w.drew.drew):=(RP _ _).drew.drew;have HE:Hid (oJ lets t=if t.k=2/\(lets.getD t.l.toNat fL).kids=[] then lets.getD t.l.toNat fL else t):=rfl;rw[HE.out];by_cases I:t.k=2
 ·obtain⟨ae,ab⟩:=h2 I;obtain⟨_,_,_,_,_,ac,_,_⟩:=hT;have c5:=ac.c5;have e:t.l=t.l.toNat:=by omega
  have c1:=Y.c1;obtain⟨a,cap,ad,hq⟩:=Y.un;obtain⟨g,rfl,_,q⟩:=hq t.l.toNat ab;rw[ad] at c1;have Z:=Y.tr t.l.toNat ab;obtain⟨a2,G,u2⟩:=uA Z;have HL:Hid (∀e,(lets.getD t.l.toNat fL).kids=[]->gG F (e+1) w (E t.l.toNat) (lets.getD t.l.toNat fL)):=λe I=>MT Z I
  generalize lets.getD t.l.toNat fL=R at*;generalize t.l.toNat=z at*;rw[I] at kk;rw[e] at c5;have ah:0<=z/\z<lets.length:=by omega
  have J:Cq w b 0 (Iq 2)/\Cq w O 1 (Sq g lets.length cap)/\Cq w b 5 (Iq z)/\Cq w g z (Pq (E z))/\Cq w (E z) 4 (.slice a2 R.kids.length G):=⟨kk,c1,c5,q,u2⟩;have V:=J;by_cases U:R.kids=[]
  ·rw[RK ⟨I,U⟩];have af:=Hi (HL.out d U);have hz:R.kids.length=0:=by rw[U];rfl
   rw[hz] at J V;go_enter func174,ntmps174;go_wp2;go_region_held3 (λW=>Cq W b 0 (Iq 2)/\Cq W O 1 (Sq g lets.length cap)/\Cq W b 5 (Iq z)/\Cq W g z (Pq (E z))/\Cq W (E z) 4 (.slice a2 0 G)) (first|assumption|exact J|exact V|go_keep) (fail)
   all_goals
    go_wp2;go_region_held3 (λW=>Cq W b 0 (Iq 2)/\Cq W O 1 (Sq g lets.length cap)/\Cq W b 5 (Iq z)/\Cq W g z (Pq (E z))/\Cq W (E z) 4 (.slice a2 0 G)) (first|assumption|exact J|exact V|go_keep) (fail)
    all_goals
     go_wp2;go_ret;exact⟨⟨_,rfl,gG.below af.out aa.out⟩,aa.out⟩
  rw[RH (λh=>U h.2)]
  have i0:(R.kids.length==0)=false:=by
   have:R.kids.length≠0:=λe=>U (SI e)
   simp;omega
  generalize R.kids.length=tn at*;go_enter func174,ntmps174;go_wp2;go_region_held3 (λW=>Cq W b 0 (Iq 2)/\Cq W O 1 (Sq g lets.length cap)/\Cq W b 5 (Iq (z:Nat))/\Cq W g z (Pq (E z))/\Cq W (E z) 4 (.slice a2 tn G)) (first|assumption|exact J|exact V|go_keep) (fail)
  all_goals
   go_wp2;go_ret;exact⟨⟨_,rfl,gG.below HT.out HD.out⟩,HD.out⟩
 rw[RH (λh=>I h.1)]
 have i2:((t.k:Int)==2)=false:=by simp;omega
 generalize t.k=k at*;go_enter func174,ntmps174;go_wp2;go_region
 all_goals
  go_wp2;go_ret;exact⟨⟨_,rfl,gG.below HT.out HD.out⟩,HD.out⟩
theorem tG (w:World) (I: ¬F w.heap.size) (k:Nat) (n):gG F (e+1) (w.alloc (.cells #[Iq k,Iq 0,Iq n,.string ⟨#[]⟩,.slice none 0 0,Iq 0] 229)) w.heap.size ⟨k,n,0,[]⟩:=by
 have J:=RO w (.cells #[Iq k,Iq 0,Iq n,.string ⟨#[]⟩,.slice none 0 0,Iq 0] 229);have z:=λj=>RM _ _ j _ _ _ J
 exact⟨0,[],.slice none 0 0,λ_=>0,I,⟨z 0,z 1,z 2,z 3,z 4,z 5⟩,⟨none,0,rfl,λj D=>by simp at D⟩,λj D=>by simp at D⟩
theorem MU {lt} (hF:∀g,F g->g<w.heap.size) (hw:hY (d+1) t) (R:gG F (d+1) w b t) (V:cP lt (d+1) t≠0):
 Calls prog 175 #[Pq b] w λe w'=>(∃b',e= .returned (Pq b')/\gG F (d+1) w' b' (mN (d+1) t))/\Bl w w':=by
 have HT:Hid (gG F (d+1) w b t):=R;have I:=qd R;have ac:Bl w w:=RP _ _;by_cases J:t.k=14
 ·have G:=FN hw J R;have Y:Hid (mN (d+1) t=qx t):=by show mN (d+1) t=_;unfold mN;rw[RK J]
  rw[Y.out];rw[J] at I;go_enter func175,ntmps175;go_wp2_with fail;apply G.mono;rintro e E ⟨⟨b',rfl,U⟩,h2⟩;have h3:=h2.symm;subst h3;have H1:=Hi U;go_wp2_with fail;go_ret;exact⟨⟨_,rfl,H1.out⟩,ac⟩
 have ad:((t.k:Int)==14)=false:=by simp;omega
 have G:=J3 hw R.tr V;obtain⟨a,cap,c4⟩:=uA R;have Y:Hid (mN (d+1) t=if fT (d+1) t=true\/t.kids=[] then t else if t.k=6\/t.k=7 then⟨1,eP [] jF (d+1) t,0,[]⟩ else if eP [] jF (d+1) t=1 then⟨20,0,0,[]⟩ else⟨21,0,0,[]⟩):=by show mN (d+1) t=_;unfold mN;rw[RH J]
 rw[Y.out];have O:(t.kids=[]↔t.kids.length=0):=⟨λe=>by rw[e];rfl,λe=>SI e⟩
 by_cases Z:fT (d+1) t=true
 ·rw[RK (Or.inl Z)];rw[RK Z] at G;generalize t.kids.length=nk at*;generalize t.k=k at*;go_enter func175,ntmps175;go_wp2_with fail;apply G.mono;rintro e E ⟨rfl,z⟩;have D:=Hi z;go_wp2_with fail;go_ret;exact⟨⟨_,rfl,gG.below HT.out D.out⟩,D.out⟩
 rw[RH Z] at G;by_cases h0:t.kids=[]
 ·rw[RK (Or.inr h0)];have hz:=O.1 h0;rw[hz] at c4;generalize eP [] jF (d+1) t=ev at*;generalize t.k=k at*;go_enter func175,ntmps175;go_wp2_with fail;apply G.mono;rintro e E ⟨rfl,z⟩;have aa:E.cell? ⟨b,4,none⟩=some (.slice a 0 cap):=by rw[z.cell (p:=⟨b,4,none⟩) (RN w _ c4)];exact c4
  have D:=Hi z;go_wp2_with fail;go_ret;exact⟨⟨_,rfl,gG.below HT.out D.out⟩,D.out⟩
 rw[RH (λh=>h.elim Z h0)]
 have i0:((t.kids.length:Int)==0)=false:=by
  have:t.kids.length≠0:=λe=>h0 (O.2 e)
  simp;omega
 generalize t.kids.length=nk at*;generalize eP [] jF (d+1) t=ev at*;generalize t.k=k at*;by_cases h6:k=6\/k=7
 ·rw[RK h6];rcases h6 with rfl|rfl
  ·go_enter func175,ntmps175;go_wp2_with fail;apply G.mono;rintro e E ⟨rfl,z⟩;have aa:E.cell? ⟨b,4,none⟩=some (.slice a nk cap):=by rw[z.cell (p:=⟨b,4,none⟩) (RN w _ c4)];exact c4
   have ab:E.cell? ⟨b,0,none⟩=some (Iq ((6:Nat):Int)):=by rw[z.cell (p:=⟨b,0,none⟩) (RN w _ I)];exact I
   have D:=Hi z;go_wp2_with fail;go_ret;exact⟨⟨_,rfl,tG E (λx=>by have:=hF _ x;have:=D.out.size;omega) 1 ev⟩,D.out.alloc D.out.size _⟩
  go_enter func175,ntmps175;go_wp2_with fail;apply G.mono;rintro e E ⟨rfl,z⟩;have aa:E.cell? ⟨b,4,none⟩=some (.slice a nk cap):=by rw[z.cell (p:=⟨b,4,none⟩) (RN w _ c4)];exact c4
  have ab:E.cell? ⟨b,0,none⟩=some (Iq ((7:Nat):Int)):=by rw[z.cell (p:=⟨b,0,none⟩) (RN w _ I)];exact I
  have D:=Hi z;go_wp2_with fail;go_ret;exact⟨⟨_,rfl,tG E (λx=>by have:=hF _ x;have:=D.out.size;omega) 1 ev⟩,D.out.alloc D.out.size _⟩
 rw[RH h6];have i6:((k:Int)==6)=false:=by simp;omega
 have i7:((k:Int)==7)=false:=by simp;omega
 by_cases U:ev=1
 ·rw[RK U];go_enter func175,ntmps175;go_wp2_with fail;apply G.mono;rintro e E ⟨rfl,z⟩;have aa:E.cell? ⟨b,4,none⟩=some (.slice a nk cap):=by rw[z.cell (p:=⟨b,4,none⟩) (RN w _ c4)];exact c4
  have ab:E.cell? ⟨b,0,none⟩=some (Iq k):=by rw[z.cell (p:=⟨b,0,none⟩) (RN w _ I)];exact I
  have D:=Hi z;go_wp2_with fail;go_ret;exact⟨⟨_,rfl,tG E (λx=>by have:=hF _ x;have:=D.out.size;omega) 20 0⟩,D.out.alloc D.out.size _⟩
 rw[RH U];have ie:(ev==1)=false:=by simpa using U
 go_enter func175,ntmps175;go_wp2_with fail;apply G.mono;rintro e E ⟨rfl,z⟩;have aa:E.cell? ⟨b,4,none⟩=some (.slice a nk cap):=by rw[z.cell (p:=⟨b,4,none⟩) (RN w _ c4)];exact c4
 have ab:E.cell? ⟨b,0,none⟩=some (Iq k):=by rw[z.cell (p:=⟨b,0,none⟩) (RN w _ I)];exact I
 have D:=Hi z;go_wp2_with fail;go_ret;exact⟨⟨_,rfl,tG E (λx=>by have:=hF _ x;have:=D.out.size;omega) 21 0⟩,D.out.alloc D.out.size _⟩
theorem rC {w:World} (h:w.ownsRow base e size v n xs):∃a cap,v= .slice a n cap:=by
 obtain⟨_,h⟩:=h;rcases h with⟨rfl,z⟩|⟨g,cap,D,rfl,_⟩
 ·exact⟨none,0,by rw[z]⟩
 exact⟨_,_,rfl⟩
theorem tF.more {F G w z n lv E D lets} (h:tF F w z n lv E D lets) (I:∀g,g<w.heap.size->G g->F g):tF G w z n lv E D lets:=
 ⟨h.c0,h.c1,h.un,λj J=>(h.tr j J).more I⟩
theorem tF.lt (h:tF F w z n lv E D lets):z<w.heap.size:=RN w _ h.c0
def OA (n:Int) (lets:List Tr) (lt:List Nat) (D d:Nat):Prop:= ∀{F:Nat->Prop} {t:Tr} {w:World} {G b:Nat} {lv:Value} {R:Nat->Nat},(∀g,F g->g<w.heap.size)->tF F w G n lv R D lets->hY d t->cP lt d t≠0->gG F d w b t->
 Calls prog 128 #[Pq G,Pq b] w λe w'=>(∃I,e= .returned (Pq I)/\gG F d w' I (kW (cQ n) lets d t))/\Below w.heap.size w w'
def vx (z:List Nat):List Value:=z.map λb=> Pq b
structure Qo (F:Nat->Prop) (n) (lets) (d) (ks:List Tr) (w wr:World) (v) (bs:List Nat) (k):Prop where
 len:bs.length=k
 row:wr.ownsRow w.heap.size 161 1 v k (vx bs)
 bel:Below w.heap.size w wr
 tr:∀j,j<k->gG (λg=>F g\/v.ownBlock=some g) d wr (bs.getD j 0) (kW (cQ n) lets d (ks.getD j fL))
theorem zP:(prog.info? 161).map (λi=>(i.zero,i.size,i.bytes))=some (some (.pointer none),1,8):=by kernel_rfl
theorem Qo.next {cap} (h:Qo F n lets d ks w wr v G k) (U:Bl wr D) (ht:gG (λg=>F g\/v.ownBlock=some g) d D I (kW (cQ n) lets d (ks.getD k fL)))
 (J:E.ownsRow w.heap.size 161 1 (Sq gg (k+1) cap) (k+1) (vx G++[Pq I])) (O:(D.alloc o).grownBy E v.ownBlock) (Z:v.ownBlock=some gg\/gg=D.heap.size+1):Qo F n lets d ks w E (Sq gg (k+1) cap) (G++[I]) (k+1):=by
 have V:=h.bel.trans (U.mono h.bel.size);have ho:=((cK.refl (λg=>v.ownBlock=some g) D).alloc _).grown O (λk hk=> .inl hk)
 have step:∀{b} {t},gG (λg=>F g\/v.ownBlock=some g) d D b t->gG (λg=>F g\/(Value.slice (some ⟨gg,0,none⟩) (k+1) cap).ownBlock=some g) d E b t:=λ{b t} z=>by
  have h1:gG (λg=>(F g\/v.ownBlock=some g)\/g=gg) d D b t:=z.more (λg hg z=>by
   rcases z with z|z
   ·exact z
   subst z;rcases Z with R|R
   ·exact .inr R
   omega)
  have R:=h1.only (ho.weak (λi _ hi=> .inl (.inr hi)))
  refine R.more (λg _ z=>?_)
  rcases z with z|z
  ·exact .inl (.inl z)
  simp[Value.ownBlock] at z;exact .inr z.symm
 refine⟨by rw[RT,h.len];rfl,?_,?_,λj hj=>?_⟩
 ·unfold vx at J⊢;rw[Sv];exact J
 ·exact V.trans (ho.below V.size (λg _ hg=>(h.row.lt g hg).1))
 by_cases Y:j<k
 ·have e:(G++[I]).getD j 0=G.getD j 0:=by
   rw[RG,Si (by rw[h.len];exact Y),<-RG]
  rw[e];exact step ((h.tr j Y).below U)
 obtain rfl:j=k:=by omega
 have e:(G++[I]).getD j 0=I:=by
  rw[RG,Sg (by rw[h.len];exact RL _),h.len];simp
 rw[e];exact step ht
theorem yB {lt} (H:OA n lets lt D d) {ks:List Tr} (hF:∀g,F g->g<w.heap.size) (hR:tF F w rp n lv bl D lets) (hu:AZ F w u ks.length kb) (hk:∀j,j<ks.length->hY d (ks.getD j fL)/\cP lt d (ks.getD j fL)≠0/\gG F d w (kb j) (ks.getD j fL)) (hl:ks.length<=3):
 Calls prog 173 #[.pointer (some ⟨rp,0,none⟩),u] w λe w'=>(∃v G,e= .returned v/\AZ F w' v ks.length G/\ ∀j,j<ks.length->gG F d w' (G j) (kW (cQ n) lets d (ks.getD j fL)))/\Bl w w':=by
 obtain⟨a,cap,rfl,hq⟩:=hu;have HQ:=Hi hq;have HK:=Hi hk;have HR:=Hi hR;have HF:=Hi hF;have H0:Hid (Qo F n lets d ks w w (.slice none 0 0) [] 0):=⟨rfl,SC _ _ _ _,RP _ _,λj Z=>by omega⟩
 obtain⟨i0,hi,hz⟩:=Su.1 zP;simp only[Sj] at hz;obtain⟨ah,ai,aj⟩:=hz;go_enter func173,ntmps173;go_wp2;go_loopw [5,10] (λvv iv wr=> ∃k I,k<=ks.length/\iv= .int .i64 k/\Hid (Qo F n lets d ks w wr vv I k)) (λ_ iv _=>ks.length - (intOf iv).toNat)
 case atStart=>exact⟨0,[],R0 _,rfl,H0.out⟩
 case round=>
  obtain⟨k,I,aq,rfl,HX⟩:=hrel;by_cases aa:k<ks.length
  ·have z:=HX.out;obtain⟨g,rfl,ak,q⟩:=HQ.out k aa;obtain⟨h1,h2,h3⟩:=HK.out k aa;have am:=RN w _ q;have q':wr.cell? ⟨g,k,none⟩=some (.pointer (some ⟨kb k,0,none⟩)):=by rw[z.bel.cell (p:=⟨g,k,none⟩) am];exact q
   have ar:0<=k/\k<ks.length:=by omega
   have Y:∀v,wr.ownsRow w.heap.size 161 1 v k (vx I)-> ∀g,g<w.heap.size->(F g\/v.ownBlock=some g)->F g:=λv hv g hg E=>by
    rcases E with E|E
    ·exact E
    have:=(hv.lt g E).1;omega
   have W1:=H (λg E=>by
    rcases E with E|E
    ·have:=HF.out g E;have:=z.bel.size;omega
    exact(z.row.lt g E).2) ((HR.out.more (Y _ z.row)).below z.bel) h1 h2 ((h3.more (Y _ z.row)).below z.bel)
   obtain⟨va,J,V⟩:=rC z.row;obtain rfl:=V;have ae:=Hi z.row;have ab:=Hi z;go_wp2_with fail;apply W1.mono;rintro e w1 ⟨⟨b',rfl,ac⟩,O⟩;have an:=Hi ac;have ao:=Hi O;have ap:Hid (w1.ownsRow w.heap.size 161 1 (.slice va k J) k (vx I)):=cH ae.out O;have au:w.heap.size<=w1.heap.size:=by have:=ab.out.bel.size;have:=O.size;omega
   go_wp2_with (at_builtin;go_must (refine wpList_append_lies _ (by rfl) _ _ 227 (by rfl) w.heap.size 161 i0 (.pointer none) 1 8 underlying227 hi ah ai aj (by rfl) (by decide) _ _ _ (by rfl) (ap.out.alloc _) ⟨w1.heap.size,0,none⟩ 1 1 [.pointer (some ⟨b',0,none⟩)] (by rfl) (by rfl) (World.news_of_block (RO w1 _)) (λx E=>by simp at E;rcases E with rfl;rfl) (by decide) (by unfold maxLen;omega) (by omega) (by simp;omega) _ rfl ?_);intro gg af w5 R U ad ag;have HN:Hid (Qo F n lets d ks w w5 (Sq gg (k+1) af) (I++[b']) (k+1)):=ab.out.next ao.out an.out R U (by rcases ad with h|h;exact .inl h;right;rw[h,RW]);clear R U ad ag)
   go_roundw
   case rel=>exact⟨k+1,_,by omega,by go_num,HN.out⟩
   case measure=>simp[intOf];omega
  obtain rfl:k=ks.length:=by omega
  have z:=HX.out;have HU:Hid (∃G,AZ F wr u5 ks.length G/\ ∀j,j<ks.length->gG F d wr (G j) (kW (cQ n) lets d (ks.getD j fL))):=by
   refine⟨λj=>I.getD j 0,?_,λj Z=>(z.tr j Z).more (λg _ E=> .inl E)⟩
   obtain⟨va,J,V⟩:=rC z.row;subst V;refine⟨va,J,rfl,λj Z=>?_⟩
   obtain⟨g,c2,V,av,_⟩:=World.ownsRow.form z.row (by omega)
   simp only[Sb,TV] at V;obtain⟨rfl,rfl⟩:=V;refine⟨g,rfl,λE=>by have:=HF.out g E;omega,?_⟩
   rw[TB z.row j (by omega)]
   unfold vx;show(I.map λb=>(Value.pointer (some ⟨b,0,none⟩)))[j]?=some (Value.pointer (some ⟨I.getD j 0,0,none⟩))
   rw[Se,RG,RI (by rw[z.len];exact Z)]
   rfl
  have HB:=Hi z.bel;go_wp2;go_ret;obtain⟨G,u1,u2⟩:=HU.out;exact⟨⟨_,G,rfl,u1,u2⟩,HB.out⟩
end Go.Proofs.YtfkdailfcmnjlaaGreatDoor
