/-
  A part.
-/
import Derived.Test.YtfkdailfcmnjlaaGreatDoorCompiles35
set_option linter.all false
set_option maxHeartbeats 40000000
set_option maxRecDepth 1000000
namespace Go.Proofs.YtfkdailfcmnjlaaGreatDoor
open Go Go.RowKit Tryz
section
attribute [local go_sem ↓] Go.wp_at_zero Go.wp_at_succ
variable {p cs ty v l w b t vs z fl s E G D I w' s' O n J pl r x A}
theorem uW:(prog.info? 112).map (λi=>(i.zero,i.size,i.bytes))=some (some (Iq 0),1,8):=by kernel_rfl
theorem JV (x) (G:w.heap[p]?=some (.cells cs ty (0,0))) (Y:cs[0]?=some v) (I:IR w 112 v l) (Z:ty≠112) (hl:l.length<=5000):
 Calls prog 238 #[Pq p,Iq x] w λe w'=>e= .returned (.tuple #[])/\ ∃U,w'.heap[p]?=some (.cells (cs.setIfInBounds 0 U) ty (0,0))/\IR w' 112 U (l++[x])/\cK (λb=>b=p\/v.ownBlock=some b) w w'/\ ∀b,U.ownBlock=some b->v.ownBlock=some b\/w.heap.size<=b:=by
 have aa:w.cell? ⟨p,0,none⟩=some v:=by rw[RM w p 0 _ _ _ G];exact Y
 have ab:w.frozen? ⟨p,0,none⟩=false:=by simp[World.frozen?,G]
 have ac:=cq G;have O:=I.ne G Z;obtain⟨a,cap,rfl⟩:=I.sl;obtain⟨i0,hi,hz⟩:=Su.1 uW;simp only[Sj] at hz;obtain⟨ad,ae,af⟩:=hz;have HP:=Hi G;have HR:=Hi I;have HN:=Hi O;go_enter func238,ntmps238
 go_wp2_with (
  at_builtin
  go_must (refine wpList_append_lies _ (by rfl) _ _ 179 (by rfl) 0 112 i0 (Iq 0) 1 8 underlying179 hi ad ae af (by rfl) (by decide) _ _ _ (by rfl) (HR.out.alloc _) ⟨w.heap.size,0,none⟩ 1 1 [Iq x] (by rfl) (by rfl) (World.news_of_block (RO w _)) (λx hx=>by simp at hx;rcases hx with rfl;rfl) (by decide) (by unfold maxLen;omega) (by omega) (by simp) _ rfl ?_)
  intro gg D V E z R aj;have J:=(z.block _ (by simp;omega) (λe=>HN.out e.symm)).trans (RV w _ _ ac)
  have e1:=(R1 (a:=⟨p,0,none⟩) J).trans aa;have e2:=(SO (a:=⟨p,0,none⟩) J).trans ab;have ag:=Hi J;have ah:=Hi E;have ai:=Hi z
  clear J E z)
 go_end0
 refine⟨rfl,Sq gg (l.length+1) D,?_,?_,?_,?_⟩
 ·rw[R3 V p 0 _ _ _ (ag.out.trans HP.out)]
 ·have h1:V.ownsRow 0 112 1 (Sq gg (l.length+1) D) (l.length+1) (l.map (Value.int .i64)++[Iq x]):=ah.out
  have h2:=Tn h1 (a:=⟨p,0,none⟩) (by
   intro e;simp[Value.ownBlock] at e;rcases R with h|h
   ·exact HN.out (by rw[h,e])
   ·rw[RW] at h;omega) (Sq gg (l.length+1) D)
  unfold IR;simpa using h2
 ·exact(((cK.refl _ w).alloc _).grown ai.out (λk hk=> .inl (.inr hk))).setCell (.inl (.inl rfl)) _
 ·intro b hb
  simp[Value.ownBlock] at hb;subst hb;rcases R with h|h
  ·exact .inl h
  ·right;rw[h,RW];omega
theorem ME (E:w.heap[p]?=some (.cells cs ty (0,0))) (I:cs[0]?=some v) (z:IR w 112 v l) (O:ty≠112) (V:l.length<=5000):
 Calls prog 239 #[Pq p] w λe w'=>e= .returned (Iq (l.getLast?.getD 0))/\ ∃G,w'.heap[p]?=some (.cells (cs.setIfInBounds 0 G) ty (0,0))/\IR w' 112 G l.dropLast/\cK (λb=>b=p) w w'/\G.ownBlock=v.ownBlock:=by
 have R:w.cell? ⟨p,0,none⟩=some v:=by rw[RM w p 0 _ _ _ E];exact I
 have aa:w.frozen? ⟨p,0,none⟩=false:=by simp[World.frozen?,E]
 have D:=z.ne E O;rcases List.eq_nil_or_concat l with rfl|⟨r,x,rfl⟩
 ·have Y:Hid (∃G,w.heap[p]?=some (.cells (cs.setIfInBounds 0 G) ty (0,0))/\IR w 112 G ([]:List Int).dropLast/\cK (λb=>b=p) w w/\G.ownBlock=v.ownBlock):=⟨v,by
   rw[E]
   congr 2
   apply Array.ext_getElem?
   intro i;rw[SP]
   split
   ·rename_i e;subst e;split
    ·exact I
    ·rename_i hh;rw[TK (by omega)]
   ·rfl,z,cK.refl _ _,rfl⟩
  obtain⟨a,cap,rfl⟩:=z.sl;simp only[Sx] at*;go_enter func239,ntmps239
  go_wp2
  go_ret;exact⟨rfl,Y.out⟩
 ·rw[List.concat_eq_append] at*
  obtain⟨g,cap,rfl,hg⟩:=z.form (by simp)
  obtain⟨_,hx⟩:=CY z;have U:(r++[x]).length=r.length+1:=by simp
  rw[U] at R z D V;have J:=z.cap;rw[U] at J;have q2:(0:Int)<=(r.length:Int)/\(r.length:Int)<=(cap:Int):=by omega
  have Z:=Hi E;have HR:=Hi z;have e2:(r++[x]).getLast?.getD 0=x:=by simp
  have e3:(r++[x]).dropLast=r:=by simp
  have ab:g≠p:=λe=>D (by rw[e];rfl)
  have q1:(0:Int)<=(r.length:Int)/\(r.length:Int)<(r.length:Int)+1:=by omega
  rw[e2,e3];go_enter func239,ntmps239
  go_wp2
  go_ret;refine⟨rfl,Sq g r.length cap,?_,?_,(cK.refl (λb=>b=p) w).setCell (.inl rfl) _,rfl⟩
  ·rw[R3 w p 0 _ _ _ Z.out]
  ·exact(IR.pop HR.out).only ((cK.refl (λb=>b=p) _).setCell (.inl rfl) _) (λk hk=>by simp[Value.ownBlock] at hk;omega)
def yA (n:Nat):Value:= .func (.func n) #[] #[]
def Bi:List Value:=[.nilFunc,yA 192,yA 192,yA 192,yA 193,yA 194,yA 195,yA 196,yA 197,yA 198,yA 199,yA 200,yA 201,yA 202,yA 203,yA 204,yA 205,yA 206,yA 207]
theorem GQ:∀v∈Bi,v.oneCell'=true:=by
 intro v z;simp only[Bi,Sm,SJ,T2] at z;rcases z with rfl|rfl|rfl|rfl|rfl|rfl|rfl|rfl|rfl|rfl|rfl|rfl|rfl|rfl|rfl|rfl|rfl|rfl|rfl<;>rfl
theorem zM {w:World} (h:w.heap[b]?=some (.cells cs t (0,0))):w.there b 0 cs.size:=λj z=>by
 rw[Sw];refine⟨?_,by simp[World.frozen?,h]⟩
 rw[RM w b j _ _ _ h];simp[z]
theorem FD (w:World):Calls prog 144 #[] w λe w'=>e= .returned (.agg Bi.toArray)/\Below w.heap.size w w':=by
 have E:Option.map (λx=>x.size) (prog.info? 259)=some 19:=by kernel_rfl
 obtain⟨z,D⟩:∃z,w.alloc (.cells #[Value.nilFunc,Value.nilFunc,Value.nilFunc,Value.nilFunc,Value.nilFunc,Value.nilFunc,Value.nilFunc,Value.nilFunc,Value.nilFunc,Value.nilFunc,Value.nilFunc,Value.nilFunc,Value.nilFunc,Value.nilFunc,Value.nilFunc,Value.nilFunc,Value.nilFunc,Value.nilFunc,Value.nilFunc] 259)=z:=⟨_,rfl⟩;have V:z.heap[w.heap.size]?=some (.cells #[Value.nilFunc,Value.nilFunc,Value.nilFunc,Value.nilFunc,Value.nilFunc,Value.nilFunc,Value.nilFunc,Value.nilFunc,Value.nilFunc,Value.nilFunc,Value.nilFunc,Value.nilFunc,Value.nilFunc,Value.nilFunc,Value.nilFunc,Value.nilFunc,Value.nilFunc,Value.nilFunc,Value.nilFunc] 259 (0,0)):=by rw[<-D];exact RO w _
 have J:=zM V;have Y:=Hi D;have Z:Hid (Below w.heap.size w z):=by rw[<-D];exact(RP _ _).alloc (RL _) _
 have G:=T5 w.heap.size Bi 0 z (λj O=>(J j O).1)
 have I:Hid (∀j v,Bi[j]?=some v->Cq ((z.setCells w.heap.size 0 Bi)) w.heap.size j v):=λj v R=>by
  obtain⟨O,rfl⟩:=Sf.1 R;have:=G j O;rw[Sw] at this;exact this
 clear G D V;go_enter func144,ntmps144
 go_wp2_with (
  rw[Y.out];refine wpList_store_mid (by rfl) _ _ _ (by rfl) w.heap.size 0 Bi.toArray (by rfl) (by rfl) J E (all_oneCell_toArray GQ) ?_)
 have aa:Hid (Below w.heap.size w (z.setCells w.heap.size 0 Bi)):=jn (RL _) _ _ Z.out;have HF:=I;clear I J Y Z E;generalize z.setCells w.heap.size 0 Bi=U at*;simp only[Act.put];have ab:(loadVar 259 ⟨w.heap.size,0,none⟩).run prog U= .ok (.agg Bi.toArray) U:=
  run_loadVar_mid (P:=prog) U w.heap.size 0 259 Bi _ (λj v R=>by rw[Sw];exact HF.out j v R) underlying259 rfl (by kernel_rfl)
 refine RU (v:= .agg Bi.toArray) ?_ rfl ?_
 ·simp only[results,results144]
  simp[asAddr,ab]
 exact⟨rfl,aa.out⟩
structure MS where
 st:List Int
 cl:List Int
 next:Int
 ended:Bool
 al:Bool
 ru:Int
 stp:Int
def Oq (vs z:Value) (fl:List Int) (s:MS):Array Value:= #[vs,z,Iq (fl.getD 0 0),Iq (fl.getD 1 0),Iq (fl.getD 2 0),Iq (fl.getD 3 0),Iq (fl.getD 4 0),Iq (fl.getD 5 0),Iq (fl.getD 6 0),Iq (fl.getD 7 0),Iq (fl.getD 8 0),Iq s.next,.bool s.ended,.bool s.al,Iq s.ru,Iq s.stp]
structure gF (w:World) (p:Nat) (vs vc) (fl) (s):Prop where
 blk:w.heap[p]?=some (.cells (Oq vs vc fl s) 257 (0,0))
 st:IR w 112 vs s.st
 cl:IR w 112 vc s.cl
 ne:∀b,vs.ownBlock=some b->vc.ownBlock≠some b
theorem gF.lt {w p vs D fl s} (h:gF w p vs D fl s) {b} (z:eJ p vs D b):b<w.heap.size:=by
 rcases z with rfl|z|z
 ·exact cq h.blk
 ·exact(h.st.lt b z).2
 exact(h.cl.lt b z).2
theorem gF.only {w w' p vs z fl s} (h:gF w p vs z fl s) {F} (D:cK F w w') (E:∀b,eJ p vs z b-> ¬F b):gF w' p vs z fl s:=
 ⟨(D.block p (cq h.blk) (E p (.inl rfl))).trans h.blk,h.st.only D (λg G=>E g (.inr (.inl G))),h.cl.only D (λg G=>E g (.inr (.inr G))),h.ne⟩
theorem gF.drew (h:gF w p vs z fl s):gF w.drew p vs z fl s:=⟨h.blk,h.st,h.cl,h.ne⟩
def dV (w w':World) (p:Nat) (vs z:Value) (fl:List Int) (s:MS):Prop:=
 ∃D,gF w' p D z fl s/\cK (eJ p vs z) w w'/\ ∀b,eJ p D z b->eJ p vs z b\/w.heap.size<=b
theorem dV.refl {w p vs z fl s} (h:gF w p vs z fl s):dV w w p vs z fl s:=⟨vs,h,cK.refl _ _,λ_ D=> .inl D⟩
theorem dV.then (J:cK (eJ p vs z) w E) (O:∀b,eJ p D z b->eJ p vs z b\/w.heap.size<=b) (Y:dV E G p D z fl I):dV w G p vs z fl I:=by
 obtain⟨R,Z,U,V⟩:=Y;refine⟨R,Z,J.trans U (λ_ _ h=>h) (λi hi h=>?_),λb hb=>?_⟩
 ·rcases O i h with h|h
  ·exact h
  omega
 rcases V b hb with h|h
 ·exact O b h
 right;have:=J.size;omega
theorem dV.only (h:dV w w' p vs z fl s):cK (eJ p vs z) w w':=by
 obtain⟨_,_,h,_⟩:=h;exact h
theorem dV.drew {w w' p vs z fl s} (h:dV w w' p vs z fl s):dV w w'.drew p vs z fl s:=by
 obtain⟨D,E,G,h3⟩:=h;exact⟨D,E.drew,G.drew,h3⟩
theorem sd:257≠112:=by decide
theorem dV.push {w G p vs I fl s} (h:dV w G p vs I fl s) (x) (hl:s.st.length<=5000):
 Calls prog 238 #[Pq p,Iq x] G λe w'=>e= .returned (.tuple #[])/\dV w w' p vs I fl {s with st:=s.st++[x]}:=by
 obtain⟨J,h,O,R⟩:=h;apply(JV x h.blk rfl h.st sd hl).mono;rintro e w' ⟨rfl,v',z,D,U,V⟩;refine⟨rfl,dV.then O R ?_⟩;have Y:=h.cl.ne h.blk sd;refine⟨v',⟨z,D,h.cl.only U (λg Z E=>?_),λb h1 h2=>?_⟩,U.weak (λi _ D=>?_),λb z=>?_⟩
 ·rcases E with rfl|E
  ·exact Y Z
  exact h.ne g E Z
 ·rcases V b h1 with h3|h3
  ·exact h.ne b h3 h2
  have:=(h.cl.lt b h2).2;omega
 ·rcases D with rfl|D
  ·exact .inl rfl
  exact .inr (.inl D)
 rcases z with rfl|z|z
 ·exact .inl (.inl rfl)
 ·rcases V b z with h3|h3
  ·exact .inl (.inr (.inl h3))
  exact .inr h3
 exact .inl (.inr (.inr z))
theorem dV.pop (h:dV w E p vs G fl s) (Z:s.st.length<=5000):
 Calls prog 239 #[Pq p] E λe w'=>e= .returned (Iq (s.st.getLast?.getD 0))/\dV w w' p vs G fl {s with st:=s.st.dropLast}:=by
 obtain⟨I,h,J,O⟩:=h;apply(ME h.blk rfl h.st sd Z).mono;rintro e w' ⟨rfl,v',z,D,R,U⟩;refine⟨rfl,dV.then J O ?_⟩;have V:=h.cl.ne h.blk sd;refine⟨v',⟨z,D,h.cl.only R (λg hg hn=>?_),λb Y h2=>?_⟩,R.weak (λi _ D=> .inl D),λb z=>?_⟩
 ·subst hn;exact V hg
 ·rw[U] at Y;exact h.ne b Y h2
 unfold eJ at z⊢;rw[U] at z;exact .inl z
theorem dV.put (h:dV w z p vs D fl s) (o) (v) (Y:∀vs D,(Oq vs D fl s).setIfInBounds o v=Oq vs D fl s') (Z:s'.st=s.st) (h2:s'.cl=s.cl):dV w (z.setCell ⟨p,o,none⟩ v) p vs D fl s':=by
 obtain⟨O,h,R,U⟩:=h;refine dV.then R U ?_;have G:cK (λb=>b=p) z (z.setCell ⟨p,o,none⟩ v):=(cK.refl (λb=>b=p) z).setCell (.inl rfl) _
 refine⟨O,⟨by rw[R3 z p o _ _ _ h.blk,Y],?_,?_,h.ne⟩,G.weak (λi _ hi=> .inl hi),λb hb=> .inl hb⟩
 ·rw[Z];exact h.st.only G (λg I e=>h.st.ne h.blk sd (by rw[<-e];exact I))
 rw[h2];exact h.cl.only G (λg I e=>h.cl.ne h.blk sd (by rw[<-e];exact I))
theorem dV.cells {w z p vs E fl s} (h:dV w z p vs E fl s):Cq z p 11 (Iq s.next)/\Cq z p 12 (.bool s.ended)/\Cq z p 13 (.bool s.al)/\Cq z p 14 (Iq s.ru)/\Cq z p 15 (Iq s.stp)/\ ∀o,z.frozen? ⟨p,o,none⟩=false:=by
 obtain⟨G,h,_,_⟩:=h;have D:=λj=>RM z p j _ _ _ h.blk
 exact⟨D 11,D 12,D 13,D 14,D 15,λo=>by simp[World.frozen?,h.blk]⟩
structure uX (w w1:World) (p) (vs vc) (fl) (s) (o):Prop where
 out0:dV w1 w1 p vs vc fl s
 far:∀b,eJ p vs vc b->b<w.heap.size
 blk:w1.heap[w.heap.size]?=some o
 siz:w.heap.size<w1.heap.size
 out:∀w' s,dV w1 w' p vs vc fl s->dV w w' p vs vc fl s
theorem uX.of (h:gF w p vs D fl s) (o):uX w (w.alloc o) p vs D fl s o:=
 ⟨dV.refl (h.only ((cK.refl (λ_=>False) w).alloc _) (λ_ _ h=>h)),λb z=>h.lt z,RO w _,by rw[RW];omega,λ_ _ h=>dV.then ((cK.refl _ w).alloc o) (λ_ z=> .inl z) h⟩
theorem uX.after (h:uX w E p vs G fl s (oU I n J pl)) (R:dV E z p vs G fl O):Cq z w.heap.size 0 (Iq I)/\Cq z w.heap.size 1 (Iq n)/\Cq z w.heap.size 2 (Iq J)/\Cq z w.heap.size 3 (Iq pl):=by
 have U:=(R.only.block _ h.siz (λV=>by have:=h.far _ V;omega)).trans h.blk
 have D:=λj=>RM z _ j _ _ _ U
 exact⟨D 0,D 1,D 2,D 3⟩
theorem xL (J) (n O pl) (h:gF w p vs E fl s) (hl:s.st.length<=4000):
 Calls prog 192 #[Pq p,fV J n O pl] w λe w'=>e= .returned (.tuple #[])/\dV w w' p vs E fl {s with st:=s.st++[n]}:=by
 obtain⟨G,I,z⟩:∃G,w.alloc (.cells #[Iq J,Iq n,Iq O,Iq pl] 247)=G/\uX w G p vs E fl s (oU J n O pl):=⟨_,rfl,uX.of h _⟩;unfold fV;have H:=Hi z;obtain⟨c0,c1,c2,c3⟩:=z.after z.out0;have U:=z.out0.drew.push n (by omega)
 have V:=Hi I;have Y:Hid (∀R s',dV G R p vs E fl s'->Cq R w.heap.size 1 (Iq n)):=λR _ h=>(z.after h).2.1
 clear h z I;go_enter func192,ntmps192;go_wp2_with fail;rw[V.out];go_region_held3 (λW=>W.cell? ⟨w.heap.size,1,none⟩=some (Iq n)) (first|with_reducible exact Y.out _ _ (by assumption)|with_reducible assumption|go_keep)
  (first|(go_at_call 238;refine U.mono ?_;rintro e w2 ⟨rfl,D⟩))
 rename_i hHeld;have Z:=Hi D;clear hHeld D;go_end0;exact⟨rfl,H.out.out _ _ Z.out⟩
theorem dV.field (h:dV w D p vs E fl s) (I:n<=8):Cq D p (2+n) (Iq (fl.getD n 0)):=by
 obtain⟨G,h,_,_⟩:=h;have z:=λj=>RM D p j _ _ _ h.blk
 have e:n=0\/n=1\/n=2\/n=3\/n=4\/n=5\/n=6\/n=7\/n=8:=by omega
 rcases e with rfl|rfl|rfl|rfl|rfl|rfl|rfl|rfl|rfl
 ·exact z 2
 ·exact z 3
 ·exact z 4
 ·exact z 5
 ·exact z 6
 ·exact z 7
 ·exact z 8
 ·exact z 9
 exact z 10
theorem FE (O n:Nat) (R pl) (h:gF w p vs E fl s) (hl:s.st.length<=4000) (V:n<=8):
 Calls prog 193 #[Pq p,fV O n R pl] w λe w'=>e= .returned (.tuple #[])/\dV w w' p vs E fl {s with st:=s.st++[fl.getD n 0]}:=by
 obtain⟨G,J,z⟩:∃G,w.alloc (.cells #[Iq O,Iq n,Iq R,Iq pl] 247)=G/\uX w G p vs E fl s (oU O n R pl):=⟨_,rfl,uX.of h _⟩;unfold fV;have H:=Hi z;have Y:=z.out0.drew.push (fl.getD n 0) (by omega)
 have Z:=Hi J;have U:Hid (∀I s',dV G I p vs E fl s'->(Cq I w.heap.size 1 (Iq n)/\Cq I p (2+n) (Iq (fl.getD n 0)))):=λI _ h=>⟨(z.after h).2.1,h.field V⟩
 have aa:=U.out _ _ z.out0;have ab:(0:Int)<=n/\(n:Int)<9:=by omega
 generalize fl.getD n 0=x at*;clear h z J;go_enter func193,ntmps193;go_wp2_with fail;rw[Z.out];go_region_held3 (λW=>W.cell? ⟨w.heap.size,1,none⟩=some (Iq n)/\W.cell? ⟨p,2+n,none⟩=some (Iq x)) (first|with_reducible exact U.out _ _ (by assumption)|with_reducible assumption|go_keep)
  (first|(go_at_call 238;refine Y.mono ?_;rintro e w2 ⟨rfl,D⟩))
 rename_i hHeld;have HU:=Hi D;clear hHeld D;go_end0;exact⟨rfl,H.out.out _ _ HU.out⟩
theorem MF (U n) (V pl) (h:gF w p vs O fl s) (hl:s.st.length<=4000) (Y:n<s.cl.length) (hc:s.cl.length<=300):
 Calls prog 195 #[Pq p,fV U n V pl] w λe w'=>e= .returned (.tuple #[])/\dV w w' p vs O fl {s with st:=s.st++[s.cl.getD n 0]}:=by
 obtain⟨z,I,E⟩:∃z,w.alloc (.cells #[Iq U,Iq n,Iq V,Iq pl] 247)=z/\uX w z p vs O fl s (oU U n V pl):=⟨_,rfl,uX.of h _⟩;unfold fV;have H:=Hi E;have W1:=E.out0.drew.push (s.cl.getD n 0) (by omega)
 have D:gF z p vs O fl s:=by rw[<-I];exact h.only ((cK.refl (λ_=>False) w).alloc _) (λ_ _ h=>h)
 obtain⟨g,cap,rfl,hg⟩:=D.cl.form (by omega)
 have R:=D.cl.cell Y;have Z:z.cell? ⟨p,1,none⟩=some (Sq g s.cl.length cap):=by rw[RM z p 1 _ _ _ D.blk];rfl
 obtain⟨c0,c1,c2,c3⟩:=E.after E.out0;have HW:=Hi I;have aa:0<=n/\n<s.cl.length:=by omega
 have HK:Hid (∀G,dV z G p vs (Sq g s.cl.length cap) fl {s with st:=s.st++[s.cl.getD n 0]}->(Cq G w.heap.size 1 (Iq n)/\G.cell? ⟨p,1,none⟩=some (Sq g s.cl.length cap)/\G.cell? ⟨g,n,none⟩=some (Iq (s.cl.getD n 0)))):=λG ho=>by
  refine⟨(E.after ho).2.1,?_⟩;obtain⟨ab,hm,_,_⟩:=ho;exact⟨by rw[RM G p 1 _ _ _ hm.blk];rfl,hm.cl.cell Y⟩
 have ac:Cq z w.heap.size 1 (Iq n)/\Cq z p 1 (Sq g s.cl.length cap)/\Cq z g n (Iq (s.cl.getD n 0)):=⟨c1,Z,R⟩;generalize s.cl.getD n 0=x at*;clear h E I D;go_enter func195,ntmps195;go_wp2_with fail;rw[HW.out];go_region_held3 (λW=>W.cell? ⟨w.heap.size,1,none⟩=some (Iq n)/\W.cell? ⟨p,1,none⟩=some (Sq g s.cl.length cap)/\W.cell? ⟨g,n,none⟩=some (Iq x)) (first|with_reducible exact HK.out _ (by assumption)|with_reducible assumption|go_keep)
  (first|(go_at_call 238;refine W1.mono ?_;rintro e w2 ⟨rfl,J⟩))
 rename_i hHeld;have HU:=Hi J;clear hHeld J;go_end0;exact⟨rfl,H.out.out _ _ HU.out⟩
theorem MG (V n) (Y pl) (h:gF w p vs O fl s) (hl:s.st.length<=4000) (hn:n<s.cl.length) (hc:s.cl.length<=300):
 Calls prog 194 #[Pq p,fV V n Y pl] w λe w'=>e= .returned (.tuple #[])/\dV w w' p vs O fl {s with st:=s.st.dropLast,cl:=s.cl.set n (s.st.getLast?.getD 0)}:=by
 obtain⟨z,G,E⟩:∃z,w.alloc (.cells #[Iq V,Iq n,Iq Y,Iq pl] 247)=z/\uX w z p vs O fl s (oU V n Y pl):=⟨_,rfl,uX.of h _⟩;unfold fV;have H:=Hi E;have W1:=E.out0.drew.pop (by omega)
 have D:gF z p vs O fl s:=by rw[<-G];exact h.only ((cK.refl (λ_=>False) w).alloc _) (λ_ _ h=>h)
 obtain⟨g,cap,rfl,hg⟩:=D.cl.form (by omega)
 have aa:z.cell? ⟨p,1,none⟩=some (Sq g s.cl.length cap):=by rw[RM z p 1 _ _ _ D.blk];rfl
 obtain⟨c0,c1,c2,c3⟩:=E.after E.out0;have R:g≠p:=λe=>D.cl.ne D.blk sd (by rw[e];rfl)
 have ab:g≠w.heap.size:=λe=>by have:=E.far g (.inr (.inr rfl));omega
 have HW:=Hi G;have ah:(0:Int)<=(n:Int)/\(n:Int)<(s.cl.length:Int):=by omega
 generalize hx:s.st.getLast?.getD 0=x at*;have HK:Hid (∀q,dV z q p vs (Sq g s.cl.length cap) fl {s with st:=s.st.dropLast}->((q.cell? ⟨w.heap.size,1,none⟩=some (Iq n)/\q.cell? ⟨p,1,none⟩=some (Sq g s.cl.length cap))/\q.cell? ⟨g,n,none⟩=some (Iq (s.cl.getD n 0))/\q.frozen? ⟨g,n,none⟩=false/\dV z (q.setCell ⟨g,n,none⟩ (Iq x)) p vs (Sq g s.cl.length cap) fl {s with st:=s.st.dropLast,cl:=s.cl.set n x})):=λq ho=>by
  have ha:=(E.after ho).2.1;obtain⟨ac,A,ad,hf⟩:=ho;refine⟨⟨ha,by rw[RM q p 1 _ _ _ A.blk];rfl⟩,A.cl.cell hn,A.cl.frz n,dV.then ad hf ?_⟩
  have I:cK (λb=>b=g) q (q.setCell ⟨g,n,none⟩ (Iq x)):=(cK.refl (λb=>b=g) q).setCell (.inl rfl) _
  refine⟨ac,⟨(I.block p (cq A.blk) (λe=>R e.symm)).trans A.blk,A.st.only I (λb Z e=>A.ne b Z (by rw[e];rfl)),A.cl.set hn x,A.ne⟩,I.weak (λi _ hi=> .inr (.inr (by rw[hi];rfl))),λb Z=> .inl Z⟩
 have KS:Hid (∀(W:World) (v:Value),(W.cell? ⟨w.heap.size,1,none⟩=some (Iq n)/\W.cell? ⟨p,1,none⟩=some (Sq g s.cl.length cap))->((W.setCell ⟨g,n,none⟩ v).cell? ⟨w.heap.size,1,none⟩=some (Iq n)/\(W.setCell ⟨g,n,none⟩ v).cell? ⟨p,1,none⟩=some (Sq g s.cl.length cap))):=λW v hS=>⟨by rw[World.cell?_setCell_far _ _ _ _ (by simpa using ab)];exact hS.1,by rw[World.cell?_setCell_far _ _ _ _ (by simpa using R)];exact hS.2⟩
 have ai:z.cell? ⟨w.heap.size,1,none⟩=some (Iq n)/\z.cell? ⟨p,1,none⟩=some (Sq g s.cl.length cap):=⟨c1,aa⟩;clear h E G D hx;go_enter func194,ntmps194;go_wp2_with fail;rw[HW.out];go_region_held3 (λW=>W.cell? ⟨w.heap.size,1,none⟩=some (Iq n)/\W.cell? ⟨p,1,none⟩=some (Sq g s.cl.length cap)) (first|with_reducible exact KS.out _ _ (by assumption)|with_reducible exact UB (HK.out _ (by assumption))|with_reducible assumption|go_keep)
  (first|(go_at_call 239;refine W1.mono ?_;rintro e w2 ⟨rfl,J⟩;obtain⟨ae,af,ag,U⟩:=HK.out _ J;have HU:Hid _:=U;clear U))
 rename_i hHeld;clear hHeld J ae af ag;go_end0;exact⟨rfl,H.out.out _ _ HU.out⟩
theorem Dm {m:Nat} (J:m=164\/m=165\/m=166\/m=167\/m=168\/m=169\/m=170) (h:dV w w p vs z fl s) (Z:s.st.length<=4000) (G:s.st.getLast?.getD 0=r) (E:s.st.dropLast.getLast?.getD 0=l) (O:∀w,Calls prog m #[Iq l,Iq r] w λe w'=>e= .returned (Iq x)/\w'=w):
 Calls prog 240 #[Pq p,yA m] w λe w'=>e= .returned (.tuple #[])/\dV w w' p vs z fl {s with st:=s.st.dropLast.dropLast++[x]}:=by
 unfold yA;have I:=h.drew.pop (by omega)
 rw[G] at I;have R:∀W,dV w W p vs z fl {s with st:=s.st.dropLast}->Calls prog 239 #[Pq p] W λe w'=>e= .returned (Iq l)/\dV w w' p vs z fl {s with st:=s.st.dropLast.dropLast}:=λW h=>by
  have:=h.pop (by simp;omega)
  simp only[E] at this;exact this
 have U:∀W,dV w W p vs z fl {s with st:=s.st.dropLast.dropLast}->Calls prog 238 #[Pq p,Iq x] W λe w'=>e= .returned (.tuple #[])/\dV w w' p vs z fl {s with st:=s.st.dropLast.dropLast++[x]}:=λW h=>h.push x (by simp;omega)
 rcases J with rfl|rfl|rfl|rfl|rfl|rfl|rfl
 all_goals
  go_enter func240,ntmps240;go_wp2;go_region_held3 (λw'=>True) (exact trivial)
   (first
    |(go_at_call 239;refine(R _ (by assumption)).mono ?_;rintro e w3 ⟨rfl,q⟩)
    |(go_at_call 239;refine I.mono ?_;rintro e w2 ⟨rfl,D⟩))
  have V:=Hi q;go_wp2;go_region_held3 (λw'=>True) (exact trivial)
   (first
    |((first|go_at_call 164|go_at_call 165|go_at_call 166|go_at_call 167|go_at_call 168|go_at_call 169|go_at_call 170);refine(O _).mono ?_;rintro e w4 ⟨rfl,rfl⟩)
    |(go_at_call 238;refine(U _ (dV.drew V.out)).mono ?_;rintro e w5 ⟨rfl,A⟩;have Y:Hid _:=A;clear A))
  go_wp2;go_end0;exact⟨rfl,Y.out⟩
theorem MH {k m:Nat} (U:(k=196/\m=164)\/(k=197/\m=165)\/(k=198/\m=166)\/(k=199/\m=167)\/(k=200/\m=168)\/(k=202/\m=169)\/(k=203/\m=170)) (D) (n E pl) (h:gF w p vs A fl s) (V:s.st.length<=4000) (Y:s.st.getLast?.getD 0=r) (O:s.st.dropLast.getLast?.getD 0=l) (R:∀w,Calls prog m #[Iq l,Iq r] w λe w'=>e= .returned (Iq x)/\w'=w):
 Calls prog k #[Pq p,fV D n E pl] w λe w'=>e= .returned (.tuple #[])/\dV w w' p vs A fl {s with st:=s.st.dropLast.dropLast++[x]}:=by
 obtain⟨G,z,I⟩:∃G,w.alloc (.cells #[Iq D,Iq n,Iq E,Iq pl] 247)=G/\uX w G p vs A fl s (oU D n E pl):=⟨_,rfl,uX.of h _⟩;unfold fV;have H:=Hi I;have J:=Dm (by omega) I.out0 V Y O R
 unfold yA at J;have Z:=Hi z;clear h I z R;rcases U with⟨rfl,rfl⟩|⟨rfl,rfl⟩|⟨rfl,rfl⟩|⟨rfl,rfl⟩|⟨rfl,rfl⟩|⟨rfl,rfl⟩|⟨rfl,rfl⟩
 all_goals
  first|go_enter func196,ntmps196|go_enter func197,ntmps197|go_enter func198,ntmps198|go_enter func199,ntmps199|go_enter func200,ntmps200|go_enter func202,ntmps202|go_enter func203,ntmps203
  go_wp2_with fail;rw[Z.out];apply J.mono;rintro e w2 ⟨rfl,q⟩;have HU:=Hi q;clear q J;go_wp2;go_end0;exact⟨rfl,H.out.out _ _ HU.out⟩
theorem MI (J) (n O pl) (h:gF w p vs z fl s) (hl:s.st.length<=4000) (U:s.st.getLast?.getD 0=r) (Y:∀w,Calls prog 125 #[Iq r] w λe w'=>e= .returned (Iq x)/\w'=w):
 Calls prog 201 #[Pq p,fV J n O pl] w λe w'=>e= .returned (.tuple #[])/\dV w w' p vs z fl {s with st:=s.st.dropLast++[x]}:=by
 obtain⟨D,I,R⟩:∃D,w.alloc (.cells #[Iq J,Iq n,Iq O,Iq pl] 247)=D/\uX w D p vs z fl s (oU J n O pl):=⟨_,rfl,uX.of h _⟩;unfold fV;have H:=Hi R;have V:=R.out0.drew.pop (by omega)
 rw[U] at V;have Z:∀W,dV D W p vs z fl {s with st:=s.st.dropLast}->Calls prog 238 #[Pq p,Iq x] W λe w'=>e= .returned (.tuple #[])/\dV D w' p vs z fl {s with st:=s.st.dropLast++[x]}:=λW h=>h.push x (by simp;omega)
 have HW:=Hi I;clear h R I U;go_enter func201,ntmps201;go_wp2;rw[HW.out];go_region_held3 (λw'=>True) (exact trivial)
  (first
   |(go_at_call 125;refine(Y _).mono ?_;rintro e w4 ⟨rfl,rfl⟩)
   |(go_at_call 238;refine(Z _ (by assumption)).mono ?_;rintro e w5 ⟨rfl,E⟩)
   |(go_at_call 239;refine V.mono ?_;rintro e w2 ⟨rfl,G⟩))
 have HV:=Hi E;clear E G;go_end0;exact⟨rfl,H.out.out _ _ HV.out⟩
theorem zN (R) (n E pl) (h:dV w w p vs D fl s):
 Calls prog 205 #[Pq p,fV R n E pl] w λe w'=>e= .returned (.tuple #[])/\dV w w' p vs D fl {s with next:=E}:=by
 have hm:∃z,gF w p z D fl s/\(∀b,eJ p z D b->eJ p vs D b\/w.heap.size<=b):=by obtain⟨z,I,_,h3⟩:=h;exact⟨z,I,h3⟩
 obtain⟨z,I,h3⟩:=hm;obtain⟨J,O,G⟩:∃J,w.alloc (.cells #[Iq R,Iq n,Iq E,Iq pl] 247)=J/\uX w J p z D fl s (oU R n E pl):=⟨_,rfl,uX.of I _⟩;unfold fV;obtain⟨c0,c1,c2,c3⟩:=G.after G.out0;obtain⟨V,aa,ab,ac,ad,Y⟩:=G.out0.cells;have U:=Y 11;have HA:Hid (dV w (J.setCell ⟨p,11,none⟩ (Iq E)) p vs D fl {s with next:=E}):=
  dV.then (cK.refl _ w) h3 (G.out _ _ (G.out0.put 11 (Iq E) (λ_ _=>rfl) rfl rfl))
 have Z:=Hi O;clear h I h3 G O Y;rw[<-Z.out] at c2 V U;go_enter func205,ntmps205;go_wp2;rw[Z.out];go_end0;exact⟨rfl,HA.out⟩
theorem FG (G) (n D pl) (h:gF w p vs E fl s) (hl:s.st.length<=4000):
 Calls prog 204 #[Pq p,fV G n D pl] w λe w'=>e= .returned (.tuple #[])/\dV w w' p vs E fl {s with st:=s.st.dropLast,next:=if s.st.getLast?.getD 0=0 then D else s.next}:=by
 obtain⟨I,Z,U⟩:∃I,w.alloc (.cells #[Iq G,Iq n,Iq D,Iq pl] 247)=I/\uX w I p vs E fl s (oU G n D pl):=⟨_,rfl,uX.of h _⟩;unfold fV;have H:=Hi U;have W1:=U.out0.pop (by omega)
 generalize s.st.getLast?.getD 0=r at*;obtain⟨V,O⟩:∃V,(if r=0 then D else s.next)=V:=⟨_,rfl⟩;rw[O];have R:=Hi O;clear O;have W2:∀W,dV I W p vs E fl {s with st:=s.st.dropLast}->Calls prog 205 #[Pq p,.agg #[Iq G,Iq n,Iq D,Iq pl]] W λe w'=>e= .returned (.tuple #[])/\dV I w' p vs E fl {s with st:=s.st.dropLast,next:=D}:=λW h=>by
  obtain⟨aa,h1,h2,h3⟩:=h;have:=zN G n D pl (dV.refl h1);unfold fV at this;apply this.mono;rintro e w' ⟨rfl,ho⟩;exact⟨rfl,dV.then h2 h3 ho⟩
 have HK:Hid (∀J s',dV I J p vs E fl s'->Cq J w.heap.size 0 (Iq G)/\Cq J w.heap.size 1 (Iq n)/\Cq J w.heap.size 2 (Iq D)/\Cq J w.heap.size 3 (Iq pl)):=λJ _ h=>U.after h
 have HW:=Hi Z;clear h U Z;by_cases Y:r=0
 ·subst Y;obtain rfl:V=D:=by rw[<-R.out,RK rfl]
  go_enter func204,ntmps204;go_wp2_with fail;rw[HW.out];apply W1.mono;rintro e w2 ⟨rfl,z⟩;obtain⟨c0,c1,c2,c3⟩:=HK.out _ _ z;have HU:=Hi z;clear z;go_wp2_with fail;apply(W2 _ HU.out).mono;rintro e w3 ⟨rfl,z⟩;have HV:=Hi z;clear z;go_wp2;go_end0;exact⟨rfl,H.out.out _ _ HV.out⟩
 have ab:(r==0)=false:=by simpa using Y
 obtain rfl:V=s.next:=by rw[<-R.out,RH Y]
 clear Y R;go_enter func204,ntmps204;go_wp2_with fail;rw[HW.out];apply W1.mono;rintro e w2 ⟨rfl,z⟩;have HU:=Hi z;clear z;go_wp2;go_end0;exact⟨rfl,H.out.out _ _ HU.out⟩
theorem tC (b) (V) (n Y pl) (h:dV w w p vs E fl s):
 Calls prog 241 #[Pq p,.bool b,fV V n Y pl] w λe w'=>e= .returned (.tuple #[])/\dV w w' p vs E fl {s with al:=b,ru:=n,ended:=true}:=by
 have hm:∃D,gF w p D E fl s/\(∀b,eJ p D E b->eJ p vs E b\/w.heap.size<=b):=by obtain⟨D,I,_,h3⟩:=h;exact⟨D,I,h3⟩
 obtain⟨D,I,h3⟩:=hm;obtain⟨z,R,G⟩:∃z,w.alloc (.cells #[Iq V,Iq n,Iq Y,Iq pl] 247)=z/\uX w z p D E fl s (oU V n Y pl):=⟨_,rfl,uX.of I _⟩;unfold fV;obtain⟨c0,c1,c2,c3⟩:=G.after G.out0;obtain⟨ah,aa,ai,ab,aj,J⟩:=G.out0.cells;have Z:=J 12;have ad:=J 13;have ae:=J 14;have hg:w.heap.size≠p:=λe=>by have:=G.far p (.inl rfl);omega
 have HA:Hid (dV w (((z.setCell ⟨p,13,none⟩ (.bool b)).setCell ⟨p,14,none⟩ (Iq n)).drew.setCell ⟨p,12,none⟩ (.bool true)) p vs E fl {s with al:=b,ru:=n,ended:=true}):=
  dV.then (cK.refl _ w) h3 (G.out _ _ (((G.out0.put (s':={s with al:=b}) 13 (.bool b) (λ_ _=>rfl) rfl rfl).put (s':={s with al:=b,ru:=n}) 14 (Iq n) (λ_ _=>rfl) rfl rfl).drew.put (s':={s with al:=b,ru:=n,ended:=true}) 12 (.bool true) (λ_ _=>rfl) rfl rfl))
 have HW:=Hi R;have ac:∀v,(z.setCell ⟨p,13,none⟩ v).cell? ⟨p,14,none⟩=some (Iq s.ru):=λv=>by rw[cN _ _ _ _ _ (by decide)];exact ab
 have U:∀v u,((z.setCell ⟨p,13,none⟩ v).setCell ⟨p,14,none⟩ u).cell? ⟨p,12,none⟩=some (.bool s.ended):=λv u=>by rw[cN _ _ _ _ _ (by decide),cN _ _ _ _ _ (by decide)];exact aa
 have O:Hid (∀(W:World) (o:Nat) (v:Value),W.cell? ⟨w.heap.size,1,none⟩=some (Iq n)->(W.setCell ⟨p,o,none⟩ v).cell? ⟨w.heap.size,1,none⟩=some (Iq n)):=λW o v hS=>by rw[World.cell?_setCell_far _ _ _ _ (by simpa using λe=>hg e.symm)];exact hS
 clear h I h3 G R J;go_enter func241,ntmps241;go_wp2_with fail;rw[HW.out];go_region_held3 (λW=>W.cell? ⟨w.heap.size,1,none⟩=some (Iq n)) (first|with_reducible assumption|exact O.out z 13 _ c1|exact O.out _ 14 _ (O.out z 13 _ c1)|go_keep) (fail)
 rename_i hHeld;clear hHeld O;have af:=U (.bool b) (Iq n);have ag:((z.setCell ⟨p,13,none⟩ (.bool b)).setCell ⟨p,14,none⟩ (Iq n)).frozen? ⟨p,12,none⟩=false:=by simpa using Z
 clear U ac;generalize ak:(z.setCell ⟨p,13,none⟩ (.bool b)).setCell ⟨p,14,none⟩ (Iq n)=ww at*;go_wp2;go_end0;exact⟨rfl,HA.out⟩
theorem FH (D) (n E pl) (h:gF w p vs O fl s):
 Calls prog 206 #[Pq p,fV D n E pl] w λe w'=>e= .returned (.tuple #[])/\dV w w' p vs O fl {s with al:=true,ru:=n,ended:=true}:=by
 obtain⟨J,G,z⟩:∃J,w.alloc (.cells #[Iq D,Iq n,Iq E,Iq pl] 247)=J/\uX w J p vs O fl s (oU D n E pl):=⟨_,rfl,uX.of h _⟩;have R:=tC true D n E pl z.out0;have V:=tC (w:=J.drew) true D n E pl (dV.refl (by obtain⟨Z,hm,_,_⟩:=z.out0;exact(h.only (by rw[<-G];exact(cK.refl (λ_=>False) w).alloc _) (λ_ _ h=>h)).drew))
 unfold fV at*;have H:=Hi z;obtain⟨c0,c1,c2,c3⟩:=z.after z.out0;have U:=Hi G;clear h z G;rw[<-U.out] at c0 c1 c2 c3;go_enter func206,ntmps206;go_wp2_with fail;rw[U.out];apply R.mono;rintro e w2 ⟨rfl,I⟩;have Y:=Hi I;clear I R V;go_wp2;go_end0;exact⟨rfl,H.out.out _ _ Y.out⟩
theorem JW (D) (n E pl) (h:gF w p vs O fl s):
 Calls prog 207 #[Pq p,fV D n E pl] w λe w'=>e= .returned (.tuple #[])/\dV w w' p vs O fl {s with al:=false,ru:=n,ended:=true}:=by
 obtain⟨J,G,z⟩:∃J,w.alloc (.cells #[Iq D,Iq n,Iq E,Iq pl] 247)=J/\uX w J p vs O fl s (oU D n E pl):=⟨_,rfl,uX.of h _⟩;have R:=tC false D n E pl z.out0;have V:=tC (w:=J.drew) false D n E pl (dV.refl (by obtain⟨Z,hm,_,_⟩:=z.out0;exact(h.only (by rw[<-G];exact(cK.refl (λ_=>False) w).alloc _) (λ_ _ h=>h)).drew))
 unfold fV at*;have H:=Hi z;obtain⟨c0,c1,c2,c3⟩:=z.after z.out0;have U:=Hi G;clear h z G;rw[<-U.out] at c0 c1 c2 c3;go_enter func207,ntmps207;go_wp2_with fail;rw[U.out];apply R.mono;rintro e w2 ⟨rfl,I⟩;have Y:=Hi I;clear I R V;go_wp2;go_end0;exact⟨rfl,H.out.out _ _ Y.out⟩
end
variable {w p vs z fl s a b x r vc k k' st cl st' cl' j}
def og (jmp:Bool):Nat->Bool->Tr->Nat->List Nat
 |0,_,_,_=>[]
 |d+1,this,t,p=>
  if oN jmp t.k then
   if t.k=20\/t.k=21 then(if this=decide (t.k=20) then[p] else[])
   else if t.k=19 then og jmp d (!this) (t.kid 0) p
   else if t.k=14 then og jmp d this (t.kid 1) (p+cX jmp d (some false) (t.kid 0))++og jmp d this (t.kid 2) (p+cX jmp d (some false) (t.kid 0)+cX jmp d (some this) (t.kid 1)+1)
   else(if this=decide (t.k=17) then og jmp d (decide (t.k=17)) (t.kid 0) p else[])++og jmp d this (t.kid 1) (p+cX jmp d (some (decide (t.k=17))) (t.kid 0))
  else[p+cX jmp (d+1) none t+(if this then 1 else 0)]
theorem xM (l:List L3) (a b) (T):fM l (a++b) T=fM (fM l a T) b T:=by unfold fM;rw[Tl]
theorem oV (pre post:List L3) (x) (T):od (pre++(x::post)) pre.length T=pre++(⟨x.op,x.n,T⟩::post):=by
 unfold od;have e:(pre++(x::post)).getD pre.length gk=x:=by
  rw[RG,Sg (RL _)];simp
 rw[e,Uf _ _ (RL _)];simp
theorem jX (jmp) (d) (m) (t) (k) (p T):((fP jmp d m t k p T).map er).length=cX jmp d m t:=by rw[SR,eo]
theorem AY {jmp:Bool} (d):∀{t k this pre post p} T,hY d t->pre.length=p->fM (pre++((fP jmp d (some this) t k p 0).map er++post)) (og jmp d this t p) T=pre++((fP jmp d (some this) t k p T).map er++post):=by
 induction d with
 |zero=>intro t k this pre post p T h;exact h.elim
 |succ d ih=>
  intro t k this pre post p T h E;have J:=h.2;cases O:oN jmp t.k with
  |false=>
   have R:∀T,fP jmp (d+1) (some this) t k p T=fP jmp (d+1) none t k p 0++((if this then[⟨12,0,0,⟨2::k.st,k.cl⟩⟩] else[])++[⟨15,0,T,⟨2::k.st,k.cl⟩⟩]):=λT=>by
    simp only[fP,O];rfl
   have aa:og jmp (d+1) this t p=[p+cX jmp (d+1) none t+(if this then 1 else 0)]:=by simp only[og,O];rfl
   rw[R 0,R T,aa];have hl:=jX jmp (d+1) none t k p 0;cases this with
   |true=>
    have e:=oV (pre++((fP jmp (d+1) none t k p 0).map er++[⟨12,0,0⟩])) post ⟨15,0,0⟩ T;rw[RT,RT,hl,E] at e;simpa [fM,er,Th] using e
   |false=>
    have e:=oV (pre++(fP jmp (d+1) none t k p 0).map er) post ⟨15,0,0⟩ T;rw[RT,hl,E] at e;simpa [fM,er] using e
  |true=>
   simp only[fP,og,O,Td];rcases h.1 with⟨D,z,_⟩|⟨D,a,z⟩|⟨D,a,b,c,z⟩|⟨D,a,b,z⟩
   ·have G:t.k=20\/t.k=21:=by
     unfold oN at O;unfold dy at D;simp at O;omega
    simp only[RK G];by_cases g:this=decide (t.k=20)
    ·simp only[RK g];have e:=oV pre post ⟨16,0,0⟩ T;rw[E] at e;simpa [fM,er] using e
    simp only[RH g];rfl
   ·have G: ¬(t.k=20\/t.k=21):=by omega
    rw[RH G,RH G,RK D,RK D,RH G,RK D];have U:t.kid 0=a:=by unfold Tr.kid;rw[z];rfl
    rw[U];exact ih T (J a (by rw[z];simp)) E
   ·have G: ¬(t.k=20\/t.k=21):=by omega
    have V: ¬t.k=19:=by omega
    have U:t.kid 0=a:=by unfold Tr.kid;rw[z];rfl
    have e1:t.kid 1=b:=by unfold Tr.kid;rw[z];rfl
    have e2:t.kid 2=c:=by unfold Tr.kid;rw[z];rfl
    simp only[RH G,RH V,RK D,U,e1,e2];rw[xM];have Y:=jX jmp d (some false) a k p (p+cX jmp d (some false) a+cX jmp d (some this) b+1);have lb:=λT=>jX jmp d (some this) b k (p+cX jmp d (some false) a) T
    have Z:=ih (t:=b) (k:=k) (this:=this) (pre:=pre++(fP jmp d (some false) a k p (p+cX jmp d (some false) a+cX jmp d (some this) b+1)).map er) (post:=⟨16,0,p+cX jmp d (some false) a+cX jmp d (some this) b+1+cX jmp d (some this) c⟩::((fP jmp d (some this) c k (p+cX jmp d (some false) a+cX jmp d (some this) b+1) 0).map er++post)) T (J b (by rw[z];simp)) (p:=p+cX jmp d (some false) a) (by rw[RT,Y,E])
    have I:=ih (t:=c) (k:=k) (this:=this) (pre:=pre++((fP jmp d (some false) a k p (p+cX jmp d (some false) a+cX jmp d (some this) b+1)).map er++((fP jmp d (some this) b k (p+cX jmp d (some false) a) T).map er++[⟨16,0,p+cX jmp d (some false) a+cX jmp d (some this) b+1+cX jmp d (some this) c⟩]))) (post:=post) T (J c (by rw[z];simp)) (p:=p+cX jmp d (some false) a+cX jmp d (some this) b+1) (by rw[RT,RT,RT,Y,lb,E];simp;omega)
    simp only[Sv,Sa,Sk,T7,Tp,er] at Z I⊢;rw[Z,I]
   have G: ¬(t.k=20\/t.k=21):=by unfold fh at D;omega
   have V: ¬t.k=19:=by unfold fh at D;omega
   have ab: ¬t.k=14:=by unfold fh at D;omega
   have U:t.kid 0=a:=by unfold Tr.kid;rw[z];rfl
   have e1:t.kid 1=b:=by unfold Tr.kid;rw[z];rfl
   simp only[RH G,RH V,RH ab,U,e1];rw[xM];have Y:=λT=>jX jmp d (some (decide (t.k=17))) a k p T
   by_cases g:this=decide (t.k=17)
   ·simp only[RK g];have Z:=ih (t:=a) (k:=k) (this:=decide (t.k=17)) (pre:=pre) (post:=(fP jmp d (some this) b k (p+cX jmp d (some (decide (t.k=17))) a) 0).map er++post) T (J a (by rw[z];simp)) E
    have I:=ih (t:=b) (k:=k) (this:=this) (pre:=pre++(fP jmp d (some (decide (t.k=17))) a k p T).map er) (post:=post) T (J b (by rw[z];simp)) (p:=p+cX jmp d (some (decide (t.k=17))) a) (by rw[RT,Y,E])
    simp only[Sv,Sk] at Z I⊢;rw[Z,I]
   simp only[RH g];have I:=ih (t:=b) (k:=k) (this:=this) (pre:=pre++(fP jmp d (some (decide (t.k=17))) a k p (p+cX jmp d (some (decide (t.k=17))) a+cX jmp d (some this) b)).map er) (post:=post) T (J b (by rw[z];simp)) (p:=p+cX jmp d (some (decide (t.k=17))) a) (by rw[RT,Y,E])
   simp only[Sv,Sk] at I⊢;show fM (pre++_) _ T=_;rw[I]
def FI (q:Nat):Nat:=[0,192,192,192,193,194,195,196,197,198,199,200,201,202,203,204,205,206,207].getD q 0
theorem PV {q:Nat} (h:1<=q/\q<=18):Bi[q]?=some (.func (.func (FI q)) #[] #[]):=by
 have e:q=1\/q=2\/q=3\/q=4\/q=5\/q=6\/q=7\/q=8\/q=9\/q=10\/q=11\/q=12\/q=13\/q=14\/q=15\/q=16\/q=17\/q=18:=by omega
 rcases e with rfl|rfl|rfl|rfl|rfl|rfl|rfl|rfl|rfl|rfl|rfl|rfl|rfl|rfl|rfl|rfl|rfl|rfl<;>rfl
theorem oh (v:Int) (r):(v::r).reverse.getLast?.getD 0=v:=by simp
theorem k9 (v:Int) (r):(v::r).reverse.dropLast=r.reverse:=by simp
theorem jY (v:Int) (r):r.reverse++[v]=(v::r).reverse:=by simp
theorem qU {α β γ:Type} {a q:α} {b z:β} {c A:γ} (h:some (a,b,c)=some (q,z,A)):q=a/\z=b/\A=c:=by cases h;exact⟨rfl,rfl,rfl⟩
theorem lf {k m:Nat} (E:(k=196/\m=164)\/(k=197/\m=165)\/(k=198/\m=166)\/(k=199/\m=167)\/(k=200/\m=168)\/(k=202/\m=169)\/(k=203/\m=170)) (A) (n D pl) (h:gF w p vs z fl s) (G:s.st.length<=4000) (q:s.st=(b::a::r).reverse) (I:∀w,Calls prog m #[Iq a,Iq b] w λe w'=>e= .returned (Iq x)/\w'=w):
 Calls prog k #[Pq p,fV A n D pl] w λe w'=>e= .returned (.tuple #[])/\dV w w' p vs z fl {s with st:=(x::r).reverse}:=by
 have:=MH E A n D pl h G (by rw[q];exact oh b (a::r)) (by rw[q,k9];exact oh a r) I
 rw[q,k9,k9,jY] at this;exact this
theorem JX {cells} (E) (h:gF w p vs vc fl s) (Y:LJ cells x) (O:vp k cells st cl) (I:dZ x.op x.n.toNat k=some k') (hs:s.st=st.reverse) (hc:s.cl=cl) (ad:cells<=256) (hl:st.length<=100) (A:gj fl x st cl=some (st',cl',j)) (ae: ¬(x.op=17\/x.op=18)):
 Calls prog (FI x.op) #[Pq p,fV x.op x.n E x.pl] w λe w'=>e= .returned (.tuple #[])/\dV w w' p vs vc fl {s with st:=st'.reverse,cl:=cl',next:=if j then E else s.next}:=by
 obtain⟨G,n,pl⟩:=x;obtain⟨ak,af,V,ag,ah,ai,ab⟩:=s;simp only[] at hs hc I ae⊢;subst hs hc;have D:({st:=st.reverse,cl:=af,next:=V,ended:=ag,al:=ah,ru:=ai,stp:=ab}:MS).st.length<=4000:=by simp;omega
 have e:G=1\/G=2\/G=3\/G=4\/G=5\/G=6\/G=7\/G=8\/G=9\/G=10\/G=11\/G=12\/G=13\/G=14\/G=15\/G=16:=by have:1<=G/\G<=18:=Y.op;omega
 have two:∀{t u:Nat} {more:List Nat},kV [t,u] more k=some k'-> ∃b a r,st=b::a::r/\pT t b/\pT u a:=λ{t u more} he=>by
  obtain⟨e1,_⟩:=kF he;have R:=O.typ;rw[e1] at R;obtain⟨b,r1,rfl,Z,h2⟩:=jT.cons R;obtain⟨a,r2,rfl,h3,_⟩:=jT.cons h2;exact⟨b,a,r2,rfl,Z,h3⟩
 have one:∀{t:Nat} {more:List Nat},kV [t] more k=some k'-> ∃b r,st=b::r/\pT t b:=λ{t more} he=>by
  obtain⟨e1,_⟩:=kF he;have R:=O.typ;rw[e1] at R;obtain⟨b,r1,rfl,Z,_⟩:=jT.cons R;exact⟨b,r1,rfl,Z⟩
 rcases e with rfl|rfl|rfl|rfl|rfl|rfl|rfl|rfl|rfl|rfl|rfl|rfl|rfl|rfl|rfl|rfl
 ·obtain⟨rfl,rfl,rfl⟩:=qU A;have:=xL 1 n E (pl:Nat) h D;rw[jY] at this;exact this
 ·obtain⟨rfl,rfl,rfl⟩:=qU A;have:=xL 2 n E (pl:Nat) h D;rw[jY] at this;exact this
 ·obtain⟨rfl,rfl,rfl⟩:=qU A;have:=xL 3 n E (pl:Nat) h D;rw[jY] at this;exact this
 ·obtain⟨rfl,rfl,rfl⟩:=qU A;obtain⟨a1,a2,_⟩:=Y.two rfl;have aa:n<=8:=a2;obtain⟨m,rfl⟩:∃m:Nat,n=m:=⟨n.toNat,by have:0<=n:=a1;omega⟩
  have:=FE 4 m E (pl:Nat) h D (by omega)
  rw[jY] at this;exact this
 ·obtain⟨a1,a2,_⟩:=Y.two rfl;have aa:n<=(cells:Int) - 1:=a2;obtain⟨m,rfl⟩:∃m:Nat,n=m:=⟨n.toNat,by have:0<=n:=a1;omega⟩
  have ac:=O.len;cases st with
  |nil=>exact absurd A (by simp[gj])
  |cons v r=>
   obtain⟨rfl,rfl,rfl⟩:=qU A;have:=MG 5 m E (pl:Nat) h D (by simp only[];omega) (by simp only[];omega)
   simp only[] at this;rw[oh,k9] at this;exact this
 ·obtain⟨a1,a2,_⟩:=Y.two rfl;have aa:n<=(cells:Int) - 1:=a2;obtain⟨m,rfl⟩:∃m:Nat,n=m:=⟨n.toNat,by have:0<=n:=a1;omega⟩
  have ac:=O.len;obtain⟨rfl,rfl,rfl⟩:=qU A;have:=MF 6 m E (pl:Nat) h D (by simp only[];omega) (by simp only[];omega)
  rw[jY] at this;exact this
 ·obtain⟨b,a,r,rfl,J,U⟩:=two I;obtain⟨rfl,rfl,rfl⟩:=qU A;exact lf (k:=FI 7) (by decide) 7 n E (pl:Nat) h D rfl (λw=>BX U.1 J.1 w)
 ·obtain⟨b,a,r,rfl,J,U⟩:=two I;obtain⟨rfl,rfl,rfl⟩:=qU A;exact lf (k:=FI 8) (by decide) 8 n E (pl:Nat) h D rfl (λw=>BY U.1 J.1 w)
 ·have h9:∃b a r,st=b::a::r:=by
   have e9:dZ 9 n.toNat k=(match k.st with
    |x::y::r=>if x=y then some ⟨2::r,k.cl⟩ else none
    |_=>none):=rfl
   rw[e9] at I;split at I
   ·rename_i y z q aj;have R:=O.typ;rw[aj] at R;obtain⟨b,r1,rfl,Z,h2⟩:=jT.cons R;obtain⟨a,r2,rfl,h3,_⟩:=jT.cons h2;exact⟨b,a,r2,rfl⟩
   cases I
  obtain⟨b,a,r,rfl⟩:=h9;obtain⟨rfl,rfl,rfl⟩:=qU A;exact lf (k:=FI 9) (by decide) 9 n E (pl:Nat) h D rfl (λw=>wG a b w)
 ·obtain⟨b,a,r,rfl,J,U⟩:=two I;obtain⟨rfl,rfl,rfl⟩:=qU A;exact lf (k:=FI 10) (by decide) 10 n E (pl:Nat) h D rfl (λw=>yY a b w)
 ·obtain⟨b,a,r,rfl,J,U⟩:=two I;obtain⟨rfl,rfl,rfl⟩:=qU A;exact lf (k:=FI 11) (by decide) 11 n E (pl:Nat) h D rfl (λw=>uK a b w)
 ·obtain⟨b,r,rfl,J⟩:=one I;obtain⟨rfl,rfl,rfl⟩:=qU A;have:=MI 12 n E (pl:Nat) h D (oh b r) (λw=>BW (J.2 rfl) w)
  simp only[] at this;rw[k9,jY] at this;exact this
 ·obtain⟨b,a,r,rfl,J,U⟩:=two I;obtain⟨rfl,rfl,rfl⟩:=qU A;exact lf (k:=FI 13) (by decide) 13 n E (pl:Nat) h D rfl (λw=>BV a b w)
 ·obtain⟨b,a,r,rfl,J,U⟩:=two I;obtain⟨rfl,rfl,rfl⟩:=qU A;exact lf (k:=FI 14) (by decide) 14 n E (pl:Nat) h D rfl (λw=>Gn a b w)
 ·obtain⟨b,r,rfl,J⟩:=one I;obtain⟨rfl,rfl,rfl⟩:=qU A;have:=FG 15 n E (pl:Nat) h D;simp only[] at this;rw[oh,k9] at this;have e2:(if b=0 then E else V)=(if(b==0)=true then E else V):=by simp
  rw[e2] at this;exact this
 obtain⟨rfl,rfl,rfl⟩:=qU A;exact zN 16 n E (pl:Nat) (dV.refl h)
section
attribute [local go_sem ↓] Go.wp_at_zero Go.wp_at_succ
variable {v i lv l lp jmp}
theorem dH.trans {w D E lp jmp v G I J O c1 c2} (V:dH w D lp jmp v G J c1) (Y:∀z,lE D lp jmp z G J c1->dH D E lp jmp z I O c2):dH w E lp jmp v I O c2:=by
 obtain⟨z,a1,R,U⟩:=V;obtain⟨Z,a2,o2,f2⟩:=Y z a1;refine⟨Z,a2,R.trans o2 (λ_ _ h=>h) (λi hi h=>?_),λb hb=>?_⟩
 ·rcases h with h|h
  ·exact .inl h
  ·rcases U i h with h|h
   ·exact .inr h
   ·omega
 ·rcases f2 b hb with h|h
  ·exact U b h
  ·right;have:=R.size;omega
theorem xN (jmp) (d):∀m t k z p T,(fP jmp d m t k p T).map er=(fP jmp d m t z p T).map er:=by
 induction d with
 |zero=>intros;rfl
 |succ d ih=>
  intro m t k z p T;have E:(fP jmp (d+1) none t k p 0).map er=(fP jmp (d+1) none t z p 0).map er:=by
   simp only[fP]
   (repeat' split)<;>simp only[Sv,Sa,SA,er]
   ·rw[ih _ _ k z,ih _ _ k z,ih _ (t.kid 2) k z]
   ·rw[ih _ _ k z]
   ·rw[ih _ (t.kid 0) k z,ih _ (t.kid 1) _ ⟨cP z.cl d (t.kid 0)::z.st,z.cl⟩]
  cases m with
  |none=>exact E
  |some this=>
   cases J:oN jmp t.k with
   |false=>
    have I:∀k T,fP jmp (d+1) (some this) t k p T=fP jmp (d+1) none t k p 0++((if this then[⟨12,0,0,⟨2::k.st,k.cl⟩⟩] else[])++[⟨15,0,T,⟨2::k.st,k.cl⟩⟩]):=λk T=>by
     simp only[fP,J];rfl
    simp only[I,Sv,E]
    cases this<;>rfl
   |true=>
    simp only[fP,J,Td]
    (repeat' split)
    all_goals first
     |rfl
     |exact ih _ _ k z _ _
     |(simp only[Sv,Sa,er];rw[ih _ (t.kid 0) k z,ih _ (t.kid 1) k z,ih _ (t.kid 2) k z])
     |(simp only[Sv];rw[ih _ (t.kid 0) k z,ih _ (t.kid 1) k z])
def BR (w:World) (v:Value) (D:List UInt8):Prop:=w.ownsRow 0 5 1 v D.length (D.map λc=>Value.int .u8 (c.toNat:Nat))
theorem BR.sl {l:LB} (h:BR w v l):∃a cap,v= .slice a l.length cap:=by
 obtain⟨E,h⟩:=h;rcases h with⟨rfl,z⟩|⟨g,cap,D,rfl,G,I,J,O,h3,R⟩
 ·exact⟨none,0,by rw[z]⟩
 exact⟨_,_,rfl⟩
theorem GR:(prog.info? 5).map (λi=>(i.zero,i.size,i.bytes))=some (some (.int .u8 0),1,1):=by kernel_rfl
theorem Dn (n:Int) (c):∀k,k<=c->(nY n c).take k=(List.range k).map λj=>rz n (c - 1 - j):=by
 intro k G;apply TF;intro i;by_cases D:i<k
 ·have E:i<(nY n c).length:=by rw[mQ];omega
  rw[Ud,RK D,Se,TJ D,RI E];have z:=AG n c i (by omega)
  unfold cy at z;rw[RG,RI E] at z;simp only[TM,TH] at z⊢;rw[Tq.1 z]
 rw[Ud,RH D,R2 (by simp;omega)]
structure Rm (w wr) (v bv:Value) (bs) (n) (c k):Prop where
 row:BR wr bv (bs++(nY n c).take k)
 only:cK (λb=>v.ownBlock=some b) w wr
 own:∀b,bv.ownBlock=some b->v.ownBlock=some b\/w.heap.size<=b
theorem uy {z:LB} (n) (c:Nat) (hc:c<=8) (h:BR w v z) (hl:z.length<=10000):
 Calls prog 140 #[v,Iq n,Iq c] w λe w'=>(∃v',e= .returned v'/\BR w' v' (z++nY n c)/\ ∀b,v'.ownBlock=some b->v.ownBlock=some b\/w.heap.size<=b)/\cK (λb=>v.ownBlock=some b) w w':=by
 obtain⟨i0,hi,hz⟩:=Su.1 GR;simp only[Sj] at hz;obtain⟨ac,ad,ae⟩:=hz;have J:Hid (Rm w w v v z n c 0):=⟨by simpa using h,cK.refl _ _,λ_ R=> .inl R⟩
 obtain⟨a,cap,hv⟩:=h.sl;clear h;go_enter func140,ntmps140;go_wp2;go_loopw [0,7] (λbv lv wr=> ∃k,k<=c/\lv= Iq (c - 1 - k)/\Hid (Rm w wr v bv z n c k)) (λ_ lv _=>((intOf lv)+1).toNat)
 case atStart=>exact⟨0,R0 _,by simp,J.out⟩
 case round=>
  obtain⟨k,hk,rfl,U⟩:=hrel;obtain⟨E,O,I⟩:=U.out;by_cases ai:k<c
  ·obtain⟨a2,G,rfl⟩:=E.sl;obtain⟨m,hm⟩:∃m,c=k+1+m:=⟨c - (k+1),by omega⟩
   have Z:(c:Int) - 1 - k=(m:Int):=by omega
   have D:(z++(nY n c).take k).length=z.length+k:=by rw[RT,Up,mQ];omega
   rw[Z];rw[D] at E I⊢;have aj:m<=7:=by omega
   have HR:Hid (wr.ownsRow 0 5 1 (.slice a2 (z.length+k) G) (z.length+k) ((z++(nY n c).take k).map λc=>Value.int .u8 c.toNat)):=by
    have h:=E;unfold BR at h;rw[D] at h;exact h
   have HV:Hid (n / 2^(8*m) %256=((rz n m).toNat)):=by
    show _=_;rw[CB,Int.pow_mul];have h1:0<=(n /(2^8)^m) %256:=UL _ (by decide)
    have h2:((2:Int)^8)=256:=by decide
    rw[h2] at h1⊢;omega
   have HT:Hid (z++(nY n c).take (k+1)=(z++(nY n c).take k)++[rz n m]):=by
    show _=_;rw[Dn n c (k+1) (by omega),Dn n c k (by omega),Vf,Sv,Sk]
    have e:c - 1 - k=m:=by omega
    simp[e]
   have HO:=Hi O;have HF:=Hi I;have aa:=Hi D;have HM:=Hi hm;clear E U J O I D hm Z;go_wp2_with (
    at_builtin;go_must (refine wpList_append_lies _ (by rfl) _ _ 155 (by rfl) 0 5 i0 (.int .u8 0) 1 1 underlying155 hi ac ad ae (by rfl) (by decide) _ _ _ (by rfl) (HR.out.alloc _) ⟨wr.heap.size,0,none⟩ 1 1 [.int .u8 (n / 2^(8*m) %256)] (by rfl) (by rfl) (World.news_of_block (RO wr _)) (λx hx=>by simp at hx;rcases hx with rfl;rfl) (by decide) (by unfold maxLen;omega) (by omega) (by simp) _ rfl ?_)
    intro gg ab w5 V Y af ah)
   have HN:Hid (Rm w w5 v (Sq gg (z.length+k+1) ab) z n c (k+1)):=by
    have ag:=((cK.refl (λb=>(Value.slice a2 (z.length+k) G).ownBlock=some b) wr).alloc _).grown Y (λk hk=> .inl hk)
    refine⟨?_,HO.out.trans ag (λ_ _ h=>h) (λi hi h=>?_),λb R=>?_⟩
    ·rw[HT.out];unfold BR;rw[RT,aa.out,Sv];have e:List.map (λc=>Value.int .u8 c.toNat) [rz n m]=[.int .u8 (n / 2^(8*m) %256)]:=by rw[HV.out];rfl
     rw[e];exact V
    ·rcases HF.out i h with h|h
     ·exact h
     omega
    simp[Value.ownBlock] at R;subst R;rcases af with h|h
    ·exact HF.out _ h
    right;have:=HO.out.size;rw[h,RW];omega
   go_roundw
   case rel=>exact⟨k+1,by omega,by have:=HM.out;congr 1;omega,HN.out⟩
   case measure=>have:=HM.out;simp[intOf]
  obtain rfl:k=c:=by omega
  have HL:=Hi U.out;clear E O I U J;go_wp2;go_ret;obtain⟨E,O,I⟩:=HL.out;rw[Sz (by rw[mQ];exact RL _)] at E
  exact⟨⟨_,rfl,E,I⟩,O⟩
def tD (l:List L3) (i:Nat):Nat:=3+((l.take i).map λx=>1+dt x.op).sum
theorem MJ (l:List L3):tD l 0=3:=by simp[tD]
theorem Dp {l:List L3} (h:i<l.length):tD l (i+1)=tD l i+(1+dt (l.getD i gk).op):=by
 unfold tD;rw[TG,RI h,RG,RI h,Sv,List.sum_append];simp only[Option.toList_some,Sa,SA,Uk,List.sum_nil,TM];omega
theorem FJ (l:List L3) (i):tD l i<=3+9*i:=by
 induction i with
 |zero=>simp[tD]
 |succ i ih=>
  by_cases h:i<l.length
  ·rw[Dp h];have:=mh (l.getD i gk).op;omega
  unfold tD at ih⊢;rw[Sz (by omega)] at ih⊢
  omega
def oW (l:List L3) (k:Nat):List Int:=(List.range l.length).map λi=>if i<k then((tD l i:Nat):Int) else 0
theorem tE (l:List L3) (k):(oW l k).length=l.length:=by simp[oW]
theorem MK (l) {k:Nat} (h:k<l.length):(oW l k).set k (tD l k)=oW l (k+1):=by
 apply TF;intro i;by_cases E:i<l.length
 ·have e:∀k,(oW l k)[i]?=some (if i<k then((tD l i:Nat):Int) else 0):=λk=>by simp[oW,E]
  by_cases z:k=i
  ·subst z;rw[List.getElem?_set_self (by rw[tE];exact h),e,RK (by omega)]
  rw[UI z,e,e];by_cases D:i<k
  ·rw[RK D,RK (by omega)]
  rw[RH D,RH (by omega)]
 rw[R2 (by rw[SW,tE];omega),R2 (by rw[tE];omega)]
def Dq (w:World) (lv:Value) (l:List L3):Prop:= ∃a cap,lv= .slice a l.length cap/\ ∀j,j<l.length-> ∃g,a=some ⟨g,0,none⟩/\w.cell? ⟨g,j*4,none⟩=some (Iq ((l.getD j gk).op:Nat))/\w.cell? ⟨g,j*4+1,none⟩=some (Iq (l.getD j gk).n)/\w.cell? ⟨g,j*4+2,none⟩=some (Iq ((l.getD j gk).tj:Nat))/\w.cell? ⟨g,j*4+3,none⟩=some (Iq 0)
theorem Dq.below {w w':World} (h:Dq w lv l) (z:Bl w w'):Dq w' lv l:=by
 obtain⟨a,cap,e,E⟩:=h;refine⟨a,cap,e,λj G=>?_⟩
 obtain⟨g,I,c0,c1,c2,c3⟩:=E j G;have D:=RN w _ c0;exact⟨g,I,by rw[z.cell (p:=⟨g,j*4,none⟩) D];exact c0,by rw[z.cell (p:=⟨g,j*4+1,none⟩) D];exact c1,by rw[z.cell (p:=⟨g,j*4+2,none⟩) D];exact c2,by rw[z.cell (p:=⟨g,j*4+3,none⟩) D];exact c3⟩
theorem lE.ins {dep cells} (h:lE w lp jmp v l dep cells):Dq w v l:=by
 by_cases E:0<l.length
 ·obtain⟨g,cap,e,_,I⟩:=World.ownsRow.form h.row E;subst e;refine⟨_,cap,rfl,λj z=>⟨g,rfl,?_⟩⟩
  obtain⟨a,b,c,d⟩:=MB l j z;have D:=λq O=>TB h.row q (by omega)
  exact⟨(D (j*4) (by omega)).trans a,(D (j*4+1) (by omega)).trans b,(D (j*4+2) (by omega)).trans c,(D (j*4+3) (by omega)).trans d⟩
 have e:l=[]:=SI (by omega)
 subst e;obtain⟨R,G⟩:=h.row;rcases G with⟨rfl,_⟩|⟨g,cap,J,rfl,_⟩
 ·exact⟨none,0,rfl,λj z=>by simp at z⟩
 exact⟨_,cap,rfl,λj z=>by simp at z⟩
theorem Dr:(prog.info? 3).map (λi=>(i.zero,i.size,i.bytes))=some (some (Iq 0),1,8):=by kernel_rfl
theorem Ds {lv:Value} (h:Dq w lv l) (hl:l.length<=5000):
 Calls prog 137 #[lv] w λe w'=>(∃g,e= .returned (Sq g l.length l.length)/\w.heap.size<=g/\w'.heap[g]?=some (.cells ((oW l l.length).map (Value.int .i64)).toArray 3 (0,0)))/\Bl w w':=by
 have ae:=run_make_row' 38 3 (Iq 0) 8 underlying38 Dr rfl .i64 .i64 l.length (by omega) (by omega)
 have HI:=Hi h;have U:=λV n tj w=>qJ V n tj 0 w
 obtain⟨a,cap,rfl,_⟩:=h;have I:Hid ((w.alloc (.cells (madeCells #[Iq 0] l.length) 3)).heap[w.heap.size]?=some (.cells ((oW l 0).map (Value.int .i64)).toArray 3 (0,0))/\Bl w (w.alloc (.cells (madeCells #[Iq 0] l.length) 3))):=by
  refine⟨?_,(RP _ _).alloc (RL _) _⟩;have e:madeCells #[Iq 0] l.length=((oW l 0).map (Value.int .i64)).toArray:=by
   apply Array.ext
   ·rw[TE];simp[oW]
   intro i h1 h2;simp[madeCells,oW,UN]
  rw[<-e];exact RO w _
 unfold fV at U;go_enter func137,ntmps137;go_wp2_with fail;generalize w.alloc (.cells (madeCells #[Iq 0] l.length) 3)=W0 at*;go_loopw [4,12] (λav R wr=> ∃k,k<=l.length/\R= Iq k/\av= Iq (tD l k)/\Hid (wr.heap[w.heap.size]?=some (.cells ((oW l k).map (Value.int .i64)).toArray 3 (0,0))/\Bl w wr)) (λ_ R _=>l.length - (intOf R).toNat)
 case atStart=>exact⟨0,R0 _,rfl,by rw[MJ];rfl,I.out⟩
 case round=>
  obtain⟨k,hk,rfl,rfl,O⟩:=hrel;obtain⟨D,E⟩:=O.out;by_cases G:k<l.length
  ·obtain⟨a',ac,Y,Z⟩:=Dq.below HI.out E;simp only[Sb,TV] at Y;obtain⟨rfl,rfl⟩:=Y;obtain⟨g,rfl,c0,c1,c2,c3⟩:=Z k G;have af:0<=k/\k<l.length:=by omega
   have ad:=FJ l k;have HS:=Hi (Dp G);have ag:=mh (l.getD k gk).op;have aa:=cq D;have ai:wr.cell? ⟨w.heap.size,k,none⟩=some (Iq ((oW l k).getD k 0)):=by
    rw[RM wr _ k _ _ _ D,RY,Se,RG,RI (by rw[tE];exact G)];rfl
   have aj:wr.frozen? ⟨w.heap.size,k,none⟩=false:=by simp[World.frozen?,D]
   have HB:Hid (∀o J,Below ((wr.setCell ⟨w.heap.size,k,none⟩ (Iq (tD l k))).alloc o).heap.size ((wr.setCell ⟨w.heap.size,k,none⟩ (Iq (tD l k))).alloc o) J->J.heap[w.heap.size]?=some (.cells ((oW l (k+1)).map (Value.int .i64)).toArray 3 (0,0))/\Bl w J):=λo J hb=>by
    have q0:Bl w (wr.setCell ⟨w.heap.size,k,none⟩ (Iq (tD l k))):=E.setCell (RL _) _;have q1:Bl w ((wr.setCell ⟨w.heap.size,k,none⟩ (Iq (tD l k))).alloc o):=q0.alloc q0.size _;refine⟨(hb.block _ (by simp;omega)).trans ((RV _ o _ (by simpa using aa)).trans ?_),q1.trans (hb.mono q1.size)⟩
    rw[R3 wr _ k _ _ _ D,<-MK l G,Ve];simp
   generalize tD l k=pp at*;generalize (l.getD k gk).op=V at*;generalize (l.getD k gk).n=nn at*;generalize (l.getD k gk).tj=tt at*;generalize (oW l k).getD k 0=z at*;go_wp2_with (first|(go_at_call 139;refine(U _ _ _ _).mono ?_;rintro e J ⟨rfl,ab⟩))
   exact⟨⟨k+1,by omega,by go_num,by rw[HS.out];congr 1,HB.out _ _ ab⟩,by simp[intOf];omega⟩
  obtain rfl:k=l.length:=by omega
  have HL:=Hi O.out;go_wp2;go_ret;exact⟨⟨_,rfl,RL _,HL.out.1⟩,HL.out.2⟩
end
end Go.Proofs.YtfkdailfcmnjlaaGreatDoor
