/-
  A part.
-/
import Derived.Test.YtfkdailfcmnjlaaGreatDoorCompiles15
set_option linter.all false
set_option maxHeartbeats 40000000
set_option maxRecDepth 1000000
namespace Go.Proofs.YtfkdailfcmnjlaaGreatDoor
open Go Go.RowKit Tryz
section
attribute [local go_sem ↓] Go.wp_at_zero Go.wp_at_succ
variable {g z ts i x L r ks rb gl cl s w D b f a}
theorem Lt (h:P g z ts i L x=some r) (D:r.ok=true) (E:z<=6):∃new,r.L=L++new:=
 (zR g z ts i L x L.length r h D (RL _) (λk G I=>by omega) (by omega) (.inl E)).more
def fF (f R lv rb gl cl:Nat) (ts:List Tok):Prop:= ∀g,g<=f-> ∀(z:Q) (D:World) (L:List Pt) (G:Rd),RR rb gl cl ts z D->z.bad=false->P g lv ts z.i L 0=some G->Calls prog R #[Pq rb] D (kO rb gl cl ts z D G)
def eH (ks:List Nat):Obj:= .cells (ks.map λ(k:Nat)=>Value.int .i64 k).toArray 158 (0,0)
theorem pL {w:World} (h:w.heap[z]?=some (eH ks)):∀j,j<ks.length->w.cell? ⟨z,j,none⟩=some (Iq (ks.getD j 0)):=λj D=>by
 rw[RM w z j _ _ _ h];simp[RG,RI D]
def Rv (f rb gl cl:Nat) (ts:List Tok) (s:Q) (w:World) (n:Nat) (r:Rd) (v:Value) (wr:World):Prop:=
 ∃s' b,v= Pq b/\RR rb gl cl ts s' wr/\PF rb w wr/\((s'={s with i:=s'.i}/\ ∃g L x,g<=f/\P g (10+n) ts s'.i L x=some r/\dm L rb wr x b)\/(r.ok=false/\s'=gd ts {s with i:=r.i}))
def NC (rb:Nat) (w:World):Nat:=(intOf ((w.cell? ⟨rb,1,none⟩).getD (Iq 0))).toNat
theorem ns (h:RR rb gl cl ts s w):NC rb w=s.i:=by
 unfold NC;rw[h.cells.1.2.1];simp[intOf]
theorem jt {i:Nat} (h:i<ts.length):cr ts i∈ts:=by
 unfold cr;rw[RG,RI h];exact R4 h
theorem qs (h:dm L D w x b) (E:∃new,z=L++new):dm z D w x b:=by
 obtain⟨new,rfl⟩:=E;exact h.more (by simp) (λk G=>by simp[RG,Si G])
def Lu (rb gl cl:Nat) (ts:List Tok) (s':Q) (z:Rd) (O:Nat) (D:World):Prop:=(z.ok=true/\RR rb gl cl ts {s' with i:=z.i} D/\dm z.L rb D z.top O)\/(z.ok=false/\RR rb gl cl ts (gd ts {s' with i:=z.i}) D)
theorem tX (h:RR rb gl cl ts s w) (hW:∀t∈ts,ik t) (J:s.bad=false) (n fn) (au:n=0\/n=1\/n=4) (hf:fF f fn (n+1) rb gl cl ts) (ah:vF fn) (jb)
 (Z:w.heap[jb]?=some (eH (j9 n))) (L) (r) (hP:P (f+1) n ts s.i L 0=some r):
 Calls prog 246 #[Pq rb,mv fn rb,Sq jb (j9 n).length (j9 n).length] w (kO rb gl cl ts s w r):=by
 obtain⟨a,ai,aj⟩:=jd (by unfold di;omega) hP
 have ak:=hf f (RL _) s w L a h J ai;have av:jb≠rb:=λe=>by rw[e,h.rd] at Z;simp[mB,eH] at Z
 have aw:=cq Z;have H1:=Hi aj;have ar:=ah;unfold mv;unfold vF at ar;clear hP ai aj;go_enter func246,ntmps246;go_wp2_with fail;apply ak.mono;rintro e w1 ⟨b1,rfl,F1,hL⟩;have R:Rv f rb gl cl ts s w n r (Pq b1) w1:=by
  rcases H1.out with⟨D,E⟩|⟨D,rfl⟩
  ·rcases hL with⟨_,z,hc⟩|⟨hh,_⟩
   ·exact⟨_,b1,rfl,z,F1,.inl ⟨rfl,f,a.L,a.top,RL _,E,hc⟩⟩
   rw[D] at hh;simp at hh
  rcases hL with⟨hh,_⟩|⟨_,z⟩
  ·rw[D] at hh;simp at hh
  exact⟨_,b1,rfl,z,F1,.inr ⟨D,rfl⟩⟩
 have ax:=Hi R;clear hL ak F1 H1 R;go_wp2;have HJ:=Hi Z;have HG:=Hi J;clear Z h J;go_loopw [7] (λv wr=>Rv f rb gl cl ts s w n r v wr) (λ_ wr=>ts.length - NC rb wr)
 case atStart=>exact ax.out
 case round=>
  obtain⟨s',b,rfl,z,U,ab⟩:=hrel;have ht:=hW _ (jt z.lt);have ac:wr.drew.heap[jb]?=some (eH (j9 n)):=by show wr.heap[jb]?=_;rw[U.block _ aw av];exact HJ.out
  have am:n<=4:=by omega
  have ay:(j9 n).length<=100:=by rcases au with rfl|rfl|rfl<;>decide
  have HK:=jf z;have V:=ky (j9 n) (cz (cr ts s'.i)) jb wr.drew ay (pL ac);have G:=zg am ht;cases I:(j9 n).contains (cz (cr ts s'.i)) with
  |false=>
   rw[I] at V G;have HL:Hid (kO rb gl cl ts s w r (.returned (Pq b)) wr.drew):=by
    refine⟨b,rfl,U.drew,?_⟩;rcases ab with⟨O,g,L',x,hg,E,hc⟩|⟨D,O⟩
    ·cases g with
     |zero=>rw[P] at E;simp at E
     |succ g=>
      have:=om (by unfold di;omega) E G
      subst this;exact .inl ⟨rfl,by rw[<-O];exact z.drew,hc.keep λk _ _ _ _=>rfl⟩
    exact .inr ⟨D,by rw[<-O];exact z.drew⟩
   clear ab I G ht ac z U;go_wp2_with fail;apply HK.mono;rintro e w' ⟨rfl,rfl⟩;go_wp2_with fail;apply V.mono;rintro e w' ⟨rfl,rfl⟩;go_wp2;go_ret;exact HL.out
  |true=>
   rw[I] at V G;have ad:cz (cr ts s'.i)≠0:=λe=>by
    rw[e,Sd] at I;have:=pJ n am 0 I;omega
   have ag:=z.more ad;rcases ab with⟨O,g,L',x,hg,E,hc⟩|⟨D,O⟩
   ·cases g with
    |zero=>rw[P] at E;simp at E
    |succ g=>
     obtain⟨bb,ae,aa⟩:=nG (by unfold di;omega) E G
     have an:s'.bad=false:=by rw[O];exact HG.out
     have af:=Ca z.drew ag fn b ah (Lu rb gl cl ts s' bb) (λw1 h1 F1=>by
      apply(hf g (by omega) {s' with i:=s'.i+1} w1 L' bb h1 an ae).mono
      rintro e w2 ⟨b2,h2,h3,Y⟩;exact⟨b2,h2,h3,Y⟩)
     have HH:=Hi aa;have HP:=Hi ae;have HS:=Hi O;have az:=Hi hc;have HR:=Hi z;have HF:=Hi U;unfold mv at af;clear I G ht ac z U aa ae O hc E an ad;go_wp2_with fail;apply HK.mono;rintro e w' ⟨rfl,rfl⟩;go_wp2_with fail;apply V.mono;rintro e w' ⟨rfl,rfl⟩;go_wp2_with fail;apply af.mono;rintro e w' ⟨b2,w3,rfl,hA,F3,rfl⟩;clear HK V af;have HA:=Hi hA;have ao:=Hi F3;clear hA F3;go_wp2;have hB:=mD w3 (cr ts s'.i) [b,b2];rw[<-oE] at hB;have hF:=(HF.out.drew.trans ao.out).trans (PF.of_below hB);rcases HA.out with⟨D,h3,aA⟩|⟨D,h3⟩
     ·have Y:=h3.below hB;have ap:=zR g (n+1) ts (s'.i+1) L' 0 L'.length bb HP.out D (RL _) (λk h1 h2=>by omega) (by omega) (.inl (by omega))
      have aC:=ap.fwd;refine⟨?_,by rw[ns Y,ns HR.out];simp only[];have:=Y.lt;simp only[] at this;omega⟩
      rcases HH.out with⟨no,_⟩|⟨_,⟨aD,_⟩|⟨_,E⟩⟩
      ·rw[D] at no;simp at no
      ·omega
      refine⟨_,_,rfl,Y,hF,.inl ⟨by rw[HS.out],g,_,_,by omega,E,?_⟩⟩
      rw[oE];refine vG h3.rlt rfl (by simp) λj Z=>?_
      have aB:=qs ((az.out.pf HR.out (PF.refl rb wr).drew).pf HR.out.drew ao.out) ap.more;match j,Z with
      |0,_=>exact aB
      |1,_=>exact aA
     have Y:=h3.below hB;refine⟨?_,by rw[ns Y,ns HR.out];simp only[gd];omega⟩
     rcases HH.out with⟨_,rfl⟩|⟨aq,_⟩
     ·exact⟨_,_,rfl,Y,hF,.inr ⟨D,by rw[HS.out]⟩⟩
     rw[D] at aq;simp at aq
   exfalso;apply ad;have:s'.i=ts.length - 1:=by rw[O];rfl
   rw[this];exact z.fin
def sL (U rb gl cl:Nat) (ts:List Tok):Prop:= ∀(z:Q) (D:World),RR rb gl cl ts z D->z.bad=true->z.i=ts.length - 1->Calls prog U #[Pq rb] D (Gp rb gl cl ts z D)
theorem tY (h:RR rb gl cl ts s w) (Z:s.bad=true) (O:s.i=ts.length - 1) (R) (hf:sL R rb gl cl ts) (aa:vF R) (ks) (ab:ks.length<=100) (J:0∉ks) (E)
 (G:w.heap[E]?=some (eH ks)):
 Calls prog 246 #[Pq rb,mv R rb,Sq E ks.length ks.length] w (Gp rb gl cl ts s w):=by
 have z:=hf s w h Z O;have ac:E≠rb:=λe=>by rw[e,h.rd] at G;simp[mB,eH] at G
 have ad:=cq G;have U:=aa;unfold mv;unfold vF at U;have HJ:=Hi G;have HI:=Hi O;have ae:Hid (ks.contains 0=false):=by
  show _=_;rw[Tv];intro e;rw[Sd] at e;exact J e
 go_enter func246,ntmps246;go_wp2_with fail;apply z.mono;rintro e V ⟨b1,rfl,Y,D⟩;have z:=Hi Y;have af:=Hi D;have HK:=jf D;have I:=ky ks (cz (cr ts s.i)) E V.drew ab (pL (by show V.heap[E]?=_;rw[Y.block _ ad ac];exact HJ.out))
 have hz:cz (cr ts s.i)=0:=by rw[HI.out];exact D.fin
 rw[hz] at HK I;rw[ae.out] at I;go_wp2;go_loopw [7] (λv wr=>v= Pq b1/\wr=V) (λ_ _=>0)
 case atStart=>exact⟨rfl,rfl⟩
 case round=>
  obtain⟨rfl,rfl⟩:=hrel;go_wp2_with fail;apply HK.mono;rintro e w' ⟨rfl,rfl⟩;go_wp2_with fail;apply I.mono;rintro e w' ⟨rfl,rfl⟩;go_wp2;go_ret;exact⟨b1,rfl,z.out.drew,af.out.drew⟩
theorem Lv (h:RR rb gl cl ts s w) (Y:s.bad=true) (O:s.i=ts.length - 1) (R) (hf:sL R rb gl cl ts) (Z:vF R) (ks) (aa:ks.length<=100) (J:0∉ks) (E)
 (G:w.heap[E]?=some (eH ks)):
 Calls prog 282 #[Pq rb,mv R rb,Sq E ks.length ks.length] w (Gp rb gl cl ts s w):=by
 have z:=hf s w h Y O;have ab:E≠rb:=λe=>by rw[e,h.rd] at G;simp[mB,eH] at G
 have ac:=cq G;have U:=Z;unfold mv;unfold vF at U;have HJ:=Hi G;have HI:=Hi O;have ad:Hid (ks.contains 0=false):=by
  show _=_;rw[Tv];intro e;rw[Sd] at e;exact J e
 go_enter func282,ntmps282;go_wp2_with fail;apply z.mono;rintro e w1 ⟨b1,rfl,V,D⟩;have z:=Hi V;have ae:=Hi D;have HK:=jf D;have I:=ky ks (cz (cr ts s.i)) E w1.drew aa (pL (by show w1.heap[E]?=_;rw[V.block _ ac ab];exact HJ.out))
 have hz:cz (cr ts s.i)=0:=by rw[HI.out];exact D.fin
 rw[hz] at HK I;rw[ad.out] at I;go_wp2_with fail;apply HK.mono;rintro e w' ⟨rfl,rfl⟩;go_wp2_with fail;apply I.mono;rintro e w' ⟨rfl,rfl⟩;go_wp2;go_ret;exact⟨b1,rfl,z.out.drew,ae.out.drew⟩
theorem Lw (h:RR rb gl cl ts s w) (hW:∀t∈ts,ik t) (O:s.bad=false) (fn) (hf:fF f fn 4 rb gl cl ts) (ag:vF fn) (jb)
 (U:w.heap[jb]?=some (eH (j9 3))) (L) (r) (hP:P (f+1) 3 ts s.i L 0=some r):
 Calls prog 282 #[Pq rb,mv fn rb,Sq jb (j9 3).length (j9 3).length] w (kO rb gl cl ts s w r):=by
 obtain⟨a,ah,ai⟩:=jd (by unfold di;omega) hP
 have aj:=hf f (RL _) s w L a h O ah;have ap:jb≠rb:=λe=>by rw[e,h.rd] at U;simp[mB,eH] at U
 have aq:=cq U;have H1:=Hi ai;have an:=ag;unfold mv;unfold vF at an;have HJ:=Hi U;have HG:=Hi O;generalize aa:(j9 3).length=jl;have ar:=Hi aa;go_enter func282,ntmps282;go_wp2_with fail;apply aj.mono;rintro e V ⟨b1,rfl,F1,hL⟩;have R:∃s1,RR rb gl cl ts s1 V/\((s1={s with i:=a.i}/\a.ok=true/\P f 13 ts a.i a.L a.top=some r/\dm a.L rb V a.top b1)\/(r.ok=false/\s1=gd ts {s with i:=r.i})):=by
  rcases H1.out with⟨z,E⟩|⟨z,rfl⟩
  ·rcases hL with⟨_,D,hc⟩|⟨hh,_⟩
   ·exact⟨_,D,.inl ⟨rfl,z,E,hc⟩⟩
   rw[z] at hh;simp at hh
  rcases hL with⟨hh,_⟩|⟨_,D⟩
  ·rw[z] at hh;simp at hh
  exact⟨_,D,.inr ⟨z,rfl⟩⟩
 obtain⟨s',D,R⟩:=R;have ht:=hW _ (jt D.lt);have ab:V.drew.heap[jb]?=some (eH (j9 3)):=by show V.heap[jb]?=_;rw[F1.block _ aq ap];exact HJ.out
 have HK:=jf D;have G:=ky (j9 3) (cz (cr ts s'.i)) jb V.drew (by decide) (pL ab)
 have I:=zg (n:=3) (by omega) ht
 rw[ar.out] at G;have HF:=Hi F1;cases J:(j9 3).contains (cz (cr ts s'.i)) with
 |false=>
  rw[J] at G I;have HL:Hid (kO rb gl cl ts s w r (.returned (Pq b1)) V.drew):=by
   refine⟨b1,rfl,HF.out.drew,?_⟩;rcases R with⟨Y,_,E,hc⟩|⟨z,Y⟩
   ·subst Y;cases f with
    |zero=>rw[P] at E;simp at E
    |succ g=>
     have:=om (by unfold di;omega) E I
     subst this;exact .inl ⟨rfl,D.drew,hc.keep λk _ _ _ _=>rfl⟩
   exact .inr ⟨z,by rw[<-Y];exact D.drew⟩
  go_wp2_with fail;apply HK.mono;rintro e w' ⟨rfl,rfl⟩;go_wp2_with fail;apply G.mono;rintro e w' ⟨rfl,rfl⟩;go_wp2;go_ret;exact HL.out
 |true=>
  rw[J] at G I;have ac:cz (cr ts s'.i)≠0:=λe=>by
   rw[e,Sd] at J;have:=pJ 3 (by omega) 0 J;omega
  have af:=D.more ac;rcases R with⟨Y,_,E,hc⟩|⟨z,Y⟩
  ·cases f with
   |zero=>rw[P] at E;simp at E
   |succ g=>
    subst Y;obtain⟨bb,ad,Z⟩:=nG (by unfold di;omega) E I
    have ae:=Ca D.drew af fn b1 ag (Lu rb gl cl ts {s with i:=a.i} bb) (λw2 h1 F1=>by
     apply(hf g (by omega) {s with i:=a.i+1} w2 a.L bb h1 HG.out ad).mono
     rintro e w2 ⟨b2,h2,h3,h4⟩;exact⟨b2,h2,h3,h4⟩)
    have HH:=Hi Z;have HP:=Hi ad;have au:=Hi hc;have HR:=Hi D;unfold mv at ae;go_wp2_with fail;apply HK.mono;rintro e w' ⟨rfl,rfl⟩;go_wp2_with fail;apply G.mono;rintro e w' ⟨rfl,rfl⟩;go_wp2_with fail;apply ae.mono;rintro e w' ⟨b2,w3,rfl,hA,F3,rfl⟩;have HA:=Hi hA;have ak:=Hi F3;go_wp2;go_ret;have hB:=mD w3 (cr ts a.i) [b1,b2];rw[<-oE] at hB;refine⟨_,rfl,(HF.out.drew.trans ak.out).trans (PF.of_below hB),?_⟩;rcases HA.out with⟨z,h3,av⟩|⟨z,h3⟩
    ·have h4:=h3.below hB;rcases HH.out with⟨no,_⟩|⟨_,⟨_,ao⟩|⟨no,_⟩⟩
     ·rw[z] at no;simp at no
     ·subst ao;refine .inl ⟨rfl,h4,?_⟩;rw[oE];refine vG h3.rlt rfl (by simp) λj U=>?_
      have aw:=qs ((au.out.pf HR.out (PF.refl rb V).drew).pf HR.out.drew ak.out) (Lt HP.out z (by omega))
      match j,U with
      |0,_=>exact aw
      |1,_=>exact av
     exact absurd rfl no
    have h4:=h3.below hB;rcases HH.out with⟨_,rfl⟩|⟨am,_⟩
    ·exact .inr ⟨z,h4⟩
    rw[z] at am;simp at am
  exfalso;apply ac;have:s'.i=ts.length - 1:=by rw[Y];rfl
  rw[this];exact D.fin
theorem wP:vF 286:=enters_of func286 (by kernel_rfl) rfl
theorem yn:vF 285:=enters_of func285 (by kernel_rfl) rfl
theorem Gq:vF 284:=enters_of func284 (by kernel_rfl) rfl
theorem Gr:vF 283:=enters_of func283 (by kernel_rfl) rfl
theorem sM:vF 279:=enters_of func279 (by kernel_rfl) rfl
theorem Ao:vF 278:=enters_of func278 (by kernel_rfl) rfl
theorem Cb:vF 267:=enters_of func267 (by kernel_rfl) rfl
theorem Cc:vF 247:=enters_of func247 (by kernel_rfl) rfl
theorem wQ:vF 215:=enters_of func215 (by kernel_rfl) rfl
theorem Cd:vF 214:=enters_of func214 (by kernel_rfl) rfl
theorem mE (h:RR rb gl cl ts s w) (z:s.i=ts.length - 1):cz (cr ts s.i)=0:=by rw[z];exact h.fin
theorem ND {rb gl cl:Nat} {ts:List Tok}:sL 284 rb gl cl ts:=by
 intro s w h I z;have D:=qq h 3 285 286 (by rw[mE h z];omega) wP (λb w'=>PF rb w w'/\RR rb gl cl ts s w') ((EB h.drew I z).mono λe w' ⟨b,E,G,h3⟩=>⟨b,E,(PF.refl rb w).drew.trans G,h3⟩)
 unfold mv at D;go_enter func284,ntmps284;go_wp2_with fail;apply D.mono;rintro e w' ⟨b,rfl,E,G⟩;go_wp2;go_ret;exact⟨b,rfl,E,G⟩
theorem NF {rb gl cl:Nat} {ts:List Tok}:sL 283 rb gl cl ts:=by
 intro s w h E G;have z:(w.alloc (eH [6,7])).heap[w.heap.size]?=some (eH [6,7]):=RO w _;have D:=tY (h.alloc (eH [6,7])) E G 284 ND Gq [6,7] (by decide) (by decide) w.heap.size z
 unfold mv at D;have I:Hid (PF rb w (w.alloc (eH [6,7]))):=(PF.refl rb w).alloc _;go_enter func283,ntmps283;go_wp2_with fail;apply D.mono;rintro e w' ⟨b,rfl,J,O⟩;go_wp2;go_ret;exact⟨b,rfl,I.out.trans J,O⟩
theorem Ap {rb gl cl:Nat} {ts:List Tok}:sL 279 rb gl cl ts:=by
 intro s w h E G;have z:(w.alloc (eH [8,10,9])).heap[w.heap.size]?=some (eH [8,10,9]):=RO w _;have D:=Lv (h.alloc (eH [8,10,9])) E G 283 NF Gr [8,10,9] (by decide) (by decide) w.heap.size z
 unfold mv at D;have I:Hid (PF rb w (w.alloc (eH [8,10,9]))):=(PF.refl rb w).alloc _;go_enter func279,ntmps279;go_wp2_with fail;apply D.mono;rintro e w' ⟨b,rfl,J,O⟩;go_wp2;go_ret;exact⟨b,rfl,I.out.trans J,O⟩
theorem Lx {rb gl cl:Nat} {ts:List Tok}:sL 267 rb gl cl ts:=by
 intro s w h I z;have D:=qq h 19 278 279 (by rw[mE h z];omega) sM (λb w'=>PF rb w w'/\RR rb gl cl ts s w') ((Ap s _ h.drew I z).mono λe w' ⟨b,E,G,h3⟩=>⟨b,E,(PF.refl rb w).drew.trans G,h3⟩)
 unfold mv at D;go_enter func267,ntmps267;go_wp2_with fail;apply D.mono;rintro e w' ⟨b,rfl,E,G⟩;go_wp2;go_ret;exact⟨b,rfl,E,G⟩
theorem Ly {rb gl cl:Nat} {ts:List Tok}:sL 247 rb gl cl ts:=by
 intro s w h E G;have z:(w.alloc (eH [18])).heap[w.heap.size]?=some (eH [18]):=RO w _;have D:=tY (h.alloc (eH [18])) E G 267 Lx Cb [18] (by decide) (by decide) w.heap.size z
 unfold mv at D;have I:Hid (PF rb w (w.alloc (eH [18]))):=(PF.refl rb w).alloc _;go_enter func247,ntmps247;go_wp2_with fail;apply D.mono;rintro e w' ⟨b,rfl,J,O⟩;go_wp2;go_ret;exact⟨b,rfl,I.out.trans J,O⟩
theorem ED {rb gl cl:Nat} {ts:List Tok}:sL 215 rb gl cl ts:=by
 intro s w h E G;have z:(w.alloc (eH [17])).heap[w.heap.size]?=some (eH [17]):=RO w _;have D:=tY (h.alloc (eH [17])) E G 247 Ly Cc [17] (by decide) (by decide) w.heap.size z
 unfold mv at D;have I:Hid (PF rb w (w.alloc (eH [17]))):=(PF.refl rb w).alloc _;go_enter func215,ntmps215;go_wp2_with fail;apply D.mono;rintro e w' ⟨b,rfl,J,O⟩;go_wp2;go_ret;exact⟨b,rfl,I.out.trans J,O⟩
theorem rm {rb gl cl:Nat} {ts:List Tok}:sL 152 rb gl cl ts:=by
 intro s w h I z;have D:=qq h 14 214 215 (by rw[mE h z];omega) wQ (λb w'=>PF rb w w'/\RR rb gl cl ts s w') ((ED s _ h.drew I z).mono λe w' ⟨b,E,G,h3⟩=>⟨b,E,(PF.refl rb w).drew.trans G,h3⟩)
 unfold mv at D;go_enter func152,ntmps152;go_wp2_with fail;apply D.mono;rintro e w' ⟨b,rfl,E,G⟩;go_wp2;go_ret;exact⟨b,rfl,E,G⟩
theorem mF (h:RR rb gl cl ts s w) (ks) (O:ks.length<=100) (R:0∉ks):
 Calls prog 151 #[Pq rb,Sq w.heap.size ks.length ks.length] (w.alloc (eH ks)) λe w'=>e= .returned (pI ts s ks)/\RR rb gl cl ts (nP ts s ks) w'/\PF rb w w':=
 (Ln (h.alloc (eH ks)) ks w.heap.size O R (pL (RO w _))).mono λe w' ⟨U,V,h3⟩=>⟨U,V,((PF.refl rb w).alloc _).trans h3⟩
theorem me (h:ks.contains (cz (cr ts s.i))=true):nP ts s ks={s with i:=s.i+1}:=by unfold nP;rw[RK h]
theorem nT (h:ks.contains (cz (cr ts s.i))=false):nP ts s ks=gd ts s:=by unfold nP;rw[h];rfl
theorem pM (ts) (s:Q):gd ts (gd ts s)=gd ts s:=by unfold gd;simp
theorem fO (k x:Nat):[k].contains x=decide (x=k):=by
 rw[Ts,Sd];simp
theorem yo (hf:fF f 152 6 rb gl cl ts) (h:RR rb gl cl ts s w) (hW:∀t∈ts,ik t) (E:s.bad=false) (hk:cz (cr ts s.i)=3) (hg:g<=f) (V:P g 6 ts (s.i+1) L 0=some a)
 (J:(a.ok=true/\eE (cr ts a.i) [41]=true/\r={a with i:=a.i+1})\/(¬(a.ok=true/\eE (cr ts a.i) [41]=true)/\r.ok=false/\r.i=a.i)):
 Calls prog 285 #[Pq rb] w (kO rb gl cl ts s w r):=by
 have O:=mF h [3] (by decide) (by decide)
 rw[me (by rw[fO,hk];rfl)] at O
 have HR:=Hi J;have HP:=Hi V;have HG:=Hi E;generalize pI ts s [3]=wv at*;go_enter func285,ntmps285;go_wp2_with fail;apply O.mono;rintro e w1 ⟨rfl,h1,F1⟩;go_wp2_with fail;apply(hf g hg _ w1 L a h1 HG.out HP.out).mono;rintro e w2 ⟨b,rfl,F2,hL⟩;have G:∃D,RR rb gl cl ts D w2/\((a.ok=true/\D={s with i:=a.i}/\dm a.L rb w2 a.top b)\/(a.ok=false/\D=gd ts {s with i:=a.i})):=by
  rcases hL with⟨z,J,U⟩|⟨z,J⟩
  ·exact⟨_,J,.inl ⟨z,rfl,U⟩⟩
  ·exact⟨_,J,.inr ⟨z,rfl⟩⟩
 obtain⟨D,h2,G⟩:=G;have Y:=mF h2 [4] (by decide) (by decide)
 have hQ:Hid (nP ts D [4]=nP ts D [4]):=rfl;have aa:=Hi (F1.trans F2);have ab:=Hi G;have H2:=Hi h2;generalize pI ts D [4]=ae at*;go_wp2_with fail;apply Y.mono;rintro e w3 ⟨rfl,h3,F3⟩;go_wp2;go_ret;refine⟨b,rfl,aa.out.trans F3,?_⟩;have ht:=hW _ (jt H2.out.lt);have I:=sJ ht (x:=[41]) (by decide)
 rw[show kn [41]=4 from by decide] at I
 rcases ab.out with⟨z,rfl,U⟩|⟨z,rfl⟩
 ·simp only[] at I h3 U ht
  rcases HR.out with⟨_,hw,rfl⟩|⟨ac,R,ri⟩
  ·rw[me (by rw[fO];simpa using I.1 hw)] at h3
   exact .inl ⟨z,h3,U.pf H2.out F3⟩
  ·have ad: ¬eE (cr ts a.i) [41]=true:=λe=>ac ⟨z,e⟩
   rw[nT (by rw[fO];simpa using λe=>ad (I.2 e))] at h3
   exact .inr ⟨R,by rw[ri];exact h3⟩
 ·rcases HR.out with⟨Z,_⟩|⟨_,R,ri⟩
  ·rw[z] at Z;simp at Z
  ·rw[nT (by rw[fO,mE H2.out rfl];rfl),pM] at h3
   exact .inr ⟨R,by rw[ri];exact h3⟩
theorem yp (h:RR rb gl cl ts s w) (hk:cz (cr ts s.i)=19) (R:Nat->World->Prop)
 (HC:∀z,RR rb gl cl ts {s with i:=s.i+1} z->PF rb w z->Calls prog 267 #[Pq rb] z λe w'=> ∃b,e= .returned (Pq b)/\PF rb z w'/\R b w'):
 Calls prog 278 #[Pq rb] w λe w'=> ∃b D,e= .returned (Pq (D.heap.size+1))/\R b D/\PF rb w D/\w'=sK D (cr ts s.i) [b]:=by
 have HJ:Hid (∀D b,sK D (cr ts s.i) [b]=(D.alloc (.cells #[Pq b] 161 (0,0))).alloc (.cells #[Iq (cz (cr ts s.i)),Iq (cr ts s.i).pl,Iq (cY (cr ts s.i)),S (cG (cr ts s.i)),Sq D.heap.size 1 1,Iq 0] 229 (0,0))):=λ_ _=>rfl
 have U:=mF h [19] (by decide) (by decide)
 have V:[19].contains (cz (cr ts s.i))=true:=by rw[fO,hk];rfl
 rw[me V] at U;unfold pI at U;rw[RK V] at U;unfold mz at U;clear V hk;go_enter func278,ntmps278;go_wp2_with fail;apply U.mono;rintro e z ⟨rfl,h1,F1⟩;clear U;generalize cz (cr ts s.i)=E at*;generalize (cr ts s.i).pl=G at*;generalize cY (cr ts s.i)=I at*;generalize cG (cr ts s.i)=J at*;have ae:=h1.rlt;have h2:=(h1.alloc (eG E G I J)).drew;have F2:=((F1.alloc (eG E G I J)).drew);have Y:(z.alloc (eG E G I J)).drew.heap[z.heap.size]?=some (eG E G I J):=RO z _;have aa:=HC _ h2 F2;have e1:z.heap.size≠rb:=by omega
 have ab:=cq Y;have O:∀w',PF rb (z.alloc (eG E G I J)).drew w'->(Cq w' z.heap.size 0 (Iq E)/\Cq w' z.heap.size 1 (Iq G)/\Cq w' z.heap.size 2 (Iq I)/\Cq w' z.heap.size 3 (S J)):=λw' hf=>
  (jJ (by rw[hf.block _ ab e1];exact Y)).1
 have KF:=Hi O;have H2:=Hi h2;have ac:=Hi F2;have hS:=O _ (PF.refl _ _);clear HC h1 F1 h2 F2 Y O h;unfold eG at aa KF H2 ac hS ab;go_wp2;obtain⟨x0,x1,x2,x3⟩:=hS
 show Code.wp _ _ _ _ (z.alloc (.cells #[Iq E,Iq G,Iq I,S J] 160 (0,0)))
 generalize hg:z.alloc (.cells #[Iq E,Iq G,Iq I,S J] 160 (0,0))=w2 at*;generalize z.heap.size=Z at*;clear hg ae
 go_region_held3 (λw'=>w'.cell? ⟨Z,0,none⟩=some (Iq E)/\w'.cell? ⟨Z,1,none⟩=some (Iq G)/\w'.cell? ⟨Z,2,none⟩=some (Iq I)/\w'.cell? ⟨Z,3,none⟩=some (S J)) (first|exact KF.out _ ad|go_keep) ((refine aa.mono ?_;rintro e D ⟨b,rfl,ad,hR⟩))
 rename_i hHeld
 clear hHeld;go_wp2;go_ret;exact⟨b,D,rfl,hR,ac.out.trans ad,(HJ.out D b).symm⟩
end
variable {rb gl cl ts s a c b f w x}
def rq (rb gl cl:Nat) (ts:List Tok) (s:Q) (r:Rd) (b:Nat) (w':World):Prop:=(r.ok=true/\RR rb gl cl ts {s with i:=r.i} w'/\dm r.L rb w' r.top b)\/(r.ok=false/\RR rb gl cl ts (gd ts {s with i:=r.i}) w')
def Rw (ts:List Tok) (s:Q) (f:Nat) (c a:Rd) (D:Q):Prop:=(D={s with i:=a.i+1}/\a.ok=true/\P f 6 ts (a.i+1) a.L 0=some c)\/(c.ok=false/\D=gd ts {s with i:=c.i})
theorem zi (h:rq rb gl cl ts s a b w) (hW:∀t∈ts,ik t) (z:Nx f ts a c x) (J:x∈cZ.drop 3):
 ∃O,RR rb gl cl ts O w/\Rw ts s f c a (nP ts O [kn x]):=by
 unfold Nx at z;rcases h with⟨G,D,V⟩|⟨G,D⟩
 ·refine⟨_,D,?_⟩
  have U:=hW _ (jt D.lt);have E:=sJ U J;simp only[] at E
  by_cases I:eE (cr ts a.i) x=true
  ·rw[RK ⟨G,I⟩] at z
   exact .inl ⟨me (by rw[fO];simpa using E.1 I),G,z⟩
  ·rw[RH (λe=>I e.2)] at z
   exact .inr ⟨z.1,by rw[z.2];exact nT (by rw[fO];simpa using λe=>I (E.2 e))⟩
 ·rw[RH (λe=>by rw[G] at e;simp at e)] at z
  refine⟨_,D,.inr ⟨z.1,?_⟩⟩;have:=nQ x J;have R: ¬(0=kn x):=by unfold kn;omega
  rw[nT (by rw[fO,mE D rfl];simpa using R),pM,z.2]
theorem zj {s D:Q} (E:fF f 152 6 rb gl cl ts) (z:s.bad=false) (h:RR rb gl cl ts D w) (G:Rw ts s f c a D):
 Calls prog 152 #[Pq rb] w λe w'=> ∃b,e= .returned (Pq b)/\PF rb w w'/\rq rb gl cl ts s c b w':=by
 rcases G with⟨rfl,_,I⟩|⟨J,rfl⟩
 ·exact E f (RL _) {s with i:=a.i+1} w a.L c h z I
 ·refine(rm _ w h rfl rfl).mono ?_
  rintro e w' ⟨b,O,R,h3⟩;exact⟨b,O,R,.inr ⟨J,h3⟩⟩
section
attribute [local go_sem ↓] Go.wp_at_zero Go.wp_at_succ
variable {L r}
theorem Ce (hf:fF f 152 6 rb gl cl ts) (h:RR rb gl cl ts s w) (hW:∀t∈ts,ik t) (aa:s.bad=false) (hk:cz (cr ts s.i)=14) (an:P f 6 ts (s.i+1) L 0=some a)
 (ao:Nx f ts a b iX) (ap:Nx f ts b c iY) (aq:r.ok=c.ok) (ar:r.i=c.i) (au:c.ok=true->a.ok=true/\b.ok=true/\r=lN c (cr ts s.i) [a.top,b.top,c.top]):
 Calls prog 214 #[Pq rb] w (kO rb gl cl ts s w r):=by
 have HJ:Hid (∀Y b1 b2 b3,sK Y (cr ts s.i) [b1,b2,b3]=(Y.alloc (.cells #[Pq b1,Pq b2,Pq b3] 161 (0,0))).alloc (.cells #[Iq (cz (cr ts s.i)),Iq (cr ts s.i).pl,Iq (cY (cr ts s.i)),S (cG (cr ts s.i)),Sq Y.heap.size 3 3,Iq 0] 229 (0,0))):=λ_ _ _ _=>rfl
 have Z:=mF h [14] (by decide) (by decide)
 have ad:[14].contains (cz (cr ts s.i))=true:=by rw[fO,hk];rfl
 rw[me ad] at Z;unfold pI at Z;rw[RK ad] at Z;unfold mz at Z;have HG:=Hi aa;have aI:=Hi an;have av:=Hi ao;have ae:=Hi ap;have aJ:=Hi aq;have aK:=Hi ar;have aw:=Hi au;have HW:=Hi hW;generalize aL:cr ts s.i=t0 at HJ Z aw;generalize aM:cz t0=D at*;generalize aN:t0.pl=E at*;generalize aO:cY t0=G at*;generalize aP:cG t0=I at*;go_enter func214,ntmps214;go_wp2_with fail;apply Z.mono;rintro e J ⟨rfl,h1,F1⟩;have a0:=h1.rlt;have h2:=h1.alloc (eG D E G I);have F2:=F1.alloc (eG D E G I);have ab:(J.alloc (eG D E G I)).heap[J.heap.size]?=some (eG D E G I):=RO J _;have e1:J.heap.size≠rb:=by omega
 unfold eG at h2 F2 ab;go_wp2_with fail
 show Calls _ _ _ (J.alloc (.cells #[Iq D,Iq E,Iq G,S I] 160 (0,0))) _
 have ax:=cq ab;generalize J.alloc (.cells #[Iq D,Iq E,Iq G,S I] 160 (0,0))=w2 at*;generalize J.heap.size=O at*;apply(hf f (RL _) {s with i:=s.i+1} w2 L a h2 HG.out aI.out).mono;rintro e Y ⟨ba,rfl,F3,V⟩;have V:=V;obtain⟨s3,h3,af⟩:=zi V HW.out av.out (by decide)
 rw[show kn iX=15 from by decide] at af
 have ay:=mF h3 [15] (by decide) (by decide)
 have aQ:=Hi V;have aR:=Hi af;generalize pI ts s3 [15]=a8 at*;go_wp2_with fail;apply ay.mono;rintro e w4 ⟨rfl,h4,F4⟩;go_wp2_with fail;apply(zj hf HG.out h4 aR.out).mono;rintro e w5 ⟨bb,rfl,F5,ag⟩;obtain⟨s5,h5,ah⟩:=zi ag HW.out ae.out (by decide)
 rw[show kn iY=16 from by decide] at ah
 have az:=mF h5 [16] (by decide) (by decide)
 have aS:=Hi ag;have aT:=Hi ah;have ai:=F4.trans F5;generalize pI ts s5 [16]=a9 at*;go_wp2_with fail;apply az.mono;rintro e w6 ⟨rfl,h6,F6⟩;have aA:=zj hf HG.out h6.drew aT.out;have aj:=((F3.trans ai).trans F6).drew;have aB:=F6.drew;have aC:=(ai.trans F6).drew;have ak:w6.drew.heap[O]?=some (.cells #[Iq D,Iq E,Iq G,S I] 160 (0,0)):=by rw[aj.block _ ax e1];exact ab
 have aU:=cq ak;have R:∀w',PF rb w6.drew w'->(Cq w' O 0 (Iq D)/\Cq w' O 1 (Iq E)/\Cq w' O 2 (Iq G)/\Cq w' O 3 (S I)):=λw' hf=>
  (jJ (by rw[hf.block _ aU e1];exact ak)).1
 have KF:=Hi R;have hS:=R _ (PF.refl _ _);obtain⟨x0,x1,x2,x3⟩:=hS;have aF:=Hi (F2.trans aj);have aG:=Hi aC;have aH:=Hi aB;go_wp2_with fail
 go_region_held3 (λw'=>w'.cell? ⟨O,0,none⟩=some (Iq D)/\w'.cell? ⟨O,1,none⟩=some (Iq E)/\w'.cell? ⟨O,2,none⟩=some (Iq G)/\w'.cell? ⟨O,3,none⟩=some (S I)) (first|exact KF.out _ ac|go_keep) ((refine aA.mono ?_;rintro e w7 ⟨bc,rfl,ac,aD⟩))
 rename_i hHeld
 have aV:=Hi aD;go_wp2;go_ret;have hE:=HJ.out w7 ba bb bc;have hB:=mD w7 t0 [ba,bb,bc];have am:=(aF.out.trans ac).trans (PF.of_below hB);rw[hE] at hB am;refine⟨w7.heap.size+1,rfl,am,?_⟩;have z:∀{p q:Rd} {x:List UInt8},Nx f ts p q x->q.ok=true-> ∃new,q.L=p.L++new:=λ{p q x} hN U=>by
  unfold Nx at hN
  by_cases hc:p.ok=true/\eE (cr ts p.i) x=true
  ·rw[RK hc] at hN;exact Lt hN U (by omega)
  ·rw[RH hc] at hN;rw[hN.1] at U;simp at U
 rcases aV.out with⟨U,h7,aW⟩|⟨U,h7⟩
 ·obtain⟨aX,aE,rfl⟩:=aw.out U
  refine .inl ⟨rfl,h7.below hB,?_⟩;rw[<-hE];rcases aQ.out with⟨_,ha,aY⟩|⟨no,_⟩
  ·rcases aS.out with⟨_,hb,aZ⟩|⟨no,_⟩
   ·refine vG h7.rlt rfl (by simp) λj hj=>?_
    match j,hj with
    |0,_=>exact qs (qs (aY.pf ha (aG.out.trans ac)) (z av.out aE)) (z ae.out U)
    |1,_=>exact qs (aZ.pf hb (aH.out.trans ac)) (z ae.out U)
    |2,_=>exact aW
   ·rw[aE] at no;simp at no
  ·rw[aX] at no;simp at no
 ·exact .inr ⟨by rw[aJ.out];exact U,by rw[aK.out];exact h7.below hB⟩
theorem Lz (G:fF f 284 5 rb gl cl ts) (hW:∀t∈ts,ik t) (h:RR rb gl cl ts s w) (z:s.bad=false) (I:P (f+1) 4 ts s.i L 0=some r):
 Calls prog 283 #[Pq rb] w (kO rb gl cl ts s w r):=by
 have D:(w.alloc (eH [6,7])).heap[w.heap.size]?=some (eH [6,7]):=RO w _;have E:=tX (h.alloc (eH [6,7])) hW z 4 284 (by omega) G Gq w.heap.size D L r I
 unfold mv at E;have J:Hid (PF rb w (w.alloc (eH [6,7]))):=(PF.refl rb w).alloc _;go_enter func283,ntmps283;go_wp2_with fail;apply E.mono;rintro e w' ⟨b,rfl,O,R⟩;go_wp2;go_ret;exact⟨b,rfl,J.out.trans O,R⟩
theorem yq (G:fF f 283 4 rb gl cl ts) (hW:∀t∈ts,ik t) (h:RR rb gl cl ts s w) (z:s.bad=false) (I:P (f+1) 3 ts s.i L 0=some r):
 Calls prog 279 #[Pq rb] w (kO rb gl cl ts s w r):=by
 have D:(w.alloc (eH [8,10,9])).heap[w.heap.size]?=some (eH [8,10,9]):=RO w _;have E:=Lw (h.alloc (eH [8,10,9])) hW z 283 G Gr w.heap.size D L r I;unfold mv at E;have J:Hid (PF rb w (w.alloc (eH [8,10,9]))):=(PF.refl rb w).alloc _;go_enter func279,ntmps279;go_wp2_with fail;apply E.mono;rintro e w' ⟨b,rfl,O,R⟩;go_wp2;go_ret;exact⟨b,rfl,J.out.trans O,R⟩
theorem Il (G:fF f 267 2 rb gl cl ts) (hW:∀t∈ts,ik t) (h:RR rb gl cl ts s w) (z:s.bad=false) (I:P (f+1) 1 ts s.i L 0=some r):
 Calls prog 247 #[Pq rb] w (kO rb gl cl ts s w r):=by
 have D:(w.alloc (eH [18])).heap[w.heap.size]?=some (eH [18]):=RO w _;have E:=tX (h.alloc (eH [18])) hW z 1 267 (by omega) G Cb w.heap.size D L r I
 unfold mv at E;have J:Hid (PF rb w (w.alloc (eH [18]))):=(PF.refl rb w).alloc _;go_enter func247,ntmps247;go_wp2_with fail;apply E.mono;rintro e w' ⟨b,rfl,O,R⟩;go_wp2;go_ret;exact⟨b,rfl,J.out.trans O,R⟩
theorem Cf (G:fF f 247 1 rb gl cl ts) (hW:∀t∈ts,ik t) (h:RR rb gl cl ts s w) (z:s.bad=false) (I:P (f+1) 0 ts s.i L 0=some r):
 Calls prog 215 #[Pq rb] w (kO rb gl cl ts s w r):=by
 have D:(w.alloc (eH [17])).heap[w.heap.size]?=some (eH [17]):=RO w _;have E:=tX (h.alloc (eH [17])) hW z 0 247 (by omega) G Cc w.heap.size D L r I
 unfold mv at E;have J:Hid (PF rb w (w.alloc (eH [17]))):=(PF.refl rb w).alloc _;go_enter func215,ntmps215;go_wp2_with fail;apply E.mono;rintro e w' ⟨b,rfl,O,R⟩;go_wp2;go_ret;exact⟨b,rfl,J.out.trans O,R⟩
theorem Cg {R:Nat->World->Prop} (z:Calls prog 213 #[Pq rb,Iq 3,mv 285 rb,mv 286 rb] w λe w'=> ∃b,e= .returned (Pq b)/\R b w'):
 Calls prog 284 #[Pq rb] w λe w'=> ∃b,e= .returned (Pq b)/\R b w':=by
 unfold mv at z;go_enter func284,ntmps284;go_wp2_with fail;apply z.mono;rintro e w' ⟨b,rfl,D⟩;go_wp2;go_ret;exact⟨b,rfl,D⟩
theorem zl {R:Nat->World->Prop} (z:Calls prog 213 #[Pq rb,Iq 19,mv 278 rb,mv 279 rb] w λe w'=> ∃b,e= .returned (Pq b)/\R b w'):
 Calls prog 267 #[Pq rb] w λe w'=> ∃b,e= .returned (Pq b)/\R b w':=by
 unfold mv at z;go_enter func267,ntmps267;go_wp2_with fail;apply z.mono;rintro e w' ⟨b,rfl,D⟩;go_wp2;go_ret;exact⟨b,rfl,D⟩
theorem pN {R:Nat->World->Prop} (z:Calls prog 213 #[Pq rb,Iq 14,mv 214 rb,mv 215 rb] w λe w'=> ∃b,e= .returned (Pq b)/\R b w'):
 Calls prog 152 #[Pq rb] w λe w'=> ∃b,e= .returned (Pq b)/\R b w':=by
 unfold mv at z;go_enter func152,ntmps152;go_wp2_with fail;apply z.mono;rintro e w' ⟨b,rfl,D⟩;go_wp2;go_ret;exact⟨b,rfl,D⟩
end
variable {e w' t k L r z j}
theorem zm {r:Rd} (h:kO rb gl cl ts s w.drew r e w'):∃b,e= .returned (Pq b)/\(PF rb w w'/\rq rb gl cl ts s r b w'):=by
 obtain⟨b,z,D,h3⟩:=h;exact⟨b,z,(PF.refl rb w).drew.trans D,h3⟩
theorem Aq {ts:List Tok} (z:ik t) {x:LB} (D:x∈cZ.drop 3) (E:kn x=k) (h:eE t x=true):cz t=k:=by rw[<-E];exact(sJ z D).1 h
theorem tZ {ts:List Tok} (z:ik t) {x:LB} (D:x∈cZ.drop 3) (E:kn x=k) (h: ¬eE t x=true):cz t≠k:=by rw[<-E];exact λe=>h ((sJ z D).2 e)
theorem Im (U:fF f 152 6 rb gl cl ts) (hW:∀t∈ts,ik t) (h:RR rb gl cl ts s w) (D:s.bad=false) (O:P (f+1) 5 ts s.i L 0=some r):
 Calls prog 284 #[Pq rb] w (kO rb gl cl ts s w r):=by
 have E:=hW _ (jt h.lt);by_cases G:eE (cr ts s.i) [40]=true
 ·have I:=Aq (ts:=ts) E (x:=[40]) (by decide) (k:=3) (by decide) G
  obtain⟨a,R,V⟩:=mr O G;exact Cg (wO h 3 _ _ I yn (λb w'=>PF rb w w'/\rq rb gl cl ts s r b w') ((yo U h.drew hW D I (RL _) R V).mono λe w' z=>zm z))
 have I:=tZ (ts:=ts) E (x:=[40]) (by decide) (k:=3) (by decide) G
 refine Cg (qq h 3 _ _ I wP (λb w'=>PF rb w w'/\rq rb gl cl ts s r b w') ?_)
 rcases kQ O G with⟨J,rfl⟩|⟨J,rfl⟩
 ·exact(EA h.drew E J L).mono λe w' z=>zm z
 exact(Ij h.drew E J).mono λe w' z=>zm z
theorem Io (Z:fF f 267 2 rb gl cl ts) (O:fF f 279 3 rb gl cl ts) (hW:∀t∈ts,ik t) (h:RR rb gl cl ts s w) (z:s.bad=false) (R:P (f+1) 2 ts s.i L 0=some r):
 Calls prog 267 #[Pq rb] w (kO rb gl cl ts s w r):=by
 have U:=hW _ (jt h.lt);by_cases D:eE (cr ts s.i) iw=true
 ·have E:=Aq (ts:=ts) U (x:=iw) (by decide) (k:=19) (by decide) D
  obtain⟨a,V,Y,hi,G⟩:=oj R D;refine zl (wO h 19 _ _ E Ao (λb w'=>PF rb w w'/\rq rb gl cl ts s r b w') ?_)
  apply(yp h.drew E (rq rb gl cl ts s a) (λw1 h1 F1=>Z f (RL _) {s with i:=s.i+1} w1 L a h1 z V)).mono
  rintro e w' ⟨b,w3,rfl,hL,F3,rfl⟩;have I:=mD w3 (cr ts s.i) [b];refine⟨_,rfl,((PF.refl rb w).drew.trans F3).trans (PF.of_below I),?_⟩;rcases hL with⟨J,h3,hc⟩|⟨J,h3⟩
  ·have e:=G J;subst e;refine .inl ⟨rfl,h3.below I,?_⟩;refine vG h3.rlt rfl (by simp) λj hj=>?_
   match j,hj with
   |0,_=>exact hc
  exact .inr ⟨by rw[Y];exact J,by rw[hi];exact h3.below I⟩
 have E:=tZ (ts:=ts) U (x:=iw) (by decide) (k:=19) (by decide) D
 exact zl (qq h 19 _ _ E sM (λb w'=>PF rb w w'/\rq rb gl cl ts s r b w') ((O f (RL _) s _ L r h.drew z (rE R D)).mono λe w' hl=>zm hl))
theorem vk (hf:fF f 152 6 rb gl cl ts) (I:fF f 215 0 rb gl cl ts) (hW:∀t∈ts,ik t) (h:RR rb gl cl ts s w) (z:s.bad=false) (J:P (f+1) 6 ts s.i L 0=some r):
 Calls prog 152 #[Pq rb] w (kO rb gl cl ts s w r):=by
 have O:=hW _ (jt h.lt);by_cases D:eE (cr ts s.i) lT=true
 ·have E:=Aq (ts:=ts) O (x:=lT) (by decide) (k:=14) (by decide) D
  obtain⟨a,b,c,R,U,V,Y,Z,aa⟩:=mq J D;exact pN (wO h 14 _ _ E Cd (λb w'=>PF rb w w'/\rq rb gl cl ts s r b w') ((Ce hf h.drew hW z E R U V Y Z aa).mono λe w' G=>zm G))
 have E:=tZ (ts:=ts) O (x:=lT) (by decide) (k:=14) (by decide) D
 exact pN (qq h 14 _ _ E wQ (λb w'=>PF rb w w'/\rq rb gl cl ts s r b w') ((I f (RL _) s _ L r h.drew z (rF J D)).mono λe w' G=>zm G))
theorem QJ (hW:∀t∈ts,ik t) (f:Nat):
 fF f 152 6 rb gl cl ts/\fF f 215 0 rb gl cl ts/\fF f 247 1 rb gl cl ts/\fF f 267 2 rb gl cl ts/\fF f 279 3 rb gl cl ts/\fF f 283 4 rb gl cl ts/\fF f 284 5 rb gl cl ts:=by
 induction f with
 |zero=>
  have E:∀G lv,fF 0 G lv rb gl cl ts:=λG lv g Y s w L r _ _ z=>by
   obtain rfl:g=0:=by omega
   rw[P] at z;simp at z
  exact⟨E _ _,E _ _,E _ _,E _ _,E _ _,E _ _,E _ _⟩
 |succ f ih=>
  obtain⟨c6,c0,c1,c2,c3,c4,c5⟩:=ih;have up:∀{G lv},fF f G lv rb gl cl ts->(∀I J L O,RR rb gl cl ts I J->I.bad=false->P (f+1) lv ts I.i L 0=some O->Calls prog G #[Pq rb] J (kO rb gl cl ts I J O))->fF (f+1) G lv rb gl cl ts:=λ{G lv} Z h2 g Y s w L r R D z=>by
   by_cases e:g=f+1
   ·subst e;exact h2 s w L r R D z
   exact Z g (by omega) s w L r R D z
  exact⟨up c6 λs w L r h D z=>vk c6 c0 hW h D z,up c0 λs w L r h D z=>Cf c1 hW h D z,up c1 λs w L r h D z=>Il c2 hW h D z,up c2 λs w L r h D z=>Io c2 c3 hW h D z,up c3 λs w L r h D z=>yq c4 hW h D z,up c4 λs w L r h D z=>Lz c5 hW h D z,up c5 λs w L r h D z=>Im c6 hW h D z⟩
def Ch (ts:List Tok) (s:Q) (G:Bool) (j:Nat):Q:=if G then{s with i:=j} else gd ts {s with i:=j}
theorem EE (ts:List Tok) (s) (j:Nat):Ch ts s true j={s with i:=j}:=rfl
theorem EF (ts:List Tok) (s) (j:Nat):Ch ts s false j=gd ts {s with i:=j}:=rfl
def kT (ts:List Tok) (ks:List Nat) (j:Nat):Bool:=ks.contains (cz (cr ts j))
def rr (b:Bool) (j:Nat):Nat:=if b then j+1 else j
theorem Ip (h:RR rb gl cl ts (Ch ts s z j) w) (ks) (E:0∉ks):
 nP ts (Ch ts s z j) ks=Ch ts s (z&&kT ts ks j) (rr (z&&kT ts ks j) j):=by
 cases z with
 |true=>
  rw[TC,EE] at*
  cases D:kT ts ks j with
  |true=>rw[me (by exact D)];rfl
  |false=>rw[nT (by exact D)];rfl
 |false=>
  rw[UA,EF] at*;rw[nT (by
   rw[mE h rfl,Tv];intro e;rw[Sd] at e;exact E e),pM]
  rfl
def sN (ts:List Tok) (J:Bool) (j:Nat) (ks:List Nat):Value:=if J&&kT ts ks j then mz (cr ts j) (cr ts j).pl else .agg #[Iq 0,Iq 0,Iq 0,S []]
theorem Ir (h:RR rb gl cl ts (Ch ts s z j) w) (ks) (D:0∉ks):
 pI ts (Ch ts s z j) ks=sN ts z j ks:=by
 unfold pI sN
 cases z with
 |true=>rw[TC,EE];rfl
 |false=>
  rw[EF] at*;rw[RH (by rw[mE h rfl];intro e;rw[Sd] at e;exact D e)]
  simp
theorem mG (h:RR rb gl cl ts (Ch ts s z j) w) (ks) (E:ks.length<=100) (D:0∉ks):
 Calls prog 151 #[Pq rb,Sq w.heap.size ks.length ks.length] (w.alloc (eH ks)) λe w'=>e= .returned (sN ts z j ks)/\RR rb gl cl ts (Ch ts s (z&&kT ts ks j) (rr (z&&kT ts ks j) j)) w'/\PF rb w w':=by
 rw[<-Ir h ks D,<-Ip h ks D];exact mF h ks E D
theorem Ci (R:fF f 152 6 rb gl cl ts) (D:s.bad=false) (h:RR rb gl cl ts (Ch ts s z j) w) (U:z=true->P f 6 ts j L 0=some a):
 Calls prog 152 #[Pq rb] w λe w'=> ∃b,e= .returned (Pq b)/\PF rb w w'/\RR rb gl cl ts (Ch ts s (z&&a.ok) (if z then a.i else j)) w'/\((z&&a.ok)=true->dm a.L rb w' a.top b):=by
 cases z with
 |true=>
  rw[EE] at h;apply(R f (RL _) _ w L a h D (U rfl)).mono;rintro e w' ⟨b,G,I,h3⟩;refine⟨b,G,I,?_⟩;rcases h3 with⟨z,h3,V⟩|⟨z,h3⟩
  ·rw[z];exact⟨h3,λ_=>V⟩
  ·rw[z];exact⟨h3,λe=>by simp at e⟩
 |false=>
  rw[EF] at h;apply(rm _ w h rfl rfl).mono;rintro e w' ⟨b,G,I,h3⟩;exact⟨b,G,I,h3,λe=>by simp at e⟩
section
attribute [local go_sem ↓] Go.wp_at_zero Go.wp_at_succ
variable {x0 x1 x2 x3 x4 x5 x6 x7 x8 x9 i cs y ok2 ok3 j2 j3 O ae j4 j5 J ab}
def eN:Tok:=⟨101,[],0⟩
def gJ (ts:List Tok) (G:Bool) (j:Nat) (ks:List Nat):Tok:=if G&&kT ts ks j then cr ts j else eN
theorem ub (ts) (z) (j) (ks):sN ts z j ks= .agg #[Iq (cz (gJ ts z j ks)),Iq (gJ ts z j ks).pl,Iq (cY (gJ ts z j ks)),S (cG (gJ ts z j ks))]:=by
 unfold sN gJ;split
 ·rfl
 rfl
def Nb (t u:Tok) (b:Nat):Value:= .agg #[Iq (cz t),Iq t.pl,Iq (cY t),S (cG t),Iq (cz u),Iq u.pl,Iq (cY u),S (cG u),Iq 0,Pq b]
def Ri (t u:Tok) (n:Int) (b:Nat):Value:= .agg #[Iq (cz t),Iq t.pl,Iq (cY t),S (cG t),Iq (cz u),Iq u.pl,Iq (cY u),S (cG u),Iq n,Pq b]
def oF (t u:Tok) (n:Int) (v:Value):Obj:= .cells #[Iq (cz t),Iq t.pl,Iq (cY t),S (cG t),Iq (cz u),Iq u.pl,Iq (cY u),S (cG u),Iq n,v] 163 (0,0)
def gZ (t u:Tok) (v:Value):Obj:= .cells #[Iq (cz t),Iq t.pl,Iq (cY t),S (cG t),Iq (cz u),Iq u.pl,Iq (cY u),S (cG u),Iq 0,v] 163 (0,0)
theorem dY (h:w.heap[b]?=some (.cells #[x0,x1,x2,x3,x4,x5,x6,x7,x8,x9] 163 (0,0))):(Cq w b 0 x0/\Cq w b 1 x1/\Cq w b 2 x2/\Cq w b 3 x3/\Cq w b 4 x4/\Cq w b 5 x5/\Cq w b 6 x6/\Cq w b 7 x7/\Cq w b 8 x8/\Cq w b 9 x9)/\ ∀j,w.frozen? ⟨b,j,none⟩=false:=by
 have z:=λj=>RM w b j _ _ _ h
 exact⟨⟨z 0,z 1,z 2,z 3,z 4,z 5,z 6,z 7,z 8,z 9⟩,λj=>by simp[World.frozen?,h]⟩
theorem dm.item {lt} (h:dm L lt w i b) (O:w.heap[x]?=some (.cells cs 163 (0,0))) (j) (v):dm L lt (w.setCell ⟨x,j,none⟩ v) i b:=
 h.keep λk U ty z D=>RQ _ _ _ _ (by
  simp only;intro e;rw[e,O] at z;simp only[R6,Ty] at z;rw[<-z.2.1] at D;exact absurd D (by decide))
theorem ez {w:World} (z:w.heap[x]?=some (.cells cs 163 (0,0))) (j) (v):(w.setCell ⟨x,j,none⟩ v).heap[x]?=some (.cells (cs.setIfInBounds j v) 163 (0,0)):=by
 rw[R3 w x j _ _ v z]
theorem mf {w:World} (h:y≠x) (j) (v):(w.setCell ⟨x,j,none⟩ v).heap[y]?=w.heap[y]?:=RQ _ _ _ _ (by simpa using h)
theorem ud (hf:fF f 152 6 rb gl cl ts) (h:RR rb gl cl ts s w) (ab:s.bad=false) (hk:cz (cr ts s.i)=11) (V:ok2=kT ts [2] (s.i+1)) (R:j2=rr ok2 (s.i+1)) (E:ok3=(ok2&&kT ts [8] j2)) (G:j3=rr ok3 j2)
 (hP:ok3=true->P f 6 ts j3 L 0=some a) (e6:j4=if ok3 then a.i else j3) (e7:O=(ok3&&a.ok)) (e8:ae=(O&&kT ts [5] j4)) (e9:j5=rr ae j4):
 Calls prog 104 #[Pq rb] w λe w'=> ∃b,e= .returned (Nb (cr ts s.i) (gJ ts true (s.i+1) [2]) b)/\PF rb w w'/\RR rb gl cl ts (Ch ts s ae j5) w'/\(O=true->dm a.L rb w' a.top b):=by
 have af:kT ts [11,12,13] s.i=true:=by unfold kT;rw[hk];rfl
 have h0:RR rb gl cl ts (Ch ts s true s.i) (w.alloc (gZ eN eN (.pointer none))):=h.alloc _;have au:(w.alloc (gZ eN eN (.pointer none))).heap[w.heap.size]?=some (gZ eN eN (.pointer none)):=RO w _;have F0:PF rb w (w.alloc (gZ eN eN (.pointer none))):=(PF.refl rb w).alloc _;have bi:=h.rlt;have bj:=h.glt;have W1:=mG h0 [11,12,13] (by decide) (by decide)
 rw[ub] at W1;have et:gJ ts true s.i [11,12,13]=cr ts s.i:=by unfold gJ;rw[af];rfl
 rw[et,af] at W1;simp only[Bool.and_self,show rr true s.i=s.i+1 from rfl] at W1;have av:=Hi V;have aw:=Hi R;have ax:=Hi E;have ay:=Hi G;have HP:=Hi hP;have az:=Hi au;have HG:=Hi ab;have aA:=Hi F0;have ba:Hid (∀t u v,gZ t u v= .cells #[Iq (cz t),Iq t.pl,Iq (cY t),S (cG t),Iq (cz u),Iq u.pl,Iq (cY u),S (cG u),Iq 0,v] 163 (0,0)):=λ_ _ _=>rfl
 have aB:=Hi e6;have aC:=Hi e7;have aD:=Hi e8;have aE:=Hi e9;have aF:(w.alloc (gZ eN eN (.pointer none))).heap.size=w.heap.size+1:=by simp
 have HV:Hid (∀b,Nb (cr ts s.i) (gJ ts true (s.i+1) [2]) b= .agg #[Iq (cz (cr ts s.i)),Iq (cr ts s.i).pl,Iq (cY (cr ts s.i)),S (cG (cr ts s.i)),Iq (cz (gJ ts true (s.i+1) [2])),Iq (gJ ts true (s.i+1) [2]).pl,Iq (cY (gJ ts true (s.i+1) [2])),S (cG (gJ ts true (s.i+1) [2])),Iq 0,Pq b]):=λ_=>rfl
 generalize Nb (cr ts s.i) (gJ ts true (s.i+1) [2])=iv at HV⊢;go_enter func104,ntmps104;go_wp2_with fail;rw[aF] at W1;apply W1.mono;rintro e I ⟨rfl,h1,F1⟩;have ag:I.heap[w.heap.size]?=some (gZ eN eN (.pointer none)):=by rw[F1.block _ (by rw[aF];omega) (by omega)];exact az.out
 have bb:=cq ag;generalize bk:cr ts s.i=z at*;have h2:=h1.alloc (gZ z eN (.pointer none));have F2:=(aA.out.trans F1).alloc (gZ z eN (.pointer none));have ah:(I.alloc (gZ z eN (.pointer none))).heap[I.heap.size]?=some (gZ z eN (.pointer none)):=RO I _;have ai:(I.alloc (gZ z eN (.pointer none))).heap[w.heap.size]?=some (gZ eN eN (.pointer none)):=by rw[RV _ _ _ bb];exact ag
 have U:I.heap.size≠rb:=by have:=h1.rlt;omega
 have V:I.heap.size≠gl:=by have:=h1.glt;omega
 have R:w.heap.size≠I.heap.size:=by omega
 have E:w.heap.size≠rb:=by omega
 have G:w.heap.size≠gl:=by omega
 have bc:w.heap.size<=I.heap.size:=by omega
 have W2:=mG h2 [2] (by decide) (by decide)
 rw[ub] at W2;have J:(I.alloc (gZ z eN (.pointer none))).heap.size=I.heap.size+1:=by simp
 rw[J] at W2;simp only[ba.out,hk] at h2 F2 J ah ai W2;rw[TC,<-av.out,<-aw.out] at W2;go_wp2_with fail;apply W2.mono;rintro e w3 ⟨rfl,h3,F3⟩;generalize bd:gJ ts true (s.i+1) [2]=u0 at HV⊢;have aj:=(F3.block _ (by rw[J];omega) U).trans ah
 have aG:=(F3.block _ (by rw[J];omega) E).trans ai
 have aH:=F2.trans F3;generalize aI:I.heap.size=Y at*;generalize D:w.heap.size=br at*;have aJ:=Hi D;obtain⟨⟨y0,y1,y2,y3,y4,y5,y6,y7,y8,y9⟩,yf⟩:=dY aj;have h4:=((((h3.other U V 4 (Iq (cz u0))).other U V 5 (Iq u0.pl)).other U V 6 (Iq (cY u0))).other U V 7 (S (cG u0)));have Z:w.heap.size<=Y:=by rw[aJ.out];exact bc
 have F4:=((((aH.new Z 4 (Iq (cz u0))).new Z 5 (Iq u0.pl)).new Z 6 (Iq (cY u0))).new Z 7 (S (cG u0)));have ak:=ez (ez (ez (ez aj 4 (Iq (cz u0))) 5 (Iq u0.pl)) 6 (Iq (cY u0))) 7 (S (cG u0));have am:=(mf R 7 (S (cG u0))).trans ((mf R 6 (Iq (cY u0))).trans ((mf R 5 (Iq u0.pl)).trans ((mf R 4 (Iq (cz u0))).trans aG)));have aK:=Hi F4;have aL:=Hi ak;have aM:=Hi am;have W3:=mG h4 [8] (by decide) (by decide)
 rw[<-ax.out,<-ay.out] at W3;have an:=cq ak;have aa:=cq am;simp only[UX] at W3 an aa;generalize sN ts ok2 j2 [8]=bm at*;go_wp2_with fail;apply W3.mono;rintro e w5 ⟨rfl,h5,F5⟩;have ac:=(F5.block Y (by simpa using an) U).trans aL.out
 have ao:=(F5.block br (by simpa using aa) E).trans aM.out
 have aN:=aK.out.trans F5;have W4:=Ci hf HG.out h5 HP.out;rw[<-aB.out,<-aC.out] at W4;obtain⟨⟨y0,y1,y2,y3,y4,y5,y6,y7,y8,y9⟩,yf⟩:=dY ac;have bf:=cq ac;have a9:=cq ao;have aO:=Hi ac;have aP:=Hi ao;have aQ:=Hi aN;go_wp2_with fail;apply W4.mono;rintro e w6 ⟨b,rfl,F6,h6,aR⟩;have ad:=(F6.block Y bf U).trans aO.out;have aS:=(F6.block br a9 E).trans aP.out;have h7:=h6.other U V 9 (Pq b);have F7:=(aQ.out.trans F6).new Z 9 (Pq b);have aT:=ez ad 9 (Pq b);have aU:=(mf R 9 (Pq b)).trans aS;have aV:O=true->dm a.L rb (w6.setCell ⟨Y,9,none⟩ (Pq b)) a.top b:=λe=>(aR e).item ad _ _
 obtain⟨⟨y0,y1,y2,y3,y4,y5,y6,y7,y8,y9⟩,yf⟩:=dY ad;have W5:=mG h7 [5] (by decide) (by decide)
 rw[<-aD.out,<-aE.out] at W5;simp only[UX] at W5;have H7:=Hi h7;have aW:=Hi F7;have ap:=Hi aT;have aq:=Hi aU;have aX:=Hi aV;generalize sN ts O j4 [5]=bo at*;go_wp2_with fail;apply W5.mono;rintro e w8 ⟨rfl,h8,F8⟩;have aY:=(F8.block Y (cq ap.out) U).trans ap.out;have ar:=(F8.block br (cq aq.out) E).trans aq.out;have aZ:=aW.out.trans F8;have a0:O=true->dm a.L rb w8 a.top b:=λe=>(aX.out e).pf H7.out F8
 obtain⟨⟨y0,y1,y2,y3,y4,y5,y6,y7,y8,y9⟩,yf⟩:=dY aY;obtain⟨⟨z0,z1,z2,z3,z4,z5,z6,z7,z8,z9⟩,zf⟩:=dY ar;have H8:=Hi h8;have bg:=Hi aZ;have bh:=Hi a0;have a8:=Hi ar;go_wp2;have D:=T1 aJ.out;refine RU (v:= .agg #[Iq 11,Iq z.pl,Iq (cY z),S (cG z),Iq (cz u0),Iq u0.pl,Iq (cY u0),S (cG u0),Iq 0,Pq b]) (by simp[results,results104,go_sem,z0,z1,z2,z3,z4,z5,z6,z7,z8,z9,zf]) rfl ⟨b,?_,?_,?_,?_⟩
 ·rw[HV.out,hk];rfl
 ·exact(((((((((bg.out.new D _ _).new D _ _).new D _ _).new D _ _).new D _ _).new D _ _).new D _ _).new D _ _).new D _ _).new D _ _
 ·exact(((((((((H8.out.other E G _ _).other E G _ _).other E G _ _).other E G _ _).other E G _ _).other E G _ _).other E G _ _).other E G _ _).other E G _ _).other E G _ _
 intro e;have c1:=(bh.out e).item a8.out 0 (Iq 11);have x1:=ez a8.out 0 (Iq 11);have c2:=c1.item x1 1 (Iq z.pl);have x2:=ez x1 1 (Iq z.pl);have c3:=c2.item x2 2 (Iq (cY z));have x3:=ez x2 2 (Iq (cY z));have c4:=c3.item x3 3 (S (cG z));have x4:=ez x3 3 (S (cG z));have c5:=c4.item x4 4 (Iq (cz u0));have x5:=ez x4 4 (Iq (cz u0));have c6:=c5.item x5 5 (Iq u0.pl);have x6:=ez x5 5 (Iq u0.pl);have c7:=c6.item x6 6 (Iq (cY u0));have x7:=ez x6 6 (Iq (cY u0));have c8:=c7.item x7 7 (S (cG u0));have x8:=ez x7 7 (S (cG u0));have c9:=c8.item x8 8 (Iq 0);have x9:=ez x8 8 (Iq 0);exact c9.item x9 9 (Pq b)
theorem ue (hf:fF f 152 6 rb gl cl ts) (h:RR rb gl cl ts s w) (U:s.bad=false) (hk:cz (gJ ts true s.i [11,12,13])≠11) (e2:ok2=kT ts [11,12,13] s.i) (e3:j2=rr ok2 s.i) (E:ok3=(ok2&&kT ts [14] j2)) (I:j3=rr ok3 j2)
 (hP:ok3=true->P f 6 ts j3 L 0=some a) (e6:j4=if ok3 then a.i else j3) (e7:J=(ok3&&a.ok)) (e8:ab=(J&&kT ts [5] j4)) (e9:j5=rr ab j4):
 Calls prog 104 #[Pq rb] w λe w'=> ∃b,e= .returned (Nb (gJ ts true s.i [11,12,13]) eN b)/\PF rb w w'/\RR rb gl cl ts (Ch ts s ab j5) w'/\(J=true->dm a.L rb w' a.top b):=by
 have h0:RR rb gl cl ts (Ch ts s true s.i) (w.alloc (gZ eN eN (.pointer none))):=h.alloc _;have ai:(w.alloc (gZ eN eN (.pointer none))).heap[w.heap.size]?=some (gZ eN eN (.pointer none)):=RO w _;have F0:PF rb w (w.alloc (gZ eN eN (.pointer none))):=(PF.refl rb w).alloc _;have aY:=h.rlt;have aZ:=h.glt;have W1:=mG h0 [11,12,13] (by decide) (by decide)
 rw[ub] at W1;rw[TC,<-e2,<-e3] at W1;have aj:=Hi E;have ak:=Hi I;have HP:=Hi hP;have am:=Hi ai;have HG:=Hi U;have an:=Hi F0;have aQ:Hid (∀t u v,gZ t u v= .cells #[Iq (cz t),Iq t.pl,Iq (cY t),S (cG t),Iq (cz u),Iq u.pl,Iq (cY u),S (cG u),Iq 0,v] 163 (0,0)):=λ_ _ _=>rfl
 have ao:=Hi e6;have ap:=Hi e7;have aq:=Hi e8;have ar:=Hi e9;have au:(w.alloc (gZ eN eN (.pointer none))).heap.size=w.heap.size+1:=by simp
 have HV:Hid (∀b,Nb (gJ ts true s.i [11,12,13]) eN b= .agg #[Iq (cz (gJ ts true s.i [11,12,13])),Iq (gJ ts true s.i [11,12,13]).pl,Iq (cY (gJ ts true s.i [11,12,13])),S (cG (gJ ts true s.i [11,12,13])),Iq 0,Iq 0,Iq 0,S [],Iq 0,Pq b]):=λ_=>rfl
 generalize Nb (gJ ts true s.i [11,12,13]) eN=iv at HV⊢;generalize gJ ts true s.i [11,12,13]=z at*;generalize aR:cz z=O at*;have a0:(O==11)=false:=by
  have: ¬(O=11):=by omega
  simpa using this
 go_enter func104,ntmps104;go_wp2_with fail;rw[au] at W1;apply W1.mono;rintro e G ⟨rfl,h1,F1⟩;have ac:G.heap[w.heap.size]?=some (gZ eN eN (.pointer none)):=by rw[F1.block _ (by rw[au];omega) (by omega)];exact am.out
 have aS:=cq ac;have h2:=h1.alloc (gZ z eN (.pointer none));have F2:=(an.out.trans F1).alloc (gZ z eN (.pointer none));have V:(G.alloc (gZ z eN (.pointer none))).heap[G.heap.size]?=some (gZ z eN (.pointer none)):=RO G _;have Y:(G.alloc (gZ z eN (.pointer none))).heap[w.heap.size]?=some (gZ eN eN (.pointer none)):=by rw[RV _ _ _ aS];exact ac
 have e1:G.heap.size≠rb:=by have:=h1.rlt;omega
 have e2:G.heap.size≠gl:=by have:=h1.glt;omega
 have e3:w.heap.size≠G.heap.size:=by omega
 have E:w.heap.size≠rb:=by omega
 have I:w.heap.size≠gl:=by omega
 have aT:w.heap.size<=G.heap.size:=by omega
 have R:(G.alloc (gZ z eN (.pointer none))).heap.size=G.heap.size+1:=by simp
 have W3:=mG h2 [14] (by decide) (by decide)
 rw[<-aj.out,<-ak.out] at W3;rw[R] at W3;simp only[aQ.out,aR] at h2 F2 R V Y W3;have av:=cq V;have ad:=cq Y;generalize sN ts ok2 j2 [14]=a8 at*;go_wp2_with fail;apply W3.mono;rintro e w5 ⟨rfl,h5,F5⟩;have Z:w5.heap[G.heap.size]?=some (.cells #[Iq O,Iq z.pl,Iq (cY z),S (cG z),Iq 0,Iq 0,Iq 0,S [],Iq 0,.pointer none] 163 (0,0)):=(F5.block G.heap.size av e1).trans V;have ae:=(F5.block w.heap.size ad E).trans Y;have aw:=F2.trans F5;generalize ax:G.heap.size=bi at*;generalize D:w.heap.size=br at*;have ay:=Hi D;have aU:w.heap.size<=bi:=by rw[ay.out];exact aT
 have W4:=Ci hf HG.out h5 HP.out;rw[<-ao.out,<-ap.out] at W4;obtain⟨⟨y0,y1,y2,y3,y4,y5,y6,y7,y8,y9⟩,yf⟩:=dY Z;have aV:=cq Z;have aN:=cq ae;have az:=Hi Z;have aA:=Hi ae;have aB:=Hi aw;go_wp2_with fail;apply W4.mono;rintro e w6 ⟨b,rfl,F6,h6,aC⟩;have aa:=(F6.block bi aV e1).trans az.out;have aD:=(F6.block br aN E).trans aA.out;have h7:=h6.other e1 e2 9 (Pq b);have F7:=(aB.out.trans F6).new aU 9 (Pq b);have aE:(w6.setCell ⟨bi,9,none⟩ (Pq b)).heap[bi]?=some (.cells #[Iq O,Iq z.pl,Iq (cY z),S (cG z),Iq 0,Iq 0,Iq 0,S [],Iq 0,Pq b] 163 (0,0)):=ez aa 9 (Pq b);have aF:=(mf e3 9 (Pq b)).trans aD;have aG:J=true->dm a.L rb (w6.setCell ⟨bi,9,none⟩ (Pq b)) a.top b:=λe=>(aC e).item aa _ _
 obtain⟨⟨y0,y1,y2,y3,y4,y5,y6,y7,y8,y9⟩,yf⟩:=dY aa;have W5:=mG h7 [5] (by decide) (by decide)
 rw[<-aq.out,<-ar.out] at W5;simp only[UX] at W5;have H7:=Hi h7;have aH:=Hi F7;have af:=Hi aE;have ag:=Hi aF;have aI:=Hi aG;generalize sN ts J j4 [5]=ba at*;go_wp2_with fail;apply W5.mono;rintro e w8 ⟨rfl,h8,F8⟩;have aJ:=(F8.block bi (cq af.out) e1).trans af.out;have ah:=(F8.block br (cq ag.out) E).trans ag.out;have aK:=aH.out.trans F8;have aL:J=true->dm a.L rb w8 a.top b:=λe=>(aI.out e).pf H7.out F8
 obtain⟨⟨y0,y1,y2,y3,y4,y5,y6,y7,y8,y9⟩,yf⟩:=dY aJ;obtain⟨⟨z0,z1,z2,z3,z4,z5,z6,z7,z8,z9⟩,zf⟩:=dY ah;have H8:=Hi h8;have aW:=Hi aK;have aX:=Hi aL;have aM:=Hi ah;go_wp2_with fail;have D:w.heap.size<=br:=T1 ay.out;refine RU (v:= .agg #[Iq O,Iq z.pl,Iq (cY z),S (cG z),Iq 0,Iq 0,Iq 0,S [],Iq 0,Pq b]) (by simp[results,results104,go_sem,z0,z1,z2,z3,z4,z5,z6,z7,z8,z9,zf]) rfl ⟨b,?_,?_,?_,?_⟩
 ·rw[HV.out]
 ·exact(((((((((aW.out.new D _ _).new D _ _).new D _ _).new D _ _).new D _ _).new D _ _).new D _ _).new D _ _).new D _ _).new D _ _
 ·exact(((((((((H8.out.other E I _ _).other E I _ _).other E I _ _).other E I _ _).other E I _ _).other E I _ _).other E I _ _).other E I _ _).other E I _ _).other E I _ _
 intro e;have c1:=(aX.out e).item aM.out 0 (Iq O);have x1:=ez aM.out 0 (Iq O);have c2:=c1.item x1 1 (Iq z.pl);have x2:=ez x1 1 (Iq z.pl);have c3:=c2.item x2 2 (Iq (cY z));have x3:=ez x2 2 (Iq (cY z));have c4:=c3.item x3 3 (S (cG z));have x4:=ez x3 3 (S (cG z));have c5:=c4.item x4 4 (Iq 0);have x5:=ez x4 4 (Iq 0);have c6:=c5.item x5 5 (Iq 0);have x6:=ez x5 5 (Iq 0);have c7:=c6.item x6 6 (Iq 0);have x7:=ez x6 6 (Iq 0);have c8:=c7.item x7 7 (S []);have x8:=ez x7 7 (S []);have c9:=c8.item x8 8 (Iq 0);have x9:=ez x8 8 (Iq 0);exact c9.item x9 9 (Pq b)
end
end Go.Proofs.YtfkdailfcmnjlaaGreatDoor
