/-
  A part.
-/
import Derived.Test.YtfkdailfcmnjlaaGreatDoorCompiles09
set_option linter.all false
set_option maxHeartbeats 40000000
set_option maxRecDepth 1000000
namespace Go.Proofs.YtfkdailfcmnjlaaGreatDoor
open Go Go.RowKit
attribute [local go_sem ↓] Go.wp_at_zero Go.wp_at_succ
variable {B rb gl cl ts s w g z J n x U b r t G v f V w' cs pv q s' y}
def Q9 (rb:Nat) (w:World):Nat:=match w.cell? ⟨rb,1,none⟩ with
 |some v=>(intOf v).toNat
 |none=>0
theorem Ab (h:RS B rb gl cl ts s w):Q9 rb w=s.i:=by
 unfold Q9;rw[h.cells.2.1];simp[intOf]
theorem BO (n):(fY n).length<=1000:=by unfold fY;split;decide;split;decide;split<;>decide
def Eb (f:Nat) (B rb gl cl:Nat) (ts:List Tok) (s:St) (w:World) (n:Nat) (r:Rd) (v:Value) (wr:World):Prop:=
 ∃(s':St) (x:Nat),v= Iq x/\RS B rb gl cl ts s' wr/\Fr rb s.pv s'.pv w wr/\(s.ps.length<=s'.ps.length/\s'.ps.length+s.i<=s.ps.length+s'.i)/\
  ((s'.bad=false/\fw s'/\ ∃g,g<=f/\P g (10+n) ts s'.i (s'.ps.map cL) x=some r)\/(s'.bad=true/\r.ok=false/\r.i=s'.i))
theorem BP (h3:n=3)
 (Z:(b.ok=false/\r=b)\/(b.ok=true/\((n=3/\r=lN b t [x,b.top])\/(n≠3/\P g (10+n) ts b.i (b.L++[⟨t,[x,b.top]⟩]) b.L.length=some r))))
 (hk:iM t=0) (V:z.i=b.i) (I:(b.ok=true/\z.bad=false/\fw z/\z.ps.map cL=b.L)\/(b.ok=false/\z.bad=true)) (O:b.ok=true->U=b.top)
 (h9:RS B rb gl cl ts {z with ps:=z.ps++[⟨t,[x,U],0,v⟩],pv:=G} J) (F:Fr rb s.pv G w J) (gg:s.ps.length<=z.ps.length+1/\z.ps.length+1+s.i<=s.ps.length+z.i):
 Left B rb gl cl ts s w r (.returned (Iq z.ps.length)) J:=by
 refine⟨_,h9,F,by simpa using gg,?_⟩
 rcases Z with⟨E,rfl⟩|⟨E,D⟩
 ·rcases I with⟨D,_⟩|⟨_,bad⟩
  ·rw[E] at D;simp at D
  exact⟨V,.inr ⟨E,bad,_,rfl⟩⟩
 rcases D with⟨_,rfl⟩|⟨D,_⟩
 ·rcases I with⟨_,good,R,Y⟩|⟨D,_⟩
  ·refine⟨V,.inl ⟨rfl,good,nM R (by rw[hk]),?_,?_⟩⟩
   ·simp[lN,cL,Y,O E]
   exact dh (by simp[lN,<-Y])
  rw[E] at D;simp at D
 exact absurd h3 D
theorem Ec (hg:g+1<=f) (h3: ¬n=3)
 (Z:(b.ok=false/\r=b)\/(b.ok=true/\((n=3/\r=lN b t [x,b.top])\/(n≠3/\P g (10+n) ts b.i (b.L++[⟨t,[x,b.top]⟩]) b.L.length=some r))))
 (hk:iM t=0) (Y:z.i=b.i) (I:(b.ok=true/\z.bad=false/\fw z/\z.ps.map cL=b.L)\/(b.ok=false/\z.bad=true)) (O:b.ok=true->V=b.top)
 (h9:RS B rb gl cl ts {z with ps:=z.ps++[⟨t,[x,V],0,v⟩],pv:=G} J) (F:Fr rb s.pv G w J) (gg:s.ps.length<=z.ps.length+1/\z.ps.length+1+s.i<=s.ps.length+z.i):
 Eb f B rb gl cl ts s w n r (Iq z.ps.length) J:=by
 refine⟨_,z.ps.length,rfl,h9,F,by simpa using gg,?_⟩
 rcases Z with⟨E,rfl⟩|⟨E,D⟩
 ·rcases I with⟨D,_⟩|⟨_,bad⟩
  ·rw[E] at D;simp at D
  exact .inr ⟨bad,E,Y.symm⟩
 rcases D with⟨D,_⟩|⟨_,R⟩
 ·exact absurd D h3
 rcases I with⟨_,good,U,hl⟩|⟨D,_⟩
 ·refine .inl ⟨good,nM U (by rw[hk]),g,by omega,?_⟩
  rw[<-hl] at R;simp only[Sv,Sa,SA,cL,O E,Y];rw[SR] at R;exact R
 rw[E] at D;simp at D
theorem BQ (ih:∀g,g<=f->nj g) (h:RS B rb gl cl ts s w) (an:∀t∈ts,lO t) (hB:B<=w.heap.size)
 (R:s.bad=false) (aB:fw s) (n) (O:di n) (hP:P (f+1) n ts s.i (s.ps.map cL) 0=some r):
 Calls Tryz.prog 159 #[Pq rb,Iq n] w (Left B rb gl cl ts s w r):=by
 obtain⟨a,ao,ap⟩:=jd O hP;obtain⟨c0,c1,c2,c3⟩:=h.cells;rw[R] at c3;have H1:=Hi ao;have H2:=Hi R;have H3:=Hi ap;have HC:=Hi O;have aO:(n:Int)<=4:=by unfold di at O;omega
 have aP:((n:Int)==5)=false:=by unfold di at O;simp;omega
 have aQ:((n:Int)==2)=false:=by unfold di at O;simp;omega
 go_enter Tryz.func159,Tryz.ntmps159;go_wp2_with fail;apply((ih f (RL _) B rb gl cl ts s w a h an hB).2 (n+1) (by omega) H2.out aB H1.out).mono
 rintro e w1 hL;obtain⟨s1,x1,rfl,h1,F1,g1,i1,ae,af⟩:=kt hL;have ag:Eb f B rb gl cl ts s w n r (Iq x1) w1:=by
  refine⟨s1,x1,rfl,h1,F1,g1,?_⟩;rcases H3.out with⟨ok,I⟩|⟨ok,rfl⟩
  ·rcases ae.out with⟨_,good,U,hl⟩|⟨hh,_⟩
   ·exact .inl ⟨good,U,f,RL _,by rw[i1.out,hl,af.out ok];exact I⟩
   ·rw[ok] at hh;simp at hh
  ·rcases ae.out with⟨hh,_⟩|⟨_,bad⟩
   ·rw[ok] at hh;simp at hh
   ·exact .inr ⟨bad,ok,i1.out.symm⟩
 go_wp2
 go_loopw [8] (λv wr=>Eb f B rb gl cl ts s w n r v wr) (λ_ wr=>ts.length - Q9 rb wr)
 case atStart=>exact ag
 case round=>
  obtain⟨s',x,rfl,J,ah,gr,aq⟩:=hrel;obtain⟨c0,c1,c2,c3⟩:=J.cells;obtain⟨k0,k1,k2⟩:=gM J;have hi:=J.hi;have hn:=J.hn;have b1:(0:Int)<=(s'.i:Int):=by omega
  have b2:(s'.i:Int)<(ts.length:Int):=by omega
  have n1:=World.new_ne wr _ c1;have aD:=Hi aq;go_wp2_with fail
  go_region_held (λw'=>w'.cell? ⟨rb,0,none⟩=some (Sq gl ts.length cl)/\w'.cell? ⟨rb,1,none⟩=some (Iq s'.i)/\w'.cell? ⟨gl,s'.i*3,none⟩=some (.int .u8 (cr ts s'.i).k)/\w'.cell? ⟨gl,s'.i*3+1,none⟩=some (S (cr ts s'.i).text)/\w'.cell? ⟨gl,s'.i*3+2,none⟩=some (Iq (cr ts s'.i).pl)) (go_keep) (fail)
  rename_i hHeld
  have h2:=J.below (eD wr (dO (cr ts s'.i)));have V:((wr.alloc (dO (cr ts s'.i))).drew).heap[wr.heap.size]?=some (dO (cr ts s'.i)):=RO wr _;have ab:=eD wr (dO (cr ts s'.i));generalize hW:(wr.alloc (dO (cr ts s'.i))).drew=w2 at*;have q1:=RM w2 wr.heap.size 1 _ _ _ V;have ai:=cq V;simp only[RY,RZ,RX] at q1;go_wp2_with fail
  go_region_held3 (λw'=>w'.cell? ⟨wr.heap.size,1,none⟩=some (S (cr ts s'.i).text))
   (first|go_keep|(rw[aj.cell (p:=⟨wr.heap.size,1,none⟩) (by simp<;>omega)];first|assumption|(simp[*];done)))
   (first
    |(go_at_call 221;refine(Hh n _ (by omega)).mono ?_;rintro e E ⟨x5,rfl,ar,aj,aE,aF⟩)
    |(go_at_call 87;refine(iT (fY n) _ x5 _ (BO n) ar).mono ?_;rintro e E ⟨rfl,rfl⟩))
  rename_i hHeld
  have ac:=(RP _ _).drew.trans aj;have h5:=h2.below ac;have z:E.heap[wr.heap.size]?=some (dO (cr ts s'.i)):=by rw[ac.block _ ai];exact V
  have q0:=RM E wr.heap.size 0 _ _ _ z;have q1:=RM E wr.heap.size 1 _ _ _ z;have q2:=RM E wr.heap.size 2 _ _ _ z;have Y:Below wr.heap.size wr E:=ab.trans (ac.mono ab.size);obtain⟨c0,c1,c2,c3⟩:=h5.cells;have hf:=h5.free;have i2:=jC (fY n) (cr ts s'.i).text;have hx:(s'.i:Int)+1<=2000:=by omega
  have aG:=cq J.rd;simp only[RY,RZ,RX] at q0 q1 q2;have hj:eX n (cr ts s'.i)=(decide (0<=du (fY n) (cr ts s'.i).text)&&((cr ts s'.i).k==107||(cr ts s'.i).k==115)):=rfl;generalize hM:du (fY n) (cr ts s'.i).text=m at*;have HJ:=Hi hj;rcases aD.out with⟨good,U,g,hg,I⟩|⟨bad,au,ri⟩
  ·rw[good] at c3
   have HG:=Hi good
   by_cases G:eX n (cr ts s'.i)=true
   ·obtain⟨g,rfl⟩:∃g',g=g'+1:=by
     cases g with
     |zero=>rw[P] at I;simp at I
     |succ g=>exact⟨g,rfl⟩
    obtain⟨b,av,ak⟩:=nG HC.out I G;have hm:0<=m/\((cr ts s'.i).k=107\/(cr ts s'.i).k=115):=by
     rw[HJ.out] at G;simpa using G
    have aH:s'.i+1<ts.length:=by
     rcases SZ (s'.i+1) ts.length with h3|h3
     ·exact h3
     ·have h4:(cr ts s'.i).k=101:=J.fin s'.i (by omega)
      omega
    have HK:Hid (iM (cr ts s'.i)=0):=by show _=_;unfold iM;rw[RH (by omega)]
    have aI:=Hi av;have HR:=Hi ak;have h6:=h5.next aH;have F6:Fr rb s.pv s'.pv w (E.setCell ⟨rb,1,none⟩ (Iq ((s'.i:Int)+1))):=ah.trans ((Fr.of_below Y).set aG _ _);have D:(E.setCell ⟨rb,1,none⟩ (Iq ((s'.i:Int)+1))).heap[wr.heap.size]?=some (dO (cr ts s'.i)):=by
     rw[RQ _ _ _ _ (by simp;omega)];exact z
    have H6:=Hi h6;have aw:=Hi F6;have ax:=Hi D;obtain⟨aR,hk⟩:=hm;have aJ:((((cr ts s'.i).k:Int) !=107)=false)\/((((cr ts s'.i).k:Int) !=107)=true/\(((cr ts s'.i).k:Int) !=115)=false):=by
     rcases hk with hk|hk<;>simp[hk]
    rcases aJ with ay|⟨ay,aK⟩
    all_goals
     go_wp2_with fail;have h6:=H6.out;have F6:=aw.out;have D:=ax.out;generalize E.setCell ⟨rb,1,none⟩ (Iq ((s'.i:Int)+1))=w6 at*;have aS:=F6.size;apply((ih g (by omega) B rb gl cl ts {s' with i:=s'.i+1} w6 b h6 an (by omega)).2 (n+1) (by omega) HG.out U aI.out).mono
     rintro e w7 hL;obtain⟨s7,n7,rfl,h7,F7,g7,i7,az,am⟩:=kt hL;have aT:=F7.size;have Z:=F7.far D (by omega) (lJ h6 D (by simp))
     have q0:=RM w7 wr.heap.size 0 _ _ _ Z;have q1:=RM w7 wr.heap.size 1 _ _ _ Z;have q2:=RM w7 wr.heap.size 2 _ _ _ Z;have F:=F6.trans F7;go_wp2_with fail;apply(ko (h7.below ((RP _ _).alloc (RL _) _)) ⟨cr ts s'.i,[x,n7],0,Sq w7.heap.size 2 2⟩ (.inr ⟨w7.heap.size,rfl,RO w7 _⟩) (by simp;omega) (by have:=J.few;omega)).mono
     rintro e w9 ⟨rfl,aU,h9,F9⟩;have aA:=F.trans ((Fr.of_below ((RP _ _).alloc (RL _) _)).trans F9);have gg:s.ps.length<=s7.ps.length+1/\s7.ps.length+1+s.i<=s.ps.length+s7.i:=by have:=J.few;omega
     have aN:s'.i<s7.i:=by omega
     by_cases h3:n=3
    all_goals
     try (
      have H3:=Hi h3;go_wp2;go_ret;exact BP H3.out HR.out HK.out i7.out az.out am.out h9 aA gg)
    all_goals
     have aL:((n:Int)==3)=false:=by simp;omega
     have H3:=Hi h3;go_wp2
     go_roundw
     case rel=>exact Ec hg H3.out HR.out HK.out i7.out az.out am.out h9 aA gg
     case measure=>rw[Ab h9,Ab J];have:=h7.hi;simp;omega
   ·have ad:Hid (r=⟨true,s'.i,s'.ps.map cL,x⟩):=by
     cases g with
     |zero=>rw[P] at I;simp at I
     |succ g=>exact om HC.out I (by simpa using G)
    have aa:Left B rb gl cl ts s w r (.returned (Iq x)) E:=
     ⟨s',h5,ah.trans (Fr.of_below Y),gr,by rw[ad.out],.inl ⟨by rw[ad.out],HG.out,U,by rw[ad.out],by rw[ad.out]⟩⟩
    by_cases hm:m<0
    ·go_wp2
     go_ret;exact aa
    ·have hk:(((cr ts s'.i).k:Int) !=107)=true/\(((cr ts s'.i).k:Int) !=115)=true:=by
      rw[HJ.out] at G;simp at G⊢;omega
     obtain⟨ay,aK⟩:=hk;go_wp2;go_ret;exact aa
  ·have aa:Left B rb gl cl ts s w r (.returned (Iq x)) E:=
    ⟨s',h5,ah.trans (Fr.of_below Y),gr,ri.symm,.inr ⟨au,bad,x,rfl⟩⟩
   rw[bad] at c3;go_wp2;go_ret;exact aa
theorem Ed:nj 0:=by
 intro B rb gl cl ts s w r h I J;refine⟨λA=>?_,λn _ _ _ q=>by rw[P] at q;simp at q⟩
 rcases A with⟨z,D,E⟩|⟨_,_,q⟩
 ·refine(rh h z).mono ?_;rintro e w' ⟨rfl,G⟩;exact BM h z D E 0 G
 rw[P] at q;simp at q
theorem Ee (f) (ih:∀g,g<=f->nj g):nj (f+1):=by
 intro B rb gl cl ts s w r h A D;refine⟨λI=>wu (ih f (RL _)) h A D I,λn R q z E=>?_⟩
 by_cases J:n=5
 ·subst J;exact Ea (ih f (RL _)) h A D q z E
 by_cases O:n=2
 ·subst O;by_cases G:eE (cr ts s.i) iw=true
  ·exact yh (ih f (RL _)) h A D q z E G
  exact Aa (ih f (RL _)) h A D q z E G
 exact BQ ih h A D q z n (by unfold di;omega) E
theorem Eg (f):∀g,g<=f->nj g:=by
 induction f with
 |zero=>intro g q;rw[Nat.le_zero.1 q];exact Ed
 |succ f ih=>
  intro g q;rcases SZ g (f+1) with h|h
  ·exact ih g (by omega)
  rw[show g=f+1 from by omega];exact Ee f ih
theorem Ho (f):nj f:=Eg f f (RL _)
def wy (x:dk):Value:= .agg #[S x.name,.bool x.allow,Iq x.top,Iq x.pl,Iq x.named,Iq x.parts]
abbrev gK (x:dk):Obj:= .cells #[S x.name,.bool x.allow,.int .i64 x.top,.int .i64 x.pl,.int .i64 x.named,.int .i64 x.parts] 95
def OP (B rb gl cl:Nat) (ts:List Tok) (s:St) (w:World) (r:vP) (e:Ending) (w':World):Prop:=
 ∃(s':St) (x:dk),e= .returned (wy x)/\RS B rb gl cl ts s' w'/\Fr rb s.pv s'.pv w w'/\(s.ps.length<=s'.ps.length/\s'.ps.length+s.i<=s.ps.length+s'.i)/\s'.i=r.i/\
  ((r.ok=true/\s'.bad=false/\fw s'/\s'.ps.map cL=r.L/\x=r.it)\/(r.ok=false/\s'.bad=true))
theorem RS.but (h:RS B rb gl cl ts s w) {b:Nat} (E:w.heap[b]?=some (.cells cs 95 (0,0))) (G:∀k,k≠b->w'.heap[k]?=w.heap[k]?):RS B rb gl cl ts s w':=by
 have A:∀(k:Nat) (q:Array Value) (e:TypeId),w.heap[k]?=some (.cells q e (0,0))->e≠95->w'.heap[k]?=w.heap[k]?:=λk q e z I=>G k λJ=>by
  subst J;rw[E] at z;simp at z;exact I z.2.symm
 refine⟨?_,?_,?_,?_,h.hb,h.hi,h.hn,h.fin,h.few⟩
 ·rw[A _ _ _ h.rd (by decide)];exact h.rd
 ·refine cO h.words λk z=>?_
  obtain⟨q,D⟩:=cM h.words z;exact A k q _ D (by decide)
 ·refine cO h.parts λk z=>?_
  obtain⟨q,D⟩:=cM h.parts z;exact A k q _ D (by decide)
 intro p O;exact(h.subs p O).of λk q z=>A k q _ z (by decide)
theorem Fr.new (h:Fr rb pv q w w') (E:w.heap.size<=b) (j) (v):Fr rb pv q w (w'.setCell ⟨b,j,none⟩ v):=
 ⟨h.os,h.tape,h.output,by simpa using h.size,λk z A D=>by rw[RQ _ _ _ _ (by simp;omega)];exact h.block k z A D,h.own⟩
def Ny (w:World) (b:Nat) (x:dk):World:=
 (((((w.setCell ⟨b,0,none⟩ (S x.name)).setCell ⟨b,1,none⟩ (.bool x.allow)).setCell ⟨b,2,none⟩ (Iq x.top)).setCell ⟨b,3,none⟩ (Iq x.pl)).setCell ⟨b,4,none⟩ (Iq x.named)).setCell ⟨b,5,none⟩ (Iq x.parts)
theorem K9 (w) (b:Nat) (x) (k) (q:k≠b):(Ny w b x).heap[k]?=w.heap[k]?:=by
 unfold Ny;rw[RQ _ _ _ _ q,RQ _ _ _ _ q,RQ _ _ _ _ q,RQ _ _ _ _ q,RQ _ _ _ _ q,RQ _ _ _ _ q]
theorem Nz (h:Fr rb pv z w w') (q:w.heap.size<=b) (x):Fr rb pv z w (Ny w' b x):=
 (((((h.new q _ _).new q _ _).new q _ _).new q _ _).new q _ _).new q _ _
theorem gN (h:w.heap[b]?=some (gK x)):(Cq w b 0 (S x.name)/\Cq w b 1 (.bool x.allow)/\Cq w b 2 (Iq x.top)/\Cq w b 3 (Iq x.pl)/\Cq w b 4 (Iq x.named)/\Cq w b 5 (Iq x.parts))/\ ∀j,w.frozen? ⟨b,j,none⟩=false:=by
 have q:=λj=>RM w b j _ _ _ h
 exact⟨⟨q 0,q 1,q 2,q 3,q 4,q 5⟩,λj=>by simp[World.frozen?,h]⟩
theorem Hp (w) (q A z):Bl w (((w.alloc q).alloc A).alloc z).drew/\(((w.alloc q).alloc A).alloc z).drew.heap[w.heap.size]?=some q/\(((w.alloc q).alloc A).alloc z).drew.heap[w.heap.size+1+1]?=some z:=by
 refine⟨((((RP _ _).alloc (RL _) _).alloc (by simp) _).alloc (by simp;omega) _).drew,?_,?_⟩
 ·show(((w.alloc q).alloc A).alloc z).heap[w.heap.size]?=some q;rw[RV _ _ _ (by simp;omega),RV _ _ _ (by simp)];exact RO w q
 have e:=RO ((w.alloc q).alloc A) z;simp only[RW] at e;exact e
theorem sD {b:Nat} (h:RS B rb gl cl ts s' w') (q:Fr rb s.pv s'.pv w w') (z:w.heap.size<=b) (A:w'.heap[b]?=some (gK y))
 (D:s.ps.length<=s'.ps.length/\s'.ps.length+s.i<=s.ps.length+s'.i) (E:s'.i=r.i) (G:(r.ok=true/\s'.bad=false/\fw s'/\s'.ps.map cL=r.L/\x=r.it)\/(r.ok=false/\s'.bad=true)):
 OP B rb gl cl ts s w r (.returned (wy x)) (Ny w' b x):=
 ⟨s',x,rfl,h.but A (K9 w' b x),Nz q z x,D,E,G⟩
end Go.Proofs.YtfkdailfcmnjlaaGreatDoor
