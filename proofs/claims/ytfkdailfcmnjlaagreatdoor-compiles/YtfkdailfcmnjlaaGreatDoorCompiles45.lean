/-
  A part.
-/
import Derived.Test.YtfkdailfcmnjlaaGreatDoorCompiles41
import Derived.Test.YtfkdailfcmnjlaaGreatDoorCompiles44
set_option linter.all false
set_option maxHeartbeats 40000000
set_option maxRecDepth 1000000
namespace Go.Proofs.YtfkdailfcmnjlaaGreatDoor
open Go Go.RowKit Tryz
attribute [local go_sem ↓] Go.wp_at_zero Go.wp_at_succ
variable {w W z e s lv}
theorem Gb (l) (w) (V:l.length<=maxLen) (G:(cF l).1.1=0):Calls prog 24 #[S l] w λe w'=>e= .returned (.tuple #[Iq (cF l).2.1.length,Iq (cF l).2.2.length])/\Below w.heap.size w w':=by
 have I:=(sH l w V).mono λe w' (h:lq _ _ _ _ _ e w')=>(show Below w.heap.size w w'/\ ∃a c z A,e= .returned (.tuple #[.agg #[.slice a (cF l).2.2.length c,.slice z (cF l).2.1.length A],Iq (cF l).1.1,Iq (cF l).1.2]) from by
  obtain⟨D,iv,pv,rfl,⟨a,b,c,rfl⟩,⟨z,Y,A,rfl⟩,_,Z⟩:=h;obtain⟨hI,ps,E,_,_,_,J⟩:=Z G;have e1:b=(cF l).2.2.length:=by
   rcases hI.form with⟨e,h⟩|⟨g,c1,e⟩
   ·simp only[Sb] at e;omega
   ·simp only[Sb] at e;exact e.2.1
  have e2:Y=(cF l).2.1.length:=by
   obtain⟨q,cap,e⟩:=rC E;simp only[Sb] at e;rw[e.2.1,<-J,SR]
  rw[e1,e2];exact⟨D,a,c,z,A,rfl⟩)
 generalize (cF l).1.1=n at*;generalize (cF l).1.2=k at*;generalize (cF l).2.1.length=L at*;generalize (cF l).2.2.length=xs at*;go_enter func24,ntmps24;go_wp2_with fail;apply I.mono;rintro e w1 ⟨D,a,c,z,A,rfl⟩;have O:=Hi D;go_wp2
 go_region
 go_wp2;refine RU (v:= .tuple #[Iq L,Iq xs]) (by simp[results,results24,go_sem]) rfl ?_
 exact⟨rfl,(O.out.alloc O.out.size _).drew⟩
structure Be (w W) (e:Ev) (s:zw) (lv mv):Prop where
 bel:Below w.heap.size w W
 ev:W.heap[w.heap.size]?=some (.cells #[S e.sender,S e.target,Iq e.wants,Iq e.need,Iq e.when_] 46 (0,0))
 st:W.heap[w.heap.size+1]?=some (.cells #[lv,Iq s.dflt,mv,.bool s.open_] 50 (0,0))
theorem Be.start (w) (e:Ev) (s:zw) (lv mv):Be w ((w.alloc (.cells #[S e.sender,S e.target,Iq e.wants,Iq e.need,Iq e.when_] 46 (0,0))).alloc (.cells #[lv,Iq s.dflt,mv,.bool s.open_] 50 (0,0))) e s lv mv:=
 ⟨((RP _ _).alloc (RL _) _).alloc (by simp) _,by rw[RV _ _ _ (by simp)];exact RO w _,by have q:=RO (w.alloc (.cells #[S e.sender,S e.target,Iq e.wants,Iq e.need,Iq e.when_] 46 (0,0))) (.cells #[lv,Iq s.dflt,mv,.bool s.open_] 50 (0,0));rw[RW] at q;exact q⟩
theorem Be.below {mv} (h:Be w W e s lv mv) (q:Below W.heap.size W z):Be w z e s lv mv:=
 ⟨h.bel.trans (q.mono h.bel.size),(q.block _ (cq h.ev)).trans h.ev,(q.block _ (cq h.st)).trans h.st⟩
theorem Be.cells {w W e} {s:zw} {lv mv} (h:Be w W e s lv mv):(Cq W w.heap.size 0 (S e.sender)/\Cq W w.heap.size 1 (S e.target)/\Cq W w.heap.size 2 (Iq e.wants)/\Cq W w.heap.size 3 (Iq e.need)/\Cq W w.heap.size 4 (Iq e.when_))/\
 (Cq W (w.heap.size+1) 0 lv/\Cq W (w.heap.size+1) 1 (Iq s.dflt)/\Cq W (w.heap.size+1) 2 mv/\Cq W (w.heap.size+1) 3 (.bool s.open_))/\w.heap.size<W.heap.size/\w.heap.size+1<W.heap.size/\w.heap.size≠W.heap.size/\W.heap.size≠w.heap.size/\w.heap.size+1≠W.heap.size/\W.heap.size≠w.heap.size+1:=by
 have q:=cq h.ev;have z:=cq h.st;exact⟨⟨RM W _ 0 _ _ _ h.ev,RM W _ 1 _ _ _ h.ev,RM W _ 2 _ _ _ h.ev,RM W _ 3 _ _ _ h.ev,RM W _ 4 _ _ _ h.ev⟩,⟨RM W _ 0 _ _ _ h.st,RM W _ 1 _ _ _ h.st,RM W _ 2 _ _ _ h.st,RM W _ 3 _ _ _ h.st⟩,q,z,by omega,by omega,by omega,by omega⟩
theorem DI {mv} (l:LB) (n) (e) (s) (w) (hW:Wd w) (G:l.length<=maxLen) (aa:lv.oneCell'=true) (ab:mv.oneCell'=true) (Y: ¬(cF l).1.1=0):
 Calls prog 8 #[S l,Iq n,zx e,lW lv mv s] w λA w'=>A= .returned (.bool true)/\Bl w w':=by
 have Z:=xr l;have J:=λw=>GG (cF l).1.1 Z w
 have I:=λW h=>oY l n W (Wd.below hW h) G
 have O:=λW=>yW l W G
 have R:iC l n=[]:=by unfold iC;rw[RH Y]
 rw[R] at I;have U:=Hi (Be.start w e s lv mv);generalize (cF l).1.1=x at*;generalize (cF l).1.2=k at*;unfold zx lW at*;obtain⟨sn,tg,wa,nd,wh⟩:=e;obtain⟨ls,df,ms,op⟩:=s;simp only[] at*;have e1:(x==0)=false:=by
  have: ¬x=0:=by omega
  simpa using this
 have e2:(x !=0)=true:=by
  have: ¬x=0:=by omega
  simpa using this
 go_enter func8,ntmps8;go_wp2_with fail;have q:=U.out;generalize ((w.alloc (.cells #[S sn,S tg,Iq wa,Iq nd,Iq wh] 46 (0,0))).alloc (.cells #[lv,Iq df,mv,.bool op] 50 (0,0)))=wz at*;apply(I wz q.bel).mono;rintro A w1 ⟨rfl,D⟩;have z:=Hi (q.bel.trans (D.mono q.bel.size));go_wp2_with fail;apply(O w1).mono;rintro A w2 ⟨rfl,E⟩;have V:=Hi (z.out.trans (E.mono z.out.size));go_wp2_with fail;apply(J w2).mono;rintro A w3 ⟨rfl,rfl⟩;go_wp2_with fail;go_ret;exact⟨rfl,V.out⟩
theorem DJ {mv} (l:LB) (n) (e) (s) (w) (hW:Wd w) (hE:Ef w) (hm:l.length<=maxLen) (h1:dD lv s.levels w) (h2:dD mv s.members w) (am:s.levels.length<=5900000000000) (an:s.members.length<=5900000000000) (hw:dL e.wants) (hF:gh (dM e s)) (G:(cF l).1.1=0):
 Calls prog 8 #[S l,Iq n,zx e,lW lv mv s] w λE w'=>E= .returned (.bool true)/\Bl w w':=by
 have HN:=λw=>GG 0 (by decide) w
 have W1:=λW h=>oY l n W (Wd.below hW h) hm
 have W2:=λW=>yW l W hm
 have az:lv.oneCell'=true:=by obtain⟨_,a,c,rfl,_⟩:=h1;rfl
 have aA:mv.oneCell'=true:=by obtain⟨_,a,c,rfl,_⟩:=h2;rfl
 obtain⟨ins,ac,ak,ae⟩:=Kf l n G;obtain⟨St,hj⟩:=ae _ hF;have ao:=(Mg (oS l G) (xy l G)).few;have W3:=λW=>Gb l W hm G
 have W4:=λW=>zQ (iC l n) W
 unfold tI at W4;rw[ac] at W4;simp only[] at W4;have W5:=λ(W:World) (rp:Nat) (h:Bl w W) (aa:W.heap[rp]?=some (.cells #[S (iC l n)] 130 (0,0)))=>xZ (w:=W) e s ac aa (h1.below h) (h2.below h) hw (xv hF) hj
 have W6:=λW h=>Me l e s W hm (h1.below h) (h2.below h) hw hF
 have W7:=λW=>Jc l W hm
 have W8:(fU l).length<=1000-> ∀W,Bl w W->Calls prog 23 #[S (fU l),Iq (bits .and .i64 n 15)] W λe w'=>e= .returned (.tuple #[S (iC l n),Iq 0,Iq 0])/\Bl W w':=λhp W h=>by
  have q:=oY (fU l) (bits .and .i64 n 15) W (Wd.below hW h) (by unfold maxLen;omega)
  rw[Qc,FQ l n G hp,(xu l G hp).1] at q;exact q
 have W9:=λW h=>Ga (iC l n) e s W (hE.below hE.pos h) (h1.below h) (h2.below h) am an hw (xv hF)
 have hz:=zC l G;rw[G,hz] at W1 W2;rw[G] at W6;rw[G,hz] at W7;have H0:=Hi (Be.start w e s lv mv);have ap:Hid (QN=λr=> .agg #[.bool r.1,Iq r.2,Iq 0]):=rfl
 have aq:Hid (ny=λa r s=> .agg #[.bool a,Iq r,Iq s]):=rfl
 rw[ap.out] at W6;rw[aq.out] at W5;generalize nB l (dM e s)=r at*;obtain⟨ra,rn⟩:=r;simp only[] at W5 W6;generalize iC l n=b at*;generalize fU l=p at*;generalize (cF l).2.1.length=pl at*;generalize (cF l).2.2.length=Y at*;unfold zx lW at*;obtain⟨sn,tg,wa,nd,wh⟩:=e;obtain⟨ls,df,ms,op⟩:=s;simp only[] at*;have x1:IntKind.i64.wrap (24*pl)=24*pl:=by rw[Ss];omega
 have x2:IntKind.i64.wrap (16*Y)=16*Y:=by rw[Ss];omega
 have x3:IntKind.i64.wrap (24*pl+16*Y)=24*pl+16*Y:=by rw[Ss];omega
 have x4:IntKind.i64.wrap (24*pl+16*Y+32)=24*pl+16*Y+32:=by rw[Ss];omega
 have x5:b.length<=24*pl+16*Y+32:=by omega
 go_enter func8,ntmps8;go_wp2_with fail;have s0:=H0.out;generalize ((w.alloc (.cells #[S sn,S tg,Iq wa,Iq nd,Iq wh] 46 (0,0))).alloc (.cells #[lv,Iq df,mv,.bool op] 50 (0,0)))=wz at*;apply(W1 wz s0.bel).mono;rintro E w1 ⟨rfl,af⟩;have S1:=Hi (s0.below af);go_wp2_with fail;apply(W2 w1).mono;rintro E w2 ⟨rfl,ag⟩;have S2:=Hi (S1.out.below ag);go_wp2_with fail;apply(HN w2).mono;rintro E w3 ⟨rfl,rfl⟩;go_wp2_with fail;apply(W3 _).mono;rintro E w3 ⟨rfl,ah⟩;have S3:=Hi (S2.out.below ah);go_wp2_with fail;apply(W4 _).mono;rintro E w4 ⟨⟨rp,ar,rfl,aa⟩,ai⟩;have S4:=Hi (S3.out.below ai);have V5:=W5 w4 rp S4.out.bel aa;obtain⟨⟨c0,c1,c2,c3,c4⟩,⟨Z,d1,d2,d3⟩,k1,k2,k3,k4,k5,k6⟩:=S4.out.cells;go_wp2_with fail;apply V5.mono;rintro E w5 ⟨rfl,aj⟩;have S5:=Hi (S4.out.below aj);obtain⟨⟨c0,c1,c2,c3,c4⟩,⟨Z,d1,d2,d3⟩,k1,k2,k3,k4,k5,k6⟩:=S5.out.cells;have J:Bl w5 (w5.alloc (.cells #[.bool ra,Iq rn,Iq St] 40 (0,0))):=(RP _ _).alloc (RL _) _;have S6:=Hi (And.intro (S5.out.below J) (RO w5 (.cells #[.bool ra,Iq rn,Iq St] 40 (0,0))));go_wp2_with fail;obtain⟨s6,v6⟩:=S6.out;generalize au:w5.heap.size=bv at*;generalize (w5.alloc (.cells #[.bool ra,Iq rn,Iq St] 40 (0,0)))=w6 at*;apply(W6 w6 s6.bel).mono;rintro E w7 ⟨rfl,ad⟩;have s7:=s6.below ad;have v7:=(ad.block _ (cq v6)).trans v6;have J:Bl w7 (w7.alloc (.cells #[.bool ra,Iq rn,Iq 0] 40 (0,0))):=(RP _ _).alloc (RL _) _;have S8:=Hi (And.intro (s7.below J) (And.intro ((J.block _ (cq v7)).trans v7) (RO w7 (.cells #[.bool ra,Iq rn,Iq 0] 40 (0,0)))));go_wp2_with fail;obtain⟨s8,v8,u8⟩:=S8.out;generalize av:w7.heap.size=bu at*;generalize (w7.alloc (.cells #[.bool ra,Iq rn,Iq 0] 40 (0,0)))=w8 at*;apply(W7 w8).mono;rintro E w9 ⟨rfl,ab⟩;have I:=s8.below ab;have R:=(ab.block _ (cq v8)).trans v8;have u9:=(ab.block _ (cq u8)).trans u8;by_cases hp:p.length<=1000
 ·have V8:=W8 hp w9 I.bel;have aw:p.length<=1000:=by omega
  have S9:=Hi (And.intro I (And.intro R u9));go_wp2_with fail;apply V8.mono;rintro E ax ⟨rfl,O⟩;obtain⟨I,R,u9⟩:=S9.out;have A:=I.below O;have D:=(O.block _ (cq R)).trans R;have u10:=(O.block _ (cq u9)).trans u9;have V9:=W9 ax A.bel;obtain⟨⟨c0,c1,c2,c3,c4⟩,⟨Z,d1,d2,d3⟩,k1,k2,k3,k4,k5,k6⟩:=A.cells;have U:=Hi (And.intro A (And.intro D u10));go_wp2_with fail;apply V9.mono;rintro E ay ⟨rfl,z⟩;obtain⟨A,D,u10⟩:=U.out;have V:=(z.block _ (cq D)).trans D;have u11:=(z.block _ (cq u10)).trans u10;have HB:=Hi (A.below z).bel;obtain⟨⟨y0,y1,y2⟩,yf⟩:=jz V;obtain⟨⟨z0,z1,z2⟩,zf⟩:=jz u11;go_wp2_with fail;go_ret;exact⟨rfl,HB.out⟩
 have aw: ¬p.length<=1000:=by omega
 have V9:=W9 w9 I.bel;obtain⟨⟨c0,c1,c2,c3,c4⟩,⟨Z,d1,d2,d3⟩,k1,k2,k3,k4,k5,k6⟩:=I.cells;have U:=Hi (And.intro I (And.intro R u9));go_wp2_with fail;apply V9.mono;rintro E ay ⟨rfl,z⟩;obtain⟨A,D,u10⟩:=U.out;have V:=(z.block _ (cq D)).trans D;have u11:=(z.block _ (cq u10)).trans u10;have HB:=Hi (A.below z).bel;obtain⟨⟨y0,y1,y2⟩,yf⟩:=jz V;obtain⟨⟨z0,z1,z2⟩,zf⟩:=jz u11;go_wp2_with fail;go_ret;exact⟨rfl,HB.out⟩
theorem Bf {mv} (l:LB) (n) (e) (s) (w) (hW:Wd w) (I:Ef w) (q:l.length<=maxLen) (z:dD lv s.levels w) (A:dD mv s.members w) (D:s.levels.length<=5900000000000) (E:s.members.length<=5900000000000) (J:dL e.wants) (O:gh (dM e s)):
 Calls prog 8 #[S l,Iq n,zx e,lW lv mv s] w λR w'=>R= .returned (.bool true)/\Bl w w':=by
 by_cases G:(cF l).1.1=0
 ·exact DJ l n e s w hW I q z A D E J O G
 exact DI l n e s w hW q (by obtain⟨_,a,c,rfl,_⟩:=z;rfl) (by obtain⟨_,a,c,rfl,_⟩:=A;rfl) G
end Go.Proofs.YtfkdailfcmnjlaaGreatDoor
