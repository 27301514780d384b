/-
  A part.
-/
import Derived.Test.YtfkdailfcmnjlaaGreatDoorCompiles12
set_option linter.all false
set_option maxHeartbeats 40000000
set_option maxRecDepth 1000000
namespace Go.Proofs.YtfkdailfcmnjlaaGreatDoor
open Go Go.RowKit Tryz
attribute [local go_sem ↓] Go.wp_at_zero Go.wp_at_succ
variable {base v B g a n c ps}
theorem Ie:(prog.info? 9).map (λi=>(i.zero,i.size,i.bytes))=some (some (.string ⟨#[]⟩),1,16):=by kernel_rfl
theorem Lm {w:World} {l:List Nat} {F:Nat->List UInt8} (h:w.ownsRow base 9 1 v l.length (l.map λi=>S (F i))):∃a cap,v= .slice a l.length cap/\ ∀j,j<l.length-> ∃g,a=some ⟨g,0,none⟩/\w.cell? ⟨g,j,none⟩=some (S (F (l.getD j 0))):=by
 obtain⟨O,h⟩:=h;rcases h with⟨rfl,E⟩|⟨g,cap,z,rfl,R,G,U,V,h3,I⟩
 ·exact⟨none,0,by rw[E],λk D=>by omega⟩
 refine⟨_,cap,rfl,λk D=>⟨g,rfl,?_⟩⟩
 rw[RM w g k _ _ _ G];have J:z[k]?=(z.toList.take (l.length*1))[k]?:=by
  rw[Tm (by omega)];simp
 rw[J,I];simp[D,RG]
theorem BZ {cap} {L:List Pt} (f:Nat) (F:Nat->LB) (hF:∀j,(F j).length<=100000000)
 (k) (w) (h:fm B g cap ps w) (hk:k<ps.length) (ba:(ps.getD k cU).tok.text.length<=1000) (am:(ps.getD k cU).subs.length<=3) (ay:∀j∈(ps.getD k cU).subs,j<=5000) (az:(ps.getD k cU).tok.k=110->(ps.getD k cU).n=dG (ps.getD k cU).tok.text/\dG (ps.getD k cU).tok.text<=9223372036854775807)
 (ih:∀j∈(ps.getD k cU).subs,∀w1,fm B g cap ps w1->Calls prog 35 #[.agg #[.slice a n c,Sq g ps.length cap],Iq j] w1 λe w'=>e= .returned (S (F j))/\Bl w1 w'):
 Calls prog 35 #[.agg #[.slice a n c,Sq g ps.length cap],Iq k] w λe w'=>e= .returned (S (if(ps.getD k cU).tok.k=110 then pz (dG (ps.getD k cU).tok.text) else pA (ps.getD k cU).tok.text ((ps.getD k cU).subs.map F)))/\Bl w w':=by
 obtain⟨i0,hi,aM,aN,aO⟩:=Tz Ie;obtain⟨k0,k1,k2,k3,k4⟩:=h.cells k hk;have aK:(ps.getD k cU).sv.oneCell'=true:=by
  have hm:ps.getD k cU∈ps:=by rw[RG,RI hk];exact R4 hk
  exact(h.subs _ hm).one
 have b1:(0:Int)<=(k:Int):=by omega
 have b2:(k:Int)<(ps.length:Int):=by omega
 have lg:=RN w _ k0;simp only at lg;have an:=h.sub k hk;have IH:=Hi ih;have HN:=Hi az;have aA:=Hi ay;have HH:=Hi h;generalize ps.getD k cU=pp at*;obtain⟨sa,aB,aC⟩:∃sa,pp.sv= .slice sa pp.subs.length pp.subs.length/\ ∀j,j<pp.subs.length-> ∃U,sa=some ⟨U,0,none⟩/\Cq w U j (Iq (pp.subs.getD j 0)):=by
  rcases an with⟨e1,Z⟩|⟨U,Z,aP⟩
  ·exact⟨none,by rw[e1,Z];rfl,λj hj=>by rw[e1] at hj;simp at hj⟩
  refine⟨some ⟨U,0,none⟩,Z,λj hj=>⟨U,rfl,?_⟩⟩
  exact aP j hj
 rw[aB] at k3 aK;have aD:=Hi aC;generalize pp.subs=sl at*;generalize pp.tok.k=tk at*;generalize pp.tok.text=E at*;generalize pp.tok.pl=tp at*;generalize pp.n=tn at*;generalize hr:(if tk=110 then pz (dG E) else pA E (sl.map F))=r;have HR:=Hi hr;go_enter func35,ntmps35;have aE:Bl w ((w.alloc (.cells #[.slice a n c,Sq g ps.length cap] 90)).alloc (.cells #[.int .u8 tk,S E,Iq tp,.slice sa sl.length sl.length,Iq tn] 169)):=((RP _ _).alloc (RL _) _).alloc (by simp) _
 have aF:((w.alloc (.cells #[.slice a n c,Sq g ps.length cap] 90)).alloc (.cells #[.int .u8 tk,S E,Iq tp,.slice sa sl.length sl.length,Iq tn] 169)).heap[w.heap.size]?=some (.cells #[.slice a n c,Sq g ps.length cap] 90 (0,0)):=by rw[RV _ _ _ (by simp)];exact RO w _
 have aG:((w.alloc (.cells #[.slice a n c,Sq g ps.length cap] 90)).alloc (.cells #[.int .u8 tk,S E,Iq tp,.slice sa sl.length sl.length,Iq tn] 169)).heap[w.heap.size+1]?=some (.cells #[.int .u8 tk,S E,Iq tp,.slice sa sl.length sl.length,Iq tn] 169 (0,0)):=by have e:=RO (w.alloc (.cells #[.slice a n c,Sq g ps.length cap] 90)) (.cells #[.int .u8 tk,S E,Iq tp,.slice sa sl.length sl.length,Iq tn] 169);rw[RW] at e;exact e
 have H0:=Hi (And.intro aE (And.intro aF aG));go_wp2;go_loopw [6,7] (λsv jv wr=> ∃j,j<=sl.length/\jv= Iq j/\wr.ownsRow w.heap.size 9 1 sv j ((sl.take j).map λi=>S (F i))/\Bl w wr/\wr.heap[w.heap.size]?=some (.cells #[.slice a n c,Sq g ps.length cap] 90 (0,0))/\wr.heap[w.heap.size+1]?=some (.cells #[.int .u8 tk,S E,Iq tp,.slice sa sl.length sl.length,Iq tn] 169 (0,0))) (λ_ jv _=>sl.length - (intOf jv).toNat)
 case atStart=>exact⟨0,R0 _,rfl,SC _ _ _ _,H0.out.1,H0.out.2.1,H0.out.2.2⟩
 case round=>
  obtain⟨j,hj,rfl,V,I,Y,R⟩:=hrel;have p0:=RM wr w.heap.size 0 _ _ _ Y;have p1:=RM wr w.heap.size 1 _ _ _ Y;have x0:=RM wr (w.heap.size+1) 0 _ _ _ R;have x1:=RM wr (w.heap.size+1) 1 _ _ _ R;have x3:=RM wr (w.heap.size+1) 3 _ _ _ R;have x4:=RM wr (w.heap.size+1) 4 _ _ _ R;simp only[RY,RZ,RX] at p0 p1 x0 x1 x3 x4;by_cases ad:j<sl.length
  ·obtain⟨U,rfl,ao⟩:=aD.out j ad;have ap:wr.cell? ⟨U,j,none⟩=some (Iq (sl.getD j 0)):=by rw[I.cell (p:=⟨U,j,none⟩) (RN w _ ao)];exact ao
   have aj:sl.getD j 0∈sl:=by rw[RG,RI ad];exact R4 ad
   have W1:=IH.out (sl.getD j 0) aj wr.drew (HH.out.below I.drew);have bc:=aA.out _ aj;have bd:=hF (sl.getD j 0);have ak:∀w',Below wr.heap.size wr.drew w'->(w'.cell? ⟨w.heap.size,0,none⟩=some (.slice a n c)/\w'.cell? ⟨w.heap.size,1,none⟩=some (Sq g ps.length cap)/\w'.cell? ⟨w.heap.size+1,3,none⟩=some (Sq U sl.length sl.length)/\w'.cell? ⟨U,j,none⟩=some (Iq (sl.getD j 0))):=λw' h=>by
    rw[h.cell (p:=⟨w.heap.size,0,none⟩) (cq Y),h.cell (p:=⟨w.heap.size,1,none⟩) (cq Y),h.cell (p:=⟨w.heap.size+1,3,none⟩) (cq R),h.cell (p:=⟨U,j,none⟩) (RN wr _ ap)];exact⟨p0,p1,x3,ap⟩
   have KF:=Hi ak;have aQ:=Hi (Ta ad);have aR:Hid (sl[j]=sl.getD j 0):=by show _=_;rw[RG,RI ad];rfl
   generalize aH:F (sl.getD j 0)=fj at*;have aS:=Hi aH;generalize aT:sl.getD j 0=ij at*;go_wp2_with fail;go_region_held3 (λw'=>w'.cell? ⟨w.heap.size,0,none⟩=some (.slice a n c)/\w'.cell? ⟨w.heap.size,1,none⟩=some (Sq g ps.length cap)/\w'.cell? ⟨w.heap.size+1,3,none⟩=some (Sq U sl.length sl.length)/\w'.cell? ⟨U,j,none⟩=some (Iq ij)) (first|exact KF.out _ aq|go_keep) ((go_at_call 35;refine W1.mono ?_;rintro e w5 ⟨rfl,aq⟩))
   rename_i hHeld;have ae:=(RP _ _).drew.trans aq;have aI:=I.trans (ae.mono I.size);have ac:=cH V ae;have aU:=(ae.block _ (cq Y)).trans Y;have aV:=(ae.block _ (cq R)).trans R;have bf:=aI.size;go_wp2_with (
    at_builtin;go_must (refine wpList_append_lies _ (by rfl) _ _ 131 (by rfl) w.heap.size 9 i0 (.string ⟨#[]⟩) 1 16 underlying131 hi aM aN aO (by rfl) (by decide) _ _ _ (by rfl) (ac.alloc _) ⟨w5.heap.size,0,none⟩ 1 1 [S fj] (by rfl) (by rfl) (World.news_of_block (RO w5 _)) (λx hx=>by simp at hx;rcases hx with rfl;rfl) (by decide) (by unfold maxLen;omega) (by omega) (by simp;omega) _ rfl ?_)
    intro g3 a0 w3 ax af bg a8)
   have ar:∀(q:Nat) (cs:Array Value) (ty:TypeId),w5.heap[q]?=some (.cells cs ty (0,0))->ty≠9->w3.heap[q]?=some (.cells cs ty (0,0)):=λq cs ty hq ht=>by
    rw[af.block q (by have:=cq hq;simp;omega) (λe=>by
     obtain⟨bh,hc⟩:=cM ac e.symm;rw[hq] at hc;simp only[R6,Ty] at hc;exact ht hc.2.1),RV _ _ _ (cq hq)]
    exact hq
   refine⟨⟨j+1,by omega,by simp,?_,gU aI ac af,ar _ _ _ aU (by decide),ar _ _ _ aV (by decide)⟩,by simp[intOf];omega⟩
   rw[aQ.out,Sv,aR.out];simpa [aS.out] using ax
  have aW:j=sl.length:=by omega
  subst aW;rw[Ti] at V;by_cases ag:tk=110
  ·obtain⟨e1,Z⟩:=HN.out ag;have aX:(10:Nat)^20=100000000000000000000:=by decide
   have hT:=Ll 20 (dG E) wr (by omega) Z (by decide) (by decide)
   have J:Hid (r=jZ 20 (dG E)):=by show _=_;rw[<-HR.out,RK ag];rfl
   subst ag;rw[e1] at x4;generalize jZ 20 (dG E)=tt at*;generalize dG E=dv at*;go_wp2_with fail;apply hT.mono;rintro e w1 ⟨rfl,aY⟩;go_wp2;go_ret;exact⟨by rw[J.out];rfl,I.trans (aY.mono I.size)⟩
  have J:Hid (r=pA E (sl.map F)):=by show _=_;rw[<-HR.out,RH ag]
  have a9:((tk:Int)==(110:Int))=false:=by
   have: ¬((tk:Int)=110):=by omega
   simpa using this
  obtain⟨sv,sc,rfl,G⟩:=Lm V;have aa:=hF (sl.getD 0 0);have ah:=hF (sl.getD 1 0);have au:=hF (sl.getD 2 0);match sl,am,J,G,aa,ah,au with
  |[],_,J,_,_,_,_=>
   have ab:Hid (r=E):=J.out;simp only[Sx] at*;go_wp2;go_ret;exact⟨by rw[ab.out];rfl,I⟩
  |[y],_,J,G,aa,_,_=>
   obtain⟨gs,rfl,ai⟩:=G 0 (by simp)
   have ab:Hid (r=uF++F y++[41]):=J.out;simp only[SU] at ai aa;simp only[R7,Sx] at*;generalize F y=D at*;go_wp2;go_ret;refine⟨?_,I⟩;rw[ab.out];have e1:=fI uF D;have Z:=fI (uF++D) [41];exact Te (λs=>Ending.returned (Value.string s)) (by rw[<-Z,<-e1];rfl)
  |[y,z],_,J,G,aa,ah,_=>
   obtain⟨gs,rfl,ai⟩:=G 0 (by simp)
   obtain⟨av,e',aw⟩:=G 1 (by simp)
   obtain rfl:gs=av:=by simpa using e'
   have ab:Hid (r=[40]++F y++[32]++E++[32]++F z++[41]):=J.out;simp only[SU,R9] at ai aa aw ah;simp only[R7,Sx] at*;generalize F y=D at*;generalize F z=O at*;have s1: ¬9223372036854775807<1+D.length:=by omega
   have s2: ¬9223372036854775807<1+D.length+1:=by omega
   have s3: ¬9223372036854775807<1+D.length+1+E.length:=by omega
   have s4: ¬9223372036854775807<1+D.length+1+E.length+1:=by omega
   have s5: ¬9223372036854775807<1+D.length+1+E.length+1+O.length:=by omega
   have s6: ¬9223372036854775807<1+D.length+1+E.length+1+O.length+1:=by omega
   have HB:Hid (Bl w wr.drew):=I.drew;go_wp2_with fail;go_region_held (λw'=>w'.cell? ⟨gs,0,none⟩=some (S D)/\w'.cell? ⟨gs,1,none⟩=some (S O)/\w'.cell? ⟨w.heap.size+1,1,none⟩=some (S E)) (go_keep) (fail)
   go_wp2;go_ret;refine⟨?_,HB.out⟩;rw[ab.out];have e1:=fI [40] D;have Z:=fI ([40]++D) [32];have e3:=fI ([40]++D++[32]) E;have e4:=fI ([40]++D++[32]++E) [32];have e5:=fI ([40]++D++[32]++E++[32]) O;have e6:=fI ([40]++D++[32]++E++[32]++O) [41];exact Te (λs=>Ending.returned (Value.string s)) (by rw[<-e6,<-e5,<-e4,<-e3,<-Z,<-e1])
  |[y,z,u],_,J,G,aa,ah,au=>
   obtain⟨gs,rfl,ai⟩:=G 0 (by simp)
   obtain⟨av,e',aw⟩:=G 1 (by simp)
   obtain rfl:gs=av:=by simpa using e'
   obtain⟨aL,aJ,aZ⟩:=G 2 (by simp)
   obtain rfl:gs=aL:=by simpa using aJ
   have ab:Hid (r=ve++F y++mu++F z++ow++F u++[41]):=J.out;simp only[SU,R9] at ai aa aw ah aZ au;simp only[R7,Sx] at*;generalize F y=D at*;generalize F z=O at*;generalize F u=fu at*;have s1: ¬9223372036854775807<4+D.length:=by omega
   have s2: ¬9223372036854775807<4+D.length+6:=by omega
   have s3: ¬9223372036854775807<4+D.length+6+O.length:=by omega
   have s4: ¬9223372036854775807<4+D.length+6+O.length+6:=by omega
   have s5: ¬9223372036854775807<4+D.length+6+O.length+6+fu.length:=by omega
   have s6: ¬9223372036854775807<4+D.length+6+O.length+6+fu.length+1:=by omega
   have HB:Hid (Bl w wr.drew):=I.drew;go_wp2_with fail;go_region_held (λw'=>w'.cell? ⟨gs,0,none⟩=some (S D)/\w'.cell? ⟨gs,1,none⟩=some (S O)/\w'.cell? ⟨gs,2,none⟩=some (S fu)) (go_keep) (fail)
   go_wp2;go_ret;refine⟨?_,HB.out⟩;rw[ab.out];have e1:=fI ve D;have Z:=fI (ve++D) mu;have e3:=fI (ve++D++mu) O;have e4:=fI (ve++D++mu++O) ow;have e5:=fI (ve++D++mu++O++ow) fu;have e6:=fI (ve++D++mu++O++ow++fu) [41];exact Te (λs=>Ending.returned (Value.string s)) (by rw[<-e6,<-e5,<-e4,<-e3,<-Z,<-e1];rfl)
  |_::_::_::_::_,am,_,_,_,_,_=>simp at am
end Go.Proofs.YtfkdailfcmnjlaaGreatDoor
