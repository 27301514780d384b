/-
  A part.
-/
import Derived.Test.YtfkdailfcmnjlaaGreatDoorCompiles10
import Derived.Lib.ItoaWalk
set_option linter.all false
set_option maxHeartbeats 40000000
set_option maxRecDepth 1000000
namespace Go.Proofs.YtfkdailfcmnjlaaGreatDoor
open Go Go.RowKit Tryz
section
attribute [local go_sem ↓] Go.wp_at_zero Go.wp_at_succ
variable {f ts i L x r B rb gl cl s w q G pv W s' j v y D g ps w'}
theorem wB (h:fB f ts i L x=some r):
 ∃a:Rd,P f 6 ts i L 0=some a/\((a.ok=true/\eE (cr ts a.i) [59]=true/\r=⟨true,a.i+1,a.L,{x with top:=a.top,parts:=a.L.length}⟩)\/(¬(a.ok=true/\eE (cr ts a.i) [59]=true)/\r.ok=false/\r.i=a.i)):=by
 unfold fB at h;cases A:P f 6 ts i L 0 with
 |none=>rw[A] at h;simp at h
 |some a=>
  rw[A] at h;simp only at h;refine⟨a,rfl,?_⟩;by_cases q:a.ok=true
  ·rw[RK q] at h;by_cases z:eE (cr ts a.i) [59]=true
   ·rw[RK z] at h;simp at h;exact .inl ⟨q,z,h.symm⟩
   rw[RH z] at h;simp[dJ] at h;subst h;exact .inr ⟨λe=>z e.2,rfl,rfl⟩
  rw[RH q] at h;simp[dJ] at h;subst h;exact .inr ⟨λe=>q e.1,rfl,rfl⟩
theorem RS.pv_form (h:RS B rb gl cl ts s w):∃a c,s.pv= .slice a s.ps.length c:=by
 rcases h.parts.2 with⟨e,q⟩|⟨g,cap,z,e,_⟩
 ·exact⟨none,0,by rw[e,q]⟩
 exact⟨_,_,e⟩
theorem La {a:Rd} {x:dk} {r:vP}
 (U:(a.ok=true/\eE (cr ts a.i) [59]=true/\r=⟨true,a.i+1,a.L,{x with top:=a.top,parts:=a.L.length}⟩)\/(¬(a.ok=true/\eE (cr ts a.i) [59]=true)/\r.ok=false/\r.i=a.i))
 (A:q.i=a.i) (st:(a.ok=true/\q.bad=false/\fw q/\q.ps.map cL=a.L)\/(a.ok=false/\q.bad=true)) (top:a.ok=true->G=a.top):
 (eZ ts q [59]).i=r.i/\((r.ok=true/\(eZ ts q [59]).bad=false/\fw (eZ ts q [59])/\(eZ ts q [59]).ps.map cL=r.L/\(⟨x.name,x.allow,G,x.pl,x.named,(eZ ts q [59]).ps.length⟩:dk)=r.it)\/(r.ok=false/\(eZ ts q [59]).bad=true)):=by
 rcases U with⟨z,V,rfl⟩|⟨I,J,O⟩
 ·rcases st with⟨_,good,D,R⟩|⟨Y,_⟩
  ·have E:eZ ts q [59]={q with i:=q.i+1}:=by unfold eZ gQ;rw[good,A,RK (by simp[V])]
   rw[E];exact⟨by simp[A],.inl ⟨rfl,good,D,R,by simp[top z,<-R]⟩⟩
  rw[Y] at z;simp at z
 have E:eZ ts q [59]={q with bad:=true}:=by
  unfold eZ gQ;rw[RH];rcases st with⟨z,good,_,_⟩|⟨_,Z⟩
  ·rw[good,A];simp;simpa using λe=>I ⟨z,e⟩
  rw[Z];simp
 rw[E];exact⟨by simp[A,O],.inr ⟨J,rfl⟩⟩
structure IM (B rb gl cl) (ts) (pv) (w) (s) (x) (W):Prop where
 rs:RS B rb gl cl ts s W
 fr:Fr rb pv s.pv w W
 res:W.heap[w.heap.size]?=some (gK dQ)
 itm:W.heap[w.heap.size+1+1]?=some (gK x)
 lt:rb<w.heap.size
theorem IM.below {B rb gl cl ts pv w W z s x} (h:IM B rb gl cl ts pv w s x W) (q:Bl W z):IM B rb gl cl ts pv w s x z:=
 ⟨h.rs.below q,h.fr.trans (Fr.of_below q),(q.block _ (cq h.res)).trans h.res,(q.block _ (cq h.itm)).trans h.itm,h.lt⟩
theorem IM.then (h:IM B rb gl cl ts pv w s x W) (z:RS B rb gl cl ts s' q) (F:Fr rb s.pv s'.pv W q):IM B rb gl cl ts pv w s' x q:=
 ⟨z,h.fr.trans F,F.far h.res (by have:=h.lt;omega) (lJ h.rs h.res (by simp)),F.far h.itm (by have:=h.lt;omega) (lJ h.rs h.itm (by simp)),h.lt⟩
theorem IM.set {B rb gl cl j ts pv v w W s s' x} (h:IM B rb gl cl ts pv w s x W) (q:RS B rb gl cl ts s' (W.setCell ⟨rb,j,none⟩ v)) (e:s'.pv=s.pv):IM B rb gl cl ts pv w s' x (W.setCell ⟨rb,j,none⟩ v):=
 ⟨q,e▸h.fr.set h.lt _ _,by rw[RQ _ _ _ _ (by have:=h.lt;simp;omega)];exact h.res,by rw[RQ _ _ _ _ (by have:=h.lt;simp;omega)];exact h.itm,h.lt⟩
theorem IM.put (h:IM B rb gl cl ts pv w s x W) (e:(W.setCell ⟨w.heap.size+1+1,j,none⟩ v).heap[w.heap.size+1+1]?=some (gK y)):IM B rb gl cl ts pv w s y (W.setCell ⟨w.heap.size+1+1,j,none⟩ v):=
 ⟨h.rs.but h.itm λk q=>RQ _ _ _ _ q,h.fr.new (by omega) _ _,by rw[RQ _ _ _ _ (by simp;omega)];exact h.res,e,h.lt⟩
def Rg (f B rb gl cl:Nat) (ts:List Tok) (s:St) (w:World) (r:vP) (W:World):Prop:= ∃q x,IM B rb gl cl ts s.pv w q x W/\((q.bad=false/\fw q/\fB f ts q.i (q.ps.map cL) x=some r)\/(q.bad=true/\r.ok=false/\q.i=r.i))/\q.ps=s.ps/\s.i<=q.i
theorem IM.ask {k:LB} (h:IM B rb gl cl ts s.pv w q x W) (E:RS B rb gl cl ts (eZ ts q k) D) (F:Fr rb q.pv q.pv W D) (G:q.bad=false) (I:fw q) (z:(if eE (cr ts q.i) k then fB f ts (q.i+1) (q.ps.map cL) x else dJ q.i)=some r) (J:q.ps=s.ps) (O:s.i<=q.i):Rg f B rb gl cl ts s w r D:=by
 obtain⟨p,v,i⟩:=sC ts q k;refine⟨_,x,h.then E (v.symm▸F),?_,p.trans J,SF O i⟩;unfold eZ gQ;rw[G];by_cases A:eE (cr ts q.i) k=true
 ·rw[RK A] at z;rw[RK (by simp[A])]
  exact .inl ⟨rfl,I,z⟩
 rw[RH A] at z;simp only[dJ,R6] at z;subst z;rw[RH (by simpa using A)]
 exact .inr ⟨rfl,rfl,rfl⟩
theorem Lb (h:RS B rb gl cl ts s w) (ar:∀t∈ts,lO t) (hB:B<=w.heap.size)
 (aa:s.bad=false) (ac:fw s) (hr:gI f ts s.i (s.ps.map cL)=some r):
 Calls prog 61 #[Pq rb] w (OP B rb gl cl ts s w r):=by
 have HR:Hid (gI f ts s.i (s.ps.map cL)=some r):=hr;have H2:=Hi aa;clear hr aa;obtain⟨c0,c1,c2,c3⟩:=h.cells;obtain⟨k0,k1,k2⟩:=gM h;have hi:=h.hi;have hn:=h.hn;have b1:(0:Int)<=(s.i:Int):=by omega
 have b2:(s.i:Int)<(ts.length:Int):=by omega
 have l0:=RN w _ c0;have l1:=RN w _ k0;simp only at l0 l1;have n0:w.heap.size≠rb:=by omega
 have n1:w.heap.size+1≠rb:=by omega
 have m0:w.heap.size≠gl:=by omega
 have m1:w.heap.size+1≠gl:=by omega
 clear c2 c3;go_enter func61,ntmps61;go_wp2_with fail;go_region_held (λw'=>w'.cell? ⟨rb,0,none⟩=some (Sq gl ts.length cl)/\w'.cell? ⟨rb,1,none⟩=some (Iq s.i)/\w'.cell? ⟨gl,s.i*3,none⟩=some (.int .u8 (cr ts s.i).k)/\w'.cell? ⟨gl,s.i*3+1,none⟩=some (S (cr ts s.i).text)/\w'.cell? ⟨gl,s.i*3+2,none⟩=some (Iq (cr ts s.i).pl)) (go_keep) (fail)
 rename_i hHeld;obtain⟨ad,z,hX⟩:=Hp w (gK dQ) (dO (cr ts s.i)) (gK ⟨[],(cr ts s.i).text==gB,0,(cr ts s.i).pl,0,0⟩);have M:IM B rb gl cl ts s.pv w s _ _:=⟨h.below ad,Fr.of_below ad,z,hX,l0⟩;clear hHeld ad z hX c0 c1 k0 k1 k2 n0 n1 m0 m1;go_wp2_with fail;apply(iP M.rs vO).mono;rintro e w1 ⟨rfl,A⟩;replace M:=M.below A;clear A;go_wp2_with fail;apply(iP M.rs gB).mono;rintro e w2 ⟨rfl,A⟩;replace M:=M.below A;clear A;go_wp2_with fail;apply(iP M.rs nF).mono;rintro e w3 ⟨rfl,A⟩;replace M:=M.below A;clear A;have e0:∀x,gQ s.bad (cr ts s.i) x=eE (cr ts s.i) x:=λx=>by unfold gQ;rw[H2.out];rfl
 have ae:∀{x},eE (cr ts s.i) x=true->s.i+1<ts.length:=λ{x} e=>(nJ h ((e0 x).trans e)).1
 rw[e0,e0,e0];clear e0;have aB:(s.i:Int)+1<=2000:=by omega
 have s1:=λv i j=>nr w3 rb w.heap.size i j v (by omega)
 have s2:=λv i j=>nr w3 rb (w.heap.size+1+1) i j v (by omega)
 obtain⟨c0,c1,c2,c3⟩:=M.rs.cells;have hf:=M.rs.free;obtain⟨⟨E,G,I,J,O,R⟩,rf⟩:=gN M.res;obtain⟨⟨x0,x1,x2,x3,x4,x5⟩,V⟩:=gN M.itm;have z:=HR.out;unfold gI at z;by_cases Y:eE (cr ts s.i) vO=true;rw[RK Y] at z<;>(
  have hs:=ae Y;have au:Hid (((cr ts s.i).text==gB)=false):=by show _=_;unfold eE at Y;simp at Y;rw[Y.2];decide
  rw[Y];go_wp2_with fail;replace M:=M.set (M.rs.next hs) rfl;clear c0 c1 c2 c3 hf E G I J O R rf x0 x1 x2 x3 x4 x5 V s1 s2;generalize w3.setCell ⟨rb,1,none⟩ (Iq ((s.i:Int)+1))=D at*;obtain⟨q,af⟩:∃q:St,q={s with i:=s.i+1}:=⟨_,rfl⟩;rw[<-af] at M;have U:Hid (q.i=s.i+1/\q.bad=false/\q.ps=s.ps):=by rw[af];exact⟨rfl,H2.out,rfl⟩
  clear af;rw[show s.i+3=q.i+1+1 from by have:=U.out.1;omega,show s.i+2=q.i+1 from by have:=U.out.1;omega,<-U.out.1,<-U.out.2.2] at z
  obtain⟨c0,c1,c2,c3⟩:=M.rs.cells;obtain⟨k0,k1,k2⟩:=gM M.rs;have aC:=M.rs.hi;have b3:(0:Int)<=(q.i:Int):=by omega
  have b4:(q.i:Int)<(ts.length:Int):=by omega
  have n0:=World.new_ne D _ c0;have n1:=World.new_ne D _ c1;have m0:=World.new_ne D _ k0;have m1:=World.new_ne D _ k1;have m2:=World.new_ne D _ k2;have av:=cq M.itm;have aw:fw q:=λp hp=>ac p (U.out.2.2▸hp)
  have ab:=Hi z;clear z HR;go_region_held (λw'=>w'.cell? ⟨rb,0,none⟩=some (Sq gl ts.length cl)/\w'.cell? ⟨rb,1,none⟩=some (Iq q.i)/\w'.cell? ⟨gl,q.i*3,none⟩=some (.int .u8 (cr ts q.i).k)/\w'.cell? ⟨gl,q.i*3+1,none⟩=some (S (cr ts q.i).text)/\w'.cell? ⟨gl,q.i*3+2,none⟩=some (Iq (cr ts q.i).pl)) (go_keep) (fail)
  rename_i hHeld;have hO:((D.alloc (dO (cr ts q.i))).drew).heap[D.heap.size]?=some (dO (cr ts q.i)):=RO D _;replace M:=M.below (eD D (dO (cr ts q.i)));clear hHeld c0 c1 c2 c3 k0 k1 k2 n0 n1 m0 m1 m2;generalize (D.alloc (dO (cr ts q.i))).drew=w5 at*;have q0:=RM w5 D.heap.size 0 _ _ _ hO;have q1:=RM w5 D.heap.size 1 _ _ _ hO;have q2:=RM w5 D.heap.size 2 _ _ _ hO;simp only[RY,RZ,RX] at q0 q1 q2;obtain⟨c0,c1,c2,c3⟩:=M.rs.cells;have hf:=M.rs.free;obtain⟨⟨E,G,I,J,O,R⟩,rf⟩:=gN M.res;obtain⟨⟨x0,x1,x2,x3,x4,x5⟩,V⟩:=gN M.itm;have u1:∀(W:World) (i j:Nat) (v:Value),(W.setCell ⟨w.heap.size+1+1,i,none⟩ v).cell? ⟨rb,j,none⟩=W.cell? ⟨rb,j,none⟩:=λW i j v=>nr W _ rb i j v (by omega)
  have u2:∀(W:World) (i j:Nat) (v:Value),(W.setCell ⟨w.heap.size+1+1,i,none⟩ v).cell? ⟨D.heap.size,j,none⟩=W.cell? ⟨D.heap.size,j,none⟩:=λW i j v=>nr W _ _ i j v (by omega)
  have u3:∀(W:World) (v:Value),(W.setCell ⟨w.heap.size+1+1,0,none⟩ v).cell? ⟨w.heap.size+1+1,4,none⟩=W.cell? ⟨w.heap.size+1+1,4,none⟩:=λW v=>cN W _ 0 4 v (by decide)
  have u4:=λv j=>nr w5 rb w.heap.size 3 j v (by omega)
  have u5:=λv j=>nr w5 rb (w.heap.size+1+1) 3 j v (by omega)
  by_cases h3:(cr ts q.i).k=111;rotate_left
  ·have ho:(((cr ts q.i).k:Int) !=111)=true:=by simp;omega
   have z:=ab.out;rw[RH h3] at z;simp only[dJ,R6] at z;have N:=M.set M.rs.fails rfl;have HO:=Hi (sD (r:=r) (s:=s) (x:=⟨[],(cr ts s.i).text==gB,0,(cr ts s.i).pl,0,0⟩) N.rs N.fr (RL _) N.res (by simp[U.out.2.2,U.out.1]) (by rw[<-z]) (.inr ⟨by rw[<-z],rfl⟩))
   clear N M z ab h3;go_wp2_with fail;exact RU (v:=wy ⟨[],(cr ts s.i).text==gB,0,(cr ts s.i).pl,0,0⟩) (by simp[results,results61,go_sem,wy,dc,cN,fD,u4,E,G,I,J,O,R]) rfl HO.out
  have ho:(((cr ts q.i).k:Int) !=111)=false:=by simp;omega
  have ap:q.i+1<ts.length:=by
   rcases SZ (q.i+1) ts.length with h3|h3
   ·exact h3
   have h4:(cr ts q.i).k=101:=M.rs.fin q.i (by omega)
   omega
  have aD:(q.i:Int)+1<=2000:=by omega
  have M1:=M.put (j:=0) (v:=S (cr ts q.i).text) (y:=⟨(cr ts q.i).text,(cr ts s.i).text==gB,0,(cr ts s.i).pl,0,0⟩) (by rw[R3 w5 _ 0 _ _ _ M.itm];simp)
  have M2:=M1.put (j:=4) (v:= Iq (cr ts q.i).pl) (y:=⟨(cr ts q.i).text,(cr ts s.i).text==gB,0,(cr ts s.i).pl,(cr ts q.i).pl,0⟩) (by rw[R3 _ _ 4 _ _ _ M1.itm];simp)
  replace M:=M2.set (M2.rs.next ap) rfl;have ag:=Hi ((RK h3).symm.trans ab.out);clear M1 M2 h3 ab;go_wp2_with fail;apply(nK M.rs [61]).mono;rintro e w7 ⟨rfl,Z,F8⟩;have HQ:Hid (Rg f B rb gl cl ts s w r w7):=M.ask Z F8 U.out.2.1 aw (by rw[au.out];exact ag.out) U.out.2.2 (by have:=U.out.1;simp only;omega)
  clear M Z F8 ag q0 q1 q2 c0 c1 c2 c3 hf E G I J O R rf x0 x1 x2 x3 x4 x5 V u1 u2 u3 u4 u5 hO av)
 rotate_left;rw[RH Y] at z<;>(
  simp only[Bool.not_eq_true] at Y;rw[Y];by_cases h2:(eE (cr ts s.i) gB||eE (cr ts s.i) nF)=true;rotate_left
  ·rw[RH h2] at z;simp only[dJ,R6] at z;simp only[Bool.not_eq_true,UH] at h2;rw[h2.1,h2.2];have N:=M.set M.rs.fails rfl;have HO:=Hi (sD (r:=r) (s:=s) (x:=⟨[],(cr ts s.i).text==gB,0,(cr ts s.i).pl,0,0⟩) N.rs N.fr (RL _) N.res ⟨RL _,RL _⟩ (by rw[<-z]) (.inr ⟨by rw[<-z],rfl⟩))
   clear N M z HR h2;go_wp2_with fail;exact RU (v:=wy ⟨[],(cr ts s.i).text==gB,0,(cr ts s.i).pl,0,0⟩) (by simp[results,results61,go_sem,wy,dc,cN,fD,s1,E,G,I,J,O,R]) rfl HO.out
  rw[RK h2] at z;cases ha:eE (cr ts s.i) gB<;>cases hd:eE (cr ts s.i) nF
  all_goals first
  |(simp[ha,hd] at h2;done)
  |have hs:=by first|exact ae ha|exact ae hd
   go_wp2_with fail;replace M:=M.set (M.rs.next hs) rfl;clear c0 c1 c2 c3 hf E G I J O R rf x0 x1 x2 x3 x4 x5 V s1 s2;generalize w3.setCell ⟨rb,1,none⟩ (Iq ((s.i:Int)+1))=D at*;apply(nK M.rs lT).mono;rintro e w7 ⟨rfl,Z,F8⟩;have HQ:Hid (Rg f B rb gl cl ts s w r w7):=M.ask Z F8 H2.out ac z rfl (by simp only;omega)
   clear M Z F8 z)
 all_goals
  obtain⟨s5,x,M,HS,ah,aE⟩:=HQ.out;have ai:=Hi ah;have aF:=M.fr.size;obtain⟨c0,c1,c2,c3⟩:=M.rs.cells;obtain⟨⟨E,G,I,J,O,R⟩,rf⟩:=gN M.res;obtain⟨⟨x0,x1,x2,x3,x4,x5⟩,V⟩:=gN M.itm;clear HQ ah;rcases HS with⟨A,hN,hT⟩|⟨A,aj,ak⟩;rotate_left
  ·rw[A] at c3;have HO:=Hi (sD (r:=r) (s:=s) (x:=x) M.rs M.fr (RL _) M.res (by rw[ai.out];omega) ak (.inr ⟨aj,A⟩))
   clear M aj ak A;go_wp2_with fail;exact RU (v:=wy x) (by simp[results,results61,go_sem,wy,dc,cN,fD,E,G,I,J,O,R]) rfl HO.out
  rw[A] at c3;have ax:=Hi A;obtain⟨a,am,an⟩:=wB hT;have HA:=Hi an;have ay:=Hi am;clear an hT am A;go_wp2_with fail;apply((Ho f B rb gl cl ts s5 _ a M.rs ar (by omega)).1 (.inr ⟨ax.out,hN,ay.out⟩)).mono
  rintro e w6 hL;obtain⟨s6,n6,rfl,h6,F7,g6,i6,az,aq⟩:=kt hL;replace M:=M.then h6 F7;clear hL h6 F7 c0 c1 c2 c3 E G I J O R rf x0 x1 x2 x3 x4 x5 V;obtain⟨⟨x0,x1,x2,x3,x4,x5⟩,V⟩:=gN M.itm;go_wp2_with fail;replace M:=M.put (j:=2) (v:= Iq n6) (y:=⟨x.name,x.allow,n6,x.pl,x.named,x.parts⟩) (by rw[R3 w6 _ 2 _ _ _ M.itm];simp)
  clear x0 x1 x2 x3 x4 x5 V;generalize w6.setCell ⟨w.heap.size+1+1,2,none⟩ (Iq n6)=aG at*;apply(nK M.rs [59]).mono;rintro e w8 ⟨rfl,Z,F8⟩;obtain⟨p8,v8,j8⟩:=sC ts s6 [59];replace M:=M.then Z (v8.symm▸F8);obtain⟨ba,bc,ao⟩:=M.rs.pv_form;obtain⟨c0,c1,c2,c3⟩:=M.rs.cells;rw[ao] at c2;have aA:(eZ ts s6 [59]).ps.length<=2000:=by have:=M.rs.few;have:=M.rs.hi;omega
  have N:=M.put (j:=5) (v:= Iq (eZ ts s6 [59]).ps.length) (y:=⟨x.name,x.allow,n6,x.pl,x.named,(eZ ts s6 [59]).ps.length⟩) (by rw[R3 w8 _ 5 _ _ _ M.itm];simp)
  obtain⟨y1,y2⟩:=La (x:=x) HA.out i6.out az.out aq.out;have HO:=Hi (sD (r:=r) (s:=s) N.rs N.fr (RL _) N.res (by rw[p8];rw[ai.out] at g6;omega) y1 y2)
  obtain⟨⟨x0,x1,x2,x3,x4,x5⟩,V⟩:=gN M.itm;obtain⟨⟨z0,z1,z2,z3,z4,z5⟩,zf⟩:=gN N.itm;obtain⟨⟨E,G,I,J,O,R⟩,rf⟩:=gN N.res;clear M N Z F8 p8 v8 j8 ao y1 y2;generalize (eZ ts s6 [59]).ps.length=np at*;go_wp2_with fail;exact RU (v:=wy ⟨x.name,x.allow,n6,x.pl,x.named,np⟩) (by simp[results,results61,go_sem,wy,dc,cN,fD,E,G,I,J,O,R]) rfl HO.out
structure fm (B g cap) (ps) (w:World):Prop where
 row:w.ownsRow B 169 5 (.slice (some ⟨g,0,none⟩) ps.length cap) ps.length (eS ps)
 subs:∀p∈ps,lI w p
 few:ps.length<=1001
def cU:eC:=⟨iF,[],0,.slice none 0 0⟩
theorem Ac (ps) (i:Nat) (q:i<ps.length):(eS ps)[i*5]?=some (.int .u8 (ps.getD i cU).tok.k)/\(eS ps)[i*5+1]?=some (S (ps.getD i cU).tok.text)/\(eS ps)[i*5+2]?=some (Iq (ps.getD i cU).tok.pl)/\(eS ps)[i*5+3]?=some (ps.getD i cU).sv/\(eS ps)[i*5+4]?=some (Iq (ps.getD i cU).n):=by
 induction ps generalizing i with
 |nil=>simp at q
 |cons t ps ih=>
  cases i with
  |zero=>simp[eS]
  |succ i=>
   have:=ih i (by simpa using q)
   have e:eS (t::ps)=[.int .u8 t.tok.k,S t.tok.text,Iq t.tok.pl,t.sv,Iq t.n]++eS ps:=rfl;rw[e,show(i+1)*5=i*5+1+1+1+1+1 from by omega,show i*5+1+1+1+1+1+2=i*5+2+1+1+1+1+1 from by omega,show i*5+1+1+1+1+1+3=i*5+3+1+1+1+1+1 from by omega,show i*5+1+1+1+1+1+4=i*5+4+1+1+1+1+1 from by omega,show i*5+1+1+1+1+1+1=i*5+1+1+1+1+1+1 from rfl]
   simpa using this
theorem fm.cells {B g cap ps w} (h:fm B g cap ps w) (i:Nat) (G:i<ps.length):
 Cq w g (i*5) (.int .u8 (ps.getD i cU).tok.k)/\Cq w g (i*5+1) (S (ps.getD i cU).tok.text)/\Cq w g (i*5+2) (Iq (ps.getD i cU).tok.pl)/\Cq w g (i*5+3) (ps.getD i cU).sv/\Cq w g (i*5+4) (Iq (ps.getD i cU).n):=by
 have q:=h.row.cells (g:=g) rfl;obtain⟨a,b,c,d,e⟩:=Ac ps i G;have I:∀j,(⟨g,0,none⟩:Addr).add j=⟨g,j,none⟩:=λj=>by unfold Addr.add;split<;>simp_all
 have z:=q _ _ a;have A:=q _ _ b;have D:=q _ _ c;have h3:=q _ _ d;have E:=q _ _ e;rw[I] at z A D h3 E;exact⟨z,A,D,h3,E⟩
theorem fm.below {cap} (h:fm B g cap ps w) (q:Bl w w'):fm B g cap ps w':=
 ⟨cH h.row q,λp z=>(h.subs p z).of λk _ A=>q.block k (cq A),h.few⟩
theorem fm.sub {cap} (h:fm B g cap ps w) (i:Nat) (z:i<ps.length):
 ((ps.getD i cU).subs=[]/\(ps.getD i cU).sv= .slice none 0 0)\/ ∃q,(ps.getD i cU).sv= Sq q (ps.getD i cU).subs.length (ps.getD i cU).subs.length/\ ∀j,j<(ps.getD i cU).subs.length->w.cell? ⟨q,j,none⟩=some (Iq ((ps.getD i cU).subs.getD j 0)):=by
 have A:ps.getD i cU∈ps:=by rw[RG,RI z];exact R4 z
 rcases h.subs _ A with e|⟨q,e,D⟩
 ·exact .inl e
 refine .inr ⟨q,e,λj E=>?_⟩
 rw[RM w q j _ _ _ D];generalize (ps.getD i cU).subs=sl at*;simp[K1,RG,E]
theorem vD (ps:List eC) (i:Nat) (q:i<ps.length):(ps.map cL).getD i cD=cL (ps.getD i cU):=by
 simp[RG,q]
theorem yU {cap} (V:yD (ps.map cL)) (f):∀i w,fm B g cap ps w->i<f->f<=2000->i<ps.length->
 Calls prog 116 #[Sq g ps.length cap,Iq i] w λe w'=>e= .returned (Iq (dep f (ps.map cL) i))/\w'=w:=by
 induction f with
 |zero=>intro i w _ q;omega
 |succ f ih=>
  intro i w h ab hf q;obtain⟨_,_,_,I,_⟩:=h.cells i q;have hw:=h.few;have b1:0<=i:=by omega
  have b2:i<ps.length:=by omega
  have D:dep (f+1) (ps.map cL) i=gO (dep f (ps.map cL)) (ps.getD i cU).subs+1:=by
   rw[dep,vD ps i q];rfl
  have E:(ps.getD i cU).subs.length<=3/\ ∀j∈(ps.getD i cU).subs,j<i:=by have:=V i (by simpa using q);rw[vD ps i q] at this;exact this
  have J:=Hi D;have O:=Hi E;have Y:=Hi ih;clear D E ih;rcases h.sub i q with⟨R,z⟩|⟨sb,z,U⟩
  ·have Z:Hid _:=R;rw[z] at I;clear R z;go_enter func116,ntmps116;go_wp2;go_loop [5,6] (λn k=>n= Iq 0/\k= Iq 0) (λ_ _=>0)
   case atStart=>exact⟨rfl,rfl⟩
   case round=>
    obtain⟨rfl,rfl⟩:=hrel;go_wp2;go_ret;refine⟨dh ?_,rfl⟩;rw[J.out,Z.out];rfl
  rw[z] at I;generalize hS:(ps.getD i cU).subs=sl at*;clear z hS;have ac:=O.out.1;go_enter func116,ntmps116;go_wp2;go_loop [5,6] (λn k=> ∃j,j<=sl.length/\k= Iq j/\n= Iq (gO (dep f (ps.map cL)) (sl.take j))) (λ_ k=>sl.length - (intOf k).toNat)
  case atStart=>exact⟨0,by omega,rfl,rfl⟩
  case round=>
   obtain⟨j,hj,rfl,rfl⟩:=hrel;by_cases A:j<sl.length
   ·have ad:=U j A;have aa:=O.out.2 sl[j] (R4 A);have G:=si (dep f (ps.map cL)) sl j A;have d1:=lZ f (ps.map cL) sl[j];have d2:=oq (dep f (ps.map cL)) (f+1) (lZ f (ps.map cL)) (sl.take j);have HF:=Hi G;clear G;go_wp2_with fail;apply(Y.out sl[j] w h (by omega) (by omega) (by omega)).mono
    rintro e w1 ⟨rfl,rfl⟩;generalize dep f (ps.map cL) sl[j]=d at*;generalize gO (dep f (ps.map cL)) (sl.take j)=m at*;go_wp2
    all_goals
     refine⟨⟨j+1,by omega,by go_num,Gi ?_⟩,by simp[intOf];omega⟩
     rw[HF.out];omega
   have d2:=oq (dep f (ps.map cL)) (f+1) (lZ f (ps.map cL)) (sl.take j);have HE:Hid (sl.take j=sl):=Sz (by omega)
   go_wp2;go_ret;refine⟨dh ?_,rfl⟩;rw[HE.out,J.out];omega
end
variable {B z xs w w' I g iv ps W q n c m D v a k}
def fR (xs:List dk):List Value:=xs.flatMap λx=>[S x.name,.bool x.allow,Iq x.top,Iq x.pl,Iq x.named,Iq x.parts]
theorem yi (xs) (x:dk):fR (xs++[x])=fR xs++[S x.name,.bool x.allow,Iq x.top,Iq x.pl,Iq x.named,Iq x.parts]:=by simp[fR]
theorem BS (xs) (i:Nat) (z:i<xs.length):(fR xs)[i*6]?=some (S xs[i].name)/\(fR xs)[i*6+1]?=some (.bool xs[i].allow)/\(fR xs)[i*6+2]?=some (Iq xs[i].top)/\(fR xs)[i*6+3]?=some (Iq xs[i].pl)/\(fR xs)[i*6+4]?=some (Iq xs[i].named)/\(fR xs)[i*6+5]?=some (Iq xs[i].parts):=by
 induction xs generalizing i with
 |nil=>simp at z
 |cons t xs ih=>
  cases i with
  |zero=>simp[fR]
  |succ i=>
   have:=ih i (by simpa using z)
   have e:fR (t::xs)=[S t.name,.bool t.allow,Iq t.top,Iq t.pl,Iq t.named,Iq t.parts]++fR xs:=rfl;rw[e,show(i+1)*6=i*6+1+1+1+1+1+1 from by omega,show i*6+1+1+1+1+1+1+2=i*6+2+1+1+1+1+1+1 from by omega,show i*6+1+1+1+1+1+1+3=i*6+3+1+1+1+1+1+1 from by omega,show i*6+1+1+1+1+1+1+4=i*6+4+1+1+1+1+1+1 from by omega,show i*6+1+1+1+1+1+1+5=i*6+5+1+1+1+1+1+1 from by omega]
   simpa using this
structure gm (B) (iv) (xs) (w:World):Prop where
 row:w.ownsRow B 95 6 iv xs.length (fR xs)
 few:xs.length<=1001
theorem gm.below (h:gm B z xs w) (D:Bl w w'):gm B z xs w':=⟨cH h.row D,h.few⟩
theorem gm.form (h:gm B z xs w):(z= .slice none 0 0/\xs.length=0)\/ ∃g c,z= Sq g xs.length c:=by
 rcases h.row.2 with e|⟨g,cap,D,e,_⟩
 ·exact .inl e
 exact .inr ⟨g,cap,e⟩
theorem gm.cells {B g c xs w} (h:gm B (Sq g xs.length c) xs w) (i:Nat) (O:i<xs.length):
 Cq w g (i*6) (S xs[i].name)/\Cq w g (i*6+1) (.bool xs[i].allow)/\Cq w g (i*6+2) (Iq xs[i].top)/\Cq w g (i*6+3) (Iq xs[i].pl)/\Cq w g (i*6+4) (Iq xs[i].named)/\Cq w g (i*6+5) (Iq xs[i].parts):=by
 have z:=h.row.cells (g:=g) rfl;obtain⟨a,b,c,d,e,f⟩:=BS xs i O;have R:∀j,(⟨g,0,none⟩:Addr).add j=⟨g,j,none⟩:=λj=>by unfold Addr.add;split<;>simp_all
 have D:=z _ _ a;have E:=z _ _ b;have G:=z _ _ c;have h3:=z _ _ d;have I:=z _ _ e;have J:=z _ _ f;rw[R] at D E G h3 I J;exact⟨D,E,G,h3,I,J⟩
theorem sE (h:gm B I xs w) (O) (R U) (s:LB) (k) (hk:k<=xs.length):
 Calls prog 90 #[.agg #[I,.slice O R U],S s,Iq k] w λe w'=>e= .returned (Iq (cW xs s k))/\Bl w w':=by
 have z:=(RP w.heap.size w).alloc (RL _) (.cells #[I,.slice O R U] 90);rcases h.form with⟨rfl,h0⟩|⟨g,c,rfl⟩
 ·have V:k=0:=by omega
  subst V;have D:=Hi z;go_enter func90,ntmps90;go_wp2;go_loop [7] (λi=>i= Iq 0) (λ_=>0)
  case atStart=>rfl
  case round=>
   subst hrel;go_wp2;go_ret;exact⟨dh (by rw[vQ]),D.out⟩
 have hf:=h.few;have Z:=h.below z;have D:=Hi z;go_enter func90,ntmps90;go_wp2;go_loop [7] (λi=> ∃j,j<=k/\i= Iq j/\Hid (cW xs s k=(if cW (xs.drop j) s (k - j)<0 then -1 else cW (xs.drop j) s (k - j)+j))) (λi=>k - (intOf i).toNat)
 case atStart=>
  refine⟨0,R0 _,rfl,?_⟩;have:=sj xs s k;show _=_;simp;omega
 case round=>
  obtain⟨j,hj,rfl,J⟩:=hrel;by_cases aa:j<k
  ·have E:j<xs.length:=by omega
   have c0:=(Z.cells j E).1;have G:=DP xs s j (k - j) E (by omega)
   have Y:=Hi G;have b1:0<=j:=by omega
   have b2:j<xs.length:=by omega
   go_wp2
   ·go_ret;refine⟨dh ?_,D.out⟩;rw[J.out,Y.out];simp[*]
   refine⟨⟨j+1,by omega,by go_num,?_⟩,by simp[intOf];omega⟩
   show _=_;have:=sj (xs.drop (j+1)) s (k - j - 1);rw[J.out,Y.out,show k - (j+1)=k - j - 1 from by omega]
   simp[*];split<;>omega
  go_wp2;go_ret;have e:k - j=0:=by omega
  refine⟨dh ?_,D.out⟩;rw[J.out,e,vQ];rfl
def ku (o:Option Nat):Value:=match o with
 |some p=> Iq p
 |none=> Iq (-1)
theorem Hq (L) (xs:List dk) (j lets:Nat) (z:j<xs.length):eK L (xs.drop j) lets j=
 if 10<lets+(if xs[j].name==[] then 0 else 1)\/20<j+1 - (lets+(if xs[j].name==[] then 0 else 1))\/200<xs[j].parts\/20<dep (xs[j].top+1) L xs[j].top then some xs[j].pl
 else eK L (xs.drop (j+1)) (lets+(if xs[j].name==[] then 0 else 1)) (j+1):=by
 rw[R5 z,eK]
set_option maxHeartbeats 4000000 in
theorem Lc {cap} (h : gm B iv xs w) (hp : fm B g cap ps w) (hA : yD (ps.map cL)) (hT :∀ x ∈ xs, x.top < ps.length) (hq :∀ x ∈ xs, x.parts <= 1001) :
    Calls prog 62 #[.agg #[iv, Sq g ps.length cap]] w λe w' => e = .returned (ku (eK (ps.map cL) xs 0 0)) /\ Below w.heap.size w w' := by
  have hb := (RP w.heap.size w).alloc (RL _) (.cells #[iv, Sq g ps.length cap] 90);rcases h.form with ⟨rfl, h0⟩ | ⟨gi, c, rfl⟩
  · have HB : Hid _ := hb
    have HE : Hid (eK (ps.map cL) xs 0 0 = none) := by
      show _ = _; cases xs with
      | nil => rfl
      | cons => simp at h0
    clear hb h0;go_enter func62, ntmps62;go_wp2
    go_loop [3, 4] (λn i => n = Iq 0 /\ i = Iq 0) (λ_ _ => 0)
    case atStart => exact ⟨rfl, rfl⟩
    case round =>
      obtain ⟨rfl, rfl⟩ := hrel;go_wp2;go_ret;exact ⟨by rw [HE.out]; rfl, HB.out⟩
  · have hbx : (w.alloc (.cells #[Sq gi xs.length c, Sq g ps.length cap] 90)).heap[w.heap.size]? = some (.cells #[Sq gi xs.length c, Sq g ps.length cap] 90 (0, 0)) := RO w _
    have hf := h.few;have hpf := hp.few;have HX : Hid _ := hbx;clear hbx;go_enter func62, ntmps62;go_wp2
    go_loopw [3, 4] (λn i wr => ∃ (lets j : Nat), lets <= j /\ j <= xs.length /\ n = Iq lets /\ i = Iq j /\ Hid (eK (ps.map cL) xs 0 0 = eK (ps.map cL) (xs.drop j) lets j) /\ Below w.heap.size w wr /\ wr.heap[w.heap.size]? = some (.cells #[Sq gi xs.length c, Sq g ps.length cap] 90 (0, 0))) (λ_ i _ => xs.length - (intOf i).toNat)
    case atStart => exact ⟨0, 0, RL _, R0 _, rfl, rfl, rfl, hb, HX.out⟩
    case round =>
      obtain ⟨lets, j, hlj, hj, rfl, rfl, HM, hbw, hbx⟩ := hrel;have q0 := RM wr w.heap.size 0 _ _ _ hbx;have q1 := RM wr w.heap.size 1 _ _ _ hbx;have hlw := cq hbx;simp only [RY, RZ, RX] at q0 q1
      by_cases hlt : j < xs.length
      · have hi' := h.below hbw
        have hp' := hp.below hbw;obtain ⟨c0, c1, c2, c3, c4, c5⟩ := hi'.cells j hlt;have hst := Hq (ps.map cL) xs j lets hlt;have HS : Hid _ := hst;have hm : xs[j] ∈ xs := R4 hlt;have hTj := hT _ hm;have hqj := hq _ hm;have b1 : (0 : Int) <= (j : Int) := by omega
        have b2 : (j : Int) < (xs.length : Int) := by omega
        have lg := RN wr _ c0;simp only at lg;have hd := lZ (xs[j].top + 1) (ps.map cL) xs[j].top;have hnx : wr.heap.size ≠ w.heap.size := by omega
        have hng : wr.heap.size ≠ gi := by omega
        clear hst hm;have hPN := hp'.below ((RP _ _).alloc (RL _) (.cells #[S xs[j].name, .bool xs[j].allow, Iq xs[j].top, Iq xs[j].pl, Iq xs[j].named, Iq xs[j].parts] 95));have hbN : Hid (Below w.heap.size w (wr.alloc (.cells #[S xs[j].name, .bool xs[j].allow, Iq xs[j].top, Iq xs[j].pl, Iq xs[j].named, Iq xs[j].parts] 95))) := hbw.alloc (by omega) _
        have hbX : Hid ((wr.alloc (.cells #[S xs[j].name, .bool xs[j].allow, Iq xs[j].top, Iq xs[j].pl, Iq xs[j].named, Iq xs[j].parts] 95)).heap[w.heap.size]? = some (.cells #[Sq gi xs.length c, Sq g ps.length cap] 90 (0, 0))) := by show _ = _; rw [RV _ _ _ hlw]; exact hbx
        clear hi' hp' hbx
        cases hnm : (xs[j].name == []) with
        | true =>
          have hn' : (xs[j].name == ([] : List UInt8)) = true := hnm;have HQ : Hid (eK (ps.map cL) (xs.drop j) lets j = if 10 < lets \/ 20 < j + 1 - lets \/ 200 < xs[j].parts \/ 20 < dep (xs[j].top + 1) (ps.map cL) xs[j].top then some xs[j].pl else eK (ps.map cL) (xs.drop (j + 1)) lets (j + 1)) := by
            show _ = _; rw [HS.out, hnm]; rfl
          clear hnm HS;go_wp2_with fail;apply(yU hA (xs[j].top + 1) xs[j].top _ hPN (by omega) (by omega) hTj).mono
          rintro e w1 ⟨rfl, rfl⟩;clear hPN;generalize dep (xs[j].top + 1) (ps.map cL) xs[j].top = d at *;go_wp2
          all_goals first
            | (go_ret
               refine ⟨?_, hbN.out⟩;rw [HM.out, HQ.out, RK (by omega)]; rfl)
            | (go_roundw
               case rel => exact ⟨lets, j + 1, by omega, by omega, by go_num, by go_num, (by show _ = _; rw [HM.out, HQ.out, RH (by omega)]), hbN.out, hbX.out⟩
               case measure => simp [intOf]; omega)
        | false =>
          have hn' : (xs[j].name == ([] : List UInt8)) = false := hnm;have HQ : Hid (eK (ps.map cL) (xs.drop j) lets j = if 10 < (lets + 1) \/ 20 < j + 1 - (lets + 1) \/ 200 < xs[j].parts \/ 20 < dep (xs[j].top + 1) (ps.map cL) xs[j].top then some xs[j].pl else eK (ps.map cL) (xs.drop (j + 1)) (lets + 1) (j + 1)) := by
            show _ = _; rw [HS.out, hnm]; rfl
          clear hnm HS;go_wp2_with fail;apply(yU hA (xs[j].top + 1) xs[j].top _ hPN (by omega) (by omega) hTj).mono
          rintro e w1 ⟨rfl, rfl⟩;clear hPN;generalize dep (xs[j].top + 1) (ps.map cL) xs[j].top = d at *;go_wp2
          all_goals first
            | (go_ret
               refine ⟨?_, hbN.out⟩;rw [HM.out, HQ.out, RK (by omega)]; rfl)
            | (go_roundw
               case rel => exact ⟨(lets + 1), j + 1, by omega, by omega, by go_num, by go_num, (by show _ = _; rw [HM.out, HQ.out, RH (by omega)]), hbN.out, hbX.out⟩
               case measure => simp [intOf]; omega)
      · go_wp2
        go_ret;refine ⟨?_, hbw⟩;rw [HM.out, R8 (by omega)]; rfl
abbrev kS (q n c g m cap:Nat):Obj:= .cells #[.slice (some ⟨q,0,none⟩) n c,.slice (some ⟨g,0,none⟩) m cap] 90
theorem Eh (xs) (L) (j fr:Nat) (q:j<xs.length):dq xs L (xs.drop j) fr j=
 if xs[j].name≠[]/\0<=cW xs xs[j].name j then some xs[j].named
 else(dR xs L j (xs[j].parts - fr) fr none).or (dq xs L (xs.drop (j+1)) xs[j].parts (j+1)):=by
 rw[R5 q,dq]
theorem Ei (xs) (L) (i q k) (o:Option Nat) (h:k<q):dR xs L i (q - k) k o=dR xs L i (q - (k+1)) (k+1) (fZ xs i (L.getD k cD).tok o):=by
 obtain⟨c,z⟩:∃c,q - k=c+1:=⟨q - k - 1,by omega⟩
 rw[z,dR,show q - (k+1)=c from by omega]
set_option maxHeartbeats 8000000 in
theorem Hr {cap} (h : gm B iv xs w) (hp : fm B g cap ps w) (hq :∀ x ∈ xs, x.parts <= ps.length) :
    Calls prog 63 #[.agg #[iv, Sq g ps.length cap]] w λe w' => e = .returned (ku (dq xs (ps.map cL) xs 0 0)) /\ Below w.heap.size w w' := by
  have hb := (RP w.heap.size w).alloc (RL _) (.cells #[iv, Sq g ps.length cap] 90);rcases h.form with ⟨rfl, h0⟩ | ⟨gi, c, rfl⟩
  · have HB : Hid _ := hb
    have HE : Hid (dq xs (ps.map cL) xs 0 0 = none) := by
      show _ = _; cases xs with
      | nil => rfl
      | cons => simp at h0
    clear hb h0;go_enter func63, ntmps63;go_wp2
    go_loop [3, 4] (λn i => n = Iq 0 /\ i = Iq 0) (λ_ _ => 0)
    case atStart => exact ⟨rfl, rfl⟩
    case round =>
      obtain ⟨rfl, rfl⟩ := hrel;go_wp2;go_ret;exact ⟨by rw [HE.out]; rfl, HB.out⟩
  · have hbx : (w.alloc (kS gi xs.length c g ps.length cap)).heap[w.heap.size]? = some (kS gi xs.length c g ps.length cap) := RO w _
    have hf := h.few;have hpf := hp.few;have HX : Hid _ := hbx;clear hbx;go_enter func63, ntmps63;go_wp2
    go_loopw [3, 4] (λn i wr => ∃ (fr j : Nat), fr <= ps.length /\ j <= xs.length /\ n = Iq fr /\ i = Iq j /\ Hid (dq xs (ps.map cL) xs 0 0 = dq xs (ps.map cL) (xs.drop j) fr j) /\ Below w.heap.size w wr /\ wr.heap[w.heap.size]? = some (kS gi xs.length c g ps.length cap)) (λ_ i _ => xs.length - (intOf i).toNat)
    case atStart => exact ⟨0, 0, R0 _, R0 _, rfl, rfl, rfl, hb, HX.out⟩
    case round =>
      obtain ⟨fr, j, hfr, hj, rfl, rfl, HM, hbw, hbx⟩ := hrel;have q0 := RM wr w.heap.size 0 _ _ _ hbx;have q1 := RM wr w.heap.size 1 _ _ _ hbx;have hlw := cq hbx;simp only [RY, RZ, RX] at q0 q1
      by_cases hlt : j < xs.length
      · have hi' := h.below hbw
        obtain ⟨c0, c1, c2, c3, c4, c5⟩ := hi'.cells j hlt;have HS : Hid _ := Eh xs (ps.map cL) j fr hlt;have hm : xs[j] ∈ xs := R4 hlt;have hqj := hq _ hm;have b1 : (0 : Int) <= (j : Int) := by omega
        have b2 : (j : Int) < (xs.length : Int) := by omega
        have lg := RN wr _ c0;simp only at lg;have hnx : wr.heap.size ≠ w.heap.size := by omega
        have hng : wr.heap.size ≠ gi := by omega
        clear hm;have hbN : Below w.heap.size w (wr.alloc (gK xs[j])) := hbw.alloc (by omega) _
        have hbX : (wr.alloc (gK xs[j])).heap[w.heap.size]? = some (kS gi xs.length c g ps.length cap) := by rw [RV _ _ _ hlw]; exact hbx
        have hbI : (wr.alloc (gK xs[j])).heap[wr.heap.size]? = some (gK xs[j]) := RO wr _;have HN : Hid _ := And.intro hbN (And.intro hbX hbI);clear hi' hbx hbN hbX hbI;have hge := sj xs xs[j].name j;have hcase : ((xs[j].name == ([] : List UInt8)) = true /\ Hid (dq xs (ps.map cL) (xs.drop j) fr j = (dR xs (ps.map cL) j (xs[j].parts - fr) fr none).or (dq xs (ps.map cL) (xs.drop (j + 1)) xs[j].parts (j + 1)))) \/
            ((xs[j].name == ([] : List UInt8)) = false /\ cW xs xs[j].name j < 0 /\ Hid (dq xs (ps.map cL) (xs.drop j) fr j = (dR xs (ps.map cL) j (xs[j].parts - fr) fr none).or (dq xs (ps.map cL) (xs.drop (j + 1)) xs[j].parts (j + 1)))) \/
            ((xs[j].name == ([] : List UInt8)) = false /\ 0 <= cW xs xs[j].name j /\ Hid (dq xs (ps.map cL) (xs.drop j) fr j = some xs[j].named)) := by
          have hS := HS.out
          cases hnm : (xs[j].name == []) with
          | true => exact .inl ⟨rfl, by show _ = _; rw [hS, RH]; intro e; simp at hnm; exact e.1 hnm⟩
          | false =>
            by_cases hl : 0 <= cW xs xs[j].name j
            · exact .inr (.inr ⟨rfl, hl, by show _ = _; rw [hS, RK ⟨by simpa using hnm, hl⟩]⟩)
            · exact .inr (.inl ⟨rfl, by omega, by show _ = _; rw [hS, RH (λe => hl e.2)]⟩)
        clear HS;rcases hcase with ⟨hn', HQ⟩ | ⟨hn', hl, HQ⟩ | ⟨hn', hl, HQ⟩
        rotate_right
        · go_wp2_with fail
          obtain ⟨hbN, hbX, hbI⟩ := HN.out;apply(sE (h.below hbN) _ _ _ xs[j].name j hj).mono;rintro e w2 ⟨rfl, hb2⟩;have hI2 : w2.heap[wr.heap.size]? = some (gK xs[j]) := by rw [hb2.block _ (cq hbI)]; exact hbI
          have hB2 : Below w.heap.size w w2 := hbN.trans (hb2.mono hbN.size);obtain ⟨⟨x0, x1, x2, x3, x4, x5⟩, xf⟩ := gN hI2;clear hbN hbX hbI hb2 q0 q1 c0 c1 c2 c3 c4 c5;generalize cW xs xs[j].name j = m at *;go_wp2;go_ret;exact ⟨by rw [HM.out, HQ.out]; rfl, hB2⟩
        all_goals
          go_wp2_with fail;obtain ⟨hB2, hX2, hI2⟩ := HN.out;clear HN
          first
          | refine (sE (h.below hB2) _ _ _ xs[j].name j hj).mono ?_
            rintro e w2 ⟨rfl, hb2⟩
            replace hI2 := (hb2.block _ (cq hI2)).trans hI2
            replace hX2 := (hb2.block _ (cq hX2)).trans hX2
            replace hB2 := hB2.trans (hb2.mono hB2.size)
            clear hb2 q0 q1 c0 c1 c2 c3 c4 c5;generalize cW xs xs[j].name j = m at *;go_wp2
          | clear q0 q1 c0 c1 c2 c3 c4 c5
            generalize wr.alloc (gK xs[j]) = w2 at *
          generalize hbi : wr.heap.size = bI at *;clear hbi
          go_loopw [7, 8] (λo k wk => ∃ (oo : Option Nat) (kk : Nat), fr <= kk /\ kk <= ps.length /\ o = ku oo /\ k = Iq kk /\ Hid (dR xs (ps.map cL) j (xs[j].parts - fr) fr none = dR xs (ps.map cL) j (xs[j].parts - kk) kk oo) /\ Below w.heap.size w wk /\ wk.heap[w.heap.size]? = some (kS gi xs.length c g ps.length cap) /\ wk.heap[bI]? = some (gK xs[j])) (λ_ k _ => xs[j].parts - (intOf k).toNat)
          case atStart => exact ⟨none, fr, RL _, hfr, rfl, rfl, rfl, hB2, hX2, hI2⟩
          case round =>
            obtain ⟨oo, kk, hfk, hkp, rfl, rfl, HW, hBk, hXk, hIk⟩ := hrel;have q0 := RM wr w.heap.size 0 _ _ _ hXk;have q1 := RM wr w.heap.size 1 _ _ _ hXk;obtain ⟨⟨x0, x1, x2, x3, x4, x5⟩, xf⟩ := gN hIk;have hl1 := cq hXk;have hl2 := cq hIk;simp only [RY, RZ, RX] at q0 q1
            by_cases hk : kk < xs[j].parts
            · have hkl : kk < ps.length := by omega
              obtain ⟨k0, k1, k2, k3, k4⟩ := (hp.below hBk).cells kk hkl;have lp := RN wr _ k0;simp only at lp;have HT : Hid (dR xs (ps.map cL) j (xs[j].parts - kk) kk oo = dR xs (ps.map cL) j (xs[j].parts - (kk + 1)) (kk + 1) (fZ xs j (ps.getD kk cU).tok oo)) := by
                show _ = _; rw [Ei xs (ps.map cL) j xs[j].parts kk oo hk, vD ps kk hkl]; rfl
              have b3 : (0 : Int) <= (kk : Int) := by omega
              have b4 : (kk : Int) < (ps.length : Int) := by omega
              have n1 : wr.heap.size ≠ w.heap.size := by omega
              have n2 : wr.heap.size ≠ bI := by omega
              have n3 : wr.heap.size ≠ g := by omega
              have HN : Hid (∀ o, Below w.heap.size w (wr.alloc o) /\ (wr.alloc o).heap[w.heap.size]? = some (kS gi xs.length c g ps.length cap) /\ (wr.alloc o).heap[bI]? = some (gK xs[j])) := λo => ⟨hBk.alloc (by have := hBk.size; omega) _, by rw [RV _ _ _ hl1]; exact hXk, by rw [RV _ _ _ hl2]; exact hIk⟩
              clear k3 k4 hBk hXk hIk;generalize (ps.getD kk cU).tok = t at *
              by_cases ht : t.k = 111
              · have ht1 : ((t.k : Int) != 111) = false := by simp; omega
                have HT1 : Hid _ := ht;clear ht;go_wp2_with fail;obtain ⟨hBn, hXn, hIn⟩ := HN.out _;have hge := sj xs t.text j;apply(sE (h.below hBn) _ _ _ t.text j hj).mono;rintro e w4 ⟨rfl, hb4⟩
                replace hXn := (hb4.block _ (cq hXn)).trans hXn
                replace hIn := (hb4.block _ (cq hIn)).trans hIn
                have hW4 := (hb4.block _ (by simp)).trans (RO wr (dO t))
                replace hBn := hBn.trans (hb4.mono hBn.size)
                have r2 := RM w4 wr.heap.size 2 _ _ _ hW4;simp only [RY, RZ, RX] at r2;have HZ : Hid (fZ xs j t oo = if cW xs t.text j < 0 then nz t.pl oo else oo) := by
                  show _ = _; unfold fZ
                  simp [HT1.out]
                clear HN hb4 q0 q1 x0 x1 x2 x3 x4 x5 xf k0 k1 k2;generalize cW xs t.text j = m at *
                cases oo <;> unfold ku <;> go_wp2_with fail
                all_goals
                  go_roundw
                  case rel => exact ⟨fZ xs j t _, kk + 1, by omega, by omega, by rw [HZ.out]; simp [nz, ku, *]; try rw [RK (by omega)], by go_num, HW.out.trans HT.out, hBn, hXn, hIn⟩
                  case measure => simp [intOf]; omega
              · have ht1 : ((t.k : Int) != 111) = true := by simp; omega
                have HZ : Hid (fZ xs j t oo = oo) := by show _ = _; unfold fZ; rw [RH (λe => ht e.1)]
                clear ht;go_wp2
                go_roundw
                case rel =>
                  obtain ⟨hBn, hXn, hIn⟩ := HN.out (dO t);exact ⟨oo, kk + 1, by omega, by omega, rfl, by go_num, (by show _ = _; rw [HW.out, HT.out, HZ.out]), hBn, hXn, hIn⟩
                case measure => simp [intOf]; omega
            · have HE : Hid (dR xs (ps.map cL) j (xs[j].parts - fr) fr none = oo) := by
                show _ = _; rw [HW.out, show xs[j].parts - kk = 0 from by omega]; rfl
              cases oo with
              | none =>
                unfold ku;go_wp2
                go_roundw
                case rel => exact ⟨xs[j].parts, j + 1, by omega, by omega, rfl, by go_num, (by show _ = _; rw [HM.out, HQ.out, HE.out]; rfl), hBk, hXk⟩
                case measure => simp [intOf]; omega
              | some p =>
                unfold ku;go_wp2;go_ret;exact ⟨by rw [HM.out, HQ.out, HE.out]; rfl, hBk⟩
      · go_wp2
        go_ret;refine ⟨?_, hbw⟩;rw [HM.out, R8 (by omega)]; rfl
theorem sF {s:List UInt8} {i:Nat} (h:i<s.length):(s.getD i 0).toNat=((ByteArray.mk s.toArray)[i]'h).toNat:=by rw[RG,RI h];rfl
theorem wC (x s) (w:World) (G:x=[61]->2<=s.length) (h3:x=[105,102]->3<=s.length):
 Calls prog 161 #[S x,S s] w λe w'=>e= .returned (.int .u8 (pw x s))/\ ∃n,w'=w.drewN n:=by
 by_cases q:x=[61]
 ·have R:=G q
  subst q;have D:0<s.length:=by omega
  have A:1<s.length:=by omega
  have I:Hid (pw [61] s=if(((ByteArray.mk s.toArray)[0]'D).toNat:Int)=(((ByteArray.mk s.toArray)[1]'A).toNat:Int) then 116 else 0):=by simp only[Int.natCast_inj,<-sF];exact rfl
  cases E:((((ByteArray.mk s.toArray)[0]'D).toNat:Int)==(((ByteArray.mk s.toArray)[1]'A).toNat:Int))
  all_goals
   go_enter func161,ntmps161;go_wp2
   go_region_held3 (λ_=>True) (trivial) (fail)
   all_goals
    go_wp2
    go_ret;refine⟨dh ?_,1,rfl⟩;rw[I.out]
    first|rw[RK (by simpa using E)];rfl|rw[RH (by simpa using E)];rfl
 by_cases z:x=[105,102]
 ·have R:=h3 z
  subst z;have D:0<s.length:=by omega
  have A:1<s.length:=by omega
  have J:2<s.length:=by omega
  have I:Hid (pw [105,102] s=if((ByteArray.mk s.toArray)[0]'D).toNat=116/\((ByteArray.mk s.toArray)[1]'A).toNat=((ByteArray.mk s.toArray)[2]'J).toNat then((ByteArray.mk s.toArray)[1]'A).toNat else 0):=by rw[<-sF,<-sF,<-sF];exact rfl
  cases O:((((ByteArray.mk s.toArray)[0]'D).toNat:Int)==116)
  ·go_enter func161,ntmps161
   go_wp2
   go_region
   all_goals
    go_wp2
    go_ret;refine⟨dh ?_,1,rfl⟩;rw[I.out,RH (λe=>by simp[e.1] at O)]
    rfl
  cases E:((((ByteArray.mk s.toArray)[1]'A).toNat:Int)==(((ByteArray.mk s.toArray)[2]'J).toNat:Int))
  all_goals
   go_enter func161,ntmps161;go_wp2
   go_region_held3 (λ_=>True) (trivial) (fail)
   all_goals
    go_wp2
    go_ret;refine⟨dh ?_,1,rfl⟩;rw[I.out]
    first|rw[RK (by simp at O E;omega)]|rw[RH (λe=>by simp[e.2] at E)];rfl
 have V:(x==([61]:List UInt8))=false:=by simp[*]
 have Y:(x==([105,102]:List UInt8))=false:=by simp[*]
 have U:Hid (x≠[61]/\x≠[105,102]):=⟨q,z⟩;go_enter func161,ntmps161;go_wp2
 all_goals
  go_ret;refine⟨dh ?_,0,rfl⟩;have:=U.out
  simp_all [pw]
abbrev Ld (z:eC) (sv:Value):Obj:= .cells #[.int .u8 z.tok.k,S z.tok.text,.int .i64 z.tok.pl,sv,.int .i64 z.n] 169
structure PM (w W) (gi n c g m cap) (z) (sv:Value):Prop where
 bel:Below w.heap.size w W
 pol:W.heap[w.heap.size]?=some (kS gi n c g m cap)
 par:W.heap[w.heap.size+1]?=some (Ld z sv)
theorem PM.new {cap} {sv:Value} (h:(w.alloc (kS q n c g m cap)).alloc (Ld z sv)=W):PM w W q n c g m cap z sv:=by
 subst h;refine⟨((RP _ _).alloc (RL _) _).alloc (by simp) _,by rw[RV _ _ _ (by simp)];exact RO w _,?_⟩
 have e:=RO (w.alloc (kS q n c g m cap)) (Ld z sv);rw[RW] at e;exact e
theorem PM.next {cap sv} (h:PM w W D n c g m cap z sv) (E:Below W.heap.size W.drew q):PM w q D n c g m cap z sv:=by
 have A:=(RP _ _).drew.trans E;exact⟨h.bel.trans (A.mono h.bel.size),(A.block _ (cq h.pol)).trans h.pol,(A.block _ (cq h.par)).trans h.par⟩
theorem PM.see {cap sv} (h:PM w W q n c g m cap z sv):Cq W w.heap.size 0 (Sq q n c)/\Cq W w.heap.size 1 (Sq g m cap)/\Cq W (w.heap.size+1) 0 (.int .u8 z.tok.k)/\Cq W (w.heap.size+1) 1 (S z.tok.text)/\Cq W (w.heap.size+1) 3 sv/\Cq W (w.heap.size+1) 4 (Iq z.n):=
 ⟨RM _ _ _ _ _ _ h.pol,RM _ _ _ _ _ _ h.pol,RM _ _ _ _ _ _ h.par,RM _ _ _ _ _ _ h.par,RM _ _ _ _ _ _ h.par,RM _ _ _ _ _ _ h.par⟩
abbrev OQ (b q n c g m cap:Nat) (sv:Value) (a:Addr) (v:Value) (W:World):Prop:=W.cell? ⟨b,0,none⟩=some (.slice (some ⟨q,0,none⟩) n c)/\W.cell? ⟨b,1,none⟩=some (.slice (some ⟨g,0,none⟩) m cap)/\W.cell? ⟨b+1,3,none⟩=some sv/\W.cell? a=some v
theorem PM.sub {cap sv} (h:PM w W q n c g m cap z sv) (A:w.cell? a=some v):OQ w.heap.size q n c g m cap sv a v W:=by
 obtain⟨a,b,_,_,c,_⟩:=h.see;exact⟨a,b,c,by rw[h.bel.cell (RN w _ A)];exact A⟩
theorem fm.sv {cap} (h:fm B g cap ps w) (R:k<ps.length):∃G,(ps.getD k cU).sv= .slice G (ps.getD k cU).subs.length (ps.getD k cU).subs.length/\ ∀j,j<(ps.getD k cU).subs.length-> ∃q,G=some ⟨q,0,none⟩/\Cq w q j (Iq ((ps.getD k cU).subs.getD j 0)):=by
 rcases h.sub k R with⟨I,D⟩|⟨q,D,J⟩
 ·exact⟨none,by rw[I,D];rfl,λj z=>by rw[I] at z;simp at z⟩
 ·exact⟨some ⟨q,0,none⟩,D,λj z=>⟨q,rfl,J j z⟩⟩
section
attribute [local go_sem ↓] Go.wp_at_zero Go.wp_at_succ
variable {base its gi bv}
theorem yV:(prog.info? 5).map (λi=>(i.zero,i.size,i.bytes))=some (some (.int .u8 0),1,1):=by kernel_rfl
def byteCells (l:List UInt8):List Value:=l.map λc=>Value.int .u8 (c.toNat:Int)
theorem yj (l:LB):(byteCells l).length=l.length:=by simp[byteCells]
theorem pH (l:LB) (c:UInt8):byteCells (l++[c])=byteCells l++[.int .u8 c.toNat]:=by simp[byteCells]
structure wD (B gi c g cap) (xs) (ps) (bv) (its) (w):Prop where
 items:gm B (.slice (some ⟨gi,0,none⟩) xs.length c) xs w
 parts:fm B g cap ps w
 bytes:w.ownsRow B 5 1 bv its.length (byteCells its)
 len:its.length<=xs.length
theorem wD.below {B z c g cap xs ps A} {its:LB} {w w'} (h:wD B z c g cap xs ps A its w) (q:Bl w w'):wD B z c g cap xs ps A its w':=
 ⟨h.items.below q,h.parts.below q,cH h.bytes q,h.len⟩
structure Hs (xs) (n) (L:List Pt) (Good:Nat->Prop):Prop where
 down:∀k,Good k-> ∀j∈(L.getD k cD).subs,Good j
 own:∀k,Good k->(L.getD k cD).tok.k=111->0<=cW xs (L.getD k cD).tok.text n
 two:∀k,Good k->(L.getD k cD).tok.k≠110->(L.getD k cD).tok.k≠111->(L.getD k cD).tok.text=[61]->2<=(L.getD k cD).subs.length
 three:∀k,Good k->(L.getD k cD).tok.k≠110->(L.getD k cD).tok.k≠111->(L.getD k cD).tok.text=[105,102]->3<=(L.getD k cD).subs.length
theorem Ht (xs) (its:LB) (L) (f k j) (q:j<(L.getD k cD).subs.length) (h:dr xs its L f ((L.getD k cD).subs[j])=0):dr xs its L (f+1) k=0:=by
 rw[dr,RK];rw[Sd];exact Tc.2 ⟨_,R4 q,h⟩
theorem Hu (xs) (its:LB) (L) (f k) (h:∀j∈(L.getD k cD).subs,dr xs its L f j≠0):(dr xs its L (f+1) k).toNat=eT xs its (L.getD k cD).tok ((L.getD k cD).subs.map (dr xs its L f)):=by
 rw[dr,RH]
 ·rw[UInt8.toNat_ofNat_of_lt' (G1 _ _ _ _)]
 rw[Sd];intro q;obtain⟨j,z,e⟩:=Tc.1 q;exact h j z e
theorem Le {l:LB} {w:World} (h:w.ownsRow base 5 1 q n (byteCells l)):(convert 155 9 q).run prog w= .ok (S l) w:=by
 have z:n=l.length:=by have:=h.1;rw[yj] at this;omega
 subst z;rcases h.2 with⟨rfl,A⟩|⟨g,cap,E,rfl,_⟩
 ·have:l=[]:=U7.1 A;subst this;rw[run_convert_bytes_string w 155 9 5 none 0 0 underlying155 underlying5 underlying9];rfl
 refine Ua w 155 9 5 ⟨g,0,none⟩ cap l underlying155 underlying5 underlying9 λj D=>?_
 exact h.cells rfl j _ (by simp[byteCells,D])
theorem Lf {w:World} (h:w.ownsRow base 5 1 (.slice q its.length z) its.length (byteCells its)) (l:Nat) (A:l<its.length):
 ∃g,q=some ⟨g,0,none⟩/\w.cell? ⟨g,l,none⟩=some (.int .u8 (its.getD l 0).toNat):=by
 rcases h.2 with⟨_,G⟩|⟨g,cap,E,e,_⟩
 ·omega
 cases e;refine⟨g,rfl,?_⟩;have D:(⟨g,0,none⟩:Addr).add l=⟨g,l,none⟩:=by unfold Addr.add;split<;>simp_all
 rw[<-D];exact h.cells (g:=g) rfl l _ (by simp[byteCells,A])
theorem wE (l:List LB) (s:LB):du l s<l.length:=by
 induction l with
 |nil=>simp[du]
 |cons x r ih=>unfold du;simp only[R7];split;omega;split<;>omega
theorem BU {cap} {its:LB} {Good} (hA:yD (ps.map cL)) (hG:Hs xs its.length (ps.map cL) Good) (f) (bq:f<=2000)
 (ih:∀k w,wD B gi c g cap xs ps bv its w->k<f->k<ps.length->Good k->
  Calls prog 117 #[.agg #[Sq gi xs.length c,Sq g ps.length cap],Iq k,bv] w λe w'=>e= .returned (.int .u8 (dr xs its (ps.map cL) f k).toNat)/\Bl w w')
 (k) (w) (h:wD B gi c g cap xs ps bv its w) (br:k<f+1) (hk:k<ps.length) (aj:Good k):
  Calls prog 117 #[.agg #[Sq gi xs.length c,Sq g ps.length cap],Iq k,bv] w λe w'=>e= .returned (.int .u8 (dr xs its (ps.map cL) (f+1) k).toNat)/\Bl w w':=by
 obtain⟨i0,hi,aL,aq,aM⟩:=Tz yV;obtain⟨k0,k1,k2,k3,k4⟩:=h.parts.cells k hk;have b1:(0:Int)<=(k:Int):=by omega
 have b2:(k:Int)<(ps.length:Int):=by omega
 have lg:=RN w _ k0;simp only at lg;have IH:=Hi ih;clear ih;have ar:(ps.map cL).getD k cD=cL (ps.getD k cU):=vD ps k hk;obtain⟨sa,ay,az⟩:=h.parts.sv hk;have bk:(Value.slice sa (ps.getD k cU).subs.length (ps.getD k cU).subs.length).oneCell'=true:=rfl;rw[ay] at k3;have ag:=hA k (by simpa using hk)
 have ab:=hG.down k aj;have U:=hG.own k aj;have ah:=hG.two k aj;have Y:=hG.three k aj;have ac:=Hu xs its (ps.map cL) f k;have ad:=Ht xs its (ps.map cL) f k;rw[ar] at ag ab U ah Y ac;simp only[ar] at ad;generalize ps.getD k cU=A at*;have aA:Hid (A.subs.length<=3/\ ∀j∈A.subs,j<k):=ag;have aN:Hid (∀j∈A.subs,Good j):=ab;have aO:Hid (A.tok.k=111->0<=cW xs A.tok.text its.length):=U;have aP:Hid (A.tok.k≠110->A.tok.k≠111->A.tok.text=[61]->2<=A.subs.length):=ah;have aQ:Hid (A.tok.k≠110->A.tok.k≠111->A.tok.text=[105,102]->3<=A.subs.length):=Y;have aR:Hid ((∀j∈A.subs,dr xs its (ps.map cL) f j≠0)->(dr xs its (ps.map cL) (f+1) k).toNat=eT xs its A.tok (A.subs.map (dr xs its (ps.map cL) f))):=ac;have aS:Hid (∀j (hj:j<A.subs.length),dr xs its (ps.map cL) f A.subs[j]=0->dr xs its (ps.map cL) (f+1) k=0):=ad;clear ar ag ab U ah Y ac ad;have aI:=aq;obtain⟨va,vc,rfl⟩:∃a c,bv= .slice a its.length c:=by
  rcases h.bytes.2 with⟨e,V⟩|⟨gg,cc,bt,e,_⟩
  ·exact⟨none,0,by rw[V];exact e⟩
  exact⟨_,_,e⟩
 have aT:=Hi az;clear ay az;generalize A.subs=sl at*;go_enter func117,ntmps117;go_wp2_with fail;go_name_world w0 hw;have R:=PM.new hw;clear hw k0 k1 k2 k3 k4;go_loopw [8,9] (λtv j wr=> ∃(G:Nat),G<=sl.length/\j= Iq G/\(∀q (hq:q<sl.length),q<G->dr xs its (ps.map cL) f sl[q]≠0)/\wr.ownsRow w.heap.size 5 1 tv G (byteCells ((sl.take G).map (dr xs its (ps.map cL) f)))/\PM w wr gi xs.length c g ps.length cap A (.slice sa sl.length sl.length)) (λ_ j _=>sl.length - (intOf j).toNat)
 case atStart=>exact⟨0,R0 _,rfl,λq hq h=>by omega,SC _ _ _ _,R⟩
 case round=>
  clear R;obtain⟨G,bu,rfl,aB,U,R⟩:=hrel;have aC:=Hi aB;clear aB;obtain⟨q0,q1,p0,p1,p3,-⟩:=R.see;by_cases aa:G<sl.length
  ·obtain⟨sb,rfl,ak⟩:=aT.out G aa;rw[RG,RI aa] at ak;obtain⟨-,-,-,s0⟩:=R.sub ak;have b3:(0:Int)<=(G:Int):=by omega
   have b4:(G:Int)<(sl.length:Int):=by omega
   have bl:=aA.out.2 sl[G] (R4 aa);have aU:=aN.out sl[G] (R4 aa);go_wp2_with fail;go_region_held3 (OQ w.heap.size gi xs.length c g ps.length cap (Sq sb sl.length sl.length) ⟨sb,G,none⟩ (Iq sl[G]))
    (first|exact(R.next am).sub ak|exact R.sub ak)
    (first|(go_at_call 117;refine(IH.out sl[G] _ ((h.below R.bel).below ((RP _ _).drew)) (by omega) (by omega) aU).mono ?_;rintro e w5 ⟨rfl,am⟩))
   rename_i hHeld;have hN:=R.next am;have O:=hN.bel;have ae:=cH U ((RP _ _).drew.trans am);have aD:=O.size;have aV:Hid ((sl.take (G+1)).map (dr xs its (ps.map cL) f)=(sl.take G).map (dr xs its (ps.map cL) f)++[dr xs its (ps.map cL) f sl[G]]):=by
    show _=_;rw[Ta aa,Sv];rfl
   have aW:Hid (dr xs its (ps.map cL) f sl[G]=0->dr xs its (ps.map cL) (f+1) k=0):=λhz=>aS.out G aa hz
   clear hHeld R am U q0 q1 p0 p1 p3 s0;generalize aX:dr xs its (ps.map cL) f sl[G]=tt at*;by_cases hz:tt=0
   ·have aq:((tt.toNat:Int)==0)=true:=by rw[hz];rfl
    have HR:=aW.out hz;go_wp2_with fail;go_ret;exact⟨dh (by rw[HR];rfl),O⟩
   have aq:((tt.toNat:Int)==0)=false:=by
    have:tt.toNat≠0:=λe=>hz (Tq.1 e)
    simp;omega
   have bj:sl.length<=3:=aA.out.1;go_wp2_with (
    at_builtin;go_must (refine wpList_append_lies _ (by rfl) _ _ 155 (by rfl) w.heap.size 5 i0 (.int .u8 0) 1 1 underlying155 hi aL aI aM (by rfl) (by decide) _ _ _ (by rfl) (ae.alloc _) ⟨w5.heap.size,0,none⟩ 1 1 [.int .u8 tt.toNat] (by rfl) (by rfl) (cell_one_new _ _ _) (λx hx=>by simp at hx;subst hx;rfl) (by decide) (by unfold maxLen;omega) (by omega) (by simp;omega) _ rfl ?_)
    intro gt ct w7 ax af bm bo)
   go_roundw
   case rel=>
    have kp:∀{b o t},w5.heap[b]?=some (Obj.cells o t)->t≠5->w7.heap[b]?=some (Obj.cells o t):=λ{b o t} e ne=>by
     rw[af.block _ (by have:=cq e;simp;omega) (λz=>by obtain⟨cs,hc⟩:=cM ae z.symm;rw[e] at hc;simp at hc;exact ne hc.2),RV _ _ _ (cq e)];exact e
    refine⟨G+1,by omega,by go_num,?_,?_,gU O ae af,kp hN.pol (by decide),kp hN.par (by decide)⟩
    ·intro q hq bw;by_cases e:q=G
     ·subst e;rw[aX];exact hz
     exact aC.out q hq (by omega)
    rw[aV.out,pH];exact ax
   case measure=>simp[intOf];omega
  obtain rfl:G=sl.length:=by omega
  have aY:Hid ((dr xs its (ps.map cL) (f+1) k).toNat=eT xs its A.tok (sl.map (dr xs its (ps.map cL) f))):=aR.out λj hj=>by
   obtain⟨q,hq,rfl⟩:=Tt.1 hj;exact aC.out q hq hq
  have aZ:Hid (∀w',Below wr.heap.size wr w'->(convert 155 9 u8).run prog w'= .ok (S (sl.map (dr xs its (ps.map cL) f))) w'):=λw' hb=>Le (by rw[Ti] at U;exact cH U hb)
  go_wp2_with fail;go_region_held3 (λw'=>w'.cell? ⟨w.heap.size+1,1,none⟩=some (S A.tok.text))
   (first|go_keep|exact(R.next an).see.2.2.2.1)
   (first
    |(go_at_call 89;refine(ni _).mono ?_;rintro e w1 ⟨x1,rfl,aE,an,a0,a8⟩)
    |(go_at_call 87;refine(iT dw _ x1 _ (by decide) aE).mono ?_;rintro e w1 ⟨rfl,rfl⟩))
  rename_i hHeld;have hN:=R.next an;have au:Below wr.heap.size wr w1:=(RP _ _).drew.trans an;clear hHeld an aE a0 a8 q0 q1 p0 p1 p3;obtain⟨-,-,-,p1,-⟩:=hN.see;go_wp2_with fail;go_region_held3 (λw'=>w'.cell? ⟨w.heap.size+1,1,none⟩=some (S A.tok.text))
   (first|go_keep|exact(hN.next ao).see.2.2.2.1)
   (first
    |(go_at_call 88;refine(oy _).mono ?_;rintro e w5 ⟨x5,rfl,aF,ao,a9,aD⟩)
    |(go_at_call 87;refine(iT dz _ x5 _ (by decide) aF).mono ?_;rintro e w5 ⟨rfl,rfl⟩))
  rename_i hHeld;have ba:=aZ.out w5 (au.trans (((RP _ _).drew.trans ao).mono au.size));have R:=hN.next ao;have O:=R.bel;clear p1;obtain⟨q0,q1,p0,p1,-⟩:=R.see;have i1:=jC dw A.tok.text;have i2:=jC dz A.tok.text;have i3:=wE dz A.tok.text;clear hHeld ao aF a9 aD au R hN;have av:=aY.out;unfold eT at av;generalize R:du dw A.tok.text=m at*;generalize hF:du dz A.tok.text=n at*;have I:=Hi av;clear av R hF;by_cases E:A.tok.k=110
  ·have aJ:((A.tok.k:Int)==110)=true:=by simp;omega
   have HR:=Hi I.out;have D:Hid ((dr xs its (ps.map cL) (f+1) k).toNat=110):=by show _=_;rw[I.out,RK E]
   clear I HR E;go_wp2_with fail;go_ret;exact⟨dh (by rw[D.out];rfl),O⟩
  have aJ:((A.tok.k:Int)==110)=false:=by simp;omega
  by_cases J:A.tok.k=111
  ·have aK:((A.tok.k:Int)==111)=true:=by simp;omega
   have aG:=aO.out J;have D:Hid ((dr xs its (ps.map cL) (f+1) k).toNat=(its.getD (cW xs A.tok.text its.length).toNat 0).toNat):=by show _=_;rw[I.out,RH E,RK J]
   have bb:=sk xs A.tok.text its.length;have ai:=h.below O;clear I E J;go_wp2_with fail;apply(sE ai.items _ _ _ A.tok.text its.length h.len).mono;rintro e w6 ⟨rfl,aw⟩;have ap:=ai.below aw;have bc:Below w.heap.size w w6:=O.trans (aw.mono O.size);obtain⟨gb,rfl,aH⟩:=Lf ap.bytes (cW xs A.tok.text its.length).toNat (by omega)
   obtain⟨l,hl⟩:∃l:Nat,cW xs A.tok.text its.length=l:=⟨_,(TI aG).symm⟩;rw[hl] at aH D aG bb⊢;simp only[Tf] at aH D;clear hl q0 q1 p0 p1 ba ai ap aw;go_wp2_with fail;go_ret;exact⟨dh (by rw[D.out,RG]),bc⟩
  have aK:((A.tok.k:Int)==111)=false:=by simp;omega
  by_cases V:0<=n
  ·have D:Hid ((dr xs its (ps.map cL) (f+1) k).toNat=(([110,110,110,110,109,109,109,116,116]:LB).getD n.toNat 0).toNat):=by show _=_;rw[I.out,RH E,RH J,RK V]
   obtain⟨l,rfl⟩:∃l:Nat,n=l:=⟨n.toNat,(TI V).symm⟩;have bx:l<9:=by have:(dz.length:Int)=9:=rfl;omega
   simp only[Tf] at D;clear I E J;have c1:(l:Int)<9:=by omega
   go_wp2_with fail;go_ret;refine⟨dh ?_,O⟩;rw[D.out];have e9:l=0\/l=1\/l=2\/l=3\/l=4\/l=5\/l=6\/l=7\/l=8:=by omega
   rcases e9 with rfl|rfl|rfl|rfl|rfl|rfl|rfl|rfl|rfl<;>rfl
  by_cases hm:0<=m
  ·have D:Hid ((dr xs its (ps.map cL) (f+1) k).toNat=109):=by show _=_;rw[I.out,RH E,RH J,RH V,RK hm]
   have bd:n<0:=by omega
   clear I E J V;go_wp2_with fail;go_ret;exact⟨dh (by rw[D.out];rfl),O⟩
  have bd:n<0:=by omega
  have bz:m<0:=by omega
  cases ht:(A.tok.text==mn) with
  |true=>
   have bf:(A.tok.text==[116,114,117,101])=true:=ht;have D:Hid ((dr xs its (ps.map cL) (f+1) k).toNat=116):=by show _=_;rw[I.out,RH E,RH J,RH V,RH hm,RK (.inl (by simpa using ht))]
   clear I E J V hm ht;go_wp2_with fail;go_ret;exact⟨dh (by rw[D.out];rfl),O⟩
  |false=>
   have bf:(A.tok.text==[116,114,117,101])=false:=ht;cases Z:(A.tok.text==mo) with
   |true=>
    have bg:(A.tok.text==[102,97,108,115,101])=true:=Z;have D:Hid ((dr xs its (ps.map cL) (f+1) k).toNat=116):=by show _=_;rw[I.out,RH E,RH J,RH V,RH hm,RK (.inr (by simpa using Z))]
    clear I E J V hm ht Z;go_wp2_with fail;go_ret;exact⟨dh (by rw[D.out];rfl),O⟩
   |false=>
    have bg:(A.tok.text==[102,97,108,115,101])=false:=Z;have D:Hid ((dr xs its (ps.map cL) (f+1) k).toNat=pw A.tok.text (sl.map (dr xs its (ps.map cL) f))):=by
     show _=_;rw[I.out,RH E,RH J,RH V,RH hm,RH];intro e;simp at ht Z;rcases e with e|e
     ·exact ht e
     exact Z e
    have bh:Hid (A.tok.text=[61]->2<=sl.length):=aP.out E J;have bi:Hid (A.tok.text=[105,102]->3<=sl.length):=aQ.out E J;clear I E J V hm ht Z;go_wp2_with fail;apply(wC A.tok.text (sl.map (dr xs its (ps.map cL) f)) _ (λe=>by simpa using bh.out e) (λe=>by simpa using bi.out e)).mono
    rintro e w6 ⟨rfl,nd,rfl⟩;go_wp2_with fail;go_ret;exact⟨dh (by rw[D.out]),O.trans ⟨rfl,rfl,rfl,RL _,λ_ _=>rfl⟩⟩
end
end Go.Proofs.YtfkdailfcmnjlaaGreatDoor
