/-
  A part.
-/
import Derived.Test.YtfkdailfcmnjlaaGreatDoorAll08
import Derived.Lib.ItoaWalk
set_option linter.all false
set_option maxHeartbeats 40000000
set_option maxRecDepth 1000000
namespace Go.Proofs.YtfkdailfcmnjlaaGreatDoor
open Go Go.RowKit Tryz
section
attribute [local go_sem ↓] Go.wp_at_zero Go.wp_at_succ
variable {f ts i L x r B rb gl cl s w q G pv W s' j v y D g ps w'}
theorem vu (h:gj f ts i L x=some r):
 ∃a:Rd,P f 6 ts i L 0=some a/\((a.ok=true/\eJ (cq ts a.i) [59]=true/\r=⟨true,a.i+1,a.L,{x with top:=a.top,parts:=a.L.length}⟩)\/(¬(a.ok=true/\eJ (cq ts a.i) [59]=true)/\r.ok=false/\r.i=a.i)):=by
 unfold gj at h;cases A:P f 6 ts i L 0 with
 |none=>rw[A] at h;simp at h
 |some a=>
  rw[A] at h;simp only at h;refine⟨a,rfl,?_⟩;by_cases q:a.ok=true
  ·rw[Qo q] at h;by_cases z:eJ (cq ts a.i) [59]=true
   ·rw[Qo z] at h;simp at h;exact .inl ⟨q,z,h.symm⟩
   rw[Qj z] at h;simp[dV] at h;subst h;exact .inr ⟨λe=>z e.2,rfl,rfl⟩
  rw[Qj q] at h;simp[dV] at h;subst h;exact .inr ⟨λe=>q e.1,rfl,rfl⟩
theorem RS.pv_form (h:RS B rb gl cl ts s w):∃a c,s.pv= .slice a s.ps.length c:=by
 rcases h.parts.2 with⟨e,q⟩|⟨g,cap,z,e,_⟩
 ·exact⟨none,0,by rw[e,q]⟩
 exact⟨_,_,e⟩
theorem Jz {a:Rd} {x:dw} {r:At}
 (U:(a.ok=true/\eJ (cq ts a.i) [59]=true/\r=⟨true,a.i+1,a.L,{x with top:=a.top,parts:=a.L.length}⟩)\/(¬(a.ok=true/\eJ (cq ts a.i) [59]=true)/\r.ok=false/\r.i=a.i))
 (A:q.i=a.i) (st:(a.ok=true/\q.bad=false/\eV q/\q.ps.map cL=a.L)\/(a.ok=false/\q.bad=true)) (top:a.ok=true->G=a.top):
 (eO ts q [59]).i=r.i/\((r.ok=true/\(eO ts q [59]).bad=false/\eV (eO ts q [59])/\(eO ts q [59]).ps.map cL=r.L/\(⟨x.name,x.allow,G,x.pl,x.named,(eO ts q [59]).ps.length⟩:dw)=r.it)\/(r.ok=false/\(eO ts q [59]).bad=true)):=by
 rcases U with⟨z,V,rfl⟩|⟨I,J,O⟩
 ·rcases st with⟨_,good,D,R⟩|⟨Y,_⟩
  ·have E:eO ts q [59]={q with i:=q.i+1}:=by unfold eO gJ;rw[good,A,Qo (by simp[V])]
   rw[E];exact⟨by simp[A],.inl ⟨rfl,good,D,R,by simp[top z,<-R]⟩⟩
  rw[Y] at z;simp at z
 have E:eO ts q [59]={q with bad:=true}:=by
  unfold eO gJ;rw[Qj];rcases st with⟨z,good,_,_⟩|⟨_,Z⟩
  ·rw[good,A];simp;simpa using λe=>I ⟨z,e⟩
  rw[Z];simp
 rw[E];exact⟨by simp[A,O],.inr ⟨J,rfl⟩⟩
structure IM (B rb gl cl) (ts) (pv) (w) (s) (x) (W):Prop where
 rs:RS B rb gl cl ts s W
 fr:Fr rb pv s.pv w W
 res:W.heap[w.heap.size]?=some (gD dr)
 itm:W.heap[w.heap.size+1+1]?=some (gD x)
 lt:rb<w.heap.size
theorem IM.below {B rb gl cl ts pv w W z s x} (h:IM B rb gl cl ts pv w s x W) (q:Bl W z):IM B rb gl cl ts pv w s x z:=
 ⟨h.rs.below q,h.fr.trans (Fr.of_below q),(q.block _ (be h.res)).trans h.res,(q.block _ (be h.itm)).trans h.itm,h.lt⟩
theorem IM.then (h:IM B rb gl cl ts pv w s x W) (z:RS B rb gl cl ts s' q) (F:Fr rb s.pv s'.pv W q):IM B rb gl cl ts pv w s' x q:=
 ⟨z,h.fr.trans F,F.far h.res (by have:=h.lt;omega) (k9 h.rs h.res (by simp)),F.far h.itm (by have:=h.lt;omega) (k9 h.rs h.itm (by simp)),h.lt⟩
theorem IM.set {B rb gl cl j ts pv v w W s s' x} (h:IM B rb gl cl ts pv w s x W) (q:RS B rb gl cl ts s' (W.setCell ⟨rb,j,none⟩ v)) (e:s'.pv=s.pv):IM B rb gl cl ts pv w s' x (W.setCell ⟨rb,j,none⟩ v):=
 ⟨q,e▸h.fr.set h.lt _ _,by rw[Qr _ _ _ _ (by have:=h.lt;simp;omega)];exact h.res,by rw[Qr _ _ _ _ (by have:=h.lt;simp;omega)];exact h.itm,h.lt⟩
theorem IM.put (h:IM B rb gl cl ts pv w s x W) (e:(W.setCell ⟨w.heap.size+1+1,j,none⟩ v).heap[w.heap.size+1+1]?=some (gD y)):IM B rb gl cl ts pv w s y (W.setCell ⟨w.heap.size+1+1,j,none⟩ v):=
 ⟨h.rs.but h.itm λk q=>Qr _ _ _ _ q,h.fr.new (by omega) _ _,by rw[Qr _ _ _ _ (by simp;omega)];exact h.res,e,h.lt⟩
def PT (f B rb gl cl:Nat) (ts:List Tok) (s:St) (w:World) (r:At) (W:World):Prop:= ∃q x,IM B rb gl cl ts s.pv w q x W/\((q.bad=false/\eV q/\gj f ts q.i (q.ps.map cL) x=some r)\/(q.bad=true/\r.ok=false/\q.i=r.i))/\q.ps=s.ps/\s.i<=q.i
theorem IM.ask {k:LB} (h:IM B rb gl cl ts s.pv w q x W) (E:RS B rb gl cl ts (eO ts q k) D) (F:Fr rb q.pv q.pv W D) (G:q.bad=false) (I:eV q) (z:(if eJ (cq ts q.i) k then gj f ts (q.i+1) (q.ps.map cL) x else dV q.i)=some r) (J:q.ps=s.ps) (O:s.i<=q.i):PT f B rb gl cl ts s w r D:=by
 obtain⟨p,v,i⟩:=rM ts q k;refine⟨_,x,h.then E (v.symm▸F),?_,p.trans J,QV O i⟩;unfold eO gJ;rw[G];by_cases A:eJ (cq ts q.i) k=true
 ·rw[Qo A] at z;rw[Qo (by simp[A])]
  exact .inl ⟨rfl,I,z⟩
 rw[Qj A] at z;simp only[dV,QE] at z;subst z;rw[Qj (by simpa using A)]
 exact .inr ⟨rfl,rfl,rfl⟩
theorem JA (h:RS B rb gl cl ts s w) (ar:∀t∈ts,lE t) (hB:B<=w.heap.size)
 (aa:s.bad=false) (ac:eV s) (hr:iF f ts s.i (s.ps.map cL)=some r):
 Calls prog 61 #[Pq rb] w (Nl B rb gl cl ts s w r):=by
 have HR:Hid (iF f ts s.i (s.ps.map cL)=some r):=hr;have H2:=Hi aa;clear hr aa;obtain⟨c0,c1,c2,c3⟩:=h.cells;obtain⟨k0,k1,k2⟩:=gG h;have hi:=h.hi;have hn:=h.hn;have b1:(0:Int)<=(s.i:Int):=by omega
 have b2:(s.i:Int)<(ts.length:Int):=by omega
 have l0:=Qk w _ c0;have l1:=Qk w _ k0;simp only at l0 l1;have n0:w.heap.size≠rb:=by omega
 have n1:w.heap.size+1≠rb:=by omega
 have m0:w.heap.size≠gl:=by omega
 have m1:w.heap.size+1≠gl:=by omega
 clear c2 c3;go_enter func61,ntmps61;go_wp2_with fail;go_region_held (λw'=>w'.cell? ⟨rb,0,none⟩=some (Sq gl ts.length cl)/\w'.cell? ⟨rb,1,none⟩=some (Iq s.i)/\w'.cell? ⟨gl,s.i*3,none⟩=some (.int .u8 (cq ts s.i).k)/\w'.cell? ⟨gl,s.i*3+1,none⟩=some (S (cq ts s.i).text)/\w'.cell? ⟨gl,s.i*3+2,none⟩=some (Iq (cq ts s.i).pl)) (go_keep) (fail)
 rename_i hHeld;obtain⟨ad,z,hX⟩:=Ga w (gD dr) (dK (cq ts s.i)) (gD ⟨[],(cq ts s.i).text==ir,0,(cq ts s.i).pl,0,0⟩);have M:IM B rb gl cl ts s.pv w s _ _:=⟨h.below ad,Fr.of_below ad,z,hX,l0⟩;clear hHeld ad z hX c0 c1 k0 k1 k2 n0 n1 m0 m1;go_wp2_with fail;apply(iI M.rs CJ).mono;rintro e w1 ⟨rfl,A⟩;replace M:=M.below A;clear A;go_wp2_with fail;apply(iI M.rs ir).mono;rintro e w2 ⟨rfl,A⟩;replace M:=M.below A;clear A;go_wp2_with fail;apply(iI M.rs qA).mono;rintro e w3 ⟨rfl,A⟩;replace M:=M.below A;clear A;have e0:∀x,gJ s.bad (cq ts s.i) x=eJ (cq ts s.i) x:=λx=>by unfold gJ;rw[H2.out];rfl
 have ae:∀{x},eJ (cq ts s.i) x=true->s.i+1<ts.length:=λ{x} e=>(nx h ((e0 x).trans e)).1
 rw[e0,e0,e0];clear e0;have aB:(s.i:Int)+1<=2000:=by omega
 have s1:=λv i j=>mJ w3 rb w.heap.size i j v (by omega)
 have s2:=λv i j=>mJ w3 rb (w.heap.size+1+1) i j v (by omega)
 obtain⟨c0,c1,c2,c3⟩:=M.rs.cells;have hf:=M.rs.free;obtain⟨⟨E,G,I,J,O,R⟩,rf⟩:=gH M.res;obtain⟨⟨x0,x1,x2,x3,x4,x5⟩,V⟩:=gH M.itm;have z:=HR.out;unfold iF at z;by_cases Y:eJ (cq ts s.i) CJ=true;rw[Qo Y] at z<;>(
  have hs:=ae Y;have au:Hid (((cq ts s.i).text==ir)=false):=by show _=_;unfold eJ at Y;simp at Y;rw[Y.2];decide
  rw[Y];go_wp2_with fail;replace M:=M.set (M.rs.next hs) rfl;clear c0 c1 c2 c3 hf E G I J O R rf x0 x1 x2 x3 x4 x5 V s1 s2;generalize w3.setCell ⟨rb,1,none⟩ (Iq ((s.i:Int)+1))=D at*;obtain⟨q,af⟩:∃q:St,q={s with i:=s.i+1}:=⟨_,rfl⟩;rw[<-af] at M;have U:Hid (q.i=s.i+1/\q.bad=false/\q.ps=s.ps):=by rw[af];exact⟨rfl,H2.out,rfl⟩
  clear af;rw[show s.i+3=q.i+1+1 from by have:=U.out.1;omega,show s.i+2=q.i+1 from by have:=U.out.1;omega,<-U.out.1,<-U.out.2.2] at z
  obtain⟨c0,c1,c2,c3⟩:=M.rs.cells;obtain⟨k0,k1,k2⟩:=gG M.rs;have aC:=M.rs.hi;have b3:(0:Int)<=(q.i:Int):=by omega
  have b4:(q.i:Int)<(ts.length:Int):=by omega
  have n0:=World.new_ne D _ c0;have n1:=World.new_ne D _ c1;have m0:=World.new_ne D _ k0;have m1:=World.new_ne D _ k1;have m2:=World.new_ne D _ k2;have av:=be M.itm;have aw:eV q:=λp hp=>ac p (U.out.2.2▸hp)
  have ab:=Hi z;clear z HR;go_region_held (λw'=>w'.cell? ⟨rb,0,none⟩=some (Sq gl ts.length cl)/\w'.cell? ⟨rb,1,none⟩=some (Iq q.i)/\w'.cell? ⟨gl,q.i*3,none⟩=some (.int .u8 (cq ts q.i).k)/\w'.cell? ⟨gl,q.i*3+1,none⟩=some (S (cq ts q.i).text)/\w'.cell? ⟨gl,q.i*3+2,none⟩=some (Iq (cq ts q.i).pl)) (go_keep) (fail)
  rename_i hHeld;have hO:((D.alloc (dK (cq ts q.i))).drew).heap[D.heap.size]?=some (dK (cq ts q.i)):=Qp D _;replace M:=M.below (ez D (dK (cq ts q.i)));clear hHeld c0 c1 c2 c3 k0 k1 k2 n0 n1 m0 m1 m2;generalize (D.alloc (dK (cq ts q.i))).drew=w5 at*;have q0:=Qm w5 D.heap.size 0 _ _ _ hO;have q1:=Qm w5 D.heap.size 1 _ _ _ hO;have q2:=Qm w5 D.heap.size 2 _ _ _ hO;simp only[Qx,Qy,Qv] at q0 q1 q2;obtain⟨c0,c1,c2,c3⟩:=M.rs.cells;have hf:=M.rs.free;obtain⟨⟨E,G,I,J,O,R⟩,rf⟩:=gH M.res;obtain⟨⟨x0,x1,x2,x3,x4,x5⟩,V⟩:=gH M.itm;have u1:∀(W:World) (i j:Nat) (v:Value),(W.setCell ⟨w.heap.size+1+1,i,none⟩ v).cell? ⟨rb,j,none⟩=W.cell? ⟨rb,j,none⟩:=λW i j v=>mJ W _ rb i j v (by omega)
  have u2:∀(W:World) (i j:Nat) (v:Value),(W.setCell ⟨w.heap.size+1+1,i,none⟩ v).cell? ⟨D.heap.size,j,none⟩=W.cell? ⟨D.heap.size,j,none⟩:=λW i j v=>mJ W _ _ i j v (by omega)
  have u3:∀(W:World) (v:Value),(W.setCell ⟨w.heap.size+1+1,0,none⟩ v).cell? ⟨w.heap.size+1+1,4,none⟩=W.cell? ⟨w.heap.size+1+1,4,none⟩:=λW v=>cN W _ 0 4 v (by decide)
  have u4:=λv j=>mJ w5 rb w.heap.size 3 j v (by omega)
  have u5:=λv j=>mJ w5 rb (w.heap.size+1+1) 3 j v (by omega)
  by_cases h3:(cq ts q.i).k=111;rotate_left
  ·have ho:(((cq ts q.i).k:Int) !=111)=true:=by simp;omega
   have z:=ab.out;rw[Qj h3] at z;simp only[dV,QE] at z;have N:=M.set M.rs.fails rfl;have HO:=Hi (rN (r:=r) (s:=s) (x:=⟨[],(cq ts s.i).text==ir,0,(cq ts s.i).pl,0,0⟩) N.rs N.fr (Qn _) N.res (by simp[U.out.2.2,U.out.1]) (by rw[<-z]) (.inr ⟨by rw[<-z],rfl⟩))
   clear N M z ab h3;go_wp2_with fail;exact Qs (v:=vt ⟨[],(cq ts s.i).text==ir,0,(cq ts s.i).pl,0,0⟩) (by simp[results,results61,go_sem,vt,cY,cN,eY,u4,E,G,I,J,O,R]) rfl HO.out
  have ho:(((cq ts q.i).k:Int) !=111)=false:=by simp;omega
  have ap:q.i+1<ts.length:=by
   rcases Rq (q.i+1) ts.length with h3|h3
   ·exact h3
   have h4:(cq ts q.i).k=101:=M.rs.fin q.i (by omega)
   omega
  have aD:(q.i:Int)+1<=2000:=by omega
  have M1:=M.put (j:=0) (v:=S (cq ts q.i).text) (y:=⟨(cq ts q.i).text,(cq ts s.i).text==ir,0,(cq ts s.i).pl,0,0⟩) (by rw[QB w5 _ 0 _ _ _ M.itm];simp)
  have M2:=M1.put (j:=4) (v:= Iq (cq ts q.i).pl) (y:=⟨(cq ts q.i).text,(cq ts s.i).text==ir,0,(cq ts s.i).pl,(cq ts q.i).pl,0⟩) (by rw[QB _ _ 4 _ _ _ M1.itm];simp)
  replace M:=M2.set (M2.rs.next ap) rfl;have ag:=Hi ((Qo h3).symm.trans ab.out);clear M1 M2 h3 ab;go_wp2_with fail;apply(ny M.rs [61]).mono;rintro e w7 ⟨rfl,Z,F8⟩;have HQ:Hid (PT f B rb gl cl ts s w r w7):=M.ask Z F8 U.out.2.1 aw (by rw[au.out];exact ag.out) U.out.2.2 (by have:=U.out.1;simp only;omega)
  clear M Z F8 ag q0 q1 q2 c0 c1 c2 c3 hf E G I J O R rf x0 x1 x2 x3 x4 x5 V u1 u2 u3 u4 u5 hO av)
 rotate_left;rw[Qj Y] at z<;>(
  simp only[Bool.not_eq_true] at Y;rw[Y];by_cases h2:(eJ (cq ts s.i) ir||eJ (cq ts s.i) qA)=true;rotate_left
  ·rw[Qj h2] at z;simp only[dV,QE] at z;simp only[Bool.not_eq_true,S8] at h2;rw[h2.1,h2.2];have N:=M.set M.rs.fails rfl;have HO:=Hi (rN (r:=r) (s:=s) (x:=⟨[],(cq ts s.i).text==ir,0,(cq ts s.i).pl,0,0⟩) N.rs N.fr (Qn _) N.res ⟨Qn _,Qn _⟩ (by rw[<-z]) (.inr ⟨by rw[<-z],rfl⟩))
   clear N M z HR h2;go_wp2_with fail;exact Qs (v:=vt ⟨[],(cq ts s.i).text==ir,0,(cq ts s.i).pl,0,0⟩) (by simp[results,results61,go_sem,vt,cY,cN,eY,s1,E,G,I,J,O,R]) rfl HO.out
  rw[Qo h2] at z;cases ha:eJ (cq ts s.i) ir<;>cases hd:eJ (cq ts s.i) qA
  all_goals first
  |(simp[ha,hd] at h2;done)
  |have hs:=by first|exact ae ha|exact ae hd
   go_wp2_with fail;replace M:=M.set (M.rs.next hs) rfl;clear c0 c1 c2 c3 hf E G I J O R rf x0 x1 x2 x3 x4 x5 V s1 s2;generalize w3.setCell ⟨rb,1,none⟩ (Iq ((s.i:Int)+1))=D at*;apply(ny M.rs oI).mono;rintro e w7 ⟨rfl,Z,F8⟩;have HQ:Hid (PT f B rb gl cl ts s w r w7):=M.ask Z F8 H2.out ac z rfl (by simp only;omega)
   clear M Z F8 z)
 all_goals
  obtain⟨s5,x,M,HS,ah,aE⟩:=HQ.out;have ai:=Hi ah;have aF:=M.fr.size;obtain⟨c0,c1,c2,c3⟩:=M.rs.cells;obtain⟨⟨E,G,I,J,O,R⟩,rf⟩:=gH M.res;obtain⟨⟨x0,x1,x2,x3,x4,x5⟩,V⟩:=gH M.itm;clear HQ ah;rcases HS with⟨A,hN,hT⟩|⟨A,aj,ak⟩;rotate_left
  ·rw[A] at c3;have HO:=Hi (rN (r:=r) (s:=s) (x:=x) M.rs M.fr (Qn _) M.res (by rw[ai.out];omega) ak (.inr ⟨aj,A⟩))
   clear M aj ak A;go_wp2_with fail;exact Qs (v:=vt x) (by simp[results,results61,go_sem,vt,cY,cN,eY,E,G,I,J,O,R]) rfl HO.out
  rw[A] at c3;have ax:=Hi A;obtain⟨a,am,an⟩:=vu hT;have HA:=Hi an;have ay:=Hi am;clear an hT am A;go_wp2_with fail;apply((FZ f B rb gl cl ts s5 _ a M.rs ar (by omega)).1 (.inr ⟨ax.out,hN,ay.out⟩)).mono
  rintro e w6 hL;obtain⟨s6,n6,rfl,h6,F7,g6,i6,az,aq⟩:=jZ hL;replace M:=M.then h6 F7;clear hL h6 F7 c0 c1 c2 c3 E G I J O R rf x0 x1 x2 x3 x4 x5 V;obtain⟨⟨x0,x1,x2,x3,x4,x5⟩,V⟩:=gH M.itm;go_wp2_with fail;replace M:=M.put (j:=2) (v:= Iq n6) (y:=⟨x.name,x.allow,n6,x.pl,x.named,x.parts⟩) (by rw[QB w6 _ 2 _ _ _ M.itm];simp)
  clear x0 x1 x2 x3 x4 x5 V;generalize w6.setCell ⟨w.heap.size+1+1,2,none⟩ (Iq n6)=aG at*;apply(ny M.rs [59]).mono;rintro e w8 ⟨rfl,Z,F8⟩;obtain⟨p8,v8,j8⟩:=rM ts s6 [59];replace M:=M.then Z (v8.symm▸F8);obtain⟨ba,bc,ao⟩:=M.rs.pv_form;obtain⟨c0,c1,c2,c3⟩:=M.rs.cells;rw[ao] at c2;have aA:(eO ts s6 [59]).ps.length<=2000:=by have:=M.rs.few;have:=M.rs.hi;omega
  have N:=M.put (j:=5) (v:= Iq (eO ts s6 [59]).ps.length) (y:=⟨x.name,x.allow,n6,x.pl,x.named,(eO ts s6 [59]).ps.length⟩) (by rw[QB w8 _ 5 _ _ _ M.itm];simp)
  obtain⟨y1,y2⟩:=Jz (x:=x) HA.out i6.out az.out aq.out;have HO:=Hi (rN (r:=r) (s:=s) N.rs N.fr (Qn _) N.res (by rw[p8];rw[ai.out] at g6;omega) y1 y2)
  obtain⟨⟨x0,x1,x2,x3,x4,x5⟩,V⟩:=gH M.itm;obtain⟨⟨z0,z1,z2,z3,z4,z5⟩,zf⟩:=gH N.itm;obtain⟨⟨E,G,I,J,O,R⟩,rf⟩:=gH N.res;clear M N Z F8 p8 v8 j8 ao y1 y2;generalize (eO ts s6 [59]).ps.length=np at*;go_wp2_with fail;exact Qs (v:=vt ⟨x.name,x.allow,n6,x.pl,x.named,np⟩) (by simp[results,results61,go_sem,vt,cY,cN,eY,E,G,I,J,O,R]) rfl HO.out
structure eR (B g cap) (ps) (w:World):Prop where
 row:w.ownsRow B 169 5 (.slice (some ⟨g,0,none⟩) ps.length cap) ps.length (eI ps)
 subs:∀p∈ps,k7 w p
 few:ps.length<=1001
def cO:ey:=⟨ik,[],0,.slice none 0 0⟩
theorem zl (ps) (i:Nat) (q:i<ps.length):(eI ps)[i*5]?=some (.int .u8 (ps.getD i cO).tok.k)/\(eI ps)[i*5+1]?=some (S (ps.getD i cO).tok.text)/\(eI ps)[i*5+2]?=some (Iq (ps.getD i cO).tok.pl)/\(eI ps)[i*5+3]?=some (ps.getD i cO).sv/\(eI ps)[i*5+4]?=some (Iq (ps.getD i cO).n):=by
 induction ps generalizing i with
 |nil=>simp at q
 |cons t ps ih=>
  cases i with
  |zero=>simp[eI]
  |succ i=>
   have:=ih i (by simpa using q)
   have e:eI (t::ps)=[.int .u8 t.tok.k,S t.tok.text,Iq t.tok.pl,t.sv,Iq t.n]++eI ps:=rfl;rw[e,show(i+1)*5=i*5+1+1+1+1+1 from by omega,show i*5+1+1+1+1+1+2=i*5+2+1+1+1+1+1 from by omega,show i*5+1+1+1+1+1+3=i*5+3+1+1+1+1+1 from by omega,show i*5+1+1+1+1+1+4=i*5+4+1+1+1+1+1 from by omega,show i*5+1+1+1+1+1+1=i*5+1+1+1+1+1+1 from rfl]
   simpa using this
theorem eR.cells {B g cap ps w} (h:eR B g cap ps w) (i:Nat) (G:i<ps.length):
 Cq w g (i*5) (.int .u8 (ps.getD i cO).tok.k)/\Cq w g (i*5+1) (S (ps.getD i cO).tok.text)/\Cq w g (i*5+2) (Iq (ps.getD i cO).tok.pl)/\Cq w g (i*5+3) (ps.getD i cO).sv/\Cq w g (i*5+4) (Iq (ps.getD i cO).n):=by
 have q:=h.row.cells (g:=g) rfl;obtain⟨a,b,c,d,e⟩:=zl ps i G;have I:∀j,(⟨g,0,none⟩:Addr).add j=⟨g,j,none⟩:=λj=>by unfold Addr.add;split<;>simp_all
 have z:=q _ _ a;have A:=q _ _ b;have D:=q _ _ c;have h3:=q _ _ d;have E:=q _ _ e;rw[I] at z A D h3 E;exact⟨z,A,D,h3,E⟩
theorem eR.below {cap} (h:eR B g cap ps w) (q:Bl w w'):eR B g cap ps w':=
 ⟨cD h.row q,λp z=>(h.subs p z).of λk _ A=>q.block k (be A),h.few⟩
theorem eR.sub {cap} (h:eR B g cap ps w) (i:Nat) (z:i<ps.length):
 ((ps.getD i cO).subs=[]/\(ps.getD i cO).sv= .slice none 0 0)\/ ∃q,(ps.getD i cO).sv= Sq q (ps.getD i cO).subs.length (ps.getD i cO).subs.length/\ ∀j,j<(ps.getD i cO).subs.length->w.cell? ⟨q,j,none⟩=some (Iq ((ps.getD i cO).subs.getD j 0)):=by
 have A:ps.getD i cO∈ps:=by rw[Qi,Ql z];exact QD z
 rcases h.subs _ A with e|⟨q,e,D⟩
 ·exact .inl e
 refine .inr ⟨q,e,λj E=>?_⟩
 rw[Qm w q j _ _ _ D];generalize (ps.getD i cO).subs=sl at*;simp[Jq,Qi,E]
theorem uP (ps:List ey) (i:Nat) (q:i<ps.length):(ps.map cL).getD i cz=cL (ps.getD i cO):=by
 simp[Qi,q]
theorem ym {cap} (V:xZ (ps.map cL)) (f):∀i w,eR B g cap ps w->i<f->f<=2000->i<ps.length->
 Calls prog 116 #[Sq g ps.length cap,Iq i] w λe w'=>e= .returned (Iq (dep f (ps.map cL) i))/\w'=w:=by
 induction f with
 |zero=>intro i w _ q;omega
 |succ f ih=>
  intro i w h ab hf q;obtain⟨_,_,_,I,_⟩:=h.cells i q;have hw:=h.few;have b1:0<=i:=by omega
  have b2:i<ps.length:=by omega
  have D:dep (f+1) (ps.map cL) i=gT (dep f (ps.map cL)) (ps.getD i cO).subs+1:=by
   rw[dep,uP ps i q];rfl
  have E:(ps.getD i cO).subs.length<=3/\ ∀j∈(ps.getD i cO).subs,j<i:=by have:=V i (by simpa using q);rw[uP ps i q] at this;exact this
  have J:=Hi D;have O:=Hi E;have Y:=Hi ih;clear D E ih;rcases h.sub i q with⟨R,z⟩|⟨sb,z,U⟩
  ·have Z:Hid _:=R;rw[z] at I;clear R z;go_enter func116,ntmps116;go_wp2;go_loop [5,6] (λn k=>n= Iq 0/\k= Iq 0) (λ_ _=>0)
   case atStart=>exact⟨rfl,rfl⟩
   case round=>
    obtain⟨rfl,rfl⟩:=hrel;go_wp2;go_ret;refine⟨da ?_,rfl⟩;rw[J.out,Z.out];rfl
  rw[z] at I;generalize hS:(ps.getD i cO).subs=sl at*;clear z hS;have ac:=O.out.1;go_enter func116,ntmps116;go_wp2;go_loop [5,6] (λn k=> ∃j,j<=sl.length/\k= Iq j/\n= Iq (gT (dep f (ps.map cL)) (sl.take j))) (λ_ k=>sl.length - (intOf k).toNat)
  case atStart=>exact⟨0,by omega,rfl,rfl⟩
  case round=>
   obtain⟨j,hj,rfl,rfl⟩:=hrel;by_cases A:j<sl.length
   ·have ad:=U j A;have aa:=O.out.2 sl[j] (QD A);have G:=rD (dep f (ps.map cL)) sl j A;have d1:=lR f (ps.map cL) sl[j];have d2:=nX (dep f (ps.map cL)) (f+1) (lR f (ps.map cL)) (sl.take j);have HF:=Hi G;clear G;go_wp2_with fail;apply(Y.out sl[j] w h (by omega) (by omega) (by omega)).mono
    rintro e w1 ⟨rfl,rfl⟩;generalize dep f (ps.map cL) sl[j]=d at*;generalize gT (dep f (ps.map cL)) (sl.take j)=m at*;go_wp2
    all_goals
     refine⟨⟨j+1,by omega,by go_num,EY ?_⟩,by simp[intOf];omega⟩
     rw[HF.out];omega
   have d2:=nX (dep f (ps.map cL)) (f+1) (lR f (ps.map cL)) (sl.take j);have HE:Hid (sl.take j=sl):=Q4 (by omega)
   go_wp2;go_ret;refine⟨da ?_,rfl⟩;rw[HE.out,J.out];omega
end
variable {B z xs w w' I g iv ps W q n c m D v a k}
def fC (xs:List dw):List Value:=xs.flatMap λx=>[S x.name,.bool x.allow,Iq x.top,Iq x.pl,Iq x.named,Iq x.parts]
theorem xE (xs) (x:dw):fC (xs++[x])=fC xs++[S x.name,.bool x.allow,Iq x.top,Iq x.pl,Iq x.named,Iq x.parts]:=by simp[fC]
theorem AY (xs) (i:Nat) (z:i<xs.length):(fC xs)[i*6]?=some (S xs[i].name)/\(fC xs)[i*6+1]?=some (.bool xs[i].allow)/\(fC xs)[i*6+2]?=some (Iq xs[i].top)/\(fC xs)[i*6+3]?=some (Iq xs[i].pl)/\(fC xs)[i*6+4]?=some (Iq xs[i].named)/\(fC xs)[i*6+5]?=some (Iq xs[i].parts):=by
 induction xs generalizing i with
 |nil=>simp at z
 |cons t xs ih=>
  cases i with
  |zero=>simp[fC]
  |succ i=>
   have:=ih i (by simpa using z)
   have e:fC (t::xs)=[S t.name,.bool t.allow,Iq t.top,Iq t.pl,Iq t.named,Iq t.parts]++fC xs:=rfl;rw[e,show(i+1)*6=i*6+1+1+1+1+1+1 from by omega,show i*6+1+1+1+1+1+1+2=i*6+2+1+1+1+1+1+1 from by omega,show i*6+1+1+1+1+1+1+3=i*6+3+1+1+1+1+1+1 from by omega,show i*6+1+1+1+1+1+1+4=i*6+4+1+1+1+1+1+1 from by omega,show i*6+1+1+1+1+1+1+5=i*6+5+1+1+1+1+1+1 from by omega]
   simpa using this
structure fV (B) (iv) (xs) (w:World):Prop where
 row:w.ownsRow B 95 6 iv xs.length (fC xs)
 few:xs.length<=1001
theorem fV.below (h:fV B z xs w) (D:Bl w w'):fV B z xs w':=⟨cD h.row D,h.few⟩
theorem fV.form (h:fV B z xs w):(z= .slice none 0 0/\xs.length=0)\/ ∃g c,z= Sq g xs.length c:=by
 rcases h.row.2 with e|⟨g,cap,D,e,_⟩
 ·exact .inl e
 exact .inr ⟨g,cap,e⟩
theorem fV.cells {B g c xs w} (h:fV B (Sq g xs.length c) xs w) (i:Nat) (O:i<xs.length):
 Cq w g (i*6) (S xs[i].name)/\Cq w g (i*6+1) (.bool xs[i].allow)/\Cq w g (i*6+2) (Iq xs[i].top)/\Cq w g (i*6+3) (Iq xs[i].pl)/\Cq w g (i*6+4) (Iq xs[i].named)/\Cq w g (i*6+5) (Iq xs[i].parts):=by
 have z:=h.row.cells (g:=g) rfl;obtain⟨a,b,c,d,e,f⟩:=AY xs i O;have R:∀j,(⟨g,0,none⟩:Addr).add j=⟨g,j,none⟩:=λj=>by unfold Addr.add;split<;>simp_all
 have D:=z _ _ a;have E:=z _ _ b;have G:=z _ _ c;have h3:=z _ _ d;have I:=z _ _ e;have J:=z _ _ f;rw[R] at D E G h3 I J;exact⟨D,E,G,h3,I,J⟩
theorem rO (h:fV B I xs w) (O) (R U) (s:LB) (k) (hk:k<=xs.length):
 Calls prog 90 #[.agg #[I,.slice O R U],S s,Iq k] w λe w'=>e= .returned (Iq (cX xs s k))/\Bl w w':=by
 have z:=(Qq w.heap.size w).alloc (Qn _) (.cells #[I,.slice O R U] 90);rcases h.form with⟨rfl,h0⟩|⟨g,c,rfl⟩
 ·have V:k=0:=by omega
  subst V;have D:=Hi z;go_enter func90,ntmps90;go_wp2;go_loop [7] (λi=>i= Iq 0) (λ_=>0)
  case atStart=>rfl
  case round=>
   subst hrel;go_wp2;go_ret;exact⟨da (by rw[u7]),D.out⟩
 have hf:=h.few;have Z:=h.below z;have D:=Hi z;go_enter func90,ntmps90;go_wp2;go_loop [7] (λi=> ∃j,j<=k/\i= Iq j/\Hid (cX xs s k=(if cX (xs.drop j) s (k - j)<0 then -1 else cX (xs.drop j) s (k - j)+j))) (λi=>k - (intOf i).toNat)
 case atStart=>
  refine⟨0,QA _,rfl,?_⟩;have:=rE xs s k;show _=_;simp;omega
 case round=>
  obtain⟨j,hj,rfl,J⟩:=hrel;by_cases aa:j<k
  ·have E:j<xs.length:=by omega
   have c0:=(Z.cells j E).1;have G:=CK xs s j (k - j) E (by omega)
   have Y:=Hi G;have b1:0<=j:=by omega
   have b2:j<xs.length:=by omega
   go_wp2
   ·go_ret;refine⟨da ?_,D.out⟩;rw[J.out,Y.out];simp[*]
   refine⟨⟨j+1,by omega,by go_num,?_⟩,by simp[intOf];omega⟩
   show _=_;have:=rE (xs.drop (j+1)) s (k - j - 1);rw[J.out,Y.out,show k - (j+1)=k - j - 1 from by omega]
   simp[*];split<;>omega
  go_wp2;go_ret;have e:k - j=0:=by omega
  refine⟨da ?_,D.out⟩;rw[J.out,e,u7];rfl
def j6 (o:Option Nat):Value:=match o with
 |some p=> Iq p
 |none=> Iq (-1)
theorem Gb (L) (xs:List dw) (j lets:Nat) (z:j<xs.length):fz L (xs.drop j) lets j=
 if 10<lets+(if xs[j].name==[] then 0 else 1)\/20<j+1 - (lets+(if xs[j].name==[] then 0 else 1))\/200<xs[j].parts\/20<dep (xs[j].top+1) L xs[j].top then some xs[j].pl
 else fz L (xs.drop (j+1)) (lets+(if xs[j].name==[] then 0 else 1)) (j+1):=by
 rw[QF z,fz]
set_option maxHeartbeats 4000000 in
theorem JB {cap} (h : fV B iv xs w) (hp : eR B g cap ps w) (hA : xZ (ps.map cL)) (hT :∀ x ∈ xs, x.top < ps.length) (hq :∀ x ∈ xs, x.parts <= 1001) :
    Calls prog 62 #[.agg #[iv, Sq g ps.length cap]] w λe w' => e = .returned (j6 (fz (ps.map cL) xs 0 0)) /\ Below w.heap.size w w' := by
  have hb := (Qq w.heap.size w).alloc (Qn _) (.cells #[iv, Sq g ps.length cap] 90);rcases h.form with ⟨rfl, h0⟩ | ⟨gi, c, rfl⟩
  · have HB : Hid _ := hb
    have HE : Hid (fz (ps.map cL) xs 0 0 = none) := by
      show _ = _; cases xs with
      | nil => rfl
      | cons => simp at h0
    clear hb h0;go_enter func62, ntmps62;go_wp2
    go_loop [3, 4] (λn i => n = Iq 0 /\ i = Iq 0) (λ_ _ => 0)
    case atStart => exact ⟨rfl, rfl⟩
    case round =>
      obtain ⟨rfl, rfl⟩ := hrel;go_wp2;go_ret;exact ⟨by rw [HE.out]; rfl, HB.out⟩
  · have hbx : (w.alloc (.cells #[Sq gi xs.length c, Sq g ps.length cap] 90)).heap[w.heap.size]? = some (.cells #[Sq gi xs.length c, Sq g ps.length cap] 90 (0, 0)) := Qp w _
    have hf := h.few;have hpf := hp.few;have HX : Hid _ := hbx;clear hbx;go_enter func62, ntmps62;go_wp2
    go_loopw [3, 4] (λn i wr => ∃ (lets j : Nat), lets <= j /\ j <= xs.length /\ n = Iq lets /\ i = Iq j /\ Hid (fz (ps.map cL) xs 0 0 = fz (ps.map cL) (xs.drop j) lets j) /\ Below w.heap.size w wr /\ wr.heap[w.heap.size]? = some (.cells #[Sq gi xs.length c, Sq g ps.length cap] 90 (0, 0))) (λ_ i _ => xs.length - (intOf i).toNat)
    case atStart => exact ⟨0, 0, Qn _, QA _, rfl, rfl, rfl, hb, HX.out⟩
    case round =>
      obtain ⟨lets, j, hlj, hj, rfl, rfl, HM, hbw, hbx⟩ := hrel;have q0 := Qm wr w.heap.size 0 _ _ _ hbx;have q1 := Qm wr w.heap.size 1 _ _ _ hbx;have hlw := be hbx;simp only [Qx, Qy, Qv] at q0 q1
      by_cases hlt : j < xs.length
      · have hi' := h.below hbw
        have hp' := hp.below hbw;obtain ⟨c0, c1, c2, c3, c4, c5⟩ := hi'.cells j hlt;have hst := Gb (ps.map cL) xs j lets hlt;have HS : Hid _ := hst;have hm : xs[j] ∈ xs := QD hlt;have hTj := hT _ hm;have hqj := hq _ hm;have b1 : (0 : Int) <= (j : Int) := by omega
        have b2 : (j : Int) < (xs.length : Int) := by omega
        have lg := Qk wr _ c0;simp only at lg;have hd := lR (xs[j].top + 1) (ps.map cL) xs[j].top;have hnx : wr.heap.size ≠ w.heap.size := by omega
        have hng : wr.heap.size ≠ gi := by omega
        clear hst hm;have hPN := hp'.below ((Qq _ _).alloc (Qn _) (.cells #[S xs[j].name, .bool xs[j].allow, Iq xs[j].top, Iq xs[j].pl, Iq xs[j].named, Iq xs[j].parts] 95));have hbN : Hid (Below w.heap.size w (wr.alloc (.cells #[S xs[j].name, .bool xs[j].allow, Iq xs[j].top, Iq xs[j].pl, Iq xs[j].named, Iq xs[j].parts] 95))) := hbw.alloc (by omega) _
        have hbX : Hid ((wr.alloc (.cells #[S xs[j].name, .bool xs[j].allow, Iq xs[j].top, Iq xs[j].pl, Iq xs[j].named, Iq xs[j].parts] 95)).heap[w.heap.size]? = some (.cells #[Sq gi xs.length c, Sq g ps.length cap] 90 (0, 0))) := by show _ = _; rw [Qu _ _ _ hlw]; exact hbx
        clear hi' hp' hbx
        cases hnm : (xs[j].name == []) with
        | true =>
          have hn' : (xs[j].name == ([] : List UInt8)) = true := hnm;have HQ : Hid (fz (ps.map cL) (xs.drop j) lets j = if 10 < lets \/ 20 < j + 1 - lets \/ 200 < xs[j].parts \/ 20 < dep (xs[j].top + 1) (ps.map cL) xs[j].top then some xs[j].pl else fz (ps.map cL) (xs.drop (j + 1)) lets (j + 1)) := by
            show _ = _; rw [HS.out, hnm]; rfl
          clear hnm HS;go_wp2_with fail;apply(ym hA (xs[j].top + 1) xs[j].top _ hPN (by omega) (by omega) hTj).mono
          rintro e w1 ⟨rfl, rfl⟩;clear hPN;generalize dep (xs[j].top + 1) (ps.map cL) xs[j].top = d at *;go_wp2
          all_goals first
            | (go_ret
               refine ⟨?_, hbN.out⟩;rw [HM.out, HQ.out, Qo (by omega)]; rfl)
            | (go_roundw
               case rel => exact ⟨lets, j + 1, by omega, by omega, by go_num, by go_num, (by show _ = _; rw [HM.out, HQ.out, Qj (by omega)]), hbN.out, hbX.out⟩
               case measure => simp [intOf]; omega)
        | false =>
          have hn' : (xs[j].name == ([] : List UInt8)) = false := hnm;have HQ : Hid (fz (ps.map cL) (xs.drop j) lets j = if 10 < (lets + 1) \/ 20 < j + 1 - (lets + 1) \/ 200 < xs[j].parts \/ 20 < dep (xs[j].top + 1) (ps.map cL) xs[j].top then some xs[j].pl else fz (ps.map cL) (xs.drop (j + 1)) (lets + 1) (j + 1)) := by
            show _ = _; rw [HS.out, hnm]; rfl
          clear hnm HS;go_wp2_with fail;apply(ym hA (xs[j].top + 1) xs[j].top _ hPN (by omega) (by omega) hTj).mono
          rintro e w1 ⟨rfl, rfl⟩;clear hPN;generalize dep (xs[j].top + 1) (ps.map cL) xs[j].top = d at *;go_wp2
          all_goals first
            | (go_ret
               refine ⟨?_, hbN.out⟩;rw [HM.out, HQ.out, Qo (by omega)]; rfl)
            | (go_roundw
               case rel => exact ⟨(lets + 1), j + 1, by omega, by omega, by go_num, by go_num, (by show _ = _; rw [HM.out, HQ.out, Qj (by omega)]), hbN.out, hbX.out⟩
               case measure => simp [intOf]; omega)
      · go_wp2
        go_ret;refine ⟨?_, hbw⟩;rw [HM.out, QG (by omega)]; rfl
abbrev kz (q n c g m cap:Nat):Obj:= .cells #[.slice (some ⟨q,0,none⟩) n c,.slice (some ⟨g,0,none⟩) m cap] 90
theorem C2 (xs) (L) (j fr:Nat) (q:j<xs.length):dt xs L (xs.drop j) fr j=
 if xs[j].name≠[]/\0<=cX xs xs[j].name j then some xs[j].named
 else(dO xs L j (xs[j].parts - fr) fr none).or (dt xs L (xs.drop (j+1)) xs[j].parts (j+1)):=by
 rw[QF q,dt]
theorem C3 (xs) (L) (i q k) (o:Option Nat) (h:k<q):dO xs L i (q - k) k o=dO xs L i (q - (k+1)) (k+1) (fK xs i (L.getD k cz).tok o):=by
 obtain⟨c,z⟩:∃c,q - k=c+1:=⟨q - k - 1,by omega⟩
 rw[z,dO,show q - (k+1)=c from by omega]
set_option maxHeartbeats 8000000 in
theorem Gc {cap} (h : fV B iv xs w) (hp : eR B g cap ps w) (hq :∀ x ∈ xs, x.parts <= ps.length) :
    Calls prog 63 #[.agg #[iv, Sq g ps.length cap]] w λe w' => e = .returned (j6 (dt xs (ps.map cL) xs 0 0)) /\ Below w.heap.size w w' := by
  have hb := (Qq w.heap.size w).alloc (Qn _) (.cells #[iv, Sq g ps.length cap] 90);rcases h.form with ⟨rfl, h0⟩ | ⟨gi, c, rfl⟩
  · have HB : Hid _ := hb
    have HE : Hid (dt xs (ps.map cL) xs 0 0 = none) := by
      show _ = _; cases xs with
      | nil => rfl
      | cons => simp at h0
    clear hb h0;go_enter func63, ntmps63;go_wp2
    go_loop [3, 4] (λn i => n = Iq 0 /\ i = Iq 0) (λ_ _ => 0)
    case atStart => exact ⟨rfl, rfl⟩
    case round =>
      obtain ⟨rfl, rfl⟩ := hrel;go_wp2;go_ret;exact ⟨by rw [HE.out]; rfl, HB.out⟩
  · have hbx : (w.alloc (kz gi xs.length c g ps.length cap)).heap[w.heap.size]? = some (kz gi xs.length c g ps.length cap) := Qp w _
    have hf := h.few;have hpf := hp.few;have HX : Hid _ := hbx;clear hbx;go_enter func63, ntmps63;go_wp2
    go_loopw [3, 4] (λn i wr => ∃ (fr j : Nat), fr <= ps.length /\ j <= xs.length /\ n = Iq fr /\ i = Iq j /\ Hid (dt xs (ps.map cL) xs 0 0 = dt xs (ps.map cL) (xs.drop j) fr j) /\ Below w.heap.size w wr /\ wr.heap[w.heap.size]? = some (kz gi xs.length c g ps.length cap)) (λ_ i _ => xs.length - (intOf i).toNat)
    case atStart => exact ⟨0, 0, QA _, QA _, rfl, rfl, rfl, hb, HX.out⟩
    case round =>
      obtain ⟨fr, j, hfr, hj, rfl, rfl, HM, hbw, hbx⟩ := hrel;have q0 := Qm wr w.heap.size 0 _ _ _ hbx;have q1 := Qm wr w.heap.size 1 _ _ _ hbx;have hlw := be hbx;simp only [Qx, Qy, Qv] at q0 q1
      by_cases hlt : j < xs.length
      · have hi' := h.below hbw
        obtain ⟨c0, c1, c2, c3, c4, c5⟩ := hi'.cells j hlt;have HS : Hid _ := C2 xs (ps.map cL) j fr hlt;have hm : xs[j] ∈ xs := QD hlt;have hqj := hq _ hm;have b1 : (0 : Int) <= (j : Int) := by omega
        have b2 : (j : Int) < (xs.length : Int) := by omega
        have lg := Qk wr _ c0;simp only at lg;have hnx : wr.heap.size ≠ w.heap.size := by omega
        have hng : wr.heap.size ≠ gi := by omega
        clear hm;have hbN : Below w.heap.size w (wr.alloc (gD xs[j])) := hbw.alloc (by omega) _
        have hbX : (wr.alloc (gD xs[j])).heap[w.heap.size]? = some (kz gi xs.length c g ps.length cap) := by rw [Qu _ _ _ hlw]; exact hbx
        have hbI : (wr.alloc (gD xs[j])).heap[wr.heap.size]? = some (gD xs[j]) := Qp wr _;have HN : Hid _ := And.intro hbN (And.intro hbX hbI);clear hi' hbx hbN hbX hbI;have hge := rE xs xs[j].name j;have hcase : ((xs[j].name == ([] : List UInt8)) = true /\ Hid (dt xs (ps.map cL) (xs.drop j) fr j = (dO xs (ps.map cL) j (xs[j].parts - fr) fr none).or (dt xs (ps.map cL) (xs.drop (j + 1)) xs[j].parts (j + 1)))) \/
            ((xs[j].name == ([] : List UInt8)) = false /\ cX xs xs[j].name j < 0 /\ Hid (dt xs (ps.map cL) (xs.drop j) fr j = (dO xs (ps.map cL) j (xs[j].parts - fr) fr none).or (dt xs (ps.map cL) (xs.drop (j + 1)) xs[j].parts (j + 1)))) \/
            ((xs[j].name == ([] : List UInt8)) = false /\ 0 <= cX xs xs[j].name j /\ Hid (dt xs (ps.map cL) (xs.drop j) fr j = some xs[j].named)) := by
          have hS := HS.out
          cases hnm : (xs[j].name == []) with
          | true => exact .inl ⟨rfl, by show _ = _; rw [hS, Qj]; intro e; simp at hnm; exact e.1 hnm⟩
          | false =>
            by_cases hl : 0 <= cX xs xs[j].name j
            · exact .inr (.inr ⟨rfl, hl, by show _ = _; rw [hS, Qo ⟨by simpa using hnm, hl⟩]⟩)
            · exact .inr (.inl ⟨rfl, by omega, by show _ = _; rw [hS, Qj (λe => hl e.2)]⟩)
        clear HS;rcases hcase with ⟨hn', HQ⟩ | ⟨hn', hl, HQ⟩ | ⟨hn', hl, HQ⟩
        rotate_right
        · go_wp2_with fail
          obtain ⟨hbN, hbX, hbI⟩ := HN.out;apply(rO (h.below hbN) _ _ _ xs[j].name j hj).mono;rintro e w2 ⟨rfl, hb2⟩;have hI2 : w2.heap[wr.heap.size]? = some (gD xs[j]) := by rw [hb2.block _ (be hbI)]; exact hbI
          have hB2 : Below w.heap.size w w2 := hbN.trans (hb2.mono hbN.size);obtain ⟨⟨x0, x1, x2, x3, x4, x5⟩, xf⟩ := gH hI2;clear hbN hbX hbI hb2 q0 q1 c0 c1 c2 c3 c4 c5;generalize cX xs xs[j].name j = m at *;go_wp2;go_ret;exact ⟨by rw [HM.out, HQ.out]; rfl, hB2⟩
        all_goals
          go_wp2_with fail;obtain ⟨hB2, hX2, hI2⟩ := HN.out;clear HN
          first
          | refine (rO (h.below hB2) _ _ _ xs[j].name j hj).mono ?_
            rintro e w2 ⟨rfl, hb2⟩
            replace hI2 := (hb2.block _ (be hI2)).trans hI2
            replace hX2 := (hb2.block _ (be hX2)).trans hX2
            replace hB2 := hB2.trans (hb2.mono hB2.size)
            clear hb2 q0 q1 c0 c1 c2 c3 c4 c5;generalize cX xs xs[j].name j = m at *;go_wp2
          | clear q0 q1 c0 c1 c2 c3 c4 c5
            generalize wr.alloc (gD xs[j]) = w2 at *
          generalize hbi : wr.heap.size = bI at *;clear hbi
          go_loopw [7, 8] (λo k wk => ∃ (oo : Option Nat) (kk : Nat), fr <= kk /\ kk <= ps.length /\ o = j6 oo /\ k = Iq kk /\ Hid (dO xs (ps.map cL) j (xs[j].parts - fr) fr none = dO xs (ps.map cL) j (xs[j].parts - kk) kk oo) /\ Below w.heap.size w wk /\ wk.heap[w.heap.size]? = some (kz gi xs.length c g ps.length cap) /\ wk.heap[bI]? = some (gD xs[j])) (λ_ k _ => xs[j].parts - (intOf k).toNat)
          case atStart => exact ⟨none, fr, Qn _, hfr, rfl, rfl, rfl, hB2, hX2, hI2⟩
          case round =>
            obtain ⟨oo, kk, hfk, hkp, rfl, rfl, HW, hBk, hXk, hIk⟩ := hrel;have q0 := Qm wr w.heap.size 0 _ _ _ hXk;have q1 := Qm wr w.heap.size 1 _ _ _ hXk;obtain ⟨⟨x0, x1, x2, x3, x4, x5⟩, xf⟩ := gH hIk;have hl1 := be hXk;have hl2 := be hIk;simp only [Qx, Qy, Qv] at q0 q1
            by_cases hk : kk < xs[j].parts
            · have hkl : kk < ps.length := by omega
              obtain ⟨k0, k1, k2, k3, k4⟩ := (hp.below hBk).cells kk hkl;have lp := Qk wr _ k0;simp only at lp;have HT : Hid (dO xs (ps.map cL) j (xs[j].parts - kk) kk oo = dO xs (ps.map cL) j (xs[j].parts - (kk + 1)) (kk + 1) (fK xs j (ps.getD kk cO).tok oo)) := by
                show _ = _; rw [C3 xs (ps.map cL) j xs[j].parts kk oo hk, uP ps kk hkl]; rfl
              have b3 : (0 : Int) <= (kk : Int) := by omega
              have b4 : (kk : Int) < (ps.length : Int) := by omega
              have n1 : wr.heap.size ≠ w.heap.size := by omega
              have n2 : wr.heap.size ≠ bI := by omega
              have n3 : wr.heap.size ≠ g := by omega
              have HN : Hid (∀ o, Below w.heap.size w (wr.alloc o) /\ (wr.alloc o).heap[w.heap.size]? = some (kz gi xs.length c g ps.length cap) /\ (wr.alloc o).heap[bI]? = some (gD xs[j])) := λo => ⟨hBk.alloc (by have := hBk.size; omega) _, by rw [Qu _ _ _ hl1]; exact hXk, by rw [Qu _ _ _ hl2]; exact hIk⟩
              clear k3 k4 hBk hXk hIk;generalize (ps.getD kk cO).tok = t at *
              by_cases ht : t.k = 111
              · have ht1 : ((t.k : Int) != 111) = false := by simp; omega
                have HT1 : Hid _ := ht;clear ht;go_wp2_with fail;obtain ⟨hBn, hXn, hIn⟩ := HN.out _;have hge := rE xs t.text j;apply(rO (h.below hBn) _ _ _ t.text j hj).mono;rintro e w4 ⟨rfl, hb4⟩
                replace hXn := (hb4.block _ (be hXn)).trans hXn
                replace hIn := (hb4.block _ (be hIn)).trans hIn
                have hW4 := (hb4.block _ (by simp)).trans (Qp wr (dK t))
                replace hBn := hBn.trans (hb4.mono hBn.size)
                have r2 := Qm w4 wr.heap.size 2 _ _ _ hW4;simp only [Qx, Qy, Qv] at r2;have HZ : Hid (fK xs j t oo = if cX xs t.text j < 0 then mU t.pl oo else oo) := by
                  show _ = _; unfold fK
                  simp [HT1.out]
                clear HN hb4 q0 q1 x0 x1 x2 x3 x4 x5 xf k0 k1 k2;generalize cX xs t.text j = m at *
                cases oo <;> unfold j6 <;> go_wp2_with fail
                all_goals
                  go_roundw
                  case rel => exact ⟨fK xs j t _, kk + 1, by omega, by omega, by rw [HZ.out]; simp [mU, j6, *]; try rw [Qo (by omega)], by go_num, HW.out.trans HT.out, hBn, hXn, hIn⟩
                  case measure => simp [intOf]; omega
              · have ht1 : ((t.k : Int) != 111) = true := by simp; omega
                have HZ : Hid (fK xs j t oo = oo) := by show _ = _; unfold fK; rw [Qj (λe => ht e.1)]
                clear ht;go_wp2
                go_roundw
                case rel =>
                  obtain ⟨hBn, hXn, hIn⟩ := HN.out (dK t);exact ⟨oo, kk + 1, by omega, by omega, rfl, by go_num, (by show _ = _; rw [HW.out, HT.out, HZ.out]), hBn, hXn, hIn⟩
                case measure => simp [intOf]; omega
            · have HE : Hid (dO xs (ps.map cL) j (xs[j].parts - fr) fr none = oo) := by
                show _ = _; rw [HW.out, show xs[j].parts - kk = 0 from by omega]; rfl
              cases oo with
              | none =>
                unfold j6;go_wp2
                go_roundw
                case rel => exact ⟨xs[j].parts, j + 1, by omega, by omega, rfl, by go_num, (by show _ = _; rw [HM.out, HQ.out, HE.out]; rfl), hBk, hXk⟩
                case measure => simp [intOf]; omega
              | some p =>
                unfold j6;go_wp2;go_ret;exact ⟨by rw [HM.out, HQ.out, HE.out]; rfl, hBk⟩
      · go_wp2
        go_ret;refine ⟨?_, hbw⟩;rw [HM.out, QG (by omega)]; rfl
theorem rP {s:List UInt8} {i:Nat} (h:i<s.length):(s.getD i 0).toNat=((ByteArray.mk s.toArray)[i]'h).toNat:=by rw[Qi,Ql h];rfl
theorem vw (x s) (w:World) (G:x=[61]->2<=s.length) (h3:x=[105,102]->3<=s.length):
 Calls prog 161 #[S x,S s] w λe w'=>e= .returned (.int .u8 (oN x s))/\ ∃n,w'=w.drewN n:=by
 by_cases q:x=[61]
 ·have R:=G q
  subst q;have D:0<s.length:=by omega
  have A:1<s.length:=by omega
  have I:Hid (oN [61] s=if(((ByteArray.mk s.toArray)[0]'D).toNat:Int)=(((ByteArray.mk s.toArray)[1]'A).toNat:Int) then 116 else 0):=by simp only[Int.natCast_inj,<-rP];exact rfl
  cases E:((((ByteArray.mk s.toArray)[0]'D).toNat:Int)==(((ByteArray.mk s.toArray)[1]'A).toNat:Int))
  all_goals
   go_enter func161,ntmps161;go_wp2
   go_region_held3 (λ_=>True) (trivial) (fail)
   all_goals
    go_wp2
    go_ret;refine⟨da ?_,1,rfl⟩;rw[I.out]
    first|rw[Qo (by simpa using E)];rfl|rw[Qj (by simpa using E)];rfl
 by_cases z:x=[105,102]
 ·have R:=h3 z
  subst z;have D:0<s.length:=by omega
  have A:1<s.length:=by omega
  have J:2<s.length:=by omega
  have I:Hid (oN [105,102] s=if((ByteArray.mk s.toArray)[0]'D).toNat=116/\((ByteArray.mk s.toArray)[1]'A).toNat=((ByteArray.mk s.toArray)[2]'J).toNat then((ByteArray.mk s.toArray)[1]'A).toNat else 0):=by rw[<-rP,<-rP,<-rP];exact rfl
  cases O:((((ByteArray.mk s.toArray)[0]'D).toNat:Int)==116)
  ·go_enter func161,ntmps161
   go_wp2
   go_region
   all_goals
    go_wp2
    go_ret;refine⟨da ?_,1,rfl⟩;rw[I.out,Qj (λe=>by simp[e.1] at O)]
    rfl
  cases E:((((ByteArray.mk s.toArray)[1]'A).toNat:Int)==(((ByteArray.mk s.toArray)[2]'J).toNat:Int))
  all_goals
   go_enter func161,ntmps161;go_wp2
   go_region_held3 (λ_=>True) (trivial) (fail)
   all_goals
    go_wp2
    go_ret;refine⟨da ?_,1,rfl⟩;rw[I.out]
    first|rw[Qo (by simp at O E;omega)]|rw[Qj (λe=>by simp[e.2] at E)];rfl
 have V:(x==([61]:List UInt8))=false:=by simp[*]
 have Y:(x==([105,102]:List UInt8))=false:=by simp[*]
 have U:Hid (x≠[61]/\x≠[105,102]):=⟨q,z⟩;go_enter func161,ntmps161;go_wp2
 all_goals
  go_ret;refine⟨da ?_,0,rfl⟩;have:=U.out
  simp_all [oN]
abbrev JC (z:ey) (sv:Value):Obj:= .cells #[.int .u8 z.tok.k,S z.tok.text,.int .i64 z.tok.pl,sv,.int .i64 z.n] 169
structure PM (w W) (gi n c g m cap) (z) (sv:Value):Prop where
 bel:Below w.heap.size w W
 pol:W.heap[w.heap.size]?=some (kz gi n c g m cap)
 par:W.heap[w.heap.size+1]?=some (JC z sv)
theorem PM.new {cap} {sv:Value} (h:(w.alloc (kz q n c g m cap)).alloc (JC z sv)=W):PM w W q n c g m cap z sv:=by
 subst h;refine⟨((Qq _ _).alloc (Qn _) _).alloc (by simp) _,by rw[Qu _ _ _ (by simp)];exact Qp w _,?_⟩
 have e:=Qp (w.alloc (kz q n c g m cap)) (JC z sv);rw[Qw] at e;exact e
theorem PM.next {cap sv} (h:PM w W D n c g m cap z sv) (E:Below W.heap.size W.drew q):PM w q D n c g m cap z sv:=by
 have A:=(Qq _ _).drew.trans E;exact⟨h.bel.trans (A.mono h.bel.size),(A.block _ (be h.pol)).trans h.pol,(A.block _ (be h.par)).trans h.par⟩
theorem PM.see {cap sv} (h:PM w W q n c g m cap z sv):Cq W w.heap.size 0 (Sq q n c)/\Cq W w.heap.size 1 (Sq g m cap)/\Cq W (w.heap.size+1) 0 (.int .u8 z.tok.k)/\Cq W (w.heap.size+1) 1 (S z.tok.text)/\Cq W (w.heap.size+1) 3 sv/\Cq W (w.heap.size+1) 4 (Iq z.n):=
 ⟨Qm _ _ _ _ _ _ h.pol,Qm _ _ _ _ _ _ h.pol,Qm _ _ _ _ _ _ h.par,Qm _ _ _ _ _ _ h.par,Qm _ _ _ _ _ _ h.par,Qm _ _ _ _ _ _ h.par⟩
abbrev Nn (b q n c g m cap:Nat) (sv:Value) (a:Addr) (v:Value) (W:World):Prop:=W.cell? ⟨b,0,none⟩=some (.slice (some ⟨q,0,none⟩) n c)/\W.cell? ⟨b,1,none⟩=some (.slice (some ⟨g,0,none⟩) m cap)/\W.cell? ⟨b+1,3,none⟩=some sv/\W.cell? a=some v
theorem PM.sub {cap sv} (h:PM w W q n c g m cap z sv) (A:w.cell? a=some v):Nn w.heap.size q n c g m cap sv a v W:=by
 obtain⟨a,b,_,_,c,_⟩:=h.see;exact⟨a,b,c,by rw[h.bel.cell (Qk w _ A)];exact A⟩
theorem eR.sv {cap} (h:eR B g cap ps w) (R:k<ps.length):∃G,(ps.getD k cO).sv= .slice G (ps.getD k cO).subs.length (ps.getD k cO).subs.length/\ ∀j,j<(ps.getD k cO).subs.length-> ∃q,G=some ⟨q,0,none⟩/\Cq w q j (Iq ((ps.getD k cO).subs.getD j 0)):=by
 rcases h.sub k R with⟨I,D⟩|⟨q,D,J⟩
 ·exact⟨none,by rw[I,D];rfl,λj z=>by rw[I] at z;simp at z⟩
 ·exact⟨some ⟨q,0,none⟩,D,λj z=>⟨q,rfl,J j z⟩⟩
section
attribute [local go_sem ↓] Go.wp_at_zero Go.wp_at_succ
variable {base its gi bv e size}
theorem yn:(prog.info? 5).map (λi=>(i.zero,i.size,i.bytes))=some (some (.int .u8 0),1,1):=by kernel_rfl
def byteCells (l:List UInt8):List Value:=l.map λc=>Value.int .u8 (c.toNat:Int)
theorem xF (l:LB):(byteCells l).length=l.length:=by simp[byteCells]
theorem oU (l:LB) (c:UInt8):byteCells (l++[c])=byteCells l++[.int .u8 c.toNat]:=by simp[byteCells]
structure vx (B gi c g cap) (xs) (ps) (bv) (its) (w):Prop where
 items:fV B (.slice (some ⟨gi,0,none⟩) xs.length c) xs w
 parts:eR B g cap ps w
 bytes:w.ownsRow B 5 1 bv its.length (byteCells its)
 len:its.length<=xs.length
theorem vx.below {B z c g cap xs ps A} {its:LB} {w w'} (h:vx B z c g cap xs ps A its w) (q:Bl w w'):vx B z c g cap xs ps A its w':=
 ⟨h.items.below q,h.parts.below q,cD h.bytes q,h.len⟩
structure Gd (xs) (n) (L:List Pt) (Good:Nat->Prop):Prop where
 down:∀k,Good k-> ∀j∈(L.getD k cz).subs,Good j
 own:∀k,Good k->(L.getD k cz).tok.k=111->0<=cX xs (L.getD k cz).tok.text n
 two:∀k,Good k->(L.getD k cz).tok.k≠110->(L.getD k cz).tok.k≠111->(L.getD k cz).tok.text=[61]->2<=(L.getD k cz).subs.length
 three:∀k,Good k->(L.getD k cz).tok.k≠110->(L.getD k cz).tok.k≠111->(L.getD k cz).tok.text=[105,102]->3<=(L.getD k cz).subs.length
theorem Ge (xs) (its:LB) (L) (f k j) (q:j<(L.getD k cz).subs.length) (h:dk xs its L f ((L.getD k cz).subs[j])=0):dk xs its L (f+1) k=0:=by
 rw[dk,Qo];rw[QJ];exact RC.2 ⟨_,QD q,h⟩
theorem Gf (xs) (its:LB) (L) (f k) (h:∀j∈(L.getD k cz).subs,dk xs its L f j≠0):(dk xs its L (f+1) k).toNat=eX xs its (L.getD k cz).tok ((L.getD k cz).subs.map (dk xs its L f)):=by
 rw[dk,Qj]
 ·rw[UInt8.toNat_ofNat_of_lt' (FL _ _ _ _)]
 rw[QJ];intro q;obtain⟨j,z,e⟩:=RC.1 q;exact h j z e
theorem JD {l:LB} {w:World} (h:w.ownsRow base 5 1 q n (byteCells l)):(convert 155 9 q).run prog w= .ok (S l) w:=by
 have z:n=l.length:=by have:=h.1;rw[xF] at this;omega
 subst z;rcases h.2 with⟨rfl,A⟩|⟨g,cap,E,rfl,_⟩
 ·have:l=[]:=TA.1 A;subst this;rw[run_convert_bytes_string w 155 9 5 none 0 0 underlying155 underlying5 underlying9];rfl
 refine Sn w 155 9 5 ⟨g,0,none⟩ cap l underlying155 underlying5 underlying9 λj D=>?_
 exact h.cells rfl j _ (by simp[byteCells,D])
theorem JE {w:World} (h:w.ownsRow base 5 1 (.slice q its.length z) its.length (byteCells its)) (l:Nat) (A:l<its.length):
 ∃g,q=some ⟨g,0,none⟩/\w.cell? ⟨g,l,none⟩=some (.int .u8 (its.getD l 0).toNat):=by
 rcases h.2 with⟨_,G⟩|⟨g,cap,E,e,_⟩
 ·omega
 cases e;refine⟨g,rfl,?_⟩;have D:(⟨g,0,none⟩:Addr).add l=⟨g,l,none⟩:=by unfold Addr.add;split<;>simp_all
 rw[<-D];exact h.cells (g:=g) rfl l _ (by simp[byteCells,A])
theorem vy (l:List LB) (s:LB):dx l s<l.length:=by
 induction l with
 |nil=>simp[dx]
 |cons x r ih=>unfold dx;simp only[QH];split;omega;split<;>omega
theorem AZ {cap} {its:LB} {Good} (hA:xZ (ps.map cL)) (hG:Gd xs its.length (ps.map cL) Good) (f) (bq:f<=2000)
 (ih:∀k w,vx B gi c g cap xs ps bv its w->k<f->k<ps.length->Good k->
  Calls prog 117 #[.agg #[Sq gi xs.length c,Sq g ps.length cap],Iq k,bv] w λe w'=>e= .returned (.int .u8 (dk xs its (ps.map cL) f k).toNat)/\Bl w w')
 (k) (w) (h:vx B gi c g cap xs ps bv its w) (br:k<f+1) (hk:k<ps.length) (aj:Good k):
  Calls prog 117 #[.agg #[Sq gi xs.length c,Sq g ps.length cap],Iq k,bv] w λe w'=>e= .returned (.int .u8 (dk xs its (ps.map cL) (f+1) k).toNat)/\Bl w w':=by
 obtain⟨i0,hi,aL,aq,aM⟩:=Ry yn;obtain⟨k0,k1,k2,k3,k4⟩:=h.parts.cells k hk;have b1:(0:Int)<=(k:Int):=by omega
 have b2:(k:Int)<(ps.length:Int):=by omega
 have lg:=Qk w _ k0;simp only at lg;have IH:=Hi ih;clear ih;have ar:(ps.map cL).getD k cz=cL (ps.getD k cO):=uP ps k hk;obtain⟨sa,ay,az⟩:=h.parts.sv hk;have bk:(Value.slice sa (ps.getD k cO).subs.length (ps.getD k cO).subs.length).oneCell'=true:=rfl;rw[ay] at k3;have ag:=hA k (by simpa using hk)
 have ab:=hG.down k aj;have U:=hG.own k aj;have ah:=hG.two k aj;have Y:=hG.three k aj;have ac:=Gf xs its (ps.map cL) f k;have ad:=Ge xs its (ps.map cL) f k;rw[ar] at ag ab U ah Y ac;simp only[ar] at ad;generalize ps.getD k cO=A at*;have aA:Hid (A.subs.length<=3/\ ∀j∈A.subs,j<k):=ag;have aN:Hid (∀j∈A.subs,Good j):=ab;have aO:Hid (A.tok.k=111->0<=cX xs A.tok.text its.length):=U;have aP:Hid (A.tok.k≠110->A.tok.k≠111->A.tok.text=[61]->2<=A.subs.length):=ah;have aQ:Hid (A.tok.k≠110->A.tok.k≠111->A.tok.text=[105,102]->3<=A.subs.length):=Y;have aR:Hid ((∀j∈A.subs,dk xs its (ps.map cL) f j≠0)->(dk xs its (ps.map cL) (f+1) k).toNat=eX xs its A.tok (A.subs.map (dk xs its (ps.map cL) f))):=ac;have aS:Hid (∀j (hj:j<A.subs.length),dk xs its (ps.map cL) f A.subs[j]=0->dk xs its (ps.map cL) (f+1) k=0):=ad;clear ar ag ab U ah Y ac ad;have aI:=aq;obtain⟨va,vc,rfl⟩:∃a c,bv= .slice a its.length c:=by
  rcases h.bytes.2 with⟨e,V⟩|⟨gg,cc,bt,e,_⟩
  ·exact⟨none,0,by rw[V];exact e⟩
  exact⟨_,_,e⟩
 have aT:=Hi az;clear ay az;generalize A.subs=sl at*;go_enter func117,ntmps117;go_wp2_with fail;go_name_world w0 hw;have R:=PM.new hw;clear hw k0 k1 k2 k3 k4;go_loopw [8,9] (λtv j wr=> ∃(G:Nat),G<=sl.length/\j= Iq G/\(∀q (hq:q<sl.length),q<G->dk xs its (ps.map cL) f sl[q]≠0)/\wr.ownsRow w.heap.size 5 1 tv G (byteCells ((sl.take G).map (dk xs its (ps.map cL) f)))/\PM w wr gi xs.length c g ps.length cap A (.slice sa sl.length sl.length)) (λ_ j _=>sl.length - (intOf j).toNat)
 case atStart=>exact⟨0,QA _,rfl,λq hq h=>by omega,QX _ _ _ _,R⟩
 case round=>
  clear R;obtain⟨G,bu,rfl,aB,U,R⟩:=hrel;have aC:=Hi aB;clear aB;obtain⟨q0,q1,p0,p1,p3,-⟩:=R.see;by_cases aa:G<sl.length
  ·obtain⟨sb,rfl,ak⟩:=aT.out G aa;rw[Qi,Ql aa] at ak;obtain⟨-,-,-,s0⟩:=R.sub ak;have b3:(0:Int)<=(G:Int):=by omega
   have b4:(G:Int)<(sl.length:Int):=by omega
   have bl:=aA.out.2 sl[G] (QD aa);have aU:=aN.out sl[G] (QD aa);go_wp2_with fail;go_region_held3 (Nn w.heap.size gi xs.length c g ps.length cap (Sq sb sl.length sl.length) ⟨sb,G,none⟩ (Iq sl[G]))
    (first|exact(R.next am).sub ak|exact R.sub ak)
    (first|(go_at_call 117;refine(IH.out sl[G] _ ((h.below R.bel).below ((Qq _ _).drew)) (by omega) (by omega) aU).mono ?_;rintro e w5 ⟨rfl,am⟩))
   rename_i hHeld;have hN:=R.next am;have O:=hN.bel;have ae:=cD U ((Qq _ _).drew.trans am);have aD:=O.size;have aV:Hid ((sl.take (G+1)).map (dk xs its (ps.map cL) f)=(sl.take G).map (dk xs its (ps.map cL) f)++[dk xs its (ps.map cL) f sl[G]]):=by
    show _=_;rw[Rw aa,QU];rfl
   have aW:Hid (dk xs its (ps.map cL) f sl[G]=0->dk xs its (ps.map cL) (f+1) k=0):=λhz=>aS.out G aa hz
   clear hHeld R am U q0 q1 p0 p1 p3 s0;generalize aX:dk xs its (ps.map cL) f sl[G]=tt at*;by_cases hz:tt=0
   ·have aq:((tt.toNat:Int)==0)=true:=by rw[hz];rfl
    have HR:=aW.out hz;go_wp2_with fail;go_ret;exact⟨da (by rw[HR];rfl),O⟩
   have aq:((tt.toNat:Int)==0)=false:=by
    have:tt.toNat≠0:=λe=>hz (RD.1 e)
    simp;omega
   have bj:sl.length<=3:=aA.out.1;go_wp2_with (
    at_builtin;go_must (refine wpList_append_lies _ (by rfl) _ _ 155 (by rfl) w.heap.size 5 i0 (.int .u8 0) 1 1 underlying155 hi aL aI aM (by rfl) (by decide) _ _ _ (by rfl) (ae.alloc _) ⟨w5.heap.size,0,none⟩ 1 1 [.int .u8 tt.toNat] (by rfl) (by rfl) (cell_one_new _ _ _) (λx hx=>by simp at hx;subst hx;rfl) (by decide) (by unfold maxLen;omega) (by omega) (by simp;omega) _ rfl ?_)
    intro gt ct w7 ax af bm bo)
   go_roundw
   case rel=>
    have kp:∀{b o t},w5.heap[b]?=some (Obj.cells o t)->t≠5->w7.heap[b]?=some (Obj.cells o t):=λ{b o t} e ne=>by
     rw[af.block _ (by have:=be e;simp;omega) (λz=>by obtain⟨cs,hc⟩:=cK ae z.symm;rw[e] at hc;simp at hc;exact ne hc.2),Qu _ _ _ (be e)];exact e
    refine⟨G+1,by omega,by go_num,?_,?_,gP O ae af,kp hN.pol (by decide),kp hN.par (by decide)⟩
    ·intro q hq bw;by_cases e:q=G
     ·subst e;rw[aX];exact hz
     exact aC.out q hq (by omega)
    rw[aV.out,oU];exact ax
   case measure=>simp[intOf];omega
  obtain rfl:G=sl.length:=by omega
  have aY:Hid ((dk xs its (ps.map cL) (f+1) k).toNat=eX xs its A.tok (sl.map (dk xs its (ps.map cL) f))):=aR.out λj hj=>by
   obtain⟨q,hq,rfl⟩:=RG.1 hj;exact aC.out q hq hq
  have aZ:Hid (∀w',Below wr.heap.size wr w'->(convert 155 9 u8).run prog w'= .ok (S (sl.map (dk xs its (ps.map cL) f))) w'):=λw' hb=>JD (by rw[RP] at U;exact cD U hb)
  go_wp2_with fail;go_region_held3 (λw'=>w'.cell? ⟨w.heap.size+1,1,none⟩=some (S A.tok.text))
   (first|go_keep|exact(R.next an).see.2.2.2.1)
   (first
    |(go_at_call 89;refine(mH _).mono ?_;rintro e w1 ⟨x1,rfl,aE,an,a0,a8⟩)
    |(go_at_call 87;refine(iL dy _ x1 _ (by decide) aE).mono ?_;rintro e w1 ⟨rfl,rfl⟩))
  rename_i hHeld;have hN:=R.next an;have au:Below wr.heap.size wr w1:=(Qq _ _).drew.trans an;clear hHeld an aE a0 a8 q0 q1 p0 p1 p3;obtain⟨-,-,-,p1,-⟩:=hN.see;go_wp2_with fail;go_region_held3 (λw'=>w'.cell? ⟨w.heap.size+1,1,none⟩=some (S A.tok.text))
   (first|go_keep|exact(hN.next ao).see.2.2.2.1)
   (first
    |(go_at_call 88;refine(oa _).mono ?_;rintro e w5 ⟨x5,rfl,aF,ao,a9,aD⟩)
    |(go_at_call 87;refine(iL dC _ x5 _ (by decide) aF).mono ?_;rintro e w5 ⟨rfl,rfl⟩))
  rename_i hHeld;have ba:=aZ.out w5 (au.trans (((Qq _ _).drew.trans ao).mono au.size));have R:=hN.next ao;have O:=R.bel;clear p1;obtain⟨q0,q1,p0,p1,-⟩:=R.see;have i1:=jx dy A.tok.text;have i2:=jx dC A.tok.text;have i3:=vy dC A.tok.text;clear hHeld ao aF a9 aD au R hN;have av:=aY.out;unfold eX at av;generalize R:dx dy A.tok.text=m at*;generalize hF:dx dC A.tok.text=n at*;have I:=Hi av;clear av R hF;by_cases E:A.tok.k=110
  ·have aJ:((A.tok.k:Int)==110)=true:=by simp;omega
   have HR:=Hi I.out;have D:Hid ((dk xs its (ps.map cL) (f+1) k).toNat=110):=by show _=_;rw[I.out,Qo E]
   clear I HR E;go_wp2_with fail;go_ret;exact⟨da (by rw[D.out];rfl),O⟩
  have aJ:((A.tok.k:Int)==110)=false:=by simp;omega
  by_cases J:A.tok.k=111
  ·have aK:((A.tok.k:Int)==111)=true:=by simp;omega
   have aG:=aO.out J;have D:Hid ((dk xs its (ps.map cL) (f+1) k).toNat=(its.getD (cX xs A.tok.text its.length).toNat 0).toNat):=by show _=_;rw[I.out,Qj E,Qo J]
   have bb:=rF xs A.tok.text its.length;have ai:=h.below O;clear I E J;go_wp2_with fail;apply(rO ai.items _ _ _ A.tok.text its.length h.len).mono;rintro e w6 ⟨rfl,aw⟩;have ap:=ai.below aw;have bc:Below w.heap.size w w6:=O.trans (aw.mono O.size);obtain⟨gb,rfl,aH⟩:=JE ap.bytes (cX xs A.tok.text its.length).toNat (by omega)
   obtain⟨l,hl⟩:∃l:Nat,cX xs A.tok.text its.length=l:=⟨_,(Sg aG).symm⟩;rw[hl] at aH D aG bb⊢;simp only[Rr] at aH D;clear hl q0 q1 p0 p1 ba ai ap aw;go_wp2_with fail;go_ret;exact⟨da (by rw[D.out,Qi]),bc⟩
  have aK:((A.tok.k:Int)==111)=false:=by simp;omega
  by_cases V:0<=n
  ·have D:Hid ((dk xs its (ps.map cL) (f+1) k).toNat=(([110,110,110,110,109,109,109,116,116]:LB).getD n.toNat 0).toNat):=by show _=_;rw[I.out,Qj E,Qj J,Qo V]
   obtain⟨l,rfl⟩:∃l:Nat,n=l:=⟨n.toNat,(Sg V).symm⟩;have bx:l<9:=by have:(dC.length:Int)=9:=rfl;omega
   simp only[Rr] at D;clear I E J;have c1:(l:Int)<9:=by omega
   go_wp2_with fail;go_ret;refine⟨da ?_,O⟩;rw[D.out];have e9:l=0\/l=1\/l=2\/l=3\/l=4\/l=5\/l=6\/l=7\/l=8:=by omega
   rcases e9 with rfl|rfl|rfl|rfl|rfl|rfl|rfl|rfl|rfl<;>rfl
  by_cases hm:0<=m
  ·have D:Hid ((dk xs its (ps.map cL) (f+1) k).toNat=109):=by show _=_;rw[I.out,Qj E,Qj J,Qj V,Qo hm]
   have bd:n<0:=by omega
   clear I E J V;go_wp2_with fail;go_ret;exact⟨da (by rw[D.out];rfl),O⟩
  have bd:n<0:=by omega
  have bz:m<0:=by omega
  cases ht:(A.tok.text==mG) with
  |true=>
   have bf:(A.tok.text==[116,114,117,101])=true:=ht;have D:Hid ((dk xs its (ps.map cL) (f+1) k).toNat=116):=by show _=_;rw[I.out,Qj E,Qj J,Qj V,Qj hm,Qo (.inl (by simpa using ht))]
   clear I E J V hm ht;go_wp2_with fail;go_ret;exact⟨da (by rw[D.out];rfl),O⟩
  |false=>
   have bf:(A.tok.text==[116,114,117,101])=false:=ht;cases Z:(A.tok.text==mS) with
   |true=>
    have bg:(A.tok.text==[102,97,108,115,101])=true:=Z;have D:Hid ((dk xs its (ps.map cL) (f+1) k).toNat=116):=by show _=_;rw[I.out,Qj E,Qj J,Qj V,Qj hm,Qo (.inr (by simpa using Z))]
    clear I E J V hm ht Z;go_wp2_with fail;go_ret;exact⟨da (by rw[D.out];rfl),O⟩
   |false=>
    have bg:(A.tok.text==[102,97,108,115,101])=false:=Z;have D:Hid ((dk xs its (ps.map cL) (f+1) k).toNat=oN A.tok.text (sl.map (dk xs its (ps.map cL) f))):=by
     show _=_;rw[I.out,Qj E,Qj J,Qj V,Qj hm,Qj];intro e;simp at ht Z;rcases e with e|e
     ·exact ht e
     exact Z e
    have bh:Hid (A.tok.text=[61]->2<=sl.length):=aP.out E J;have bi:Hid (A.tok.text=[105,102]->3<=sl.length):=aQ.out E J;clear I E J V hm ht Z;go_wp2_with fail;apply(vw A.tok.text (sl.map (dk xs its (ps.map cL) f)) _ (λe=>by simpa using bh.out e) (λe=>by simpa using bi.out e)).mono
    rintro e w6 ⟨rfl,nd,rfl⟩;go_wp2_with fail;go_ret;exact⟨da (by rw[D.out]),O.trans ⟨rfl,rfl,rfl,Qn _,λ_ _=>rfl⟩⟩
theorem C4 {cap} {its:LB} {Good} (E:xZ (ps.map cL)) (G:Gd xs its.length (ps.map cL) Good) (f) (J:f<=2000):
 ∀k w,vx B q c g cap xs ps z its w->k<f->k<ps.length->Good k->
  Calls prog 117 #[.agg #[Sq q xs.length c,Sq g ps.length cap],Iq k,z] w λe w'=>e= .returned (.int .u8 (dk xs its (ps.map cL) f k).toNat)/\Bl w w':=by
 induction f with
 |zero=>intro k w _ A;omega
 |succ f ih=>intro k w h D A I;exact AZ E G f (by omega) (ih (by omega)) k w h D A I
theorem lM {w:World} (h:w.ownsRow base e size v n xs) (E:q<=base):w.ownsRow q e size v n xs:=by
 obtain⟨D,z⟩:=h;refine⟨D,?_⟩;rcases z with z|⟨g,cap,A,a,b,r⟩
 ·exact .inl z
 exact .inr ⟨g,cap,A,a,by omega,r⟩
theorem C5 (xs) (L) (j) (its:LB) (q:j<xs.length):dP xs L (xs.drop j) its=
 if(dk xs its L (xs[j].top+1) xs[j].top).toNat=0\/(xs[j].name=[]/\(dk xs its L (xs[j].top+1) xs[j].top).toNat≠116) then some xs[j].pl
 else dP xs L (xs.drop (j+1)) (its++[dk xs its L (xs[j].top+1) xs[j].top]):=by
 rw[QF q,dP]
theorem Gg {cap} (h:fV B iv xs w) (hp:eR B g cap ps w) (hB:B<=w.heap.size) (hA:xZ (ps.map cL)) (hT:∀x∈xs,x.top<ps.length)
 (hF:∀j hj,∃Good,Gd xs j (ps.map cL) Good/\Good xs[j].top):
 Calls prog 64 #[.agg #[iv,Sq g ps.length cap]] w λe w'=>e= .returned (j6 (dP xs (ps.map cL) xs []))/\Bl w w':=by
 obtain⟨i0,hi,ah,ai,aj⟩:=Ry yn;have hb:=(Qq w.heap.size w).alloc (Qn _) (.cells #[iv,Sq g ps.length cap] 90);rcases h.form with⟨rfl,h0⟩|⟨U,c,rfl⟩
 ·have HB:Hid _:=hb;have HE:Hid (dP xs (ps.map cL) xs []=none):=by
   show _=_;cases xs with
   |nil=>rfl
   |cons=>simp at h0
  clear hb h0;go_enter func64,ntmps64;go_wp2;go_loop [3,4] (λn i=>n= .slice none 0 0/\i= Iq 0) (λ_ _=>0)
  case atStart=>exact⟨rfl,rfl⟩
  case round=>
   obtain⟨rfl,rfl⟩:=hrel;go_wp2;go_ret;exact⟨by rw[HE.out];rfl,HB.out⟩
 have A:(w.alloc (kz U xs.length c g ps.length cap)).heap[w.heap.size]?=some (kz U xs.length c g ps.length cap):=Qp w _;have hf:=h.few;have ar:=hp.few;have HX:=Hi A;clear A;go_enter func64,ntmps64;go_wp2;go_loopw [3,4] (λbv i wr=> ∃its,its.length<=xs.length/\i= Iq its.length/\wr.ownsRow w.heap.size 5 1 bv its.length (byteCells its)/\Hid (dP xs (ps.map cL) xs []=dP xs (ps.map cL) (xs.drop its.length) its)/\Bl w wr/\wr.heap[w.heap.size]?=some (kz U xs.length c g ps.length cap)) (λ_ i _=>xs.length - (intOf i).toNat)
 case atStart=>exact⟨[],QA _,rfl,QX _ _ _ _,rfl,hb,HX.out⟩
 case round=>
  obtain⟨its,hj,rfl,G,HM,D,A⟩:=hrel;have q0:=Qm wr w.heap.size 0 _ _ _ A;have q1:=Qm wr w.heap.size 1 _ _ _ A;have ak:=be A;simp only[Qx,Qy,Qv] at q0 q1;by_cases J:its.length<xs.length
  ·have V:=h.below D;obtain⟨c0,c1,c2,c3,c4,c5⟩:=V.cells its.length J;have HS:=Hi (C5 xs (ps.map cL) its.length its J);obtain⟨Good,ac,ad⟩:=hF its.length J;have am:=hT _ (QD J);have b1:0<=(its.length:Int):=by omega
   have b2:(its.length:Int)<(xs.length:Int):=by omega
   have lg:=Qk wr _ c0;simp only at lg;have aa:vx B U c g cap xs ps u3 its wr:=⟨V,hp.below D,lM G hB,by omega⟩
   obtain⟨va,vc,an⟩:∃a c,u3= .slice a its.length c:=by
    rcases G.2 with⟨e,hn⟩|⟨gg,cc,av,e,_⟩
    ·exact⟨none,0,by rw[hn];exact e⟩
    exact⟨_,_,e⟩
   subst an;go_wp2;go_region_held3 (λw'=>w'.cell? ⟨w.heap.size,0,none⟩=some (Sq U xs.length c)/\w'.cell? ⟨w.heap.size,1,none⟩=some (Sq g ps.length cap)/\w'.cell? ⟨U,its.length*6+2,none⟩=some (Iq xs[its.length].top))
    (first|go_keep|(go_split_ands;refine⟨?_,?_,?_⟩<;>(rw[ab.cell (by simp<;>omega)];first|assumption|(simp[*];done))))
    (first|(go_at_call 117;refine(C4 hA ac (xs[its.length].top+1) (by omega) xs[its.length].top _ (aa.below ((Qq _ _).drew)) (by omega) am ad).mono ?_;rintro e Z ⟨rfl,ab⟩))
   rename_i hHeld;clear hHeld;have O:=(Qq _ _).drew.trans ab;have Y:=D.trans (O.mono D.size);have E:Z.heap[w.heap.size]?=some (kz U xs.length c g ps.length cap):=by rw[O.block _ ak];exact A
   have q0:=Qm Z w.heap.size 0 _ _ _ E;have q1:=Qm Z w.heap.size 1 _ _ _ E;simp only[Qx,Qy,Qv] at q0 q1;obtain⟨d0,d1,d2,d3,d4,d5⟩:=(V.below O).cells its.length J;have I:=cD G O;have aw:=Y.size;clear ab O G D A V aa c0 c1 c2 c3 c4 c5;generalize dk xs its (ps.map cL) (xs[its.length].top+1) xs[its.length].top=z at*;have HQ:Hid ((z.toNat=0\/(xs[its.length].name=[]/\z.toNat≠116)->dP xs (ps.map cL) xs []=some xs[its.length].pl)/\(¬(z.toNat=0\/(xs[its.length].name=[]/\z.toNat≠116))->dP xs (ps.map cL) xs []=dP xs (ps.map cL) (xs.drop (its.length+1)) (its++[z]))):=by
    refine⟨λe=>?_,λe=>?_⟩
    ·rw[HM.out,HS.out,Qo e]
    rw[HM.out,HS.out,Qj e]
   clear HM HS;by_cases hz:z.toNat=0
   ·have ag:((z.toNat:Int)==0)=true:=by simp;omega
    have q:=HQ.out.1 (.inl hz);have HR:=Hi q;clear q hz;go_wp2;go_ret;exact⟨by rw[HR.out];rfl,Y⟩
   have ag:((z.toNat:Int)==0)=false:=by simp;omega
   cases af:(xs[its.length].name==[]);have q:=Hi (HQ.out.2 (by intro e;rcases e with e|e;exact hz e;simp[e.1] at af))
   rotate_left;by_cases ht:z.toNat=116;have ao:((z.toNat:Int) !=116)=false:=by simp;omega
   have q:=Hi (HQ.out.2 (by intro e;rcases e with e|e;exact hz e;exact e.2 ht))
   clear ht;rotate_left
   ·have ao:((z.toNat:Int) !=116)=true:=by simp;omega
    have q:=Hi (HQ.out.1 (.inr ⟨by simpa using af,ht⟩))
    clear HQ hz ht;go_wp2;go_ret;exact⟨by rw[q.out];rfl,Y⟩
   all_goals
    clear HQ hz;go_wp2_with (
     at_builtin;go_must (refine wpList_append_lies _ (by rfl) _ _ 155 (by rfl) w.heap.size 5 i0 (.int .u8 0) 1 1 underlying155 hi ah ai aj (by rfl) (by decide) _ _ _ (by rfl) (I.alloc _) ⟨Z.heap.size,0,none⟩ 1 1 [.int .u8 z.toNat] (by rfl) (by rfl) (cell_one_new _ _ _) (λx hx=>by simp at hx;subst hx;rfl) (by decide) (by unfold maxLen;omega) (by omega) (by simp;omega) _ rfl ?_)
     intro gt ct w7 ae R ap aq)
    go_roundw
    case rel=>
     refine⟨its++[z],by simp;omega,by simp,?_,?_,gP Y I R,?_⟩
     ·rw[oU];simpa using ae
     ·show _=_;rw[q.out];simp
     rw[R.block _ (by have:=be E;simp;omega) (λe=>by obtain⟨cs,hc⟩:=cK I e.symm;rw[E] at hc;simp at hc),Qu _ _ _ (be E)];exact E
    case measure=>simp[intOf];omega
  go_wp2;go_ret;refine⟨?_,D⟩;rw[HM.out,QG (by omega)];rfl
theorem Gh (z) (D E) (w:World):Calls prog 62 #[.agg #[.slice none 0 0,.slice z D E]] w λe w'=>e= .returned (Iq (-1))/\Bl w w':=by
 have G:=Hi ((Qq w.heap.size w).alloc (Qn _) (.cells #[.slice none 0 0,.slice z D E] 90));go_enter func62,ntmps62;go_wp2;go_loop [3,4] (λn i=>n= Iq 0/\i= Iq 0) (λ_ _=>0)
 case atStart=>exact⟨rfl,rfl⟩
 case round=>
  obtain⟨rfl,rfl⟩:=hrel;go_wp2;go_ret;exact⟨rfl,G.out⟩
theorem C6 (z) (D E) (w:World):Calls prog 63 #[.agg #[.slice none 0 0,.slice z D E]] w λe w'=>e= .returned (Iq (-1))/\Bl w w':=by
 have G:=Hi ((Qq w.heap.size w).alloc (Qn _) (.cells #[.slice none 0 0,.slice z D E] 90));go_enter func63,ntmps63;go_wp2;go_loop [3,4] (λn i=>n= Iq 0/\i= Iq 0) (λ_ _=>0)
 case atStart=>exact⟨rfl,rfl⟩
 case round=>
  obtain⟨rfl,rfl⟩:=hrel;go_wp2;go_ret;exact⟨rfl,G.out⟩
theorem C7 (z) (D E) (w:World):Calls prog 64 #[.agg #[.slice none 0 0,.slice z D E]] w λe w'=>e= .returned (Iq (-1))/\Bl w w':=by
 have G:=Hi ((Qq w.heap.size w).alloc (Qn _) (.cells #[.slice none 0 0,.slice z D E] 90));go_enter func64,ntmps64;go_wp2;go_loop [3,4] (λn i=>n= .slice none 0 0/\i= Iq 0) (λ_ _=>0)
 case atStart=>exact⟨rfl,rfl⟩
 case round=>
  obtain⟨rfl,rfl⟩:=hrel;go_wp2;go_ret;exact⟨rfl,G.out⟩
abbrev qv (z pv:Value):Obj:= .cells #[z,pv] 90
structure NM (B) (L) (xs) (iv pv) (w):Prop where
 items:fV B iv xs w
 parts:∃ps:List ey,w.ownsRow B 169 5 pv ps.length (eI ps)/\(∀p∈ps,k7 w p)/\ps.length<=1001/\(∀p∈ps,p.n=iC p.tok)/\ps.map cL=L
def lN (n k:Nat) (L:List Pt) (xs:List dw) (w:World) (e:Ending) (w':World):Prop:=
 Below w.heap.size w w'/\ ∃z pv,e= .returned (.tuple #[.agg #[z,pv],Iq n,Iq k])/\(∃a b c,z= .slice a b c)/\(∃a b c,pv= .slice a b c)/\(n≠0->z= .slice none 0 0/\pv= .slice none 0 0)/\(n=0->NM w.heap.size L xs z pv w')
theorem pS {L:List Pt} (z:n≠0) (D:Bl w w'):lN n k L xs w (.returned (.tuple #[.agg #[.slice none 0 0,.slice none 0 0],Iq n,Iq k])) w':=
 ⟨D,_,_,rfl,⟨_,_,_,rfl⟩,⟨_,_,_,rfl⟩,λ_=>⟨rfl,rfl⟩,λe=>absurd e z⟩
theorem Gi (l:LB) (w:World) (D:1000<l.length) (z:l.length<=maxLen) (L) (xs:List dw):Calls prog 33 #[S l] w (lN 1 0 L xs w):=by
 unfold maxLen at z;go_enter func33,ntmps33;go_wp2;exact Qs (by simp[results,results33,go_sem]) rfl (pS (by decide) (((Qq _ _).alloc (Qn _) _).alloc (by simp) _))
theorem E7 (w) (z D:Obj):Bl w ((w.alloc z).alloc D)/\((w.alloc z).alloc D).heap[w.heap.size]?=some z/\((w.alloc z).alloc D).heap[w.heap.size+1]?=some D:=by
 refine⟨((Qq _ _).alloc (Qn _) _).alloc (by simp) _,?_,?_⟩
 ·rw[Qu _ _ _ (by simp)];exact Qp w z
 have e:=Qp (w.alloc z) D;rw[Qw] at e;exact e
theorem Gj (l:LB) (w) (hl:l.length<=1000) (ts) (p) (U:kP (l.length+1) l 0=(ts,some p)) (L:List Pt) (xs):Calls prog 33 #[S l] w (lN 2 p L xs w):=by
 obtain⟨z,D,E⟩:=E7 w (qv (.slice none 0 0) (.slice none 0 0)) (qv (.slice none 0 0) (.slice none 0 0));have HL:=Hi U;have V:=Hi (And.intro z (And.intro D E));go_enter func33,ntmps33;go_wp2_with fail;apply(yl l _ hl).mono;rintro e G ⟨J,I⟩;rw[HL.out] at I;simp only at I;subst I;obtain⟨z,D,E⟩:=V.out;have O:G.heap[w.heap.size]?=some (qv (.slice none 0 0) (.slice none 0 0)):=by rw[J.block _ (be D)];exact D
 have R:G.heap[w.heap.size+1]?=some (qv (.slice none 0 0) (.slice none 0 0)):=by rw[J.block _ (be E)];exact E
 have Y:=z.trans (J.mono z.size);have Z:=Qm G w.heap.size 0 _ _ _ O;have r1:=Qm G w.heap.size 1 _ _ _ O;have p0:=Qm G (w.heap.size+1) 0 _ _ _ R;have p1:=Qm G (w.heap.size+1) 1 _ _ _ R;have rf:∀j,G.frozen? ⟨w.heap.size,j,none⟩=false:=λj=>by simp[World.frozen?,O]
 simp only[Qx,Qy,Qv] at Z r1 p0 p1;go_wp2;exact Qs (by simp[results,results33,go_sem,cY,cN,eY,Z,r1]) rfl (pS (by decide) ((Y.setCell (Qn _) _).setCell (Qn _) _))
end
end Go.Proofs.YtfkdailfcmnjlaaGreatDoor
