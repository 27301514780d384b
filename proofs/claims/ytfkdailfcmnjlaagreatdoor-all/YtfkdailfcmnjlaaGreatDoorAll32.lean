/-
  A part.
-/
import Derived.Test.YtfkdailfcmnjlaaGreatDoorAll29
import Derived.Lib.SliceRun
set_option linter.all false
set_option maxHeartbeats 40000000
set_option maxRecDepth 1000000
namespace Go.Proofs.YtfkdailfcmnjlaaGreatDoor
open Go Go.RowKit Tryz
section
attribute [local go_sem ↓] Go.wp_at_zero Go.wp_at_succ
variable {w A D E G kb k' q ts v L m I J O z p U}
def xo (b:List UInt8) (q:Nat) (r:Option (List ek)) (e:Ending) (w':World):Prop:=match r with
 |none=>e= .returned (.tuple #[.pointer none,Iq 7])
 |some _=> ∃p,q<=p/\e= .returned (.tuple #[Pq p,Iq 0])/\w'.heap[p]?=some (.cells #[S b] 130 (0,0))
theorem IP {b:LB} (h:b.length<4\/4000<b.length\/cr b 0≠71\/24<cr b 1) (w):
 Calls prog 25 #[S b] w λe w'=>e= .returned (.tuple #[.pointer none,Iq 7])/\Bl w w':=by
 have q:Hid (Bl w w):=Qq _ _;by_cases G:b.length<4
 ·have z:b.length<4:=by omega
  go_enter func25,ntmps25;go_wp2;go_ret2;exact⟨rfl,q.out⟩
 by_cases I:4000<b.length
 ·have z:decide (b.length<4)=false:=by simp;omega
  have A:4000<b.length:=by omega
  go_enter func25,ntmps25;go_wp2;go_ret2;exact⟨rfl,q.out⟩
 have z:decide (b.length<4)=false:=by simp;omega
 have A:decide (4000<b.length)=false:=by simp;omega
 have D:0<(ByteArray.mk b.toArray).size:=by show 0<b.length;omega
 have a1:1<(ByteArray.mk b.toArray).size:=by show 1<b.length;omega
 have E:((ByteArray.mk b.toArray)[0]).toNat=cr b 0:=ga b 0 D;have J:((ByteArray.mk b.toArray)[1]).toNat=cr b 1:=ga b 1 a1;have O:1<b.length:=by omega
 have R:0<b.length:=by omega
 by_cases h3:cr b 0=71
 ·have U:24<cr b 1:=by omega
  rw[h3] at E;have V:24<(cr b 1):=by omega
  generalize cr b 1=u at*;go_enter func25,ntmps25;go_wp2;go_ret2;exact⟨rfl,q.out⟩
 have Y:((cr b 0) !=71)=true:=by simp;omega
 generalize cr b 0=u at*;go_enter func25,ntmps25;go_wp2;go_ret2;exact⟨rfl,q.out⟩
def Py (b:List UInt8) (ins:List ek) (w wr:World) (A D at_:Nat) (R:Bool):Prop:= ∃i E come,PK b ins w wr A D at_ R i E come
theorem IQ (n):BA (List.replicate n 45)++BA [45]=BA (List.replicate (n+1) 45):=by
 rw[ni,<-List.replicate_succ']
theorem EF {b:LB} (G:4<=b.length) (I:b.length<=4000) (D:cr b 0=71) (J:cr b 1<=24) (E:qM (b.length+1) b 3=none) (w):
 Calls prog 25 #[S b] w λe w'=>e= .returned (.tuple #[.pointer none,Iq 7])/\Bl w w':=by
 have A:=xc G I w;rw[E] at A;have Y:decide (b.length<4)=false:=by simp;omega
 have Z:decide (4000<b.length)=false:=by simp;omega
 have O:0<(ByteArray.mk b.toArray).size:=by show 0<b.length;omega
 have a1:1<(ByteArray.mk b.toArray).size:=by show 1<b.length;omega
 have R:((ByteArray.mk b.toArray)[0]).toNat=cr b 0:=ga b 0 O;have e1:((ByteArray.mk b.toArray)[1]).toNat=cr b 1:=ga b 1 a1;have q1:1<b.length:=by omega
 have q0:0<b.length:=by omega
 rw[D] at R;have n4:decide (24<(cr b 1))=false:=by simp;omega
 have V:=λw a n c=>Lib.run_eql_slice_nil w 120 4 a n c 0 0 underlying120
 generalize cr b 1=u at*;go_enter func25,ntmps25;go_wp2_with (
  go_at_call 45;apply A.mono;rintro e w1 ⟨q,z⟩;have q:e= .returned (.slice none 0 0):=q;subst q;have U:=Hi z;clear z A)
 go_ret2;exact⟨rfl,U.out⟩
def ND (o:Option Kn) (k:Kn):Bool:=match o with
 |none=>true
 |some a=>decide (a.st=k.st)
def LS (o:Option Kn) (k:Kn):Kn:=match o with
 |none=>k
 |some a=>⟨a.st,im a.cl k.cl⟩
theorem EG (o) (k) (h3:jV k.st) (q:sN k.cl) (z:∀a,o=some a->jV a.st/\sN a.cl/\a.cl.length=k.cl.length/\a.cl.length<=255) (w):Calls prog 48 #[.agg #[MP o,MQ o,MR o],.agg #[.bool true,S (gz k.st),S (jm k.cl)]] w λe w'=>e= .returned (.tuple #[.agg #[.bool true,S (gz (LS o k).st),S (jm (LS o k).cl)],.bool (ND o k)])/\Bl w w':=by
 cases o with
 |none=>exact Ir [] [] k w
 |some a=>
  obtain⟨A,D,E,G⟩:=z a rfl;exact Iu A D h3 q E G w
structure M6 (b) (ins) (w wi) (sg lg kb:Nat) (k':Kn) (come0') (ts) (v) (L) (m) (kl come):Prop where
 pc:I7 b ins kl come
 ty:mB (cr b 2) come
 kn:tS wi lg kl
 st:wi.heap[sg]?=some (.cells (uK b.length ins) 4 (0,0))
 kk:wi.heap[kb]?=some (.cells #[.bool true,S (gz k'.st),S (jm k'.cl)] 124 (0,0))
 ne:kb≠lg
 row:IR wi 3 v L
 bel:Below w.heap.size w wi
 lo:w.heap.size<=lg
 bri:dX come0' k' ts=dX come k' (ts.drop m)
theorem M6.below {b:LB} {ins come} (h:M6 b ins w A E G kb k' q ts v L m I come) (z:Bl A D):M6 b ins w D E G kb k' q ts v L m I come:=
 ⟨h.pc,h.ty,h.kn.of_block (z.block _ h.kn.lt),(z.block _ (be h.st)).trans h.st,(z.block _ (be h.kk)).trans h.kk,h.ne,h.row.only (cI.of_below z) (λ_ _ h=>h),h.bel.trans (z.mono h.bel.size),h.lo,h.bri⟩
theorem M6.put {b:LB} {ins come} (h:M6 b ins w J O A kb k' D ts v L m U come) (hp:p<b.length) (V:I7 b ins (U.set p (some E)) z) (Y:mB (cr b 2) z) (Z:dX come k' (ts.drop m)=dX z k' (ts.drop (m+1))):
 M6 b ins w (((J.setCell ⟨A,p*3,none⟩ (.bool true)).setCell ⟨A,p*3+1,none⟩ (S (gz E.st))).setCell ⟨A,p*3+2,none⟩ (S (jm E.cl))) O A kb k' D ts v L (m+1) (U.set p (some E)) z:=by
 obtain⟨cs,R,_⟩:=h.kn.blk;have aa:O≠A:=λe=>by
  have h1:=h.st;rw[e,R] at h1;simp at h1
 have G:∀q,q≠A->(((J.setCell ⟨A,p*3,none⟩ (.bool true)).setCell ⟨A,p*3+1,none⟩ (S (gz E.st))).setCell ⟨A,p*3+2,none⟩ (S (jm E.cl))).heap[q]?=J.heap[q]?:=λq I=>by
  rw[Qr _ _ _ _ (by simpa using I),Qr _ _ _ _ (by simpa using I),Qr _ _ _ _ (by simpa using I)]
 refine⟨V,Y,h.kn.set (by rw[h.pc.plen];exact hp) (some E),(G O aa).trans h.st,(G kb h.ne).trans h.kk,h.ne,?_,((h.bel.setCell (by simpa using h.lo) _).setCell (by simpa using h.lo) _).setCell (by simpa using h.lo) _,h.lo,h.bri.trans Z⟩
 refine cM h.row (λq I=>G q (λe=>?_))
 subst e;exact h.row.ne R (by decide) I
abbrev LU (wr:World) (z q kb m pl:Nat) (A D E:Value) (k':Kn) (W:World):Prop:=Below wr.heap.size wr W/\W.cell? ⟨z,m,none⟩=some (.int .i64 (pl:Nat))/\W.cell? ⟨q,pl*3,none⟩=some A/\W.cell? ⟨q,pl*3+1,none⟩=some D/\W.cell? ⟨q,pl*3+2,none⟩=some E/\W.cell? ⟨kb,0,none⟩=some (.bool true)/\W.cell? ⟨kb,1,none⟩=some (S (gz k'.st))/\W.cell? ⟨kb,2,none⟩=some (S (jm k'.cl))
abbrev PX (wr W:World):Prop:=Below (wr.drew.alloc (.cells #[.bool false,.string ⟨#[]⟩,.string ⟨#[]⟩] 124)).heap.size (wr.drew.alloc (.cells #[.bool false,.string ⟨#[]⟩,.string ⟨#[]⟩] 124)) W
theorem EH {b:LB} {ins} (h4:4<=b.length) (h5:b.length<=4000) (h6:cr b 0=71) (h7:cr b 1<=24) (hd:qM (b.length+1) b 3=some ins) (h0:0<ins.length) (w:World):
 Calls prog 25 #[S b] w λe w'=>xo b w.heap.size (if jw ins (cr b 1) ins 0 (iX (cr b 2) ins.length) then some ins else none) e w'/\Bl w w':=by
 have W1:=xc h4 h5 w;rw[hd] at W1;have n1:decide ((b.length:Int)<4)=false:=by simp;omega
 have n2:decide ((4000:Int)<(b.length:Int))=false:=by simp;omega
 have a0:0<(ByteArray.mk b.toArray).size:=by show 0<b.length;omega
 have a1:1<(ByteArray.mk b.toArray).size:=by show 1<b.length;omega
 have a2:2<(ByteArray.mk b.toArray).size:=by show 2<b.length;omega
 have e0:((ByteArray.mk b.toArray)[0]).toNat=cr b 0:=ga b 0 a0;have e1:((ByteArray.mk b.toArray)[1]).toNat=cr b 1:=ga b 1 a1;have e2:((ByteArray.mk b.toArray)[2]).toNat=cr b 2:=ga b 2 a2;have q1:1<b.length:=by omega
 have q0:0<b.length:=by omega
 have q2:2<b.length:=by omega
 rw[h6] at e0;have n4:decide ((24:Int)<(cr b 1:Int))=false:=by simp;omega
 have hok:=zE _ hd (by omega)
 have HC:Hid (fg b ins):=⟨hok.1,hok.2⟩;have HF0:=Hi (Fi.first (cr b 1) (cr b 2) HC.out h0)
 have hmk:=nh (P:=prog) 122 124 (.agg #[.bool false,.string ⟨#[]⟩,.string ⟨#[]⟩]) 3 40 underlying122 Ex .i64 .i64 b.length (by omega) (by omega)
 generalize hR:jw ins (cr b 1) ins 0 (iX (cr b 2) ins.length)=R at*;have hu2:=eS b 2;have HU:Hid (cr b 1<=24):=h7;clear h6 h7 hd hok hR;have heq:=λw a n c=>Lib.run_eql_slice_nil (P:=prog) w 120 4 a n c 0 0 underlying120
 generalize hc1:cr b 1=u at*;generalize hc2:cr b 2=c at*;have HE:Hid (cr b 1=u/\cr b 2=c):=⟨hc1,hc2⟩;clear hc1 hc2;generalize hRR:(if R=true then some ins else none)=RR;have HRR:=Hi hRR;clear hRR;go_enter func25,ntmps25;go_wp2_with (
  go_at_call 45;apply W1.mono;rintro e w1 ⟨hans,hbel⟩;obtain⟨sg,hsg,rfl,hst⟩:=hans;have HB:=Hi hbel;have HS:=Hi (And.intro hsg hst);clear hbel W1 hsg hst)
 go_loop [5,6] (λsv iv=> ∃i:Nat,i<=c/\iv= Iq i/\sv= .string (BA (List.replicate i 45))) (λ_ iv=>c - (intOf iv).toNat)
 case atStart=>exact⟨0,QA _,rfl,rfl⟩
 case round=>
  obtain⟨i,hi,rfl,rfl⟩:=hrel;by_cases hlt:i<c
  ·have HD:Hid _:=IQ i;have hl45:(List.replicate i (45:UInt8)).length=i:=Rl;go_wp2;exact⟨⟨i+1,by omega,by go_num,by rw[<-HD.out]⟩,by simp[intOf];omega⟩
  obtain rfl:i=c:=by omega
  obtain⟨w2,hw2⟩:∃w2,w1.alloc (.cells (madeCells (Value.agg #[.bool false,.string ⟨#[]⟩,.string ⟨#[]⟩]).cells (b.length*3)) 124)=w2:=⟨_,rfl⟩;have hk2:w2.heap[w1.heap.size]?=some (.cells (madeCells #[.bool false,.string ⟨#[]⟩,.string ⟨#[]⟩] (b.length*3)) 124 (0,0)):=by rw[<-hw2];exact Qp w1 _
  have hka:=Ey hk2;have hb2:Bl w1 w2:=by rw[<-hw2];exact(Qq _ _).alloc (Qn _) _
  have hrl:(List.replicate b.length (none:Option Kn)).length=b.length:=Rl;have hg3:(List.replicate b.length (none:Option Kn)).getD 3 none=none:=by rw[Qi,Q8];split<;>rfl
  have k0:=hka.c0 3 (by omega)
  have k1:=hka.c1 3 (by omega)
  have k2:=hka.c2 3 (by omega)
  rw[hg3] at k0 k1 k2;have c9:w2.cell? ⟨w1.heap.size,9,none⟩=some (.bool false):=k0;have c10:w2.cell? ⟨w1.heap.size,10,none⟩=some (S []):=k1;have c11:w2.cell? ⟨w1.heap.size,11,none⟩=some (S []):=k2;have f9:=hka.frz 9;have f10:=hka.frz 10;have f11:=hka.frz 11;have d10:∀v,(w2.setCell ⟨w1.heap.size,9,none⟩ v).cell? ⟨w1.heap.size,10,none⟩=some (S []):=λv=>by rw[cN _ _ _ _ _ (by decide)];exact c10
  have d11:∀v v',((w2.setCell ⟨w1.heap.size,9,none⟩ v).setCell ⟨w1.heap.size,10,none⟩ v').cell? ⟨w1.heap.size,11,none⟩=some (S []):=λv v'=>by rw[cN _ _ _ _ _ (by decide),cN _ _ _ _ _ (by decide)];exact c11
  have hmk1:=hmk w1;rw[hw2] at hmk1;clear hmk;clear k0 k1 k2;have hset:=hka.set (j:=3) (by omega) (some ⟨[],List.replicate i 0⟩)
  have HI0:Hid (Py b ins w (((w2.setCell ⟨w1.heap.size,9,none⟩ (.bool true)).setCell ⟨w1.heap.size,10,none⟩ (.string ⟨#[]⟩)).setCell ⟨w1.heap.size,11,none⟩ (.string (BA (List.replicate i 45)))) sg w1.heap.size 3 R):=by
   refine⟨0,(List.replicate b.length none).set 3 (some ⟨[],List.replicate i 0⟩),iX i ins.length,⟨?_,?_,?_,?_,?_,HS.out.1,HB.out.size⟩⟩
   ·rw[HE.out.1];exact HF0.out
   ·rw[HE.out.2];exact B4 _ _
   ·have e:S (jm (List.replicate i 0))= .string (BA (List.replicate i 45)):=by simp[jm,List.map_replicate,qP]
    rw[<-e];exact hset
   ·have hlt:=be HS.out.2;rw[Qr _ _ _ _ (by simp;omega),Qr _ _ _ _ (by simp;omega),Qr _ _ _ _ (by simp;omega)]
    exact(hb2.block _ hlt).trans HS.out.2
   have hsz:=HB.out.size;exact(((HB.out.trans (hb2.mono hsz)).setCell (by simpa using hsz) _).setCell (by simpa using hsz) _).setCell (by simpa using hsz) _
  clear hset hka hk2 hw2 hb2;go_wp2_with fail;clear hmk1 c9 c10 c11 f9 f10 f11 d10 d11;generalize hlg:w1.heap.size=lg at*;clear hlg;generalize (((w2.setCell ⟨lg,9,none⟩ (.bool true)).setCell ⟨lg,10,none⟩ (.string ⟨#[]⟩)).setCell ⟨lg,11,none⟩ (.string (BA (List.replicate i 45))))=W3 at*;go_loopw [8] (λav wr=> ∃a:Nat,a<=b.length/\av= Iq a/\Hid (Py b ins w wr sg lg a R)) (λav _=>b.length - (intOf av).toNat)
  case atStart=>exact⟨3,by omega,rfl,HI0.out⟩
  case round=>
   obtain⟨a,hal,rfl,HI⟩:=hrel;obtain⟨ix,kl,come,hI⟩:=HI.out;by_cases hat:a<b.length
   ·have q0:(0:Int)<=(a:Int)/\(a:Int)<(b.length:Int):=by omega
    have hsc:wr.cell? ⟨sg,a,none⟩=some (.bool (yD ins a)):=by rw[Qm wr _ a _ _ _ hI.st,sJ ins hat]
    have hkl:a<kl.length:=by rw[hI.fl.pc.plen];exact hat
    have hk0:=hI.kn.c0 a hkl;have hk1:=hI.kn.c1 a hkl;have hk2:=hI.kn.c2 a hkl;cases hbg:yD ins a with
    |false=>
     rw[hbg] at hsc;have HN:Hid (Py b ins w wr sg lg (a+1) R):=⟨ix,kl,come,hI.fl.skip hbg,hI.ty,hI.kn,hI.st,hI.bel,hI.lo⟩;clear hI HI HI0;go_wp2;exact⟨⟨a+1,by omega,by go_num,HN.out⟩,by simp[intOf];omega⟩
    |true=>
     rw[hbg] at hsc;obtain⟨hix,hxa,hsame,hdrop⟩:=hI.fl.here HC.out hbg;have hres:=hI.fl.res;rw[hdrop] at hres;cases hk:kl.getD a none with
     |none=>
      rw[hk] at hk0;replace hk0:wr.cell? ⟨lg,a*3,none⟩=some (.bool false):=hk0;have HN:Hid (Py b ins w wr sg lg (a+1) R):=⟨ix+1,kl,come,⟨hI.fl.next HC.out hbg hI.fl.pc (by rw[hres,jw,<-hsame,hk]),hI.ty,hI.kn,hI.st,hI.bel,hI.lo⟩⟩
      clear hI HI HI0 hk1 hk2;go_wp2;exact⟨⟨a+1,by omega,by go_num,HN.out⟩,by simp[intOf];omega⟩
     |some k=>
      rw[hk] at hk0 hk1 hk2;replace hk0:wr.cell? ⟨lg,a*3,none⟩=some (.bool true):=hk0;replace hk1:wr.cell? ⟨lg,a*3+1,none⟩=some (S (gz k.st)):=hk1;replace hk2:wr.cell? ⟨lg,a*3+2,none⟩=some (S (jm k.cl)):=hk2;have hck:come.getD ix none=some k:=by rw[<-hsame];exact hk
      obtain⟨t1,t2,t3,t4⟩:=hI.ty ix k hck;have hxo:=HC.out.each _ (gY hix);have W2:=λw=>Ip (k:=k) hxo h5 (by omega) t3 t1 t2 w
      have W3:=λw=>Iv hxo h5 w
      rw[hxa] at W2 W3;unfold oK at W2;clear HI0 HI;generalize hx:ins.getD ix cH=x at*;rw[jw,hck] at hres;simp only[] at hres;cases hdo:eo x.op x.n.toNat k with
      |none=>
       rw[hdo] at W2 hres;have HRf:Hid (R=false):=hres;have HBl:=Hi hI.bel;clear hI hres hdo W3;go_wp2_with (
        go_at_call 46;apply(W2 _).mono;rintro e w3 ⟨hans,hb3⟩;obtain⟨s1,s2,rfl⟩:=hans;have HB3:=Hi hb3;clear hb3 W2)
       go_quiet (fail);go_wp2;refine Qs (v:= .tuple #[.pointer none,Iq 7]) (by simp[results,results25,go_sem]) rfl ?_
       have hsz:=HBl.out.size;have hb3:=HBl.out.trans (HB3.out.mono hsz);refine⟨?_,below_drewN (hb3.alloc hb3.size _) _⟩;rw[<-HRR.out,HRf.out];rfl
      |some k'=>
       rw[hdo] at W2 hres;simp only[] at hres;obtain⟨y1,y2,y3⟩:=BY (kf hxo).op t1 t2 hdo;have hkl':=eU k'.st;have hu1:=eS b 1;by_cases hdep:cr b 1<k'.st.length
       ·rw[Qo hdep] at hres;have HRf:Hid (R=false):=hres;have HBl:=Hi hI.bel;have n5:(u:Int)<(k'.st.length:Int):=by have:=HE.out.1;omega
        have n6:u<256:=by have:=HE.out.1;omega
        clear hI hres hdo W3 hdep y1 y2 y3;go_wp2_with (
         go_at_call 46;apply(W2 _).mono;rintro e w3 ⟨hans,hb3⟩;have hans:e= .returned (.tuple #[oK k',.bool true]):=hans;subst hans;unfold oK;have HB3:=Hi hb3;clear hb3 W2)
        go_quiet (fail);go_wp2;refine Qs (v:= .tuple #[.pointer none,Iq 7]) (by simp[results,results25,go_sem]) rfl ?_
        have hsz:=HBl.out.size;have hb3:=HBl.out.trans (HB3.out.mono hsz);refine⟨?_,below_drewN (hb3.alloc hb3.size _) _⟩;rw[<-HRR.out,HRf.out];rfl
       rw[Qj hdep] at hres;have n5:decide ((u:Int)<(k'.st.length:Int))=false:=by have:=HE.out.1;simp;omega
       have n7: ¬(u<k'.st.length):=by have:=HE.out.1;omega
       have n6:u<256:=by have:=HE.out.1;omega
       go_wp2_with (
        go_at_call 46;apply(W2 _).mono;rintro e w3 ⟨hans,hb3⟩;have hans:e= .returned (.tuple #[oK k',.bool true]):=hans;subst hans;unfold oK;have HB3:=Hi hb3;clear hb3 W2)
       go_quiet (fail);go_wp2_with (
        go_at_call 47;apply(W3 _).mono;rintro e w4 ⟨⟨v,rfl,hrow⟩,hb4⟩;obtain⟨la,lcap,rfl⟩:=hrow.sl;have HRow:=Hi hrow;have HB4:=Hi hb4;clear hrow hb4 W3)
       have hb34:Bl wr w4:=by
        have q1:Bl wr ((w3.alloc (Obj.cells #[.bool true,.string {data:=(gz k'.st).toArray},.string {data:=(jm k'.cl).toArray}] 124)).drewN nq):=below_drewN (HB3.out.alloc HB3.out.size _) _;exact q1.trans (HB4.out.mono q1.size)
       have hkk:w4.heap[w3.heap.size]?=some (.cells #[.bool true,S (gz k'.st),S (jm k'.cl)] 124 (0,0)):=by
        refine(HB4.out.block _ (by simp)).trans ?_
        exact Qp w3 _
       have HIn0:Hid (M6 b ins w w4 sg lg w3.heap.size k' come (ff ins ix x) (.slice la (fH x).length lcap) (fH x) 0 kl come):=by
        have h2:=hI.below hb34;refine⟨h2.fl.pc,h2.ty,h2.kn,h2.st,hkk,?_,HRow.out,h2.bel,h2.lo.2,rfl⟩;have h3:=hI.kn.lt;have h4:=HB3.out.size;omega
       have HFl:=Hi hI.fl;have HLo:=Hi hI.lo;have HLI:=Hi (Kg HC.out hix);have HKT:Hid (jV k'.st/\sN k'.cl/\k'.cl.length=cr b 2/\k'.st.length<=24):=⟨y1,y2,by omega,by have:=HU.out;have:=HE.out.1;omega⟩
       have HRes:=Hi hres;have hL2:=Du x;have HLL:Hid ((fH x).length=(ki x).length):=by show _=_;simp[fH]
       rw[hx] at HLI;clear hb34 hkk HB3 HB4 HRow hI hres hk0 hk1 hk2 hsc t1 t2 t3 t4 y1 y2 y3 hdo n5 n7 hkl' hdep hck hsame hdrop hk hkl HS HF0;generalize w3.heap.size=kb at*;go_loopw [12] (λmv wi=> ∃m:Nat,m<=(fH x).length/\mv= Iq m/\Hid (∃kl2 come2,M6 b ins w wi sg lg kb k' come (ff ins ix x) (.slice la (fH x).length lcap) (fH x) m kl2 come2)) (λmv _=>(fH x).length - (intOf mv).toNat)
       case atStart=>exact⟨0,QA _,rfl,_,_,HIn0.out⟩
       case round=>
        obtain⟨m,hm,rfl,HJ⟩:=hrel;obtain⟨kl2,come2,hJ⟩:=HJ.out;by_cases hml:m<(fH x).length
        ·obtain⟨lb,lc2,e1,_⟩:=hJ.row.form (by omega)
         simp at e1;obtain⟨rfl,rfl⟩:=e1;have hrc:=hJ.row.cell hml;have hPl:=HLI.out.2 m (by have:=HLL.out;omega)
         have hgp:(fH x).getD m 0=(((ki x).getD m 0:Nat):Int):=by
          unfold fH;rw[Qi,Qi,QN];cases(ki x)[m]?<;>rfl
         rw[hgp] at hrc;have htl:m<(ff ins ix x).length:=by rw[HLI.out.1];have:=HLL.out;omega
         have hdm:(ff ins ix x).drop m=(ff ins ix x).getD m none::(ff ins ix x).drop (m+1):=by
          rw[QF htl,Qi,Ql htl];rfl
         obtain⟨bs1,bs2⟩:=Dv hJ.pc HC.out hPl k' ((ff ins ix x).drop (m+1));rw[<-hdm] at bs1 bs2;have hbri:=hJ.bri;generalize hgo:(ff ins ix x).getD m none=o at*;generalize (ki x).getD m 0=pl at*;have hmb:(0:Int)<=(m:Int)/\(m:Int)<((fH x).length:Int):=by omega
         have HML:Hid (m+1<=(fH x).length):=by show _<=_;omega
         have hm2:m<=2:=by have:=HLL.out;omega
         cases o with
         |none=>
          obtain⟨g1,g2⟩:=bs1 rfl;have HRf:Hid (R=false):=by
           show R=false;rw[HRes.out,hbri,g2]
          have HBl:=Hi hJ.bel;by_cases hpl:b.length<=pl
          ·have n5:(b.length:Int)<=(pl:Int):=by omega
           clear hJ HJ HIn0 bs1 bs2 hbri g1 g2 hdm;go_wp2;refine Qs (v:= .tuple #[.pointer none,Iq 7]) (by simp[results,results25,go_sem]) rfl ?_
           exact⟨by rw[<-HRR.out,HRf.out];rfl,HBl.out⟩
          have g3:yD ins pl=false:=by
           rcases g1 with g|g
           ·exact absurd g hpl
           exact g
          have hlt:pl<b.length:=by omega
          have hsc:wr.cell? ⟨sg,pl,none⟩=some (.bool false):=by rw[Qm wr _ pl _ _ _ hJ.st,sJ ins hlt,g3]
          have n6:(0:Int)<=(pl:Int)/\(pl:Int)<(b.length:Int):=by omega
          clear hJ HJ HIn0 bs1 bs2 hbri g1 g2 hdm;go_wp2;refine Qs (v:= .tuple #[.pointer none,Iq 7]) (by simp[results,results25,go_sem]) rfl ?_
          exact⟨by rw[<-HRR.out,HRf.out];rfl,HBl.out⟩
         |some j=>
          obtain⟨hlt,g3,hj,g4,g5⟩:=bs2 j rfl;have hsc:wr.cell? ⟨sg,pl,none⟩=some (.bool true):=by rw[Qm wr _ pl _ _ _ hJ.st,sJ ins hlt,g3]
          have n6:(0:Int)<=(pl:Int)/\(pl:Int)<(b.length:Int):=by omega
          have hpk:pl<kl2.length:=by rw[hJ.pc.plen];exact hlt
          have c0:=hJ.kn.c0 pl hpk;have c1:=hJ.kn.c1 pl hpk;have c2:=hJ.kn.c2 pl hpk;have kc:=λj=>Qm wr kb j _ _ _ hJ.kk
          have kc0:wr.cell? ⟨kb,0,none⟩=some (.bool true):=kc 0;have kc1:wr.cell? ⟨kb,1,none⟩=some (S (gz k'.st)):=kc 1;have kc2:wr.cell? ⟨kb,2,none⟩=some (S (jm k'.cl)):=kc 2;clear kc;generalize hkp:kl2.getD pl none=o2 at*;have HG:Hid ((ND o2 k'=false->R=false)/\(ND o2 k'=true-> ∃come3,dX come2 k' ((ff ins ix x).drop m)=dX come3 k' ((ff ins ix x).drop (m+1))/\I7 b ins (kl2.set pl (some (LS o2 k'))) come3/\mB (cr b 2) come3)):=by
           cases o2 with
           |none=>
            refine⟨λh=>by simp[ND] at h,λ_=>?_⟩
            obtain⟨q1,q2⟩:=g4 rfl;exact⟨_,q1,q2,hJ.ty.set HKT.out⟩
           |some a2=>
            obtain⟨q1,q2,q3⟩:=g5 a2 rfl;refine⟨λh=>?_,λh=>?_⟩
            ·have h: ¬a2.st=k'.st:=by simpa [ND] using h
             rw[HRes.out,hbri,q2 h]
            have h:a2.st=k'.st:=by simpa [ND] using h
            obtain⟨q4,q5⟩:=q3 h;obtain⟨t1,t2,t3,t4⟩:=hJ.ty j a2 q1;exact⟨_,q4,q5,hJ.ty.set ⟨t1,B0 t2,by simp[im];have:=HKT.out.2.2.1;omega,t4⟩⟩
          have W4:∀w,Calls prog 48 #[.agg #[MP o2,MQ o2,MR o2],.agg #[.bool true,S (gz k'.st),S (jm k'.cl)]] w λe w'=>e= .returned (.tuple #[.agg #[.bool true,S (gz (LS o2 k').st),S (jm (LS o2 k').cl)],.bool (ND o2 k')])/\Bl w w':=λw=>by
           refine EG o2 k' HKT.out.1 HKT.out.2.1 (λa2 ha=>?_) w
           obtain⟨q1,_⟩:=g5 a2 ha;obtain⟨t1,t2,t3,t4⟩:=hJ.ty j a2 q1;have:=HKT.out.2.2.1;exact⟨t1,t2,by omega,by have:=eS b 2;omega⟩
          have HPut:Hid (∀W come3,Bl wr W->dX come2 k' ((ff ins ix x).drop m)=dX come3 k' ((ff ins ix x).drop (m+1))->I7 b ins (kl2.set pl (some (LS o2 k'))) come3->mB (cr b 2) come3->M6 b ins w (((W.setCell ⟨lg,pl*3,none⟩ (.bool true)).setCell ⟨lg,pl*3+1,none⟩ (S (gz (LS o2 k').st))).setCell ⟨lg,pl*3+2,none⟩ (S (jm (LS o2 k').cl))) sg lg kb k' come (ff ins ix x) (Sq lb (fH x).length lcap) (fH x) (m+1) (kl2.set pl (some (LS o2 k'))) come3):=λW come3 hb h1 h2 h3=>(hJ.below hb).put hlt h2 h3 h1
          have HFr:Hid (∀W j,Bl wr W->W.frozen? ⟨lg,j,none⟩=false):=λW j hb=>(hJ.kn.of_block (hb.block _ hJ.kn.lt)).frz j
          have HBl:=Hi hJ.bel;clear hJ HJ HIn0 bs1 bs2 hbri hdm g4 g5 g3 hkp;generalize MP o2=q0 at*;generalize MQ o2=q1 at*;generalize MR o2=q2 at*;generalize ND o2 k'=ok at*;generalize LS o2 k'=k2 at*;have KP:Hid (∀W W':World,(LU wr lb lg kb m pl q0 q1 q2 k' W)->Bl W W'->(LU wr lb lg kb m pl q0 q1 q2 k' W')):=λW W' hS hb=>by
           obtain⟨s0,s1,s2,s3,s4,s5,s6,s7⟩:=hS;refine⟨s0.trans (hb.mono s0.size),?_,?_,?_,?_,?_,?_,?_⟩<;>(rw[hb.cell (Qk W _ (by assumption))];assumption)
          have KD:Hid (∀W:World,(LU wr lb lg kb m pl q0 q1 q2 k' W)->(LU wr lb lg kb m pl q0 q1 q2 k' (W.drew))):=λW hS=>⟨hS.1.drew,hS.2⟩
          have KX:Hid (∀W:World,Bl wr W->(LU wr lb lg kb m pl q0 q1 q2 k' W)):=λW hb=>KP.out wr W ⟨Qq _ _,hrc,c0,c1,c2,kc0,kc1,kc2⟩ hb
          have KA:Hid (∀(W:World) (o:Obj),Bl W (W.alloc o)):=λW o=>(Qq _ _).alloc (Qn _) _
          have KE:Hid (∀(W:World) (o:Obj),Below wr.drew.heap.size wr.drew W->(LU wr lb lg kb m pl q0 q1 q2 k' (W.alloc o))):=λW o hb=>KX.out _ (Below.alloc (a:=wr) ⟨hb.os,hb.tape,hb.output,hb.size,hb.block⟩ hb.size _)
          have KZ:Hid (∀W:World,PX wr W->W.heap[wr.heap.size]?=some (.cells #[.bool false,.string ⟨#[]⟩,.string ⟨#[]⟩] 124 (0,0))/\Bl wr W):=λW hb=>by
           refine⟨(hb.block _ (by simp)).trans (Qp wr.drew _),?_⟩
           have q:Bl wr (wr.drew.alloc (.cells #[.bool false,.string ⟨#[]⟩,.string ⟨#[]⟩] 124)):=((Qq _ wr).drew).alloc (Qn _) _;exact q.trans (hb.mono q.size)
          have W5:∀W,W=(wr.drew.alloc (.cells #[.bool false,.string ⟨#[]⟩,.string ⟨#[]⟩] 124))->Calls prog 48 #[.agg #[q0,q1,q2],.agg #[.bool true,S (gz k'.st),S (jm k'.cl)]] W λe w'=>e= .returned (.tuple #[.agg #[.bool true,S (gz k2.st),S (jm k2.cl)],.bool ok])/\Below (wr.drew.alloc (.cells #[.bool false,.string ⟨#[]⟩,.string ⟨#[]⟩] 124)).heap.size (wr.drew.alloc (.cells #[.bool false,.string ⟨#[]⟩,.string ⟨#[]⟩] 124)) w'/\w'.cell? ⟨wr.heap.size,0,none⟩=some (.bool false)/\w'.cell? ⟨wr.heap.size,1,none⟩=some (.string ⟨#[]⟩)/\w'.cell? ⟨wr.heap.size,2,none⟩=some (.string ⟨#[]⟩)/\w'.frozen? ⟨wr.heap.size,0,none⟩=false/\w'.frozen? ⟨wr.heap.size,1,none⟩=false/\w'.frozen? ⟨wr.heap.size,2,none⟩=false:=by
           rintro W rfl;apply(W4 _).mono;rintro e w' ⟨he,hb⟩;obtain⟨zb,_⟩:=KZ.out w' hb;refine⟨he,hb,Qm _ _ 0 _ _ _ zb,Qm _ _ 1 _ _ _ zb,Qm _ _ 2 _ _ _ zb,?_,?_,?_⟩<;>simp[World.frozen?,zb]
          have KG:Hid (∀W:World,PX wr W->(LU wr lb lg kb m pl q0 q1 q2 k' W)):=λW hb=>KX.out W (KZ.out W hb).2
          have KF:Hid (∀(W:World) (v0 v1 v2:Value),PX wr W->(LU wr lb lg kb m pl q0 q1 q2 k' (((W.setCell ⟨wr.heap.size,0,none⟩ v0).setCell ⟨wr.heap.size,1,none⟩ v1).setCell ⟨wr.heap.size,2,none⟩ v2))):=λW v0 v1 v2 hb=>KX.out _ ((((KZ.out W hb).2.setCell (Qn _) _).setCell (Qn _) _).setCell (Qn _) _)
          have hS0:(LU wr lb lg kb m pl q0 q1 q2 k' wr):=⟨Qq _ _,hrc,c0,c1,c2,kc0,kc1,kc2⟩;go_wp2_with fail;go_region_held3 (LU wr lb lg kb m pl q0 q1 q2 k') (first|with_reducible exact KD.out _ (by assumption)|with_reducible exact KP.out _ _ (by assumption) (by assumption)|with_reducible exact KP.out _ _ (by assumption) (KA.out _ _)|with_reducible exact KE.out _ _ (by assumption)|with_reducible exact KG.out _ (by assumption)|with_reducible exact KF.out _ _ _ _ (by assumption)|with_reducible assumption|go_keep)
           (first
            |(go_at_call 48;refine(W5 _ rfl).mono ?_;rintro e w5 ⟨rfl,hb5,z0,z1,z2,z3,z4,z5⟩)
            |(go_at_call 48;refine(W4 _).mono ?_;rintro e w5 ⟨rfl,hb5⟩))
          ·obtain⟨W6,hW6⟩:∃W6,w5.alloc (.cells #[.bool true,.string {data:=(gz k2.st).toArray},.string {data:=(jm k2.cl).toArray}] 124)=W6:=⟨_,rfl⟩;have hb6:Bl wr W6:=by rw[<-hW6];exact(KE.out w5 _ hb5).1
           have hm6:W6.heap[w5.heap.size]?=some (.cells #[.bool true,S (gz k2.st),S (jm k2.cl)] 124 (0,0)):=by rw[<-hW6];exact Qp w5 _
           rw[hW6];generalize w5.heap.size=mb at*;clear hW6 hb5;rename_i hHeld;clear hHeld;obtain⟨_,s1,s2,s3,s4,_,_,_⟩:=KX.out W6 hb6;have mc:=λj=>Qm W6 mb j _ _ _ hm6
           have m0:W6.cell? ⟨mb,0,none⟩=some (.bool true):=mc 0;have m1:W6.cell? ⟨mb,1,none⟩=some (S (gz k2.st)):=mc 1;have m2:W6.cell? ⟨mb,2,none⟩=some (S (jm k2.cl)):=mc 2;have f0:=HFr.out W6 (pl*3) hb6;have f1:=HFr.out W6 (pl*3+1) hb6;have f2:=HFr.out W6 (pl*3+2) hb6;have HB6:=Hi hb6;clear KP KD KX KA KE KZ KG KF W4 W5 hS0 mc hm6 HFr hrc c0 c1 c2 kc0 kc1 kc2;cases ok with
           |false=>
            have HRf:Hid (R=false):=HG.out.1 rfl;clear HG HPut;go_wp2;refine Qs (v:= .tuple #[.pointer none,Iq 7]) (by simp[results,results25,go_sem]) rfl ?_
            exact⟨by rw[<-HRR.out,HRf.out];rfl,HBl.out.trans (HB6.out.mono HBl.out.size)⟩
           |true=>
            obtain⟨come3,y1,y2,y3⟩:=HG.out.2 rfl;have HP:=Hi (HPut.out W6 come3 hb6 y1 y2 y3);clear HG HPut hb6 y1 y2 y3;go_wp2_with fail;go_region;go_wp2;go_roundw
            case rel=>exact⟨m+1,HML.out,by go_num,_,_,HP.out.below ((Qq _ _).drew)⟩
            case measure=>have:=HML.out;simp[intOf];omega
          obtain⟨W6,hW6⟩:∃W6,((w5.setCell ⟨wr.heap.size,0,none⟩ (.bool true)).setCell ⟨wr.heap.size,1,none⟩ (.string {data:=(gz k2.st).toArray})).setCell ⟨wr.heap.size,2,none⟩ (.string {data:=(jm k2.cl).toArray})=W6:=⟨_,rfl⟩;have hb6:Bl wr W6:=by rw[<-hW6];exact(KF.out w5 _ _ _ hb5).1
          have hm6:W6.heap[wr.heap.size]?=some (.cells #[.bool true,S (gz k2.st),S (jm k2.cl)] 124 (0,0)):=by
           rw[<-hW6];have e1:=QB w5 _ 0 _ _ (.bool true) (KZ.out w5 hb5).1;have e2:=QB _ _ 1 _ _ (.string {data:=(gz k2.st).toArray}) e1;exact QB _ _ 2 _ _ (.string {data:=(jm k2.cl).toArray}) e2
          rw[hW6];obtain⟨mb,hmb⟩:∃mb,wr.heap.size=mb:=⟨_,rfl⟩;rw[hmb] at hm6;rw[hmb];clear hW6 hb5 z0 z1 z2 z3 z4 z5;rename_i hHeld;clear hHeld;obtain⟨_,s1,s2,s3,s4,_,_,_⟩:=KX.out W6 hb6;have mc:=λj=>Qm W6 mb j _ _ _ hm6
          have m0:W6.cell? ⟨mb,0,none⟩=some (.bool true):=mc 0;have m1:W6.cell? ⟨mb,1,none⟩=some (S (gz k2.st)):=mc 1;have m2:W6.cell? ⟨mb,2,none⟩=some (S (jm k2.cl)):=mc 2;have f0:=HFr.out W6 (pl*3) hb6;have f1:=HFr.out W6 (pl*3+1) hb6;have f2:=HFr.out W6 (pl*3+2) hb6;have HB6:=Hi hb6;clear KP KD KX KA KE KZ KG KF W4 W5 hS0 mc hm6 HFr hrc c0 c1 c2 kc0 kc1 kc2;cases ok with
          |false=>
           have HRf:Hid (R=false):=HG.out.1 rfl;clear HG HPut;go_wp2;refine Qs (v:= .tuple #[.pointer none,Iq 7]) (by simp[results,results25,go_sem]) rfl ?_
           exact⟨by rw[<-HRR.out,HRf.out];rfl,HBl.out.trans (HB6.out.mono HBl.out.size)⟩
          |true=>
           obtain⟨come3,y1,y2,y3⟩:=HG.out.2 rfl;have HP:=Hi (HPut.out W6 come3 hb6 y1 y2 y3);clear HG HPut hb6 y1 y2 y3;go_wp2_with fail;go_region;go_wp2;go_roundw
           case rel=>exact⟨m+1,HML.out,by go_num,_,_,HP.out.below ((Qq _ _).drew)⟩
           case measure=>have:=HML.out;simp[intOf];omega
        obtain rfl:m=(fH x).length:=by omega
        have HN:Hid (Py b ins w wr sg lg (a+1) R):=by
         have hbr:=hJ.bri;rw[QG (by rw[HLI.out.1];have:=HLL.out;omega)] at hbr
         refine⟨ix+1,kl2,come2,⟨HFl.out.next HC.out hbg hJ.pc ?_,hJ.ty,hJ.kn,hJ.st,hJ.bel,HLo.out⟩⟩;rw[HRes.out,hbr];rfl
        clear hJ HJ HIn0;go_wp2;exact⟨⟨a+1,by omega,by go_num,HN.out⟩,by simp[intOf];omega⟩
   obtain rfl:a=b.length:=by omega
   have HR:Hid (R=true):=hI.fl.last HC.out;have HBl:=Hi hI.bel;clear hI HI HI0;go_wp2;refine Qs (v:= .tuple #[Pq wr.heap.size,Iq 0]) (by simp[results,results25,go_sem]) rfl ?_
   have hsz:=HBl.out.size;refine⟨?_,HBl.out.alloc hsz _⟩;rw[<-HRR.out,Qo HR.out];exact⟨_,hsz,rfl,Qp wr _⟩
theorem IS (b) (w:World):Calls prog 25 #[S b] w λe w'=>xo b w.heap.size (fD b) e w'/\Below w.heap.size w w':=by
 by_cases h:b.length<4\/4000<b.length\/cr b 0≠71\/24<cr b 1
 ·have e:fD b=none:=by unfold fD;rw[Qo h]
  rw[e];exact IP h w
 ·have z:4<=b.length:=by omega
  have A:b.length<=4000:=by omega
  have h3:cr b 0=71:=by omega
  have D:cr b 1<=24:=by omega
  cases q:qM (b.length+1) b 3 with
  |none=>
   have e:fD b=none:=by unfold fD;rw[Qj h,q]
   rw[e];exact EF z A h3 D q w
  |some ins=>
   have G:0<ins.length:=by
    rw[qM,Qj (by omega)] at q
    split at q
    ·cases E:qM b.length b (3+cG (cr b 3)) with
     |none=>rw[E] at q;cases q
     |some l=>rw[E] at q;cases q;simp
    ·cases q
   have e:fD b=if jw ins (cr b 1) ins 0 (iX (cr b 2) ins.length) then some ins else none:=by unfold fD;rw[Qj h,q]
   rw[e];exact EH z A h3 D q G w
theorem Lw {V c:Nat} (q:V<18446744073709551616) (z:c<256):IntKind.u64.wrap (IntKind.u64.wrap (V*256)+c)=((V*256+c) %18446744073709551616:Nat):=by
 unfold IntKind.wrap;simp[IntKind.signed,IntKind.bits]
def NF (l:List UInt8) (k:Nat):Nat:=fb l 0 k %18446744073709551616
theorem Cu (l) (hl:8<=l.length) (aa:l.length<=4000) (w):Calls prog 50 #[S l] w λe w'=>e= .returned (Iq (fe (fb l 0 8)))/\w'=w:=by
 have J:Hid (∀k,k<8->NF l k<18446744073709551616/\NF l (k+1)=(NF l k*256+cr l k) %18446744073709551616):=λk O=>by
  refine⟨Nat.mod_lt _ (by decide),?_⟩
  unfold NF;rw[fb,QO];omega
 have R:Hid (NF l 8=fb l 0 8/\fb l 0 8<18446744073709551616):=by
  have z:=ph l 0 8;have A:(256:Nat)^8=18446744073709551616:=by decide
  rw[A] at z;exact⟨Nat.mod_eq_of_lt z,z⟩
 go_enter func50,ntmps50;go_wp2_with fail
 go_loop [3,4] (λU D=> ∃k:Nat,k<=8/\D= Iq k/\U= .int .u64 (NF l k:Nat)) (λ_ D=>8 - (intOf D).toNat)
 case atStart=>exact⟨0,QA _,rfl,rfl⟩
 case round=>
  obtain⟨k,O,rfl,rfl⟩:=hrel
  by_cases E:k<8
  ·obtain⟨z,A⟩:=J.out k E
   have G:k<(ByteArray.mk l.toArray).size:=by show k<l.length;omega
   have ab:((ByteArray.mk l.toArray)[k]).toNat=cr l k:=ga l k G;have Y:cr l k<256:=eS l k;have I:=Hi (Lw z Y);have Z:=Hi A;have q0:(0:Int)<=(k:Int)/\(k:Int)<(l.length:Int):=by omega
   generalize NF l k=V at*;generalize cr l k=q at*
   go_wp2
   exact⟨⟨k+1,by omega,by go_num,by rw[I.out,Z.out]⟩,by simp[intOf];omega⟩
  ·obtain rfl:k=8:=by omega
   have HR:Hid (RowKit.wrap64 ((NF l 8:Nat):Int)=fe (fb l 0 8)):=by
    show _=_
    obtain⟨z,A⟩:=R.out;rw[z];unfold RowKit.wrap64 fe
    split<;>omega
   go_wp2
   go_ret;exact⟨da HR.out,rfl⟩
end
variable {cl n D z E G fl vs st O A J F q g v r u C i k f Y}
def pK (cl:List Int):Array Value:=((cl++List.replicate (256 - cl.length) 0).map (Value.int .i64)).toArray
theorem xr (h:cl.length<=256):(pK cl).size=256:=by unfold pK;simp;omega
theorem Lx (h:n<cl.length):(pK cl)[n]?=some (Iq (cl.getD n 0)):=by
 unfold pK;rw[Qx,QN,QT h,Qi,Ql h];rfl
theorem IT (h:n<cl.length) (v):(pK cl).setIfInBounds n (Iq v)=pK (cl.set n v):=by
 unfold pK;rw[Rx,<-List.set_append_left _ _ h,TI];simp
theorem EI (h:n<=256):madeCells #[Iq 0] 256=pK (List.replicate n 0):=by
 apply Array.ext
 ·rw[RT,xr (by simpa using h)]
 intro i A q;have e:(pK (List.replicate n 0))[i]?=some (Iq 0):=by
  rw[xr (by simpa using h)] at q
  unfold pK;rw[Qx,QN,Rl];by_cases z:i<n
  ·rw[QT (by simpa using z),Q8,Qo z];rfl
  rw[QQ (by simp;omega),Q8,Qo (by simp;omega)];rfl
 rw[Tu q] at e;injection e with e;rw[e];simp[madeCells,Tg]
def Pz:Array Value:= #[S [43],S [45],S [61],S [60],S [60,61]]
structure RJ (w wr:World) (cp gf gs gc:Nat) (b) (fl:List Int) (vs) (st cl:List Int):Prop where
 code:wr.heap[cp]?=some (.cells #[S b] 130 (0,0))
 sta:IR wr 2 vs st.reverse
 own:∀g,vs.ownBlock=some g->w.heap.size<=g/\g≠gf/\g≠gs/\g≠gc
 cel:wr.heap[gc]?=some (.cells (pK cl) 2 (0,0))
 fld:∀j,j<9->wr.cell? ⟨gf,j,none⟩=some (Iq (fl.getD j 0))
 sgn:wr.heap[gs]?=some (.cells Pz 9 (0,0))
 bel:Below w.heap.size w wr
 lo:cp<w.heap.size/\True/\w.heap.size<=gs/\w.heap.size<=gc/\gf<wr.heap.size/\gf≠gc
theorem RJ.below {w wr A:World} {b:LB} (h:RJ w wr D z E G b fl vs st cl) (q:Bl wr A):RJ w A D z E G b fl vs st cl:=
 ⟨(q.block _ (be h.code)).trans h.code,h.sta.only (cI.of_below q) (λ_ _ h=>h),h.own,(q.block _ (be h.cel)).trans h.cel,λj I=>by rw[q.cell h.lo.2.2.2.2.1];exact h.fld j I,(q.block _ (be h.sgn)).trans h.sgn,h.bel.trans (q.mono h.bel.size),⟨h.lo.1,h.lo.2.1,h.lo.2.2.1,h.lo.2.2.2.1,Rh h.lo.2.2.2.2.1 q.size,h.lo.2.2.2.2.2⟩⟩
theorem RJ.stack {w wr D:World} {b:LB} (h:RJ w wr O z E G b fl vs st cl) (R:cI F wr D) (Y:∀g,F g->vs.ownBlock=some g) (hs:IR D 2 A J.reverse) (U:∀g,A.ownBlock=some g->vs.ownBlock=some g\/wr.heap.size<=g):RJ w D O z E G b fl A J cl:=by
 obtain⟨l1,l2,l3,l4,Z,l6⟩:=h.lo;have I:∀q,q<wr.heap.size->(q<w.heap.size\/q=z\/q=E\/q=G)->D.heap[q]?=wr.heap[q]?:=λq hq hc=>R.block q hq (λf=>by
  obtain⟨o1,o2,o3,o4⟩:=h.own q (Y q f);omega)
 have ls:=h.bel.size;refine⟨(I O (by omega) (by omega)).trans h.code,hs,λg hg=>?_,(I G (be h.cel) (by omega)).trans h.cel,λj hj=>?_,(I E (be h.sgn) (by omega)).trans h.sgn,h.bel.trans (R.below h.bel.size (λk hk f=>(h.own k (Y k f)).1)),⟨l1,l2,l3,l4,Rh Z R.size,l6⟩⟩
 ·rcases U g hg with o|o
  ·exact h.own g o
  have:=be h.cel;have:=be h.sgn;omega
 rw[Qz (I z Z (by omega))];exact h.fld j hj
theorem RJ.form {w wr:World} {q z A D} {b:LB} {fl vs v r cl} (h:RJ w wr q z A D b fl vs (v::r) cl):∃g cap,vs= Sq g (r.length+1) cap/\r.length+1<=cap:=by
 obtain⟨g,cap,e,G⟩:=h.sta.form (by simp)
 have E:(v::r).reverse.length<=cap:=by have:=h.sta;rw[e] at this;exact this.cap
 refine⟨g,cap,by simpa using e,by simpa using E⟩
theorem RJ.top {w wr:World} {cap} {b:List UInt8} {fl:List Int} (h:RJ w wr q z A D b fl (Sq g (r.length+1) cap) (v::r) cl):wr.cell? ⟨g,r.length,none⟩=some (Iq v)/\ ∀j,wr.frozen? ⟨g,j,none⟩=false:=by
 refine⟨?_,λj=>h.sta.frz j⟩
 rw[h.sta.cell (k:=r.length) (by simp)]
 simp
theorem RJ.sec {w wr:World} {cap} {b:List UInt8} {fl:List Int} (h:RJ w wr q z A D b fl (Sq g (r.length+1+1) cap) (v::u::r) cl):wr.cell? ⟨g,r.length,none⟩=some (Iq u):=by
 rw[h.sta.cell (k:=r.length) (by simp)]
 simp[QW]
theorem RJ.pop {w wr:World} {z A D E g cap} {b:LB} {fl:List Int} {v r cl} (h:RJ w wr z A D E b fl (Sq g (r.length+1) cap) (v::r) cl):RJ w wr z A D E b fl (Sq g r.length cap) r cl:=by
 have G:=h.sta;rw[RI] at G;have I:IR wr 2 (Sq g (r.reverse.length+1) cap) (r.reverse++[v]):=by simpa using G
 have q:=I.pop;rw[Sj] at q;exact h.stack (cI.refl (λ_=>False) wr) (λ_ f=>f.elim) q (λO J=> .inl J)
theorem RJ.set1 {w wr:World} {cap} {b:LB} (h:RJ w wr A D E G b fl (Sq g (r.length+1) cap) (v::r) cl) (y:Int):RJ w (wr.setCell ⟨g,r.length,none⟩ (Iq y)) A D E G b fl (Sq g (r.length+1) cap) (y::r) cl:=by
 have I:IR wr 2 (Sq g (v::r).reverse.length cap) (v::r).reverse:=by simpa using h.sta
 have z:=I.set (j:=r.length) (by simp) y
 have e:(v::r).reverse.set r.length y=(y::r).reverse:=by
  rw[RI,RI,Sx _ _ (by simp)]
  simp
 rw[e] at z;exact h.stack ((cI.refl (λq=>q=g) wr).setCell (.inl rfl) _) (λq f=>by subst f;rfl) (by simpa using z) (λO J=> .inl J)
theorem RJ.set2 {w wr:World} {cap} {b:LB} (h:RJ w wr A D E G b fl (Sq g (r.length+1+1) cap) (v::u::r) cl) (y:Int):RJ w (wr.setCell ⟨g,r.length,none⟩ (Iq y)) A D E G b fl (Sq g (r.length+1+1) cap) (v::y::r) cl:=by
 have I:IR wr 2 (Sq g (v::u::r).reverse.length cap) (v::u::r).reverse:=by simpa using h.sta
 have z:=I.set (j:=r.length) (by simp) y
 have e:(v::u::r).reverse.set r.length y=(v::y::r).reverse:=by
  rw[RI,RI,RI,RI,QW,QW,Sx _ _ (by simp)]
  simp
 rw[e] at z;exact h.stack ((cI.refl (λq=>q=g) wr).setCell (.inl rfl) _) (λq f=>by subst f;rfl) (by simpa using z) (λO J=> .inl J)
theorem RJ.put {w wr:World} {b:LB} (h:RJ w wr G D E z b fl vs st cl) (U:n<cl.length) (v:Int):RJ w (wr.setCell ⟨z,n,none⟩ (Iq v)) G D E z b fl vs st (cl.set n v):=by
 obtain⟨V,Y,Z,I,l5,J⟩:=h.lo;have A:∀q,q≠z->(wr.setCell ⟨z,n,none⟩ (Iq v)).heap[q]?=wr.heap[q]?:=λq hq=>Qr _ _ _ _ (by simpa using hq)
 have O:E≠z:=λe=>by
  have R:=h.sgn;rw[e,h.cel] at R;simp at R
 refine⟨(A G (by omega)).trans h.code,?_,h.own,?_,λj hj=>?_,(A E O).trans h.sgn,h.bel.setCell (by simpa using I) _,⟨V,Y,Z,I,by simpa using l5,J⟩⟩
 ·exact h.sta.only ((cI.refl (λq=>q=z) wr).setCell (.inl rfl) _) (λg hg f=>(h.own g hg).2.2.2 f)
 ·rw[QB wr z n _ _ _ h.cel,IT U]
 rw[Qz (A D J)];exact h.fld j hj
theorem RJ.cell {w wr:World} {b:List UInt8} (h:RJ w wr z A D q b fl vs st cl) (E:n<cl.length):wr.cell? ⟨q,n,none⟩=some (Iq (cl.getD n 0))/\wr.frozen? ⟨q,n,none⟩=false:=by
 refine⟨?_,by simp[World.frozen?,h.cel]⟩
 rw[Qm wr q n _ _ _ h.cel,Lx E]
structure OP (b:List UInt8) (ins:List ek) (fl) (cells) (C:Nat->Option Kn) (A) (Ru St) (i) (k) (st cl) (f q):Prop where
 hi:i<ins.length
 hC:C i=some k
 fit:uE k cells st cl
 dep:st.length<=24
 le:q<=i
 run:rX ins fl f i st cl q=some (A,Ru,St)
theorem OP.stop {b:LB} {ins:List ek} {cells St} (h:OP b ins fl cells C A D St i k st cl f q) (E:(ins.getD i cH).op=17\/(ins.getD i cH).op=18):A=decide ((ins.getD i cH).op=17)/\D=(ins.getD i cH).n.toNat/\St=q+1:=by
 have z:=h.run;cases f with
 |zero=>simp[rX] at z
 |succ f=>
  rw[rX,Qo h.hi,Qo E] at z;simp only[QE,QS] at z;exact⟨z.1.symm,z.2.1.symm,z.2.2.symm⟩
theorem OP.step {b:LB} {ins cells St} (h:OP b ins fl cells C A Y St i k st cl f q) (G:fg b ins) (Z:cr b 2=cells) (ac:E<=24) (hF:dL fl) (hG:Good ins E 0 C) (I: ¬((ins.getD i cH).op=17\/(ins.getD i cH).op=18)):
 ∃k' st' cl' j t J f',eo (ins.getD i cH).op (ins.getD i cH).n.toNat k=some k'/\iP fl (ins.getD i cH) st cl=some (st',cl',j)/\(ins.getD t cH).pl=(if j then(ins.getD i cH).pl+3+(ins.getD i cH).n.toNat else(ins.getD i cH).pl+cG (ins.getD i cH).op)/\i<t/\OP b ins fl cells C A Y St t J st' cl' f' (q+1):=by
 have hx:=kf (G.each _ (gY h.hi));rw[Z] at hx;have z:=h.run;obtain⟨f',rfl⟩:∃f',f=f'+1:=by
  cases f with
  |zero=>simp[rX] at z
  |succ f'=>exact⟨f',rfl⟩
 rw[rX,Qo h.hi,Qj I] at z;obtain⟨k',R,ad,O⟩:=hG i (QA _) h.hi k h.hC;obtain⟨st',cl',j,hs,D,hj,aa⟩:=ti hx hF h.fit R I;rw[hs] at z;have U:=zG (ins:=ins) (i:=i) hj aa I;obtain⟨t,e,h1,h2,h3⟩:=O _ U;obtain⟨J,e2,e3,e4⟩:=h3 k' rfl;have V:uE J cells st' cl':=⟨by rw[e3];exact D.typ,D.cel.less e4,D.len⟩
 have ab:st'.length<=24:=by rw[D.typ.len];omega
 refine⟨k',st',cl',j,t,J,f',R,hs,?_,h1,⟨h2,e2,V,ab,by have:=h.le;omega,?_⟩⟩
 ·cases j with
  |true=>
   have e:gn ins (ins.getD i cH)=some t:=e;have:=vQ G h.hi e;rw[Qo rfl];exact this.2.2
  |false=>
   have e:(if i+1<ins.length then some (i+1) else none)=some t:=e;split at e
   ·rename_i g;simp at e;subst e;rw[Qj (by decide)]
    exact(py G.order i h.hi).1 g
   cases e
 cases j with
 |true=>
  have e:gn ins (ins.getD i cH)=some t:=e;simp only[] at z;rw[e] at z;exact z
 |false=>
  have e:(if i+1<ins.length then some (i+1) else none)=some t:=e;simp only[] at z;split at e
  ·simp at e;rw[<-e];exact z
  cases e
end Go.Proofs.YtfkdailfcmnjlaaGreatDoor
