/-
  A part.
-/
import Derived.Test.YtfkdailfcmnjlaaGreatDoorCompiles35
import Derived.Lib.SliceRun
set_option linter.all false
set_option maxHeartbeats 40000000
set_option maxRecDepth 1000000
namespace Go.Proofs.YtfkdailfcmnjlaaGreatDoor
open Go Go.RowKit Tryz
section
attribute [local go_sem ↓] Go.wp_at_zero Go.wp_at_succ
variable {w A D E G kb k' q ts v L m I J O z p U}
def tI (b:List UInt8) (q:Nat) (r:Option (List ey)) (e:Ending) (w':World):Prop:=match r with
 |none=>e= .returned (.tuple #[.pointer none,Iq 7])
 |some _=> ∃p,q<=p/\e= .returned (.tuple #[Pq p,Iq 0])/\w'.heap[p]?=some (.cells #[S b] 130 (0,0))
theorem Kg {b:LB} (h:b.length<4\/4000<b.length\/cy b 0≠71\/24<cy b 1) (w):
 Calls prog 25 #[S b] w λe w'=>e= .returned (.tuple #[.pointer none,Iq 7])/\Bl w w':=by
 have q:Hid (Bl w w):=RP _ _;by_cases G:b.length<4
 ·have z:b.length<4:=by omega
  go_enter func25,ntmps25;go_wp2;go_ret2;exact⟨rfl,q.out⟩
 by_cases I:4000<b.length
 ·have z:decide (b.length<4)=false:=by simp;omega
  have A:4000<b.length:=by omega
  go_enter func25,ntmps25;go_wp2;go_ret2;exact⟨rfl,q.out⟩
 have z:decide (b.length<4)=false:=by simp;omega
 have A:decide (4000<b.length)=false:=by simp;omega
 have D:0<(ByteArray.mk b.toArray).size:=by show 0<b.length;omega
 have a1:1<(ByteArray.mk b.toArray).size:=by show 1<b.length;omega
 have E:((ByteArray.mk b.toArray)[0]).toNat=cy b 0:=gq b 0 D;have J:((ByteArray.mk b.toArray)[1]).toNat=cy b 1:=gq b 1 a1;have O:1<b.length:=by omega
 have R:0<b.length:=by omega
 by_cases h3:cy b 0=71
 ·have U:24<cy b 1:=by omega
  rw[h3] at E;have V:24<(cy b 1):=by omega
  generalize cy b 1=u at*;go_enter func25,ntmps25;go_wp2;go_ret2;exact⟨rfl,q.out⟩
 have Y:((cy b 0) !=71)=true:=by simp;omega
 generalize cy b 0=u at*;go_enter func25,ntmps25;go_wp2;go_ret2;exact⟨rfl,q.out⟩
def Q4 (b:List UInt8) (ins:List ey) (w wr:World) (A D at_:Nat) (R:Bool):Prop:= ∃i E come,Ra b ins w wr A D at_ R i E come
theorem Kh (n):BA (List.replicate n 45)++BA [45]=BA (List.replicate (n+1) 45):=by
 rw[nD,<-List.replicate_succ']
theorem FT {b:LB} (G:4<=b.length) (I:b.length<=4000) (D:cy b 0=71) (J:cy b 1<=24) (E:pj (b.length+1) b 3=none) (w):
 Calls prog 25 #[S b] w λe w'=>e= .returned (.tuple #[.pointer none,Iq 7])/\Bl w w':=by
 have A:=xJ G I w;rw[E] at A;have Y:decide (b.length<4)=false:=by simp;omega
 have Z:decide (4000<b.length)=false:=by simp;omega
 have O:0<(ByteArray.mk b.toArray).size:=by show 0<b.length;omega
 have a1:1<(ByteArray.mk b.toArray).size:=by show 1<b.length;omega
 have R:((ByteArray.mk b.toArray)[0]).toNat=cy b 0:=gq b 0 O;have e1:((ByteArray.mk b.toArray)[1]).toNat=cy b 1:=gq b 1 a1;have q1:1<b.length:=by omega
 have q0:0<b.length:=by omega
 rw[D] at R;have n4:decide (24<(cy b 1))=false:=by simp;omega
 have V:=λw a n c=>Lib.run_eql_slice_nil w 120 4 a n c 0 0 underlying120
 generalize cy b 1=u at*;go_enter func25,ntmps25;go_wp2_with (
  go_at_call 45;apply A.mono;rintro e w1 ⟨q,z⟩;have q:e= .returned (.slice none 0 0):=q;subst q;have U:=Hi z;clear z A)
 go_ret2;exact⟨rfl,U.out⟩
def O7 (o:Option Kn) (k:Kn):Bool:=match o with
 |none=>true
 |some a=>decide (a.st=k.st)
def Ni (o:Option Kn) (k:Kn):Kn:=match o with
 |none=>k
 |some a=>⟨a.st,hU a.cl k.cl⟩
theorem FU (o) (k) (h3:ki k.st) (q:tK k.cl) (z:∀a,o=some a->ki a.st/\tK a.cl/\a.cl.length=k.cl.length/\a.cl.length<=255) (w):Calls prog 48 #[.agg #[Ol o,Om o,On o],.agg #[.bool true,S (gD k.st),S (jq k.cl)]] w λe w'=>e= .returned (.tuple #[.agg #[.bool true,S (gD (Ni o k).st),S (jq (Ni o k).cl)],.bool (O7 o k)])/\Bl w w':=by
 cases o with
 |none=>exact Jx [] [] k w
 |some a=>
  obtain⟨A,D,E,G⟩:=z a rfl;exact JA A D h3 q E G w
structure OF (b) (ins) (w wi) (sg lg kb:Nat) (k':Kn) (come0') (ts) (v) (L) (m) (kl come):Prop where
 pc:Kr b ins kl come
 ty:mT (cy b 2) come
 kn:ux wi lg kl
 st:wi.heap[sg]?=some (.cells (vt b.length ins) 4 (0,0))
 kk:wi.heap[kb]?=some (.cells #[.bool true,S (gD k'.st),S (jq k'.cl)] 124 (0,0))
 ne:kb≠lg
 row:IR wi 3 v L
 bel:Below w.heap.size w wi
 lo:w.heap.size<=lg
 bri:dU come0' k' ts=dU come k' (ts.drop m)
theorem OF.below {b:LB} {ins come} (h:OF b ins w A E G kb k' q ts v L m I come) (z:Bl A D):OF b ins w D E G kb k' q ts v L m I come:=
 ⟨h.pc,h.ty,h.kn.of_block (z.block _ h.kn.lt),(z.block _ (cq h.st)).trans h.st,(z.block _ (cq h.kk)).trans h.kk,h.ne,h.row.only (cK.of_below z) (λ_ _ h=>h),h.bel.trans (z.mono h.bel.size),h.lo,h.bri⟩
theorem OF.put {b:LB} {ins come} (h:OF b ins w J O A kb k' D ts v L m U come) (hp:p<b.length) (V:Kr b ins (U.set p (some E)) z) (Y:mT (cy b 2) z) (Z:dU come k' (ts.drop m)=dU z k' (ts.drop (m+1))):
 OF b ins w (((J.setCell ⟨A,p*3,none⟩ (.bool true)).setCell ⟨A,p*3+1,none⟩ (S (gD E.st))).setCell ⟨A,p*3+2,none⟩ (S (jq E.cl))) O A kb k' D ts v L (m+1) (U.set p (some E)) z:=by
 obtain⟨cs,R,_⟩:=h.kn.blk;have aa:O≠A:=λe=>by
  have h1:=h.st;rw[e,R] at h1;simp at h1
 have G:∀q,q≠A->(((J.setCell ⟨A,p*3,none⟩ (.bool true)).setCell ⟨A,p*3+1,none⟩ (S (gD E.st))).setCell ⟨A,p*3+2,none⟩ (S (jq E.cl))).heap[q]?=J.heap[q]?:=λq I=>by
  rw[RQ _ _ _ _ (by simpa using I),RQ _ _ _ _ (by simpa using I),RQ _ _ _ _ (by simpa using I)]
 refine⟨V,Y,h.kn.set (by rw[h.pc.plen];exact hp) (some E),(G O aa).trans h.st,(G kb h.ne).trans h.kk,h.ne,?_,((h.bel.setCell (by simpa using h.lo) _).setCell (by simpa using h.lo) _).setCell (by simpa using h.lo) _,h.lo,h.bri.trans Z⟩
 refine cO h.row (λq I=>G q (λe=>?_))
 subst e;exact h.row.ne R (by decide) I
abbrev Nj (wr:World) (z q kb m pl:Nat) (A D E:Value) (k':Kn) (W:World):Prop:=Below wr.heap.size wr W/\W.cell? ⟨z,m,none⟩=some (.int .i64 (pl:Nat))/\W.cell? ⟨q,pl*3,none⟩=some A/\W.cell? ⟨q,pl*3+1,none⟩=some D/\W.cell? ⟨q,pl*3+2,none⟩=some E/\W.cell? ⟨kb,0,none⟩=some (.bool true)/\W.cell? ⟨kb,1,none⟩=some (S (gD k'.st))/\W.cell? ⟨kb,2,none⟩=some (S (jq k'.cl))
abbrev Ro (wr W:World):Prop:=Below (wr.drew.alloc (.cells #[.bool false,.string ⟨#[]⟩,.string ⟨#[]⟩] 124)).heap.size (wr.drew.alloc (.cells #[.bool false,.string ⟨#[]⟩,.string ⟨#[]⟩] 124)) W
theorem FV {b:LB} {ins} (h4:4<=b.length) (h5:b.length<=4000) (h6:cy b 0=71) (h7:cy b 1<=24) (hd:pj (b.length+1) b 3=some ins) (h0:0<ins.length) (w:World):
 Calls prog 25 #[S b] w λe w'=>tI b w.heap.size (if iZ ins (cy b 1) ins 0 (iG (cy b 2) ins.length) then some ins else none) e w'/\Bl w w':=by
 have W1:=xJ h4 h5 w;rw[hd] at W1;have n1:decide ((b.length:Int)<4)=false:=by simp;omega
 have n2:decide ((4000:Int)<(b.length:Int))=false:=by simp;omega
 have a0:0<(ByteArray.mk b.toArray).size:=by show 0<b.length;omega
 have a1:1<(ByteArray.mk b.toArray).size:=by show 1<b.length;omega
 have a2:2<(ByteArray.mk b.toArray).size:=by show 2<b.length;omega
 have e0:((ByteArray.mk b.toArray)[0]).toNat=cy b 0:=gq b 0 a0;have e1:((ByteArray.mk b.toArray)[1]).toNat=cy b 1:=gq b 1 a1;have e2:((ByteArray.mk b.toArray)[2]).toNat=cy b 2:=gq b 2 a2;have q1:1<b.length:=by omega
 have q0:0<b.length:=by omega
 have q2:2<b.length:=by omega
 rw[h6] at e0;have n4:decide ((24:Int)<(cy b 1:Int))=false:=by simp;omega
 have hok:=wU _ hd (by omega)
 have HC:Hid (fz b ins):=⟨hok.1,hok.2⟩;have HF0:=Hi (GA.first (cy b 1) (cy b 2) HC.out h0)
 have hmk:=nC (P:=prog) 122 124 (.agg #[.bool false,.string ⟨#[]⟩,.string ⟨#[]⟩]) 3 40 underlying122 FA .i64 .i64 b.length (by omega) (by omega)
 generalize hR:iZ ins (cy b 1) ins 0 (iG (cy b 2) ins.length)=R at*;have hu2:=fq b 2;have HU:Hid (cy b 1<=24):=h7;clear h6 h7 hd hok hR;have heq:=λw a n c=>Lib.run_eql_slice_nil (P:=prog) w 120 4 a n c 0 0 underlying120
 generalize hc1:cy b 1=u at*;generalize hc2:cy b 2=c at*;have HE:Hid (cy b 1=u/\cy b 2=c):=⟨hc1,hc2⟩;clear hc1 hc2;generalize hRR:(if R=true then some ins else none)=RR;have HRR:=Hi hRR;clear hRR;go_enter func25,ntmps25;go_wp2_with (
  go_at_call 45;apply W1.mono;rintro e w1 ⟨hans,hbel⟩;obtain⟨sg,hsg,rfl,hst⟩:=hans;have HB:=Hi hbel;have HS:=Hi (And.intro hsg hst);clear hbel W1 hsg hst)
 go_loop [5,6] (λsv iv=> ∃i:Nat,i<=c/\iv= Iq i/\sv= .string (BA (List.replicate i 45))) (λ_ iv=>c - (intOf iv).toNat)
 case atStart=>exact⟨0,R0 _,rfl,rfl⟩
 case round=>
  obtain⟨i,hi,rfl,rfl⟩:=hrel;by_cases hlt:i<c
  ·have HD:Hid _:=Kh i;have hl45:(List.replicate i (45:UInt8)).length=i:=SH;go_wp2;exact⟨⟨i+1,by omega,by go_num,by rw[<-HD.out]⟩,by simp[intOf];omega⟩
  obtain rfl:i=c:=by omega
  obtain⟨w2,hw2⟩:∃w2,w1.alloc (.cells (madeCells (Value.agg #[.bool false,.string ⟨#[]⟩,.string ⟨#[]⟩]).cells (b.length*3)) 124)=w2:=⟨_,rfl⟩;have hk2:w2.heap[w1.heap.size]?=some (.cells (madeCells #[.bool false,.string ⟨#[]⟩,.string ⟨#[]⟩] (b.length*3)) 124 (0,0)):=by rw[<-hw2];exact RO w1 _
  have hka:=FB hk2;have hb2:Bl w1 w2:=by rw[<-hw2];exact(RP _ _).alloc (RL _) _
  have hrl:(List.replicate b.length (none:Option Kn)).length=b.length:=SH;have hg3:(List.replicate b.length (none:Option Kn)).getD 3 none=none:=by rw[RG,Sn];split<;>rfl
  have k0:=hka.c0 3 (by omega)
  have k1:=hka.c1 3 (by omega)
  have k2:=hka.c2 3 (by omega)
  rw[hg3] at k0 k1 k2;have c9:w2.cell? ⟨w1.heap.size,9,none⟩=some (.bool false):=k0;have c10:w2.cell? ⟨w1.heap.size,10,none⟩=some (S []):=k1;have c11:w2.cell? ⟨w1.heap.size,11,none⟩=some (S []):=k2;have f9:=hka.frz 9;have f10:=hka.frz 10;have f11:=hka.frz 11;have d10:∀v,(w2.setCell ⟨w1.heap.size,9,none⟩ v).cell? ⟨w1.heap.size,10,none⟩=some (S []):=λv=>by rw[cN _ _ _ _ _ (by decide)];exact c10
  have d11:∀v v',((w2.setCell ⟨w1.heap.size,9,none⟩ v).setCell ⟨w1.heap.size,10,none⟩ v').cell? ⟨w1.heap.size,11,none⟩=some (S []):=λv v'=>by rw[cN _ _ _ _ _ (by decide),cN _ _ _ _ _ (by decide)];exact c11
  have hmk1:=hmk w1;rw[hw2] at hmk1;clear hmk;clear k0 k1 k2;have hset:=hka.set (j:=3) (by omega) (some ⟨[],List.replicate i 0⟩)
  have HI0:Hid (Q4 b ins w (((w2.setCell ⟨w1.heap.size,9,none⟩ (.bool true)).setCell ⟨w1.heap.size,10,none⟩ (.string ⟨#[]⟩)).setCell ⟨w1.heap.size,11,none⟩ (.string (BA (List.replicate i 45)))) sg w1.heap.size 3 R):=by
   refine⟨0,(List.replicate b.length none).set 3 (some ⟨[],List.replicate i 0⟩),iG i ins.length,⟨?_,?_,?_,?_,?_,HS.out.1,HB.out.size⟩⟩
   ·rw[HE.out.1];exact HF0.out
   ·rw[HE.out.2];exact Da _ _
   ·have e:S (jq (List.replicate i 0))= .string (BA (List.replicate i 45)):=by simp[jq,List.map_replicate,rA]
    rw[<-e];exact hset
   ·have hlt:=cq HS.out.2;rw[RQ _ _ _ _ (by simp;omega),RQ _ _ _ _ (by simp;omega),RQ _ _ _ _ (by simp;omega)]
    exact(hb2.block _ hlt).trans HS.out.2
   have hsz:=HB.out.size;exact(((HB.out.trans (hb2.mono hsz)).setCell (by simpa using hsz) _).setCell (by simpa using hsz) _).setCell (by simpa using hsz) _
  clear hset hka hk2 hw2 hb2;go_wp2_with fail;clear hmk1 c9 c10 c11 f9 f10 f11 d10 d11;generalize hlg:w1.heap.size=lg at*;clear hlg;generalize (((w2.setCell ⟨lg,9,none⟩ (.bool true)).setCell ⟨lg,10,none⟩ (.string ⟨#[]⟩)).setCell ⟨lg,11,none⟩ (.string (BA (List.replicate i 45))))=W3 at*;go_loopw [8] (λav wr=> ∃a:Nat,a<=b.length/\av= Iq a/\Hid (Q4 b ins w wr sg lg a R)) (λav _=>b.length - (intOf av).toNat)
  case atStart=>exact⟨3,by omega,rfl,HI0.out⟩
  case round=>
   obtain⟨a,hal,rfl,HI⟩:=hrel;obtain⟨ix,kl,come,hI⟩:=HI.out;by_cases hat:a<b.length
   ·have q0:(0:Int)<=(a:Int)/\(a:Int)<(b.length:Int):=by omega
    have hsc:wr.cell? ⟨sg,a,none⟩=some (.bool (zr ins a)):=by rw[RM wr _ a _ _ _ hI.st,tx ins hat]
    have hkl:a<kl.length:=by rw[hI.fl.pc.plen];exact hat
    have hk0:=hI.kn.c0 a hkl;have hk1:=hI.kn.c1 a hkl;have hk2:=hI.kn.c2 a hkl;cases hbg:zr ins a with
    |false=>
     rw[hbg] at hsc;have HN:Hid (Q4 b ins w wr sg lg (a+1) R):=⟨ix,kl,come,hI.fl.skip hbg,hI.ty,hI.kn,hI.st,hI.bel,hI.lo⟩;clear hI HI HI0;go_wp2;exact⟨⟨a+1,by omega,by go_num,HN.out⟩,by simp[intOf];omega⟩
    |true=>
     rw[hbg] at hsc;obtain⟨hix,hxa,hsame,hdrop⟩:=hI.fl.here HC.out hbg;have hres:=hI.fl.res;rw[hdrop] at hres;cases hk:kl.getD a none with
     |none=>
      rw[hk] at hk0;replace hk0:wr.cell? ⟨lg,a*3,none⟩=some (.bool false):=hk0;have HN:Hid (Q4 b ins w wr sg lg (a+1) R):=⟨ix+1,kl,come,⟨hI.fl.next HC.out hbg hI.fl.pc (by rw[hres,iZ,<-hsame,hk]),hI.ty,hI.kn,hI.st,hI.bel,hI.lo⟩⟩
      clear hI HI HI0 hk1 hk2;go_wp2;exact⟨⟨a+1,by omega,by go_num,HN.out⟩,by simp[intOf];omega⟩
     |some k=>
      rw[hk] at hk0 hk1 hk2;replace hk0:wr.cell? ⟨lg,a*3,none⟩=some (.bool true):=hk0;replace hk1:wr.cell? ⟨lg,a*3+1,none⟩=some (S (gD k.st)):=hk1;replace hk2:wr.cell? ⟨lg,a*3+2,none⟩=some (S (jq k.cl)):=hk2;have hck:come.getD ix none=some k:=by rw[<-hsame];exact hk
      obtain⟨t1,t2,t3,t4⟩:=hI.ty ix k hck;have hxo:=HC.out.each _ (iA hix);have W2:=λw=>Jw (k:=k) hxo h5 (by omega) t3 t1 t2 w
      have W3:=λw=>JB hxo h5 w
      rw[hxa] at W2 W3;unfold po at W2;clear HI0 HI;generalize hx:ins.getD ix cI=x at*;rw[iZ,hck] at hres;simp only[] at hres;cases hdo:dZ x.op x.n.toNat k with
      |none=>
       rw[hdo] at W2 hres;have HRf:Hid (R=false):=hres;have HBl:=Hi hI.bel;clear hI hres hdo W3;go_wp2_with (
        go_at_call 46;apply(W2 _).mono;rintro e w3 ⟨hans,hb3⟩;obtain⟨s1,s2,rfl⟩:=hans;have HB3:=Hi hb3;clear hb3 W2)
       go_quiet (fail);go_wp2;refine RU (v:= .tuple #[.pointer none,Iq 7]) (by simp[results,results25,go_sem]) rfl ?_
       have hsz:=HBl.out.size;have hb3:=HBl.out.trans (HB3.out.mono hsz);refine⟨?_,below_drewN (hb3.alloc hb3.size _) _⟩;rw[<-HRR.out,HRf.out];rfl
      |some k'=>
       rw[hdo] at W2 hres;simp only[] at hres;obtain⟨y1,y2,y3⟩:=C6 (kD hxo).op t1 t2 hdo;have hkl':=fs k'.st;have hu1:=fq b 1;by_cases hdep:cy b 1<k'.st.length
       ·rw[RK hdep] at hres;have HRf:Hid (R=false):=hres;have HBl:=Hi hI.bel;have n5:(u:Int)<(k'.st.length:Int):=by have:=HE.out.1;omega
        have n6:u<256:=by have:=HE.out.1;omega
        clear hI hres hdo W3 hdep y1 y2 y3;go_wp2_with (
         go_at_call 46;apply(W2 _).mono;rintro e w3 ⟨hans,hb3⟩;have hans:e= .returned (.tuple #[po k',.bool true]):=hans;subst hans;unfold po;have HB3:=Hi hb3;clear hb3 W2)
        go_quiet (fail);go_wp2;refine RU (v:= .tuple #[.pointer none,Iq 7]) (by simp[results,results25,go_sem]) rfl ?_
        have hsz:=HBl.out.size;have hb3:=HBl.out.trans (HB3.out.mono hsz);refine⟨?_,below_drewN (hb3.alloc hb3.size _) _⟩;rw[<-HRR.out,HRf.out];rfl
       rw[RH hdep] at hres;have n5:decide ((u:Int)<(k'.st.length:Int))=false:=by have:=HE.out.1;simp;omega
       have n7: ¬(u<k'.st.length):=by have:=HE.out.1;omega
       have n6:u<256:=by have:=HE.out.1;omega
       go_wp2_with (
        go_at_call 46;apply(W2 _).mono;rintro e w3 ⟨hans,hb3⟩;have hans:e= .returned (.tuple #[po k',.bool true]):=hans;subst hans;unfold po;have HB3:=Hi hb3;clear hb3 W2)
       go_quiet (fail);go_wp2_with (
        go_at_call 47;apply(W3 _).mono;rintro e w4 ⟨⟨v,rfl,hrow⟩,hb4⟩;obtain⟨la,lcap,rfl⟩:=hrow.sl;have HRow:=Hi hrow;have HB4:=Hi hb4;clear hrow hb4 W3)
       have hb34:Bl wr w4:=by
        have q1:Bl wr ((w3.alloc (Obj.cells #[.bool true,.string {data:=(gD k'.st).toArray},.string {data:=(jq k'.cl).toArray}] 124)).drewN nq):=below_drewN (HB3.out.alloc HB3.out.size _) _;exact q1.trans (HB4.out.mono q1.size)
       have hkk:w4.heap[w3.heap.size]?=some (.cells #[.bool true,S (gD k'.st),S (jq k'.cl)] 124 (0,0)):=by
        refine(HB4.out.block _ (by simp)).trans ?_
        exact RO w3 _
       have HIn0:Hid (OF b ins w w4 sg lg w3.heap.size k' come (fb ins ix x) (.slice la (fW x).length lcap) (fW x) 0 kl come):=by
        have h2:=hI.below hb34;refine⟨h2.fl.pc,h2.ty,h2.kn,h2.st,hkk,?_,HRow.out,h2.bel,h2.lo.2,rfl⟩;have h3:=hI.kn.lt;have h4:=HB3.out.size;omega
       have HFl:=Hi hI.fl;have HLo:=Hi hI.lo;have HLI:=Hi (LZ HC.out hix);have HKT:Hid (ki k'.st/\tK k'.cl/\k'.cl.length=cy b 2/\k'.st.length<=24):=⟨y1,y2,by omega,by have:=HU.out;have:=HE.out.1;omega⟩
       have HRes:=Hi hres;have hL2:=EY x;have HLL:Hid ((fW x).length=(kK x).length):=by show _=_;simp[fW]
       rw[hx] at HLI;clear hb34 hkk HB3 HB4 HRow hI hres hk0 hk1 hk2 hsc t1 t2 t3 t4 y1 y2 y3 hdo n5 n7 hkl' hdep hck hsame hdrop hk hkl HS HF0;generalize w3.heap.size=kb at*;go_loopw [12] (λmv wi=> ∃m:Nat,m<=(fW x).length/\mv= Iq m/\Hid (∃kl2 come2,OF b ins w wi sg lg kb k' come (fb ins ix x) (.slice la (fW x).length lcap) (fW x) m kl2 come2)) (λmv _=>(fW x).length - (intOf mv).toNat)
       case atStart=>exact⟨0,R0 _,rfl,_,_,HIn0.out⟩
       case round=>
        obtain⟨m,hm,rfl,HJ⟩:=hrel;obtain⟨kl2,come2,hJ⟩:=HJ.out;by_cases hml:m<(fW x).length
        ·obtain⟨lb,lc2,e1,_⟩:=hJ.row.form (by omega)
         simp at e1;obtain⟨rfl,rfl⟩:=e1;have hrc:=hJ.row.cell hml;have hPl:=HLI.out.2 m (by have:=HLL.out;omega)
         have hgp:(fW x).getD m 0=(((kK x).getD m 0:Nat):Int):=by
          unfold fW;rw[RG,RG,Se];cases(kK x)[m]?<;>rfl
         rw[hgp] at hrc;have htl:m<(fb ins ix x).length:=by rw[HLI.out.1];have:=HLL.out;omega
         have hdm:(fb ins ix x).drop m=(fb ins ix x).getD m none::(fb ins ix x).drop (m+1):=by
          rw[R5 htl,RG,RI htl];rfl
         obtain⟨bs1,bs2⟩:=E6 hJ.pc HC.out hPl k' ((fb ins ix x).drop (m+1));rw[<-hdm] at bs1 bs2;have hbri:=hJ.bri;generalize hgo:(fb ins ix x).getD m none=o at*;generalize (kK x).getD m 0=pl at*;have hmb:(0:Int)<=(m:Int)/\(m:Int)<((fW x).length:Int):=by omega
         have HML:Hid (m+1<=(fW x).length):=by show _<=_;omega
         have hm2:m<=2:=by have:=HLL.out;omega
         cases o with
         |none=>
          obtain⟨g1,g2⟩:=bs1 rfl;have HRf:Hid (R=false):=by
           show R=false;rw[HRes.out,hbri,g2]
          have HBl:=Hi hJ.bel;by_cases hpl:b.length<=pl
          ·have n5:(b.length:Int)<=(pl:Int):=by omega
           clear hJ HJ HIn0 bs1 bs2 hbri g1 g2 hdm;go_wp2;refine RU (v:= .tuple #[.pointer none,Iq 7]) (by simp[results,results25,go_sem]) rfl ?_
           exact⟨by rw[<-HRR.out,HRf.out];rfl,HBl.out⟩
          have g3:zr ins pl=false:=by
           rcases g1 with g|g
           ·exact absurd g hpl
           exact g
          have hlt:pl<b.length:=by omega
          have hsc:wr.cell? ⟨sg,pl,none⟩=some (.bool false):=by rw[RM wr _ pl _ _ _ hJ.st,tx ins hlt,g3]
          have n6:(0:Int)<=(pl:Int)/\(pl:Int)<(b.length:Int):=by omega
          clear hJ HJ HIn0 bs1 bs2 hbri g1 g2 hdm;go_wp2;refine RU (v:= .tuple #[.pointer none,Iq 7]) (by simp[results,results25,go_sem]) rfl ?_
          exact⟨by rw[<-HRR.out,HRf.out];rfl,HBl.out⟩
         |some j=>
          obtain⟨hlt,g3,hj,g4,g5⟩:=bs2 j rfl;have hsc:wr.cell? ⟨sg,pl,none⟩=some (.bool true):=by rw[RM wr _ pl _ _ _ hJ.st,tx ins hlt,g3]
          have n6:(0:Int)<=(pl:Int)/\(pl:Int)<(b.length:Int):=by omega
          have hpk:pl<kl2.length:=by rw[hJ.pc.plen];exact hlt
          have c0:=hJ.kn.c0 pl hpk;have c1:=hJ.kn.c1 pl hpk;have c2:=hJ.kn.c2 pl hpk;have kc:=λj=>RM wr kb j _ _ _ hJ.kk
          have kc0:wr.cell? ⟨kb,0,none⟩=some (.bool true):=kc 0;have kc1:wr.cell? ⟨kb,1,none⟩=some (S (gD k'.st)):=kc 1;have kc2:wr.cell? ⟨kb,2,none⟩=some (S (jq k'.cl)):=kc 2;clear kc;generalize hkp:kl2.getD pl none=o2 at*;have HG:Hid ((O7 o2 k'=false->R=false)/\(O7 o2 k'=true-> ∃come3,dU come2 k' ((fb ins ix x).drop m)=dU come3 k' ((fb ins ix x).drop (m+1))/\Kr b ins (kl2.set pl (some (Ni o2 k'))) come3/\mT (cy b 2) come3)):=by
           cases o2 with
           |none=>
            refine⟨λh=>by simp[O7] at h,λ_=>?_⟩
            obtain⟨q1,q2⟩:=g4 rfl;exact⟨_,q1,q2,hJ.ty.set HKT.out⟩
           |some a2=>
            obtain⟨q1,q2,q3⟩:=g5 a2 rfl;refine⟨λh=>?_,λh=>?_⟩
            ·have h: ¬a2.st=k'.st:=by simpa [O7] using h
             rw[HRes.out,hbri,q2 h]
            have h:a2.st=k'.st:=by simpa [O7] using h
            obtain⟨q4,q5⟩:=q3 h;obtain⟨t1,t2,t3,t4⟩:=hJ.ty j a2 q1;exact⟨_,q4,q5,hJ.ty.set ⟨t1,C9 t2,by simp[hU];have:=HKT.out.2.2.1;omega,t4⟩⟩
          have W4:∀w,Calls prog 48 #[.agg #[Ol o2,Om o2,On o2],.agg #[.bool true,S (gD k'.st),S (jq k'.cl)]] w λe w'=>e= .returned (.tuple #[.agg #[.bool true,S (gD (Ni o2 k').st),S (jq (Ni o2 k').cl)],.bool (O7 o2 k')])/\Bl w w':=λw=>by
           refine FU o2 k' HKT.out.1 HKT.out.2.1 (λa2 ha=>?_) w
           obtain⟨q1,_⟩:=g5 a2 ha;obtain⟨t1,t2,t3,t4⟩:=hJ.ty j a2 q1;have:=HKT.out.2.2.1;exact⟨t1,t2,by omega,by have:=fq b 2;omega⟩
          have HPut:Hid (∀W come3,Bl wr W->dU come2 k' ((fb ins ix x).drop m)=dU come3 k' ((fb ins ix x).drop (m+1))->Kr b ins (kl2.set pl (some (Ni o2 k'))) come3->mT (cy b 2) come3->OF b ins w (((W.setCell ⟨lg,pl*3,none⟩ (.bool true)).setCell ⟨lg,pl*3+1,none⟩ (S (gD (Ni o2 k').st))).setCell ⟨lg,pl*3+2,none⟩ (S (jq (Ni o2 k').cl))) sg lg kb k' come (fb ins ix x) (Sq lb (fW x).length lcap) (fW x) (m+1) (kl2.set pl (some (Ni o2 k'))) come3):=λW come3 hb h1 h2 h3=>(hJ.below hb).put hlt h2 h3 h1
          have HFr:Hid (∀W j,Bl wr W->W.frozen? ⟨lg,j,none⟩=false):=λW j hb=>(hJ.kn.of_block (hb.block _ hJ.kn.lt)).frz j
          have HBl:=Hi hJ.bel;clear hJ HJ HIn0 bs1 bs2 hbri hdm g4 g5 g3 hkp;generalize Ol o2=q0 at*;generalize Om o2=q1 at*;generalize On o2=q2 at*;generalize O7 o2 k'=ok at*;generalize Ni o2 k'=k2 at*;have KP:Hid (∀W W':World,(Nj wr lb lg kb m pl q0 q1 q2 k' W)->Bl W W'->(Nj wr lb lg kb m pl q0 q1 q2 k' W')):=λW W' hS hb=>by
           obtain⟨s0,s1,s2,s3,s4,s5,s6,s7⟩:=hS;refine⟨s0.trans (hb.mono s0.size),?_,?_,?_,?_,?_,?_,?_⟩<;>(rw[hb.cell (RN W _ (by assumption))];assumption)
          have KD:Hid (∀W:World,(Nj wr lb lg kb m pl q0 q1 q2 k' W)->(Nj wr lb lg kb m pl q0 q1 q2 k' (W.drew))):=λW hS=>⟨hS.1.drew,hS.2⟩
          have KX:Hid (∀W:World,Bl wr W->(Nj wr lb lg kb m pl q0 q1 q2 k' W)):=λW hb=>KP.out wr W ⟨RP _ _,hrc,c0,c1,c2,kc0,kc1,kc2⟩ hb
          have KA:Hid (∀(W:World) (o:Obj),Bl W (W.alloc o)):=λW o=>(RP _ _).alloc (RL _) _
          have KE:Hid (∀(W:World) (o:Obj),Below wr.drew.heap.size wr.drew W->(Nj wr lb lg kb m pl q0 q1 q2 k' (W.alloc o))):=λW o hb=>KX.out _ (Below.alloc (a:=wr) ⟨hb.os,hb.tape,hb.output,hb.size,hb.block⟩ hb.size _)
          have KZ:Hid (∀W:World,Ro wr W->W.heap[wr.heap.size]?=some (.cells #[.bool false,.string ⟨#[]⟩,.string ⟨#[]⟩] 124 (0,0))/\Bl wr W):=λW hb=>by
           refine⟨(hb.block _ (by simp)).trans (RO wr.drew _),?_⟩
           have q:Bl wr (wr.drew.alloc (.cells #[.bool false,.string ⟨#[]⟩,.string ⟨#[]⟩] 124)):=((RP _ wr).drew).alloc (RL _) _;exact q.trans (hb.mono q.size)
          have W5:∀W,W=(wr.drew.alloc (.cells #[.bool false,.string ⟨#[]⟩,.string ⟨#[]⟩] 124))->Calls prog 48 #[.agg #[q0,q1,q2],.agg #[.bool true,S (gD k'.st),S (jq k'.cl)]] W λe w'=>e= .returned (.tuple #[.agg #[.bool true,S (gD k2.st),S (jq k2.cl)],.bool ok])/\Below (wr.drew.alloc (.cells #[.bool false,.string ⟨#[]⟩,.string ⟨#[]⟩] 124)).heap.size (wr.drew.alloc (.cells #[.bool false,.string ⟨#[]⟩,.string ⟨#[]⟩] 124)) w'/\w'.cell? ⟨wr.heap.size,0,none⟩=some (.bool false)/\w'.cell? ⟨wr.heap.size,1,none⟩=some (.string ⟨#[]⟩)/\w'.cell? ⟨wr.heap.size,2,none⟩=some (.string ⟨#[]⟩)/\w'.frozen? ⟨wr.heap.size,0,none⟩=false/\w'.frozen? ⟨wr.heap.size,1,none⟩=false/\w'.frozen? ⟨wr.heap.size,2,none⟩=false:=by
           rintro W rfl;apply(W4 _).mono;rintro e w' ⟨he,hb⟩;obtain⟨zb,_⟩:=KZ.out w' hb;refine⟨he,hb,RM _ _ 0 _ _ _ zb,RM _ _ 1 _ _ _ zb,RM _ _ 2 _ _ _ zb,?_,?_,?_⟩<;>simp[World.frozen?,zb]
          have KG:Hid (∀W:World,Ro wr W->(Nj wr lb lg kb m pl q0 q1 q2 k' W)):=λW hb=>KX.out W (KZ.out W hb).2
          have KF:Hid (∀(W:World) (v0 v1 v2:Value),Ro wr W->(Nj wr lb lg kb m pl q0 q1 q2 k' (((W.setCell ⟨wr.heap.size,0,none⟩ v0).setCell ⟨wr.heap.size,1,none⟩ v1).setCell ⟨wr.heap.size,2,none⟩ v2))):=λW v0 v1 v2 hb=>KX.out _ ((((KZ.out W hb).2.setCell (RL _) _).setCell (RL _) _).setCell (RL _) _)
          have hS0:(Nj wr lb lg kb m pl q0 q1 q2 k' wr):=⟨RP _ _,hrc,c0,c1,c2,kc0,kc1,kc2⟩;go_wp2_with fail;go_region_held3 (Nj wr lb lg kb m pl q0 q1 q2 k') (first|with_reducible exact KD.out _ (by assumption)|with_reducible exact KP.out _ _ (by assumption) (by assumption)|with_reducible exact KP.out _ _ (by assumption) (KA.out _ _)|with_reducible exact KE.out _ _ (by assumption)|with_reducible exact KG.out _ (by assumption)|with_reducible exact KF.out _ _ _ _ (by assumption)|with_reducible assumption|go_keep)
           (first
            |(go_at_call 48;refine(W5 _ rfl).mono ?_;rintro e w5 ⟨rfl,hb5,z0,z1,z2,z3,z4,z5⟩)
            |(go_at_call 48;refine(W4 _).mono ?_;rintro e w5 ⟨rfl,hb5⟩))
          ·obtain⟨W6,hW6⟩:∃W6,w5.alloc (.cells #[.bool true,.string {data:=(gD k2.st).toArray},.string {data:=(jq k2.cl).toArray}] 124)=W6:=⟨_,rfl⟩;have hb6:Bl wr W6:=by rw[<-hW6];exact(KE.out w5 _ hb5).1
           have hm6:W6.heap[w5.heap.size]?=some (.cells #[.bool true,S (gD k2.st),S (jq k2.cl)] 124 (0,0)):=by rw[<-hW6];exact RO w5 _
           rw[hW6];generalize w5.heap.size=mb at*;clear hW6 hb5;rename_i hHeld;clear hHeld;obtain⟨_,s1,s2,s3,s4,_,_,_⟩:=KX.out W6 hb6;have mc:=λj=>RM W6 mb j _ _ _ hm6
           have m0:W6.cell? ⟨mb,0,none⟩=some (.bool true):=mc 0;have m1:W6.cell? ⟨mb,1,none⟩=some (S (gD k2.st)):=mc 1;have m2:W6.cell? ⟨mb,2,none⟩=some (S (jq k2.cl)):=mc 2;have f0:=HFr.out W6 (pl*3) hb6;have f1:=HFr.out W6 (pl*3+1) hb6;have f2:=HFr.out W6 (pl*3+2) hb6;have HB6:=Hi hb6;clear KP KD KX KA KE KZ KG KF W4 W5 hS0 mc hm6 HFr hrc c0 c1 c2 kc0 kc1 kc2;cases ok with
           |false=>
            have HRf:Hid (R=false):=HG.out.1 rfl;clear HG HPut;go_wp2;refine RU (v:= .tuple #[.pointer none,Iq 7]) (by simp[results,results25,go_sem]) rfl ?_
            exact⟨by rw[<-HRR.out,HRf.out];rfl,HBl.out.trans (HB6.out.mono HBl.out.size)⟩
           |true=>
            obtain⟨come3,y1,y2,y3⟩:=HG.out.2 rfl;have HP:=Hi (HPut.out W6 come3 hb6 y1 y2 y3);clear HG HPut hb6 y1 y2 y3;go_wp2_with fail;go_region;go_wp2;go_roundw
            case rel=>exact⟨m+1,HML.out,by go_num,_,_,HP.out.below ((RP _ _).drew)⟩
            case measure=>have:=HML.out;simp[intOf];omega
          obtain⟨W6,hW6⟩:∃W6,((w5.setCell ⟨wr.heap.size,0,none⟩ (.bool true)).setCell ⟨wr.heap.size,1,none⟩ (.string {data:=(gD k2.st).toArray})).setCell ⟨wr.heap.size,2,none⟩ (.string {data:=(jq k2.cl).toArray})=W6:=⟨_,rfl⟩;have hb6:Bl wr W6:=by rw[<-hW6];exact(KF.out w5 _ _ _ hb5).1
          have hm6:W6.heap[wr.heap.size]?=some (.cells #[.bool true,S (gD k2.st),S (jq k2.cl)] 124 (0,0)):=by
           rw[<-hW6];have e1:=R3 w5 _ 0 _ _ (.bool true) (KZ.out w5 hb5).1;have e2:=R3 _ _ 1 _ _ (.string {data:=(gD k2.st).toArray}) e1;exact R3 _ _ 2 _ _ (.string {data:=(jq k2.cl).toArray}) e2
          rw[hW6];obtain⟨mb,hmb⟩:∃mb,wr.heap.size=mb:=⟨_,rfl⟩;rw[hmb] at hm6;rw[hmb];clear hW6 hb5 z0 z1 z2 z3 z4 z5;rename_i hHeld;clear hHeld;obtain⟨_,s1,s2,s3,s4,_,_,_⟩:=KX.out W6 hb6;have mc:=λj=>RM W6 mb j _ _ _ hm6
          have m0:W6.cell? ⟨mb,0,none⟩=some (.bool true):=mc 0;have m1:W6.cell? ⟨mb,1,none⟩=some (S (gD k2.st)):=mc 1;have m2:W6.cell? ⟨mb,2,none⟩=some (S (jq k2.cl)):=mc 2;have f0:=HFr.out W6 (pl*3) hb6;have f1:=HFr.out W6 (pl*3+1) hb6;have f2:=HFr.out W6 (pl*3+2) hb6;have HB6:=Hi hb6;clear KP KD KX KA KE KZ KG KF W4 W5 hS0 mc hm6 HFr hrc c0 c1 c2 kc0 kc1 kc2;cases ok with
          |false=>
           have HRf:Hid (R=false):=HG.out.1 rfl;clear HG HPut;go_wp2;refine RU (v:= .tuple #[.pointer none,Iq 7]) (by simp[results,results25,go_sem]) rfl ?_
           exact⟨by rw[<-HRR.out,HRf.out];rfl,HBl.out.trans (HB6.out.mono HBl.out.size)⟩
          |true=>
           obtain⟨come3,y1,y2,y3⟩:=HG.out.2 rfl;have HP:=Hi (HPut.out W6 come3 hb6 y1 y2 y3);clear HG HPut hb6 y1 y2 y3;go_wp2_with fail;go_region;go_wp2;go_roundw
           case rel=>exact⟨m+1,HML.out,by go_num,_,_,HP.out.below ((RP _ _).drew)⟩
           case measure=>have:=HML.out;simp[intOf];omega
        obtain rfl:m=(fW x).length:=by omega
        have HN:Hid (Q4 b ins w wr sg lg (a+1) R):=by
         have hbr:=hJ.bri;rw[R8 (by rw[HLI.out.1];have:=HLL.out;omega)] at hbr
         refine⟨ix+1,kl2,come2,⟨HFl.out.next HC.out hbg hJ.pc ?_,hJ.ty,hJ.kn,hJ.st,hJ.bel,HLo.out⟩⟩;rw[HRes.out,hbr];rfl
        clear hJ HJ HIn0;go_wp2;exact⟨⟨a+1,by omega,by go_num,HN.out⟩,by simp[intOf];omega⟩
   obtain rfl:a=b.length:=by omega
   have HR:Hid (R=true):=hI.fl.last HC.out;have HBl:=Hi hI.bel;clear hI HI HI0;go_wp2;refine RU (v:= .tuple #[Pq wr.heap.size,Iq 0]) (by simp[results,results25,go_sem]) rfl ?_
   have hsz:=HBl.out.size;refine⟨?_,HBl.out.alloc hsz _⟩;rw[<-HRR.out,RK HR.out];exact⟨_,hsz,rfl,RO wr _⟩
theorem zQ (b) (w:World):Calls prog 25 #[S b] w λe w'=>tI b w.heap.size (fE b) e w'/\Below w.heap.size w w':=by
 by_cases h:b.length<4\/4000<b.length\/cy b 0≠71\/24<cy b 1
 ·have e:fE b=none:=by unfold fE;rw[RK h]
  rw[e];exact Kg h w
 ·have z:4<=b.length:=by omega
  have A:b.length<=4000:=by omega
  have h3:cy b 0=71:=by omega
  have D:cy b 1<=24:=by omega
  cases q:pj (b.length+1) b 3 with
  |none=>
   have e:fE b=none:=by unfold fE;rw[RH h,q]
   rw[e];exact FT z A h3 D q w
  |some ins=>
   have G:0<ins.length:=by
    rw[pj,RH (by omega)] at q
    split at q
    ·cases E:pj b.length b (3+cE (cy b 3)) with
     |none=>rw[E] at q;cases q
     |some l=>rw[E] at q;cases q;simp
    ·cases q
   have e:fE b=if iZ ins (cy b 1) ins 0 (iG (cy b 2) ins.length) then some ins else none:=by unfold fE;rw[RH h,q]
   rw[e];exact FV z A h3 D q G w
theorem M6 {V c:Nat} (q:V<18446744073709551616) (z:c<256):IntKind.u64.wrap (IntKind.u64.wrap (V*256)+c)=((V*256+c) %18446744073709551616:Nat):=by
 unfold IntKind.wrap;simp[IntKind.signed,IntKind.bits]
def O8 (l:List UInt8) (k:Nat):Nat:=eO l 0 k %18446744073709551616
theorem DD (l) (hl:8<=l.length) (aa:l.length<=4000) (w):Calls prog 50 #[S l] w λe w'=>e= .returned (Iq (fg (eO l 0 8)))/\w'=w:=by
 have J:Hid (∀k,k<8->O8 l k<18446744073709551616/\O8 l (k+1)=(O8 l k*256+cy l k) %18446744073709551616):=λk O=>by
  refine⟨Nat.mod_lt _ (by decide),?_⟩
  unfold O8;rw[eO,Sw];omega
 have R:Hid (O8 l 8=eO l 0 8/\eO l 0 8<18446744073709551616):=by
  have z:=pS l 0 8;have A:(256:Nat)^8=18446744073709551616:=by decide
  rw[A] at z;exact⟨Nat.mod_eq_of_lt z,z⟩
 go_enter func50,ntmps50;go_wp2_with fail
 go_loop [3,4] (λU D=> ∃k:Nat,k<=8/\D= Iq k/\U= .int .u64 (O8 l k:Nat)) (λ_ D=>8 - (intOf D).toNat)
 case atStart=>exact⟨0,R0 _,rfl,rfl⟩
 case round=>
  obtain⟨k,O,rfl,rfl⟩:=hrel
  by_cases E:k<8
  ·obtain⟨z,A⟩:=J.out k E
   have G:k<(ByteArray.mk l.toArray).size:=by show k<l.length;omega
   have ab:((ByteArray.mk l.toArray)[k]).toNat=cy l k:=gq l k G;have Y:cy l k<256:=fq l k;have I:=Hi (M6 z Y);have Z:=Hi A;have q0:(0:Int)<=(k:Int)/\(k:Int)<(l.length:Int):=by omega
   generalize O8 l k=V at*;generalize cy l k=q at*
   go_wp2
   exact⟨⟨k+1,by omega,by go_num,by rw[I.out,Z.out]⟩,by simp[intOf];omega⟩
  ·obtain rfl:k=8:=by omega
   have HR:Hid (RowKit.wrap64 ((O8 l 8:Nat):Int)=fg (eO l 0 8)):=by
    show _=_
    obtain⟨z,A⟩:=R.out;rw[z];unfold RowKit.wrap64 fg
    split<;>omega
   go_wp2
   go_ret;exact⟨dh HR.out,rfl⟩
end
variable {cl n D z E G fl vs st O A J F q g v r u C i k f Y}
def qh (cl:List Int):Array Value:=((cl++List.replicate (256 - cl.length) 0).map (Value.int .i64)).toArray
theorem xY (h:cl.length<=256):(qh cl).size=256:=by unfold qh;simp;omega
theorem M7 (h:n<cl.length):(qh cl)[n]?=some (Iq (cl.getD n 0)):=by
 unfold qh;rw[RY,Se,Si h,RG,RI h];rfl
theorem Ki (h:n<cl.length) (v):(qh cl).setIfInBounds n (Iq v)=qh (cl.set n v):=by
 unfold qh;rw[SW,<-List.set_append_left _ _ h,Ve];simp
theorem FW (h:n<=256):madeCells #[Iq 0] 256=qh (List.replicate n 0):=by
 apply Array.ext
 ·rw[TE,xY (by simpa using h)]
 intro i A q;have e:(qh (List.replicate n 0))[i]?=some (Iq 0):=by
  rw[xY (by simpa using h)] at q
  unfold qh;rw[RY,Se,SH];by_cases z:i<n
  ·rw[Si (by simpa using z),Sn,RK z];rfl
  rw[Sg (by simp;omega),Sn,RK (by simp;omega)];rfl
 rw[U0 q] at e;injection e with e;rw[e];simp[madeCells,UN]
def Q5:Array Value:= #[S [43],S [45],S [61],S [60],S [60,61]]
structure RJ (w wr:World) (cp gf gs gc:Nat) (b) (fl:List Int) (vs) (st cl:List Int):Prop where
 code:wr.heap[cp]?=some (.cells #[S b] 130 (0,0))
 sta:IR wr 2 vs st.reverse
 own:∀g,vs.ownBlock=some g->w.heap.size<=g/\g≠gf/\g≠gs/\g≠gc
 cel:wr.heap[gc]?=some (.cells (qh cl) 2 (0,0))
 fld:∀j,j<9->wr.cell? ⟨gf,j,none⟩=some (Iq (fl.getD j 0))
 sgn:wr.heap[gs]?=some (.cells Q5 9 (0,0))
 bel:Below w.heap.size w wr
 lo:cp<w.heap.size/\True/\w.heap.size<=gs/\w.heap.size<=gc/\gf<wr.heap.size/\gf≠gc
theorem RJ.below {w wr A:World} {b:LB} (h:RJ w wr D z E G b fl vs st cl) (q:Bl wr A):RJ w A D z E G b fl vs st cl:=
 ⟨(q.block _ (cq h.code)).trans h.code,h.sta.only (cK.of_below q) (λ_ _ h=>h),h.own,(q.block _ (cq h.cel)).trans h.cel,λj I=>by rw[q.cell h.lo.2.2.2.2.1];exact h.fld j I,(q.block _ (cq h.sgn)).trans h.sgn,h.bel.trans (q.mono h.bel.size),⟨h.lo.1,h.lo.2.1,h.lo.2.2.1,h.lo.2.2.2.1,SL h.lo.2.2.2.2.1 q.size,h.lo.2.2.2.2.2⟩⟩
theorem RJ.stack {w wr D:World} {b:LB} (h:RJ w wr O z E G b fl vs st cl) (R:cK F wr D) (Y:∀g,F g->vs.ownBlock=some g) (hs:IR D 2 A J.reverse) (U:∀g,A.ownBlock=some g->vs.ownBlock=some g\/wr.heap.size<=g):RJ w D O z E G b fl A J cl:=by
 obtain⟨l1,l2,l3,l4,Z,l6⟩:=h.lo;have I:∀q,q<wr.heap.size->(q<w.heap.size\/q=z\/q=E\/q=G)->D.heap[q]?=wr.heap[q]?:=λq hq hc=>R.block q hq (λf=>by
  obtain⟨o1,o2,o3,o4⟩:=h.own q (Y q f);omega)
 have ls:=h.bel.size;refine⟨(I O (by omega) (by omega)).trans h.code,hs,λg hg=>?_,(I G (cq h.cel) (by omega)).trans h.cel,λj hj=>?_,(I E (cq h.sgn) (by omega)).trans h.sgn,h.bel.trans (R.below h.bel.size (λk hk f=>(h.own k (Y k f)).1)),⟨l1,l2,l3,l4,SL Z R.size,l6⟩⟩
 ·rcases U g hg with o|o
  ·exact h.own g o
  have:=cq h.cel;have:=cq h.sgn;omega
 rw[R1 (I z Z (by omega))];exact h.fld j hj
theorem RJ.form {w wr:World} {q z A D} {b:LB} {fl vs v r cl} (h:RJ w wr q z A D b fl vs (v::r) cl):∃g cap,vs= Sq g (r.length+1) cap/\r.length+1<=cap:=by
 obtain⟨g,cap,e,G⟩:=h.sta.form (by simp)
 have E:(v::r).reverse.length<=cap:=by have:=h.sta;rw[e] at this;exact this.cap
 refine⟨g,cap,by simpa using e,by simpa using E⟩
theorem RJ.top {w wr:World} {cap} {b:List UInt8} {fl:List Int} (h:RJ w wr q z A D b fl (Sq g (r.length+1) cap) (v::r) cl):wr.cell? ⟨g,r.length,none⟩=some (Iq v)/\ ∀j,wr.frozen? ⟨g,j,none⟩=false:=by
 refine⟨?_,λj=>h.sta.frz j⟩
 rw[h.sta.cell (k:=r.length) (by simp)]
 simp
theorem RJ.sec {w wr:World} {cap} {b:List UInt8} {fl:List Int} (h:RJ w wr q z A D b fl (Sq g (r.length+1+1) cap) (v::u::r) cl):wr.cell? ⟨g,r.length,none⟩=some (Iq u):=by
 rw[h.sta.cell (k:=r.length) (by simp)]
 simp[Sk]
theorem RJ.pop {w wr:World} {z A D E g cap} {b:LB} {fl:List Int} {v r cl} (h:RJ w wr z A D E b fl (Sq g (r.length+1) cap) (v::r) cl):RJ w wr z A D E b fl (Sq g r.length cap) r cl:=by
 have G:=h.sta;rw[Tw] at G;have I:IR wr 2 (Sq g (r.reverse.length+1) cap) (r.reverse++[v]):=by simpa using G
 have q:=I.pop;rw[T6] at q;exact h.stack (cK.refl (λ_=>False) wr) (λ_ f=>f.elim) q (λO J=> .inl J)
theorem RJ.set1 {w wr:World} {cap} {b:LB} (h:RJ w wr A D E G b fl (Sq g (r.length+1) cap) (v::r) cl) (y:Int):RJ w (wr.setCell ⟨g,r.length,none⟩ (Iq y)) A D E G b fl (Sq g (r.length+1) cap) (y::r) cl:=by
 have I:IR wr 2 (Sq g (v::r).reverse.length cap) (v::r).reverse:=by simpa using h.sta
 have z:=I.set (j:=r.length) (by simp) y
 have e:(v::r).reverse.set r.length y=(y::r).reverse:=by
  rw[Tw,Tw,Uf _ _ (by simp)]
  simp
 rw[e] at z;exact h.stack ((cK.refl (λq=>q=g) wr).setCell (.inl rfl) _) (λq f=>by subst f;rfl) (by simpa using z) (λO J=> .inl J)
theorem RJ.set2 {w wr:World} {cap} {b:LB} (h:RJ w wr A D E G b fl (Sq g (r.length+1+1) cap) (v::u::r) cl) (y:Int):RJ w (wr.setCell ⟨g,r.length,none⟩ (Iq y)) A D E G b fl (Sq g (r.length+1+1) cap) (v::y::r) cl:=by
 have I:IR wr 2 (Sq g (v::u::r).reverse.length cap) (v::u::r).reverse:=by simpa using h.sta
 have z:=I.set (j:=r.length) (by simp) y
 have e:(v::u::r).reverse.set r.length y=(v::y::r).reverse:=by
  rw[Tw,Tw,Tw,Tw,Sk,Sk,Uf _ _ (by simp)]
  simp
 rw[e] at z;exact h.stack ((cK.refl (λq=>q=g) wr).setCell (.inl rfl) _) (λq f=>by subst f;rfl) (by simpa using z) (λO J=> .inl J)
theorem RJ.put {w wr:World} {b:LB} (h:RJ w wr G D E z b fl vs st cl) (U:n<cl.length) (v:Int):RJ w (wr.setCell ⟨z,n,none⟩ (Iq v)) G D E z b fl vs st (cl.set n v):=by
 obtain⟨V,Y,Z,I,l5,J⟩:=h.lo;have A:∀q,q≠z->(wr.setCell ⟨z,n,none⟩ (Iq v)).heap[q]?=wr.heap[q]?:=λq hq=>RQ _ _ _ _ (by simpa using hq)
 have O:E≠z:=λe=>by
  have R:=h.sgn;rw[e,h.cel] at R;simp at R
 refine⟨(A G (by omega)).trans h.code,?_,h.own,?_,λj hj=>?_,(A E O).trans h.sgn,h.bel.setCell (by simpa using I) _,⟨V,Y,Z,I,by simpa using l5,J⟩⟩
 ·exact h.sta.only ((cK.refl (λq=>q=z) wr).setCell (.inl rfl) _) (λg hg f=>(h.own g hg).2.2.2 f)
 ·rw[R3 wr z n _ _ _ h.cel,Ki U]
 rw[R1 (A D J)];exact h.fld j hj
theorem RJ.cell {w wr:World} {b:List UInt8} (h:RJ w wr z A D q b fl vs st cl) (E:n<cl.length):wr.cell? ⟨q,n,none⟩=some (Iq (cl.getD n 0))/\wr.frozen? ⟨q,n,none⟩=false:=by
 refine⟨?_,by simp[World.frozen?,h.cel]⟩
 rw[RM wr q n _ _ _ h.cel,M7 E]
structure Qq (b:List UInt8) (ins:List ey) (fl) (cells) (C:Nat->Option Kn) (A) (Ru St) (i) (k) (st cl) (f q):Prop where
 hi:i<ins.length
 hC:C i=some k
 fit:vp k cells st cl
 dep:st.length<=24
 le:q<=i
 run:nV ins fl f i st cl q=some (A,Ru,St)
theorem Qq.stop {b:LB} {ins:List ey} {cells St} (h:Qq b ins fl cells C A D St i k st cl f q) (E:(ins.getD i cI).op=17\/(ins.getD i cI).op=18):A=decide ((ins.getD i cI).op=17)/\D=(ins.getD i cI).n.toNat/\St=q+1:=by
 have z:=h.run;cases f with
 |zero=>simp[nV] at z
 |succ f=>
  rw[nV,RK h.hi,RK E] at z;simp only[R6,Sj] at z;exact⟨z.1.symm,z.2.1.symm,z.2.2.symm⟩
theorem Qq.step {b:LB} {ins cells St} (h:Qq b ins fl cells C A Y St i k st cl f q) (G:fz b ins) (Z:cy b 2=cells) (ac:E<=24) (hF:dI fl) (hG:Good ins E 0 C) (I: ¬((ins.getD i cI).op=17\/(ins.getD i cI).op=18)):
 ∃k' st' cl' j t J f',dZ (ins.getD i cI).op (ins.getD i cI).n.toNat k=some k'/\gj fl (ins.getD i cI) st cl=some (st',cl',j)/\(ins.getD t cI).pl=(if j then(ins.getD i cI).pl+3+(ins.getD i cI).n.toNat else(ins.getD i cI).pl+cE (ins.getD i cI).op)/\i<t/\Qq b ins fl cells C A Y St t J st' cl' f' (q+1):=by
 have hx:=kD (G.each _ (iA h.hi));rw[Z] at hx;have z:=h.run;obtain⟨f',rfl⟩:∃f',f=f'+1:=by
  cases f with
  |zero=>simp[nV] at z
  |succ f'=>exact⟨f',rfl⟩
 rw[nV,RK h.hi,RH I] at z;obtain⟨k',R,ad,O⟩:=hG i (R0 _) h.hi k h.hC;obtain⟨st',cl',j,hs,D,hj,aa⟩:=ui hx hF h.fit R I;rw[hs] at z;have U:=AA (ins:=ins) (i:=i) hj aa I;obtain⟨t,e,h1,h2,h3⟩:=O _ U;obtain⟨J,e2,e3,e4⟩:=h3 k' rfl;have V:vp J cells st' cl':=⟨by rw[e3];exact D.typ,D.cel.less e4,D.len⟩
 have ab:st'.length<=24:=by rw[D.typ.len];omega
 refine⟨k',st',cl',j,t,J,f',R,hs,?_,h1,⟨h2,e2,V,ab,by have:=h.le;omega,?_⟩⟩
 ·cases j with
  |true=>
   have e:fS ins (ins.getD i cI)=some t:=e;have:=wV G h.hi e;rw[RK rfl];exact this.2.2
  |false=>
   have e:(if i+1<ins.length then some (i+1) else none)=some t:=e;split at e
   ·rename_i g;simp at e;subst e;rw[RH (by decide)]
    exact(pW G.order i h.hi).1 g
   cases e
 cases j with
 |true=>
  have e:fS ins (ins.getD i cI)=some t:=e;simp only[] at z;rw[e] at z;exact z
 |false=>
  have e:(if i+1<ins.length then some (i+1) else none)=some t:=e;simp only[] at z;split at e
  ·simp at e;rw[<-e];exact z
  cases e
end Go.Proofs.YtfkdailfcmnjlaaGreatDoor
