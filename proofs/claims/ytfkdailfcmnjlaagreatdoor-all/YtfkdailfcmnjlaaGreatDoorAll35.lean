/-
  A part.
-/
import Derived.Test.YtfkdailfcmnjlaaGreatDoorAll34
set_option linter.all false
set_option maxHeartbeats 40000000
set_option maxRecDepth 1000000
namespace Go.Proofs.YtfkdailfcmnjlaaGreatDoor
open Go Go.RowKit Tryz
attribute [local go_sem ↓] Go.wp_at_zero Go.wp_at_succ
variable {fl cp gf w w4 A Ru z D q wr E vs}
theorem Ly {b:LB} {ins St} (aH:fD b=some ins) (hF:dL fl) (bC:cp<w.heap.size) (a0:Hid (∀W,Bl w4 W->W.heap[w.heap.size+1+1]?=some (.cells #[.bool false,Iq 0,Iq 0] 40 (0,0))/\Bl w W)) (aL) (wr) (hI:JI b ins fl cp gf w w4 A Ru St aL wr):
 Code.wp prog ((f26.body.bind pL).getD .skip) (Exit.then (λa' aW=>JI b ins fl cp gf w w4 A Ru St a' aW/\CI b a' aW<CI b aL wr) (JQ (OQ b w A Ru St))) aL wr:=by
 obtain⟨U,vs,_,_,a,q,rfl,rfl,hX,rfl⟩:=hI;have HX:Hid (xY b ins fl cp gf w4 wr A Ru St a q vs):=hX;have aX:CI b ⟨JF cp gf w w4 vs (Iq a) (Iq q) U,[]⟩ wr=b.length - a:=by simp[CI,JF,intOf]
 rw[aX];clear hX;have aI:(∃ks,ks<=4/\cr b a=ks+7)\/cr b a=1\/(cr b a=2\/cr b a=3)\/cr b a=4\/cr b a=5\/cr b a=6\/cr b a=12\/(cr b a=13\/cr b a=14)\/cr b a=15\/cr b a=16\/cr b a=17\/cr b a=18:=by
  obtain⟨C,i,k,st,cl,f,hG,ac,hS,I⟩:=HX.out;obtain⟨l1,l2,l3,l4,l5,l6,C0,l7,l8⟩:=mw aH;have ad:=l3.each _ (gY hS.hi);have aI:=(kf ad).op;have hb:=Ab ad;rw[ac] at hb;by_cases h7:7<=cr b a/\cr b a<=11
  ·exact .inl ⟨cr b a - 7,by omega,by omega⟩
  right;omega
 have bd:Hid _:=aI;clear aI aX;unfold JF;obtain⟨l1,l2,l3,l4,l5,l6,C0,l7,l8⟩:=mw aH;have bf:Hid _:=hF;have bD:Hid _:=aH;clear l7 l8 hF aH;obtain⟨C,i,k,st,cl,f,hG,ac,hS,I⟩:=HX.out;have ad:=l3.each _ (gY hS.hi);have Y:=PY ad;have a8:=(lJ l3 hS.hi).2;have aa:=hS.stop;have E:=hS.step l3 rfl l6 bf.out hG;have aI:=(kf ad).op;rw[ac] at Y a8;have bE:Cq wr cp 0 (S b):=Qm wr cp 0 _ _ _ I.code;have bF:=FG b (a:=a);have bG:(0:Int)<=(a:Int)/\(a:Int)<=(b.length:Int):=by omega
 have bH:q<=4000:=by have:=hS.le;have:=hS.hi;omega
 have e0:cr b a=(ins.getD i cH).op:=by rw[<-Y.b0,lX];rfl
 generalize ins.getD i cH=x at*;generalize b.drop a=z at*;have E0:Hid _:=e0;clear e0;have bg:0<(ByteArray.mk z.toArray).size:=Y.pos;have bI:((ByteArray.mk z.toArray)[0]).toNat=x.op:=(ga z 0 bg).trans Y.b0;have bJ:=Y.pos;have bK:z.length<=4000:=by have:=Y.len;omega
 have W2:=λw=>wQ x.op (by omega) w
 have aY:Hid _:=a0.out wr I.bel;clear HX;obtain⟨sa,R,aZ⟩:=I.sta.sl;rw[Sj] at aZ;subst aZ;have ak:=hS.dep;have bv:=zC x.op;have bL:a<=4000:=by omega
 conv=>arg 2;whnf
 go_upto_block 2 with(first|(go_at_call 49;refine(W2 _).mono ?_;rintro e0 w' ⟨rfl,aM⟩;obtain rfl:=aM.symm))
 rcases bd.out with⟨ks,am,h⟩|h|h|h|h|h|h|h|h|h|h|h
 ·have e:=E0.out.symm.trans h;clear E0;rw[e];have ao:ks=0\/ks=1\/ks=2\/ks=3\/ks=4:=by omega
  have G:cG (ks+7)=1:=by rcases ao with rfl|rfl|rfl|rfl|rfl<;>rfl
  rw[G];obtain⟨k',st',cl',jj,t,kq,f',g1,D,J,g4,V⟩:=E (by omega)
  match st,ak,hS,I,D with
  |[],_,_,_,D=>exfalso;unfold iP at D;rw[e] at D;rcases ao with rfl|rfl|rfl|rfl|rfl<;>cases D
  |[v],_,_,_,D=>exfalso;unfold iP at D;rw[e] at D;rcases ao with rfl|rfl|rfl|rfl|rfl<;>cases D
  |v::u::r,ak,hS,I,D=>
   have O:some (kS (ks+7) u v::r,cl,false)=some (st',cl',jj):=by rw[<-D];unfold iP;rw[e];rcases ao with rfl|rfl|rfl|rfl|rfl<;>rfl
   simp only[QE,QS] at O;obtain⟨rfl,rfl,rfl⟩:=O;obtain⟨g,cap,ab,an⟩:=I.form;simp only[QH,QK] at ab;obtain⟨rfl,-,rfl⟩:=ab;have az:r.length+1+1<=24:=ak;obtain⟨ah,ag⟩:=RJ.top (v:=v) (r:=u::r) I;have ah:Cq wr g (r.length+1) (Iq v):=ah;have aN:=RJ.sec (v:=v) (u:=u) (r:=r) I;have aA:=ag r.length;have ay:dn u/\dn v:=by
    have Z:=hS.fit.typ;cases am:k.st with
    |nil=>rw[am] at Z;exact Z.elim
    |cons t0 ts=>
     rw[am] at Z;cases ap:ts with
     |nil=>rw[ap] at Z;exact Z.2.elim
     |cons t1 bh=>rw[ap] at Z;exact⟨Z.2.1.1,Z.1.1⟩
   have W3:=λw=>zp (M7 ks) ay.1 ay.2 w
   have aO:od (M7 ks) u v=kS (ks+7) u v:=by rcases ao with rfl|rfl|rfl|rfl|rfl<;>rfl
   rw[aO] at W3;have aJ:(0:Int)<=(r.length:Int)+1+1 - 1/\(r.length:Int)+1+1 - 1<(r.length:Int)+1+1:=by omega
   have a9:(0:Int)<=(r.length:Int)+1+1 - 2/\(r.length:Int)+1+1 - 2<(r.length:Int)+1+1:=by omega
   have aV:r.length+1+1<=R:=an;have aB:(0:Int)<=(r.length:Int)+1+1 - 1/\(r.length:Int)+1+1 - 1<=(R:Int):=by omega
   have ba:(0:Int)<=(r.length:Int)/\(r.length:Int)<(r.length:Int)+1+1:=by omega
   have bb:(0:Int)<=(r.length:Int)+1/\(r.length:Int)+1<(r.length:Int)+1+1:=by omega
   have bi:IntKind.i64.wrap ((r.length:Int)+1+1 - 2)=(r.length:Int):=by rw[Q0];omega
   have bj:IntKind.i64.wrap ((r.length:Int)+1+1 - 1)=(r.length:Int)+1:=by rw[Q0];omega
   have bk:IntKind.i64.wrap ((r.length:Int)+1)=(r.length:Int)+1:=by rw[Q0];omega
   have bl:IntKind.i64.wrap (r.length:Int)=(r.length:Int):=by rw[Q0];omega
   have bm:IntKind.i64.wrap ((ks:Int)+7 - 7)=(ks:Int):=by rw[Q0];omega
   have bo:IntKind.i64.wrap (ks:Int)=(ks:Int):=by rw[Q0];omega
   have bM:((ks:Int)+7==1)=false:=by simp;omega
   have bN:((ks:Int)+7==2)=false:=by simp;omega
   have bO:((ks:Int)+7==3)=false:=by simp;omega
   have bP:((ks:Int)+7==4)=false:=by simp;omega
   have bQ:((ks:Int)+7==5)=false:=by simp;omega
   have bR:((ks:Int)+7==6)=false:=by simp;omega
   have bS:(ks:Int)+7<=11:=by omega
   have bT:(0:Int)<=(ks:Int)/\(ks:Int)<5:=by omega
   have bp:RowKit.wrap64 ((r.length:Int)+1+1 - 2)=(r.length:Int):=by unfold RowKit.wrap64;omega
   have bq:RowKit.wrap64 ((r.length:Int)+1+1 - 1)=(r.length:Int)+1:=by unfold RowKit.wrap64;omega
   rw[Qj (by decide),e,G] at J
   have HA:Hid (a+1<b.length):=by
    have:=(lJ l3 V.hi).2;rw[J,ac] at this;exact this
   have HN:Hid (xY b ins fl cp gf w4 (wr.setCell ⟨g,r.length,none⟩ (Iq (kS (ks+7) u v))) A Ru St (a+1) (q+1) (.slice (some ⟨g,0,none⟩) (r.length+1) R)):=⟨C,t,kq,_,cl,f',hG,by rw[J,ac],V,RJ.pop (v:=v) (r:=kS (ks+7) u v::r) (RJ.set2 (v:=v) (u:=u) (r:=r) I (kS (ks+7) u v))⟩
   have bU:Cq wr (w4.heap.size+1) ks (S (M7 ks)):=by rcases ao with rfl|rfl|rfl|rfl|rfl<;>exact Qm wr _ _ _ _ _ I.sgn
   generalize kS (ks+7) u v=y at*;generalize M7 ks=sg at*;clear ao;clear I hS aa E g1 D J g4 V hG Y ad ag;go_wp2_with fail;go_region_with (first|(go_at_call 51;refine(W3 _).mono ?_;rintro e w2 ⟨rfl,rfl⟩))
   all_goals go_wp2
   all_goals refine⟨?_,by have:=HA.out;simp[CI,intOf];omega⟩
   all_goals exact JI.of (HN.out.below (by first|exact Qq _ _|exact below_drewN (Qq _ _) _|exact(Qq _ _).drew)) rfl (by go_num) (by go_num)
 ·have e:=E0.out.symm.trans h;clear E0;rw[e];have G:cG 1=9:=rfl;rw[G];obtain⟨t2,t3⟩:=Y.nine e;have bV:(z.drop 1).length=z.length - 1:=by simp
  have W3:=λw=>Cu (z.drop 1) (by omega) (by omega) w
  have bw:=FG z (a:=1);generalize z.drop 1=b8 at*;have bW:(1:Int)<=(z.length:Int):=by omega
  rw[<-t3] at W3;obtain⟨k',st',cl',jj,t,kq,f',g1,D,J,g4,V⟩:=E (by omega)
  have O:some (x.n::st,cl,false)=some (st',cl',jj):=by rw[<-D];unfold iP;rw[e];rfl
  simp only[QE,QS] at O;obtain⟨rfl,rfl,rfl⟩:=O;rw[Qj (by decide),e,G] at J
  obtain⟨i0,hi,hz⟩:=QP.1 nV;simp only[QS] at hz;obtain⟨aq,ar,au⟩:=hz;have HR:Hid (wr.ownsRow 0 2 1 (.slice sa st.length R) st.length (st.reverse.map (Value.int .i64))):=by
   have h:=I.sta;unfold IR at h;show wr.ownsRow 0 2 1 (.slice sa st.length R) st.length (st.reverse.map (Value.int .i64));simpa using h
  have HA:Hid (a+9<b.length):=by
   have:=(lJ l3 V.hi).2;rw[J,ac] at this;exact this
  have HN:Hid (∀w5 vs,RJ w4 w5 cp gf (w4.heap.size+1) w4.heap.size b fl vs (x.n::st) cl->xY b ins fl cp gf w4 w5 A Ru St (a+9) (q+1) vs):=λw5 vs h=>⟨C,t,kq,_,cl,f',hG,by rw[J,ac],V,h⟩
  have HP:Hid _:= @RJ.push w4 wr;have HJ:Hid _:=I;clear I hS aa E g1 D J g4 V hG Y ad t3;generalize x.n=vv at*;go_wp2_with (first|(go_at_call 50;refine(W3 _).mono ?_;rintro e0 w' ⟨rfl,aM⟩;obtain rfl:=aM.symm)|(at_builtin;go_must (refine wpList_append_lies _ (by rfl) _ _ 116 (by rfl) 0 2 i0 (Iq 0) 1 8 underlying116 hi aq ar au (by rfl) (by decide) _ _ _ (by rfl) (HR.out.alloc _) ⟨wr.heap.size,0,none⟩ 1 1 [Iq vv] (by rfl) (by rfl) (World.news_of_block (Qp wr _)) (λx hx=>by simp at hx;rcases hx with rfl;rfl) (by decide) (by unfold maxLen;omega) (by omega) (by simp) _ rfl ?_);intro gg aF w5 ai aj av aG))
  refine⟨?_,by have:=HA.out;simp[CI,intOf];omega⟩
  exact JI.of (HN.out _ _ (HJ.out.push _ ai aj av)) rfl (by go_num) (by go_num)
 ·rcases h with h|h
  all_goals
   have e:=E0.out.symm.trans h;clear E0;have G:cG x.op=2:=by rw[e];rfl
   rw[e] at G⊢;rw[G];obtain⟨t2,t3,t4⟩:=Y.two (by rw[e];rfl)
   have ae:1<(ByteArray.mk z.toArray).size:=by show 1<z.length;omega
   have aw:((ByteArray.mk z.toArray)[1]).toNat=cr z 1:=ga z 1 ae;have af:x.n.toNat=cr z 1:=by rw[t3];omega
   obtain⟨k',st',cl',jj,t,kq,f',g1,D,J,g4,V⟩:=E (by omega)
   have O:some (x.n::st,cl,false)=some (st',cl',jj):=by rw[<-D];unfold iP;rw[e];rfl
   simp only[QE,QS] at O;obtain⟨rfl,rfl,rfl⟩:=O;rw[Qj (by decide),e,G] at J
   have bc:x.n=(cr z 1:Int):=t3;obtain⟨i0,hi,hz⟩:=QP.1 nV;simp only[QS] at hz;obtain⟨aq,ar,au⟩:=hz;have HR:Hid (wr.ownsRow 0 2 1 (.slice sa st.length R) st.length (st.reverse.map (Value.int .i64))):=by
    have h:=I.sta;unfold IR at h;show wr.ownsRow 0 2 1 (.slice sa st.length R) st.length (st.reverse.map (Value.int .i64));simpa using h
   have HA:Hid (a+2<b.length):=by
    have:=(lJ l3 V.hi).2;rw[J,ac] at this;exact this
   have HN:Hid (∀w5 vs,RJ w4 w5 cp gf (w4.heap.size+1) w4.heap.size b fl vs (x.n::st) cl->xY b ins fl cp gf w4 w5 A Ru St (a+2) (q+1) vs):=λw5 vs h=>⟨C,t,kq,_,cl,f',hG,by rw[J,ac],V,h⟩
   have HP:Hid _:= @RJ.push w4 wr;have HJ:Hid _:=I;rw[bc] at HN;clear I hS aa E g1 D J g4 V hG Y ad t3;generalize cr z 1=c1 at*;go_wp2_with (first|(at_builtin;go_must (refine wpList_append_lies _ (by rfl) _ _ 116 (by rfl) 0 2 i0 (Iq 0) 1 8 underlying116 hi aq ar au (by rfl) (by decide) _ _ _ (by rfl) (HR.out.alloc _) ⟨wr.heap.size,0,none⟩ 1 1 [Iq (c1:Nat)] (by rfl) (by rfl) (World.news_of_block (Qp wr _)) (λx hx=>by simp at hx;rcases hx with rfl;rfl) (by decide) (by unfold maxLen;omega) (by omega) (by simp) _ rfl ?_);intro gg aF w5 ai aj av aG))
   refine⟨?_,by have:=HA.out;simp[CI,intOf];omega⟩
   exact JI.of (HN.out _ _ (HJ.out.push _ ai aj av)) rfl (by go_num) (by go_num)
 ·have e:=E0.out.symm.trans h;clear E0;rw[e];have G:cG 4=2:=rfl;rw[G];obtain⟨t2,t3,t4⟩:=Y.two (by rw[e];rfl)
  have ae:1<(ByteArray.mk z.toArray).size:=by show 1<z.length;omega
  have aw:((ByteArray.mk z.toArray)[1]).toNat=cr z 1:=ga z 1 ae;have af:x.n.toNat=cr z 1:=by rw[t3];omega
  obtain⟨k',st',cl',jj,t,kq,f',g1,D,J,g4,V⟩:=E (by omega)
  have O:some (fl.getD x.n.toNat 0::st,cl,false)=some (st',cl',jj):=by rw[<-D];unfold iP;rw[e];rfl
  simp only[QE,QS] at O;obtain⟨rfl,rfl,rfl⟩:=O;rw[Qj (by decide),e,G] at J
  have aP:=(kf ad).two (by rw[e];rfl)
  have aQ:dE x.op (cr b 2)=8:=by rw[e];rfl
  have br:cr z 1<9:=by omega
  have bs:=I.fld (cr z 1) br;rw[af] at V;obtain⟨i0,hi,hz⟩:=QP.1 nV;simp only[QS] at hz;obtain⟨aq,ar,au⟩:=hz;have HR:Hid (wr.ownsRow 0 2 1 (.slice sa st.length R) st.length (st.reverse.map (Value.int .i64))):=by
   have h:=I.sta;unfold IR at h;show wr.ownsRow 0 2 1 (.slice sa st.length R) st.length (st.reverse.map (Value.int .i64));simpa using h
  have HA:Hid (a+2<b.length):=by
   have:=(lJ l3 V.hi).2;rw[J,ac] at this;exact this
  have HN:Hid (∀w5 vs,RJ w4 w5 cp gf (w4.heap.size+1) w4.heap.size b fl vs (fl.getD (cr z 1) 0::st) cl->xY b ins fl cp gf w4 w5 A Ru St (a+2) (q+1) vs):=λw5 vs h=>⟨C,t,kq,_,cl,f',hG,by rw[J,ac],V,h⟩
  have HP:Hid _:= @RJ.push w4 wr;have HJ:Hid _:=I;clear I hS aa E g1 D J g4 V hG Y ad t3;generalize cr z 1=c1 at*;generalize fl.getD c1 0=vv at*;go_wp2_with (first|(at_builtin;go_must (refine wpList_append_lies _ (by rfl) _ _ 116 (by rfl) 0 2 i0 (Iq 0) 1 8 underlying116 hi aq ar au (by rfl) (by decide) _ _ _ (by rfl) (HR.out.alloc _) ⟨wr.heap.size,0,none⟩ 1 1 [Iq vv] (by rfl) (by rfl) (World.news_of_block (Qp wr _)) (λx hx=>by simp at hx;rcases hx with rfl;rfl) (by decide) (by unfold maxLen;omega) (by omega) (by simp) _ rfl ?_);intro gg aF w5 ai aj av aG))
  refine⟨?_,by have:=HA.out;simp[CI,intOf];omega⟩
  exact JI.of (HN.out _ _ (HJ.out.push _ ai aj av)) rfl (by go_num) (by go_num)
 ·have e:=E0.out.symm.trans h;clear E0;rw[e];have G:cG 5=2:=rfl;rw[G];obtain⟨t2,t3,t4⟩:=Y.two (by rw[e];rfl)
  have ae:1<(ByteArray.mk z.toArray).size:=by show 1<z.length;omega
  have aw:((ByteArray.mk z.toArray)[1]).toNat=cr z 1:=ga z 1 ae;have af:x.n.toNat=cr z 1:=by rw[t3];omega
  obtain⟨k',st',cl',jj,t,kq,f',g1,D,J,g4,V⟩:=E (by omega)
  cases st with
  |nil=>
   exfalso;unfold iP at D;rw[e] at D;cases D
  |cons v r=>
   have O:some (r,cl.set x.n.toNat v,false)=some (st',cl',jj):=by rw[<-D];unfold iP;rw[e];rfl
   simp only[QE,QS] at O;obtain⟨rfl,rfl,rfl⟩:=O;obtain⟨g,cap,ab,an⟩:=I.form;simp only[QH,QK] at ab;obtain⟨rfl,-,rfl⟩:=ab;have az:r.length+1<=24:=ak;obtain⟨ah,ag⟩:=RJ.top (v:=v) (r:=r) I;have aA:=ag r.length;have aJ:(0:Int)<=(r.length:Int)+1 - 1/\(r.length:Int)+1 - 1<(r.length:Int)+1:=by omega
   have aB:(0:Int)<=(r.length:Int)+1 - 1/\(r.length:Int)+1 - 1<=(R:Int):=by omega
   have aP:=(kf ad).two (by rw[e];rfl)
   have aQ:dE x.op (cr b 2)=(cr b 2:Int) - 1:=by rw[e];rfl
   have aK:cr z 1<cl.length:=by rw[hS.fit.len];omega
   obtain⟨bx,bz⟩:=I.cell aK;have bA:g≠w4.heap.size:=(I.own g rfl).2.2.2;rw[af] at V;rw[Qj (by decide),e,G] at J
   have HA:Hid (a+2<b.length):=by
    have:=(lJ l3 V.hi).2;rw[J,ac] at this;exact this
   have HN:Hid (xY b ins fl cp gf w4 (wr.setCell ⟨w4.heap.size,cr z 1,none⟩ (Iq v)) A Ru St (a+2) (q+1) (.slice (some ⟨g,0,none⟩) r.length R)):=⟨C,t,kq,r,_,f',hG,by rw[J,ac],V,(RJ.pop (v:=v) (r:=r) I).put aK v⟩
   clear I hS aa E g1 D J g4 V hG Y ad t3 aP aQ ag;generalize cr z 1=c1 at*;go_wp2_with fail;go_region;go_wp2;refine⟨?_,by have:=HA.out;simp[CI,intOf];omega⟩
   exact JI.of (HN.out.below (by first|exact Qq _ _|exact below_drewN (Qq _ _) _|exact(Qq _ _).drew)) rfl (by go_num) (by go_num)
 ·have e:=E0.out.symm.trans h;clear E0;rw[e];have G:cG 6=2:=rfl;rw[G];obtain⟨t2,t3,t4⟩:=Y.two (by rw[e];rfl)
  have ae:1<(ByteArray.mk z.toArray).size:=by show 1<z.length;omega
  have aw:((ByteArray.mk z.toArray)[1]).toNat=cr z 1:=ga z 1 ae;have af:x.n.toNat=cr z 1:=by rw[t3];omega
  obtain⟨k',st',cl',jj,t,kq,f',g1,D,J,g4,V⟩:=E (by omega)
  have O:some (cl.getD x.n.toNat 0::st,cl,false)=some (st',cl',jj):=by rw[<-D];unfold iP;rw[e];rfl
  simp only[QE,QS] at O;obtain⟨rfl,rfl,rfl⟩:=O;rw[Qj (by decide),e,G] at J
  have aP:=(kf ad).two (by rw[e];rfl)
  have aQ:dE x.op (cr b 2)=(cr b 2:Int) - 1:=by rw[e];rfl
  have aK:cr z 1<cl.length:=by rw[hS.fit.len];omega
  have bs:=(I.cell aK).1;have bu:cr z 1<256:=t4;rw[af] at V;obtain⟨i0,hi,hz⟩:=QP.1 nV;simp only[QS] at hz;obtain⟨aq,ar,au⟩:=hz;have HR:Hid (wr.ownsRow 0 2 1 (.slice sa st.length R) st.length (st.reverse.map (Value.int .i64))):=by
   have h:=I.sta;unfold IR at h;show wr.ownsRow 0 2 1 (.slice sa st.length R) st.length (st.reverse.map (Value.int .i64));simpa using h
  have HA:Hid (a+2<b.length):=by
   have:=(lJ l3 V.hi).2;rw[J,ac] at this;exact this
  have HN:Hid (∀w5 vs,RJ w4 w5 cp gf (w4.heap.size+1) w4.heap.size b fl vs (cl.getD (cr z 1) 0::st) cl->xY b ins fl cp gf w4 w5 A Ru St (a+2) (q+1) vs):=λw5 vs h=>⟨C,t,kq,_,cl,f',hG,by rw[J,ac],V,h⟩
  have HP:Hid _:= @RJ.push w4 wr;have HJ:Hid _:=I;clear I hS aa E g1 D J g4 V hG Y ad t3;generalize cr z 1=c1 at*;generalize cl.getD c1 0=vv at*;go_wp2_with (first|(at_builtin;go_must (refine wpList_append_lies _ (by rfl) _ _ 116 (by rfl) 0 2 i0 (Iq 0) 1 8 underlying116 hi aq ar au (by rfl) (by decide) _ _ _ (by rfl) (HR.out.alloc _) ⟨wr.heap.size,0,none⟩ 1 1 [Iq vv] (by rfl) (by rfl) (World.news_of_block (Qp wr _)) (λx hx=>by simp at hx;rcases hx with rfl;rfl) (by decide) (by unfold maxLen;omega) (by omega) (by simp) _ rfl ?_);intro gg aF w5 ai aj av aG))
  refine⟨?_,by have:=HA.out;simp[CI,intOf];omega⟩
  exact JI.of (HN.out _ _ (HJ.out.push _ ai aj av)) rfl (by go_num) (by go_num)
 ·have e:=E0.out.symm.trans h;clear E0;rw[e];have G:cG 12=1:=rfl;rw[G];obtain⟨k',st',cl',jj,t,kq,f',g1,D,J,g4,V⟩:=E (by omega)
  cases st with
  |nil=>
   exfalso;unfold iP at D;rw[e] at D;cases D
  |cons v r=>
   have O:some ((1 - v)::r,cl,false)=some (st',cl',jj):=by rw[<-D];unfold iP;rw[e];rfl
   simp only[QE,QS] at O;obtain⟨rfl,rfl,rfl⟩:=O;obtain⟨g,cap,ab,an⟩:=I.form;simp only[QH,QK] at ab;obtain⟨rfl,-,rfl⟩:=ab;have az:r.length+1<=24:=ak;obtain⟨ah,ag⟩:=RJ.top (v:=v) (r:=r) I;have aA:=ag r.length;have aJ:(0:Int)<=(r.length:Int)+1 - 1/\(r.length:Int)+1 - 1<(r.length:Int)+1:=by omega
   have aB:(0:Int)<=(r.length:Int)+1 - 1/\(r.length:Int)+1 - 1<=(R:Int):=by omega
   have bB:v=0\/v=1:=by
    have ht:=@kg [2] [2] k k' (by rw[<-g1,e];rfl)
    have Z:=hS.fit.typ;rw[ht.1] at Z;exact Z.1.2 rfl
   rw[Qj (by decide),e,G] at J
   have HA:Hid (a+1<b.length):=by
    have:=(lJ l3 V.hi).2;rw[J,ac] at this;exact this
   have HN:Hid (xY b ins fl cp gf w4 (wr.setCell ⟨g,r.length,none⟩ (Iq (1 - v))) A Ru St (a+1) (q+1) (.slice (some ⟨g,0,none⟩) (r.length+1) R)):=⟨C,t,kq,_,cl,f',hG,by rw[J,ac],V,RJ.set1 (v:=v) (r:=r) I (1 - v)⟩
   clear I hS aa E g1 D J g4 V hG Y ad ag;go_wp2_with fail;refine⟨?_,by have:=HA.out;simp[CI,intOf];omega⟩
   exact JI.of (HN.out.below (by first|exact Qq _ _|exact below_drewN (Qq _ _) _|exact(Qq _ _).drew)) rfl (by go_num) (by go_num)
 ·obtain⟨N,wd,hN,h⟩:∃N wd,((N=13/\wd=[97,110,100])\/(N=14/\wd=([111,114]:LB)))/\cr b a=N:=by
   rcases h with h|h
   ·exact⟨_,_,.inl ⟨rfl,rfl⟩,h⟩
   exact⟨_,_,.inr ⟨rfl,rfl⟩,h⟩
  have e:=E0.out.symm.trans h;clear E0;have G:cG x.op=1:=by rw[e];rcases hN with⟨rfl,rfl⟩|⟨rfl,rfl⟩<;>rfl
  rw[e] at G⊢;rw[G];obtain⟨k',st',cl',jj,t,kq,f',g1,D,J,g4,V⟩:=E (by omega)
  match st,ak,hS,I,D with
  |[],_,_,_,D=>exfalso;unfold iP at D;rw[e] at D;rcases hN with⟨rfl,rfl⟩|⟨rfl,rfl⟩<;>cases D
  |[v],_,_,_,D=>exfalso;unfold iP at D;rw[e] at D;rcases hN with⟨rfl,rfl⟩|⟨rfl,rfl⟩<;>cases D
  |v::u::r,ak,hS,I,D=>
   have O:some (kS N u v::r,cl,false)=some (st',cl',jj):=by rw[<-D];unfold iP;rw[e];rcases hN with⟨rfl,rfl⟩|⟨rfl,rfl⟩<;>rfl
   simp only[QE,QS] at O;obtain⟨rfl,rfl,rfl⟩:=O;obtain⟨g,cap,ab,an⟩:=I.form;simp only[QH,QK] at ab;obtain⟨rfl,-,rfl⟩:=ab;have az:r.length+1+1<=24:=ak;obtain⟨ah,ag⟩:=RJ.top (v:=v) (r:=u::r) I;have ah:Cq wr g (r.length+1) (Iq v):=ah;have aN:=RJ.sec (v:=v) (u:=u) (r:=r) I;have aA:=ag r.length;have ay:dn u/\dn v:=by
    have Z:=hS.fit.typ;cases am:k.st with
    |nil=>rw[am] at Z;exact Z.elim
    |cons t0 ts=>
     rw[am] at Z;cases ap:ts with
     |nil=>rw[ap] at Z;exact Z.2.elim
     |cons t1 bh=>rw[ap] at Z;exact⟨Z.2.1.1,Z.1.1⟩
   have W3:=λw=>zp wd ay.1 ay.2 w
   have aO:od wd u v=kS N u v:=by rcases hN with⟨rfl,rfl⟩|⟨rfl,rfl⟩<;>rfl
   rw[aO] at W3;have aJ:(0:Int)<=(r.length:Int)+1+1 - 1/\(r.length:Int)+1+1 - 1<(r.length:Int)+1+1:=by omega
   have a9:(0:Int)<=(r.length:Int)+1+1 - 2/\(r.length:Int)+1+1 - 2<(r.length:Int)+1+1:=by omega
   have aV:r.length+1+1<=R:=an;have aB:(0:Int)<=(r.length:Int)+1+1 - 1/\(r.length:Int)+1+1 - 1<=(R:Int):=by omega
   have ba:(0:Int)<=(r.length:Int)/\(r.length:Int)<(r.length:Int)+1+1:=by omega
   have bb:(0:Int)<=(r.length:Int)+1/\(r.length:Int)+1<(r.length:Int)+1+1:=by omega
   have bi:IntKind.i64.wrap ((r.length:Int)+1+1 - 2)=(r.length:Int):=by rw[Q0];omega
   have bj:IntKind.i64.wrap ((r.length:Int)+1+1 - 1)=(r.length:Int)+1:=by rw[Q0];omega
   have bk:IntKind.i64.wrap ((r.length:Int)+1)=(r.length:Int)+1:=by rw[Q0];omega
   have bl:IntKind.i64.wrap (r.length:Int)=(r.length:Int):=by rw[Q0];omega
   have bo:IntKind.i64.wrap 0=0:=by decide
   have bp:RowKit.wrap64 ((r.length:Int)+1+1 - 2)=(r.length:Int):=by unfold RowKit.wrap64;omega
   have bq:RowKit.wrap64 ((r.length:Int)+1+1 - 1)=(r.length:Int)+1:=by unfold RowKit.wrap64;omega
   rw[Qj (by decide),e,G] at J
   have HA:Hid (a+1<b.length):=by
    have:=(lJ l3 V.hi).2;rw[J,ac] at this;exact this
   have HN:Hid (xY b ins fl cp gf w4 (wr.setCell ⟨g,r.length,none⟩ (Iq (kS N u v))) A Ru St (a+1) (q+1) (.slice (some ⟨g,0,none⟩) (r.length+1) R)):=⟨C,t,kq,_,cl,f',hG,by rw[J,ac],V,RJ.pop (v:=v) (r:=kS N u v::r) (RJ.set2 (v:=v) (u:=u) (r:=r) I (kS N u v))⟩
   have bX:Cq wr g (r.length+1) (Iq v)/\Cq wr g r.length (Iq u):=⟨ah,aN⟩;generalize kS N u v=y at*;clear I hS aa E g1 D J g4 V hG Y ad ag;rcases hN with⟨rfl,rfl⟩|⟨rfl,rfl⟩
   all_goals
    have bm:IntKind.i64.wrap (13 - 7)=13 - 7:=by decide
    have bY:IntKind.i64.wrap (14 - 7)=14 - 7:=by decide
    go_wp2_with fail;go_region_with (first|(go_at_call 51;refine(W3 _).mono ?_;rintro e w2 ⟨rfl,rfl⟩))
    all_goals go_wp2
    all_goals refine⟨?_,by have:=HA.out;simp[CI,intOf];omega⟩
    all_goals exact JI.of (HN.out.below (by first|exact Qq _ _|exact below_drewN (Qq _ _) _|exact(Qq _ _).drew)) rfl (by go_num) (by go_num)
 ·have e:=E0.out.symm.trans h;clear E0;rw[e];have G:cG 15=3:=rfl;rw[G];obtain⟨t2,t3,t4,t5⟩:=Y.three (by rw[e];rfl)
  have ae:1<(ByteArray.mk z.toArray).size:=by show 1<z.length;omega
  have aR:2<(ByteArray.mk z.toArray).size:=by show 2<z.length;omega
  have aw:((ByteArray.mk z.toArray)[1]).toNat=cr z 1:=ga z 1 ae;have bt:((ByteArray.mk z.toArray)[2]).toNat=cr z 2:=ga z 2 aR;have af:x.n.toNat=cr z 1*256+cr z 2:=by rw[t3];omega
  obtain⟨k',st',cl',jj,t,kq,f',g1,D,J,g4,V⟩:=E (by omega)
  cases st with
  |nil=>
   exfalso;unfold iP at D;rw[e] at D;cases D
  |cons v r=>
   have O:some (r,cl,v==0)=some (st',cl',jj):=by rw[<-D];unfold iP;rw[e];rfl
   simp only[QE,QS] at O;obtain⟨rfl,rfl,rfl⟩:=O;obtain⟨g,cap,ab,an⟩:=I.form;simp only[QH,QK] at ab;obtain⟨rfl,-,rfl⟩:=ab;have az:r.length+1<=24:=ak;obtain⟨ah,ag⟩:=RJ.top (v:=v) (r:=r) I;have aA:=ag r.length;have aJ:(0:Int)<=(r.length:Int)+1 - 1/\(r.length:Int)+1 - 1<(r.length:Int)+1:=by omega
   have aB:(0:Int)<=(r.length:Int)+1 - 1/\(r.length:Int)+1 - 1<=(R:Int):=by omega
   rw[e,G,af] at J;have HN:Hid (∀p,p=(if(v==0)=true then a+3+(cr z 1*256+cr z 2) else a+3)->xY b ins fl cp gf w4 wr A Ru St p (q+1) (.slice (some ⟨g,0,none⟩) r.length R)/\p<b.length):=λp hp=>by
    rw[ac] at J;refine⟨⟨C,t,kq,r,cl,f',hG,by rw[J,hp],V,RJ.pop (v:=v) (r:=r) I⟩,?_⟩
    have:=(lJ l3 V.hi).2;rw[J,<-hp] at this;exact this
   have ay:dn v:=by
    have Z:=hS.fit.typ;cases am:k.st with
    |nil=>rw[am] at Z;exact Z.elim
    |cons t0 ts=>rw[am] at Z;exact Z.1.1
   clear I hS aa E g1 D J g4 V hG Y ad t3 ag af;generalize cr z 1=c1 at*;generalize cr z 2=c2 at*;by_cases hv:v=0
   ·subst hv;obtain⟨n1,n2⟩:=HN.out (a+3+(c1*256+c2)) (by simp)
    have aS:Hid _:=n1;have aT:Hid _:=n2;clear HN n1 n2;go_wp2_with fail;go_quiet (fail);go_wp2;refine⟨?_,by have:=aT.out;simp[CI,intOf];omega⟩
    exact JI.of (xY.below aS.out (by first|exact Qq _ _|exact below_drewN (Qq _ _) _|exact(Qq _ _).drew)) rfl (by go_num) (by go_num)
   skip;obtain⟨n1,n2⟩:=HN.out (a+3) (by simp[hv])
   have aS:Hid _:=n1;have aT:Hid _:=n2;have bZ:(v==0)=false:=by simp[hv]
   clear HN n1 n2;go_wp2_with fail;refine⟨?_,by have:=aT.out;simp[CI,intOf];omega⟩
   exact JI.of (xY.below aS.out (by first|exact Qq _ _|exact below_drewN (Qq _ _) _|exact(Qq _ _).drew)) rfl (by go_num) (by go_num)
 ·have e:=E0.out.symm.trans h;clear E0;rw[e];have G:cG 16=3:=rfl;rw[G];obtain⟨t2,t3,t4,t5⟩:=Y.three (by rw[e];rfl)
  have ae:1<(ByteArray.mk z.toArray).size:=by show 1<z.length;omega
  have aR:2<(ByteArray.mk z.toArray).size:=by show 2<z.length;omega
  have aw:((ByteArray.mk z.toArray)[1]).toNat=cr z 1:=ga z 1 ae;have bt:((ByteArray.mk z.toArray)[2]).toNat=cr z 2:=ga z 2 aR;obtain⟨k',st',cl',jj,t,kq,f',g1,D,J,g4,V⟩:=E (by omega)
  have O:some (st,cl,true)=some (st',cl',jj):=by rw[<-D];unfold iP;rw[e];rfl
  simp only[QE,QS] at O;obtain⟨rfl,rfl,rfl⟩:=O;rw[Qo rfl] at J;have HN:Hid (xY b ins fl cp gf w4 wr A Ru St (a+3+(cr z 1*256+cr z 2)) (q+1) (.slice sa st.length R)):=⟨C,t,kq,st,cl,f',hG,by rw[J,ac,t3];omega,V,I⟩
  have HA:Hid (a+3+(cr z 1*256+cr z 2)<b.length):=by
   have:=(lJ l3 V.hi).2;rw[J,ac,t3] at this;show _<_;omega
  clear I hS aa E g1 D J g4 V hG Y ad t3;generalize cr z 1=c1 at*;generalize cr z 2=c2 at*;go_wp2_with fail;go_quiet (fail);go_wp2;refine⟨?_,by have:=HA.out;simp[CI,intOf];omega⟩
  exact JI.of (HN.out.below (below_drewN (Qq _ _) _)) rfl (by go_num) (by go_num)
 ·have e:=E0.out.symm.trans h;clear E0;rw[e];have G:cG 17=2:=rfl;rw[G];obtain⟨t2,t3,t4⟩:=Y.two (by rw[e];rfl)
  have ae:1<(ByteArray.mk z.toArray).size:=by show 1<z.length;omega
  have aw:((ByteArray.mk z.toArray)[1]).toNat=cr z 1:=ga z 1 ae;have af:x.n.toNat=cr z 1:=by rw[t3];omega
  obtain⟨hA,aC,aD⟩:=aa (by omega)
  have HV:Hid (nU A Ru St= .agg #[.bool true,Iq (cr z 1:Nat),Iq ((q:Int)+1)]):=by
   show _=_;rw[hA,aD,aC,af,e];rfl
  obtain⟨ax,aE⟩:=aY.out;have rc:=λj=>Qm wr _ j _ _ _ ax
  have r0:Cq wr (w.heap.size+1+1) 0 (.bool false):=rc 0;have r1:Cq wr (w.heap.size+1+1) 1 (Iq 0):=rc 1;have r2:Cq wr (w.heap.size+1+1) 2 (Iq 0):=rc 2;have rf:∀o,wr.frozen? ⟨w.heap.size+1+1,o,none⟩=false:=λo=>by simp[World.frozen?,ax]
  have g0:=rf 0;have g1:=rf 1;have D:=rf 2;have aU:Hid _:=aE;clear I hS aa E hG Y ad t3 rc rf ax aE hA aC aD af;generalize cr z 1=c1 at*;go_wp2_with fail;show OQ b w A Ru St _ _;unfold OQ;refine Qs (v:= .agg #[.bool true,Iq (c1:Nat),Iq ((q:Int)+1)]) (by simp[results,results26,go_sem,cY,cN,eY,r0,r1,r2]) rfl ?_
  exact⟨by rw[HV.out],((aU.out.setCell (by simp;omega) _).setCell (by simp;omega) _).setCell (by simp;omega) _⟩
 have e:=E0.out.symm.trans h;clear E0;rw[e];have G:cG 18=2:=rfl;rw[G];obtain⟨t2,t3,t4⟩:=Y.two (by rw[e];rfl)
 have ae:1<(ByteArray.mk z.toArray).size:=by show 1<z.length;omega
 have aw:((ByteArray.mk z.toArray)[1]).toNat=cr z 1:=ga z 1 ae;have af:x.n.toNat=cr z 1:=by rw[t3];omega
 obtain⟨hA,aC,aD⟩:=aa (by omega)
 have HV:Hid (nU A Ru St= .agg #[.bool false,Iq (cr z 1:Nat),Iq ((q:Int)+1)]):=by
  show _=_;rw[hA,aD,aC,af,e];rfl
 obtain⟨ax,aE⟩:=aY.out;have rc:=λj=>Qm wr _ j _ _ _ ax
 have r0:Cq wr (w.heap.size+1+1) 0 (.bool false):=rc 0;have r1:Cq wr (w.heap.size+1+1) 1 (Iq 0):=rc 1;have r2:Cq wr (w.heap.size+1+1) 2 (Iq 0):=rc 2;have rf:∀o,wr.frozen? ⟨w.heap.size+1+1,o,none⟩=false:=λo=>by simp[World.frozen?,ax]
 have g0:=rf 0;have g1:=rf 1;have D:=rf 2;have aU:Hid _:=aE;clear I hS aa E hG Y ad t3 rc rf ax aE hA aC aD af;generalize cr z 1=c1 at*;go_wp2_with fail;show OQ b w A Ru St _ _;unfold OQ;refine Qs (v:= .agg #[.bool false,Iq (c1:Nat),Iq ((q:Int)+1)]) (by simp[results,results26,go_sem,cY,cN,eY,r0,r1,r2]) rfl ?_
 exact⟨by rw[HV.out],((aU.out.setCell (by simp;omega) _).setCell (by simp;omega) _).setCell (by simp;omega) _⟩
theorem M8 {b:LB} {ins St} {l:List Value} (e:l.toArray=JF z D w q vs (Iq 3) (Iq 0) (λi=>l.getD i Nf)) (I:fD b=some ins) (R:dL fl) (J:z<w.heap.size) (G:Hid (∀W,Bl q W->W.heap[w.heap.size+1+1]?=some (.cells #[.bool false,Iq 0,Iq 0] 40 (0,0))/\Bl w W)) (U:Hid (xY b ins fl z D q wr A E St 3 0 vs)):
 Code.wp prog (Code.loop ((f26.body.bind pL).getD .skip)) (JQ (OQ b w A E St)) ⟨l.toArray,[]⟩ wr:=
 wp_loop (JI b ins fl z D w q A E St) (CI b) (JI.of U.out e rfl rfl) (λa O V=>Ly I R J G a O V)
end Go.Proofs.YtfkdailfcmnjlaaGreatDoor
