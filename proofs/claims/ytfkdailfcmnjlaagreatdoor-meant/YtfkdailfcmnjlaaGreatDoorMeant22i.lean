/-
  A part.
-/
import Derived.Test.YtfkdailfcmnjlaaGreatDoorMeant22g
import Derived.Test.YtfkdailfcmnjlaaGreatDoorMeant22h
set_option linter.unusedVariables false
set_option linter.unusedSimpArgs false
set_option maxHeartbeats 40000000
set_option maxRecDepth 1000000
namespace Go.Proofs.YtfkdailfcmnjlaaGreatDoor
open Go Go.RowKit Tryz
attribute [local go_sem ↓] Go.wp_at_zero Go.wp_at_succ mI
variable {p U:Nat} {w W z:World} {l:List UInt8} {c:jV} {rv D a1 a2 I G E:Value}
theorem CU (hc:jC c) {zs:List Int} (hz:xN rv zs w) (ae:∀z∈zs,dG z):
 Calls prog 16 #[.agg (je c),rv] w (sD c w):=by
 obtain⟨av,a,cap,rfl,af⟩:=hz;obtain⟨J,I⟩:∃J,((w.alloc (.cells (je c) 37)).alloc (.cells #[.string ⟨#[]⟩,.string ⟨#[]⟩,.bool false,Iq 0,Iq 0] 42)).alloc (.cells #[.slice none 0 0,.slice none 0 0,.slice none 0 0] 100)=J:=⟨_,rfl⟩;have ay:J.heap.size=w.heap.size+3:=by rw[←I];simp
 have ag:J.heap[w.heap.size]?=some (.cells (je c) 37 (0,0)):=by
  rw[←I];exact(ZE _ _ _ (by simp;omega)).trans ((ZE _ _ _ (by simp)).trans (Zy w _))
 have ah:mA J (w.heap.size+1) [] [] false 0:=by
  rw[←I];have h:=Zy (w.alloc (.cells (je c) 37)) (.cells #[.string ⟨#[]⟩,.string ⟨#[]⟩,.bool false,Iq 0,Iq 0] 42);rw[ZB] at h;exact(ZE _ _ _ (by simp)).trans h
 have ai:J.heap[w.heap.size+1+1]?=some (.cells #[.slice none 0 0,.slice none 0 0,.slice none 0 0] 100 (0,0)):=by
  rw[←I];have h:=Zy ((w.alloc (.cells (je c) 37)).alloc (.cells #[.string ⟨#[]⟩,.string ⟨#[]⟩,.bool false,Iq 0,Iq 0] 42)) (.cells #[.slice none 0 0,.slice none 0 0,.slice none 0 0] 100);rw[ZB,ZB] at h;exact h
 have Z:Below w.heap.size w J:=by
  rw[←I];exact(((ZA _ w).alloc (Zw _) _).alloc (by simp) _).alloc (by simp;omega) _
 have aj:xO c (w.heap.size+1+1) (w.heap.size+1+1) J J 0:=⟨fun _=> .slice none 0 0,fun _=>[],⟨ai,fun j hj=>aam _ _ _ _,fun i j _ _ _ g hg=>by simp[Value.ownBlock] at hg,Zw _⟩,fun j hj m hm=>by simp at hm,fun j hj=>by simp,ZA _ _⟩
 have aa:∀i,i<zs.length→ ∃rb ro,a=some ⟨rb,ro,none⟩∧rb<w.heap.size+1+1∧J.cell? ⟨rb,ro+i,none⟩=some (Iq (zs.getD i 0)):=fun i hi=>by
  obtain⟨rb,ro,e,h⟩:=af i hi;have aw:rb<w.heap.size:=Zx w _ h;exact⟨rb,ro,e,by omega,by rw[Z.cell (p:=⟨rb,ro+i,none⟩) aw];exact h⟩
 have HW:=Hi I;have ak:=Hi aa;unfold je at HW⊢;go_enter func16,ntmps16
 go_upto_block 0 with fail
 rw[HW.out];refine iG (NS hc (zs:=zs) rfl av ak.out ae ag (by omega) (by omega) aj) ?_
 intro a1 G D;obtain⟨u6,D⟩:=D;obtain⟨u7,D⟩:=D;obtain⟨u15,D⟩:=D;obtain⟨u16,D⟩:=D;obtain⟨u17,D⟩:=D;obtain⟨u18,D⟩:=D;obtain⟨u19,D⟩:=D;obtain⟨u20,D⟩:=D;obtain⟨u21,D⟩:=D;obtain⟨u22,D⟩:=D;obtain⟨u23,D⟩:=D;obtain⟨u24,D⟩:=D;obtain⟨u25,D⟩:=D;obtain⟨u26,D⟩:=D;obtain⟨u27,D⟩:=D;obtain⟨u28,D⟩:=D;obtain⟨u29,D⟩:=D;obtain⟨u30,D⟩:=D;obtain⟨u31,D⟩:=D;obtain⟨u32,D⟩:=D;obtain⟨u33,D⟩:=D;obtain⟨u34,D⟩:=D;obtain⟨u35,D⟩:=D;obtain⟨u36,D⟩:=D;obtain⟨u37,D⟩:=D;obtain⟨u38,D⟩:=D;obtain⟨u39,D⟩:=D;obtain⟨u40,D⟩:=D;obtain⟨u41,D⟩:=D;obtain⟨u42,D⟩:=D;obtain⟨u43,D⟩:=D;obtain⟨u44,D⟩:=D;obtain⟨u45,D⟩:=D;obtain⟨u46,D⟩:=D;obtain⟨u47,D⟩:=D;obtain⟨u48,D⟩:=D;obtain⟨u49,D⟩:=D;obtain⟨u50,D⟩:=D;obtain⟨u51,D⟩:=D;obtain⟨rfl,v,l,hT,hg,hl,ab⟩:=D;simp only[Exit.then]
 obtain⟨va,vc,am⟩:=pA (hT.row 2 (by decide))
 have t2:G.cell? ⟨w.heap.size+1+1,2,none⟩=some (.slice va (l 2).length vc):=by rw[hT.cell.2.2.1,am]
 have az:w.heap.size+3≤G.heap.size:=by have:=ab.size;omega
 have p1:w.heap.size+1+1<G.heap.size:=by omega
 have aA:=hl 2 (by decide)
 have HT:Hid (TI (w.heap.size+1+1) G (w.heap.size+1+1) v l):=hT;have HG:=Hi hg;have an:=Hi ah;have ac:=Hi ab;have ao:=Hi Z
 go_upto_block 2 with fail
 go_name_world w2 ad
 have ap:mA w2 G.heap.size [] [] false 0:=by rw[←ad];exact Zy G _
 have R:Below G.heap.size G w2:=by rw[←ad];exact(ZA _ _).alloc (Zw _) _
 refine iG (NV (fl:=qS c) (lt:=l 2) rfl (by omega) (fun W h=>MR.truths (HT.out.below (R.trans h))) (HG.out 2 (by decide)) ap) ?_
 intro a2 E h3;obtain⟨u9,h3⟩:=h3;obtain⟨u10,h3⟩:=h3;obtain⟨u11,h3⟩:=h3;obtain⟨u12,h3⟩:=h3;obtain⟨u58,h3⟩:=h3;obtain⟨u59,h3⟩:=h3;obtain⟨u60,h3⟩:=h3;obtain⟨u61,h3⟩:=h3;obtain⟨u62,h3⟩:=h3;obtain⟨u63,h3⟩:=h3;obtain⟨u64,h3⟩:=h3;obtain⟨u65,h3⟩:=h3;obtain⟨u66,h3⟩:=h3;obtain⟨u67,h3⟩:=h3;obtain⟨u68,h3⟩:=h3;obtain⟨u69,h3⟩:=h3;obtain⟨u70,h3⟩:=h3;obtain⟨u71,h3⟩:=h3;obtain⟨u72,h3⟩:=h3;obtain⟨u73,h3⟩:=h3;obtain⟨u74,h3⟩:=h3;obtain⟨u75,h3⟩:=h3;obtain⟨u76,h3⟩:=h3;obtain⟨u77,h3⟩:=h3;obtain⟨u78,h3⟩:=h3;obtain⟨u79,h3⟩:=h3;obtain⟨u80,h3⟩:=h3;obtain⟨u81,h3⟩:=h3;obtain⟨u82,h3⟩:=h3;obtain⟨u83,h3⟩:=h3;obtain⟨u84,h3⟩:=h3;obtain⟨u85,h3⟩:=h3;obtain⟨u86,h3⟩:=h3;obtain⟨u87,h3⟩:=h3;obtain⟨u88,h3⟩:=h3;obtain⟨u89,h3⟩:=h3;obtain⟨u90,h3⟩:=h3;obtain⟨u91,h3⟩:=h3;obtain⟨u92,h3⟩:=h3;obtain⟨u93,h3⟩:=h3;obtain⟨u94,h3⟩:=h3;obtain⟨u95,h3⟩:=h3;obtain⟨u96,h3⟩:=h3;obtain⟨u97,h3⟩:=h3;obtain⟨u98,h3⟩:=h3;obtain⟨u99,h3⟩:=h3;obtain⟨u100,h3⟩:=h3;obtain⟨u101,h3⟩:=h3;obtain⟨u102,h3⟩:=h3;obtain⟨u103,h3⟩:=h3;obtain⟨u104,h3⟩:=h3;obtain⟨u105,h3⟩:=h3;obtain⟨u106,h3⟩:=h3;obtain⟨u107,h3⟩:=h3;obtain⟨u108,h3⟩:=h3;obtain⟨u109,h3⟩:=h3;obtain⟨u110,h3⟩:=h3;obtain⟨u111,h3⟩:=h3;obtain⟨u112,h3⟩:=h3;obtain⟨u113,h3⟩:=h3;obtain⟨u114,h3⟩:=h3;obtain⟨u115,h3⟩:=h3;obtain⟨u116,h3⟩:=h3;obtain⟨u117,h3⟩:=h3;obtain⟨u118,h3⟩:=h3;obtain⟨u119,h3⟩:=h3;obtain⟨u120,h3⟩:=h3;obtain⟨u121,h3⟩:=h3;obtain⟨u122,h3⟩:=h3;obtain⟨u123,h3⟩:=h3;obtain⟨u124,h3⟩:=h3;obtain⟨u125,h3⟩:=h3;obtain⟨u126,h3⟩:=h3;obtain⟨u127,h3⟩:=h3;obtain⟨u128,h3⟩:=h3;obtain⟨u129,h3⟩:=h3;obtain⟨u130,h3⟩:=h3;obtain⟨u131,h3⟩:=h3;obtain⟨u132,h3⟩:=h3;obtain⟨u133,h3⟩:=h3;obtain⟨u134,h3⟩:=h3;obtain⟨u135,h3⟩:=h3;obtain⟨u136,h3⟩:=h3;obtain⟨u137,h3⟩:=h3;obtain⟨u138,h3⟩:=h3;obtain⟨rfl,q,aq,ar,O,V⟩:=h3;simp only[Exit.then]
 have U:mA E (w.heap.size+1) [] [] false 0:=(V.block _ (by omega)).trans ((R.block _ (by omega)).trans ((ac.out.block _ (by omega)).trans an.out))
 have y0:=Zz E _ 0 _ _ _ O;have y1:=Zz E _ 1 _ _ _ O;have y2:=Zz E _ 2 _ _ _ O;have y3:=Zz E _ 3 _ _ _ O;have y4:=Zz E _ 4 _ _ _ O;have x0:=Zz E _ 0 _ _ _ U;have x1:=Zz E _ 1 _ _ _ U;have x2:=Zz E _ 2 _ _ _ U;have x3:=Zz E _ 3 _ _ _ U;have x4:=Zz E _ 4 _ _ _ U;have Y:∀j,E.frozen? ⟨w.heap.size+1,j,none⟩=false:=fun j=>by unfold mA at U;simp[World.frozen?,U]
 have au:Hid (∀w',Below w.heap.size w w'→sD c w (.returned (.agg #[S (gh q),S (gK q),.bool (eT q 0).1,Iq ((eT q 0).2:Nat),Iq 0])) w'):=fun w' h=>⟨q,ar,aq,rfl,h⟩
 have HB:Hid (Below w.heap.size w E):=ao.out.trans ((ac.out.mono (by omega)).trans ((R.mono (by omega)).trans (V.mono (by omega))))
 generalize gh q=tq at*;generalize gK q=bq at*;generalize (eT q 0).1=s1 at*;generalize (eT q 0).2=s2 at*
 go_wp2;refine ZH (v:= .agg #[S tq,S bq,.bool s1,Iq (s2:Nat),Iq 0]) (by simp[results,results16,go_sem,fg,dU,lR,x0,x1,x2,x3,x4]) rfl ?_
 exact au.out _ (((((HB.out.setCell (by simp) _).setCell (by simp) _).setCell (by simp) _).setCell (by simp) _).setCell (by simp) _)
end Go.Proofs.YtfkdailfcmnjlaaGreatDoor
