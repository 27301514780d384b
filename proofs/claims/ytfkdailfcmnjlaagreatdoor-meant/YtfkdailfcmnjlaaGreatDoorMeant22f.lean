/-
  A part.
-/
import Derived.Test.YtfkdailfcmnjlaaGreatDoorMeant22b
import Derived.Test.YtfkdailfcmnjlaaGreatDoorMeant22c
set_option linter.unusedVariables false
set_option linter.unusedSimpArgs false
set_option maxHeartbeats 40000000
set_option maxRecDepth 1000000
namespace Go.Proofs.YtfkdailfcmnjlaaGreatDoor
open Go Go.RowKit Tryz
attribute [local go_sem ↓] Go.wp_at_zero Go.wp_at_succ
variable {a:Act} {w w0:World} {p kd b:Nat} {r m:Mk} {v:Nat→Value} {l:Nat→List Mk} {n:Int}
theorem Ik {c:jV} (hn:dG n) (h9:kd≤9) (hT:TI b w p v l) (hb:b≤w.heap.size) (R:rN (qS c) l) (hl:∀j,j<3→(l j).length≤1000):
 Calls prog 38 #[Pq p,.agg (je c),Iq kd,Iq n] w (vT c b p w l):=by
 have I:=KI hn;have Z:Hid (∀j,j<3→ ∀(o:Mk) (q:Int),dG q→ ∀W,Below w.heap.size w W→Calls prog 72 #[v j,Iq q,pB o] W fun e w'=>e= .returned (pB (lZ (l j) q o))∧w'=(W.alloc (xV o)).alloc (xV (lZ (l j) q o))):=fun j hj o q hq W h=>EK hq (hl j hj) o W (dn (hT.row j hj) h)
 have HV:Hid (∀W,Below w.heap.size w W→Cq W p 0 (v 0)∧Cq W p 1 (v 1)∧Cq W p 2 (v 2)):=fun W h=>⟨((hT.below h).cell).1,((hT.below h).cell).2.1,((hT.below h).cell).2.2.1⟩
 have a0:gW (qS c) (Ig 0) (lZ (l 0) n xL):=qV R (j:=0) (by decide) n (FM (qS c))
 have b0:gW (qS c) (Ig 0) (lZ (l 0) (n.tdiv 3) xL):=qV R (j:=0) (by decide) (n.tdiv 3) (FM (qS c))
 have m0:gW (qS c) (Ig 1) (lZ (l 1) n xM):=qV R (j:=1) (by decide) n (FN (qS c))
 have k0:gW (qS c) (Ig 1) (lZ (l 1) (n.tdiv 3) xM):=qV R (j:=1) (by decide) (n.tdiv 3) (FN (qS c))
 have x0:gW (qS c) (Ig 2) (lZ (l 2) n ET):=qV R (j:=2) (by decide) n (KH (qS c))
 have y0:gW (qS c) (Ig 2) (lZ (l 2) (n.tdiv 3) ET):=qV R (j:=2) (by decide) (n.tdiv 3) (KH (qS c))
 have HG:Hid (rN (qS c) l):=R;have HT:Hid (TI b w p v l):=hT;have HL:Hid (∀j,j<3→(l j).length≤1000):=hl;unfold je;go_enter func38,ntmps38
 go_upto_region 4 with fail
 go_name_world w0 J
 have aj:w0.heap.size=w.heap.size+4:=by rw[←J];simp
 have Z3:fW w0 (w.heap.size+1+1+1) ET:=by rw[←J];exact nu (m:=ET) (by simp)
 have Z2:fW w0 (w.heap.size+1+1) xM:=by rw[←J];exact pC (nu (m:=xM) (by simp))
 have Z1:fW w0 (w.heap.size+1) xL:=by rw[←J];exact pC (pC (nu (m:=xL) (by simp)))
 have E:Below w.heap.size w w0:=by rw[←J];exact((((ZA _ _).alloc (Zw _) _).alloc (by simp) _).alloc (by simp;omega) _).alloc (by simp;omega) _
 refine iG (NK (o:=xL) I Z1 (HV.out w0 E).1 (fun W h=>Z.out 0 (by decide) xL n hn W (E.trans (h.mono E.size))) (fun W h=>Z.out 0 (by decide) xL _ I W (E.trans (h.mono E.size)))) ?_
 rintro a1 w1 ⟨ga,gb,u21,u22,u23,u24,u25,u26,u27,u28,u29,u30,u31,u32,u33,u34,u35,rfl,U,V,Y⟩;simp only[Exit.then]
 have B1:=E.trans (Y.mono E.size)
 go_upto_region 5 with fail
 refine iG (NM (o:=xM) I (dm Z2 Y (by omega)) (HV.out w1 B1).2.1 (fun W h=>Z.out 1 (by decide) xM n hn W (B1.trans (h.mono B1.size))) (fun W h=>Z.out 1 (by decide) xM _ I W (B1.trans (h.mono B1.size)))) ?_
 rintro a2 w2 ⟨gm,gk,u36,u37,u38,u39,u40,u41,u42,u43,u44,u45,u46,u47,u48,u49,u50,rfl,ad,ae,G⟩;simp only[Exit.then]
 have B2:=B1.trans (G.mono B1.size)
 go_upto_region 6 with fail
 refine iG (NN (o:=ET) I (dm (dm Z3 Y (by omega)) G (by have:=Y.size;omega)) (HV.out w2 B2).2.2 (fun W h=>Z.out 2 (by decide) ET n hn W (B2.trans (h.mono B2.size))) (fun W h=>Z.out 2 (by decide) ET _ I W (B2.trans (h.mono B2.size)))) ?_
 rintro a3 w3 ⟨gx,gy,u51,u52,u53,u54,u55,u56,u57,u58,u59,u60,u61,u62,u63,u64,u65,rfl,aa,ab,O⟩;simp only[Exit.then]
 have B3:=B2.trans (O.mono B2.size);have A1:=dm (dm U G (be U)) O (be (dm U G (be U)));have A2:=dm (dm V G (be V)) O (be (dm V G (be V)));have A3:=dm ad O (be ad);have A4:=dm ae O (be ae)
 go_upto_block 0 with fail
 rename_i K hK
 go_name_world w4 ac
 have D:Below w3.heap.size w3 w4:=by rw[←ac];exact(ZA _ _).alloc (Zw _) _
 have ag:fW w4 w3.heap.size kt:=by rw[←ac];exact nu (m:=kt) rfl
 have B4:=B3.trans (D.mono B3.size);have HI:Pr w4 ga gb gm gk gx gy w3.heap.size _ _ _ _ _ _:=⟨dm A1 D (be A1),dm A2 D (be A2),dm A3 D (be A3),dm A4 D (be A4),dm aa D (be aa),dm ab D (be ab),ag,be A1,be A2,be A3,be A4,be aa,be ab,a0.small,b0.small,m0.small,k0.small,x0.small,y0.small,KJ x0.told,KJ y0.told⟩;refine iG (NL h9 HI) ?_;intro a5 w5 z;obtain⟨u67,z⟩:=z;obtain⟨u68,z⟩:=z;obtain⟨u69,z⟩:=z;obtain⟨u70,z⟩:=z;obtain⟨u71,z⟩:=z;obtain⟨u72,z⟩:=z;obtain⟨u73,z⟩:=z;obtain⟨u74,z⟩:=z;obtain⟨u75,z⟩:=z;obtain⟨u76,z⟩:=z;obtain⟨u77,z⟩:=z;obtain⟨u78,z⟩:=z;obtain⟨u79,z⟩:=z;obtain⟨u80,z⟩:=z;obtain⟨u81,z⟩:=z;obtain⟨u82,z⟩:=z;obtain⟨u83,z⟩:=z;obtain⟨u84,z⟩:=z;obtain⟨u85,z⟩:=z;obtain⟨u86,z⟩:=z;obtain⟨u87,z⟩:=z;obtain⟨u88,z⟩:=z;obtain⟨u89,z⟩:=z;obtain⟨u90,z⟩:=z;obtain⟨u91,z⟩:=z;obtain⟨u92,z⟩:=z;obtain⟨u93,z⟩:=z;obtain⟨u94,z⟩:=z;obtain⟨u95,z⟩:=z;obtain⟨u96,z⟩:=z;obtain⟨u97,z⟩:=z;obtain⟨u98,z⟩:=z;obtain⟨u99,z⟩:=z;obtain⟨u100,z⟩:=z;obtain⟨u101,z⟩:=z;obtain⟨u102,z⟩:=z;obtain⟨u103,z⟩:=z;obtain⟨u104,z⟩:=z;obtain⟨u105,z⟩:=z;obtain⟨u106,z⟩:=z;obtain⟨u107,z⟩:=z;obtain⟨u108,z⟩:=z;obtain⟨u109,z⟩:=z;obtain⟨u110,z⟩:=z;obtain⟨u111,z⟩:=z;obtain⟨u112,z⟩:=z;obtain⟨u113,z⟩:=z;obtain⟨u114,z⟩:=z;obtain⟨u115,z⟩:=z;obtain⟨u116,z⟩:=z;obtain⟨u117,z⟩:=z;obtain⟨u118,z⟩:=z;obtain⟨u119,z⟩:=z;obtain⟨u120,z⟩:=z;obtain⟨u121,z⟩:=z;obtain⟨u122,z⟩:=z;obtain⟨u123,z⟩:=z;obtain⟨u124,z⟩:=z;obtain⟨u125,z⟩:=z;obtain⟨u126,z⟩:=z;obtain⟨u127,z⟩:=z;obtain⟨u128,z⟩:=z;obtain⟨u129,z⟩:=z;obtain⟨u130,z⟩:=z;obtain⟨u131,z⟩:=z;obtain⟨u132,z⟩:=z;obtain⟨u133,z⟩:=z;obtain⟨u134,z⟩:=z;obtain⟨u135,z⟩:=z;obtain⟨u136,z⟩:=z;obtain⟨u137,z⟩:=z;obtain⟨u138,z⟩:=z;obtain⟨u139,z⟩:=z;obtain⟨u140,z⟩:=z;obtain⟨u141,z⟩:=z;obtain⟨u142,z⟩:=z;obtain⟨u143,z⟩:=z;obtain⟨u144,z⟩:=z;obtain⟨u145,z⟩:=z;obtain⟨u146,z⟩:=z;obtain⟨u147,z⟩:=z;obtain⟨u148,z⟩:=z;obtain⟨u149,z⟩:=z;obtain⟨u150,z⟩:=z;obtain⟨u151,z⟩:=z;obtain⟨u152,z⟩:=z;obtain⟨u153,z⟩:=z;obtain⟨u154,z⟩:=z;obtain⟨u155,z⟩:=z;obtain⟨u156,z⟩:=z;obtain⟨u157,z⟩:=z;obtain⟨u158,z⟩:=z;obtain⟨u159,z⟩:=z;obtain⟨u160,z⟩:=z;obtain⟨u161,z⟩:=z;obtain⟨u162,z⟩:=z;obtain⟨u163,z⟩:=z;obtain⟨u164,z⟩:=z;obtain⟨u165,z⟩:=z;obtain⟨u166,z⟩:=z;obtain⟨u167,z⟩:=z;obtain⟨u168,z⟩:=z;obtain⟨u169,z⟩:=z;obtain⟨u170,z⟩:=z;obtain⟨u171,z⟩:=z;obtain⟨u172,z⟩:=z;obtain⟨u173,z⟩:=z;obtain⟨u174,z⟩:=z;obtain⟨u175,z⟩:=z;obtain⟨u176,z⟩:=z;obtain⟨u177,z⟩:=z;obtain⟨u178,z⟩:=z;obtain⟨u179,z⟩:=z;obtain⟨rfl,af,ah⟩:=z;simp only[Exit.then]
 have B5:=B4.trans (ah.mono (by have:=B3.size;omega))
 have L5:=NR kd a0.small b0.small m0.small k0.small x0.small y0.small;have ai:= @OD (qS c) kd _ _ _ _ _ _ a0 b0 m0 k0 x0 y0;generalize gM kd _ _ _ _ _ _=r at*
 by_cases hr:r.deep≤12∧r.bare.length≤140∧r.text.length≤140
 ·obtain⟨r1,r2,r3⟩:=hr
  have ok:=ai r1 r3 r2
  by_cases hk:2≤kd∧kd≤8
  ·have ej:gJ kd=2:=by unfold gJ;rw[Zt (by omega)]
   rw[ej] at ok;refine hK _ _ (wp_mono (NQ hk HT.out hb B5 af (HL.out 2 (by decide)) r1 r2 r3) (fun e a w' h=>ES ?_ h))
   rintro w' ⟨v',h1,h2⟩;exact⟨rfl,v',_,h1,HG.out.put ok,qU _,h2⟩
  ·have ej:gJ kd=0:=by unfold gJ;rw[Zu (by omega)]
   rw[ej] at ok;refine hK _ _ (wp_mono (NP (by omega) HT.out hb B5 af (HL.out 0 (by decide)) r1 r2 r3) (fun e a w' h=>ES ?_ h))
   rintro w' ⟨v',h1,h2⟩;exact⟨rfl,v',_,h1,HG.out.put ok,qU _,h2⟩
 ·refine hK _ _ (wp_mono (Mm af L5 hr) (fun e a w' h=>ES ?_ h))
  rintro w' rfl;exact⟨rfl,v,l,HT.out.below B5,HG.out,fun _ _=>by omega,B5.mono hb⟩
end Go.Proofs.YtfkdailfcmnjlaaGreatDoor
