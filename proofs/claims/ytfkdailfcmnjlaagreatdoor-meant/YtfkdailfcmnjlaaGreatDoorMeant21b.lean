/-
  A part.
-/
import Derived.Test.YtfkdailfcmnjlaaGreatDoorMeant21a
import Derived.Shelf.Abstract
set_option linter.unusedVariables false
set_option linter.unusedSimpArgs false
set_option maxHeartbeats 40000000
set_option maxRecDepth 1000000
set_option maxHeartbeats 40000000
set_option maxRecDepth 1000000
namespace Go.Proofs.YtfkdailfcmnjlaaGreatDoor
open Go Go.RowKit Tryz
attribute [local go_sem ↓] Go.wp_at_zero Go.wp_at_succ
variable {z G E:List (List UInt8×Int)} {w W J wr U w4:World} {p n i f q k Ru rb base e size:Nat} {vs O D R Z v:Value} {fl st:List Int} {s s2:MS} {b:List UInt8} {C:Nat→Option Kn} {A:Bool} {V I Y o:Obj} {x:Int}
theorem EF {ins:List hH} {R G cap:Nat} {St:Nat} (bT:kO b=some ins) (hm:mi w R G cap (de b 2) (de b 1) ins) (hF:eO fl) (hj:oT b ins fl=some (A,Ru,St)):
 Calls prog 100 #[Pq R,K9 fl] w fun e w'=>e= .returned (vm A Ru St)∧Below w.heap.size w w':=by
 obtain⟨h1,h2,h3,h4,h5,h6,C,h7,h8⟩:=rX bT;have bU:=lN b 2;have bV:=run_make_row' (P:=prog) 179 112 (Iq 0) 8 underlying179 vl rfl .i64 .i64 (de b 2) (by omega) (by omega)
 have p0:w.cell? ⟨R,0,none⟩=some (Iq (de b 2:Nat)):=by rw[Zz w R 0 _ _ _ hm.blk];rfl
 have bW:=be hm.blk;have W1:=fun w=>Et w
 have HM:=Hi hm;have a8:=Hi (And.intro h3 (And.intro h4 (And.intro h7 h8)));unfold K9;generalize a9:fl.getD 0 0=V;generalize ba:fl.getD 1 0=Y;generalize bb:fl.getD 2 0=Z;generalize bc:fl.getD 3 0=f3;generalize bd:fl.getD 4 0=f4;generalize bf:fl.getD 5 0=f5;generalize bg:fl.getD 6 0=f6;generalize bh:fl.getD 7 0=f7;generalize bi:fl.getD 8 0=f8;have bj:Hid (fl.getD 0 0=V∧fl.getD 1 0=Y∧fl.getD 2 0=Z∧fl.getD 3 0=f3∧fl.getD 4 0=f4∧fl.getD 5 0=f5∧fl.getD 6 0=f6∧fl.getD 7 0=f7∧fl.getD 8 0=f8):=⟨a9,ba,bb,bc,bd,bf,bg,bh,bi⟩;clear a9 ba bb bc bd bf bg bh bi hm h3 h4 h7 h8;have HJ:=Hi hj;clear hj;generalize az:de b 2=cells at*;obtain⟨z,ae⟩:∃z,(w.alloc (.cells #[Iq V,Iq Y,Iq Z,Iq f3,Iq f4,Iq f5,Iq f6,Iq f7,Iq f8] 114)).alloc (.cells #[.bool false,Iq 0,Iq 0] 40)=z:=⟨_,rfl⟩;have aa:Below w.heap.size w z:=by rw[←ae];exact((ZA _ _).alloc (Zw _) _).alloc (by simp) _
 have bk:z.heap[w.heap.size]?=some (.cells #[Iq V,Iq Y,Iq Z,Iq f3,Iq f4,Iq f5,Iq f6,Iq f7,Iq f8] 114 (0,0)):=by rw[←ae];exact(ZE _ _ _ (by simp)).trans (Zy w _)
 have ai:z.heap[w.heap.size+1]?=some (.cells #[.bool false,Iq 0,Iq 0] 40 (0,0)):=by rw[←ae];have:=Zy (w.alloc (.cells #[Iq V,Iq Y,Iq Z,Iq f3,Iq f4,Iq f5,Iq f6,Iq f7,Iq f8] 114)) (.cells #[.bool false,Iq 0,Iq 0] 40);rw[ZB] at this;exact this
 have aq:z.heap.size=w.heap.size+1+1:=by rw[←ae,ZB,ZB]
 have ab:=fun j=>Zz z _ j _ _ _ bk
 have aj:z.cell? ⟨R,0,none⟩=some (Iq cells)∧z.rangeAt w.heap.size 0 [Iq V,Iq Y,Iq Z,Iq f3,Iq f4,Iq f5,Iq f6,Iq f7,Iq f8]:=⟨by rw[aa.cell (p:=⟨R,0,none⟩) bW];exact p0,fun j v hv=>by rw[aaq,ab];simpa using hv⟩
 have KA:Hid (∀(W:World) (o:Obj),(W.cell? ⟨R,0,none⟩=some (Iq cells)∧W.rangeAt w.heap.size 0 [Iq V,Iq Y,Iq Z,Iq f3,Iq f4,Iq f5,Iq f6,Iq f7,Iq f8])→((W.alloc o).cell? ⟨R,0,none⟩=some (Iq cells)∧(W.alloc o).rangeAt w.heap.size 0 [Iq V,Iq Y,Iq Z,Iq f3,Iq f4,Iq f5,Iq f6,Iq f7,Iq f8])):=fun W o hS=>by
  exact⟨by rw[World.cell?_alloc_some _ _ _ (by rw[hS.1];rfl)];exact hS.1,World.rangeAt_alloc hS.2 o⟩
 have bK:prog.underlying 114=some (.array 9 112):=underlying114;have bL:Option.map (fun x=>x.size) (prog.info? 114)=some ([Value.int .i64 V,Iq Y,Iq Z,Iq f3,Iq f4,Iq f5,Iq f6,Iq f7,Iq f8]).length:=by kernel_rfl
 have aA:=Hi (And.intro aa (And.intro ai aq));have HW:=Hi ae;clear ae aa bk ai aq ab;go_enter func100,ntmps100;go_wp2_with fail;rw[HW.out]
 go_region_held3 (fun W=>W.cell? ⟨R,0,none⟩=some (Iq cells)∧W.rangeAt w.heap.size 0 [Iq V,Iq Y,Iq Z,Iq f3,Iq f4,Iq f5,Iq f6,Iq f7,Iq f8]) (first|with_reducible assumption|exact KA.out z _ aj|exact KA.out _ _ (KA.out z _ aj)|go_keep) (fail)
 rename_i hHeld
 clear hHeld KA aj bK bL bV;obtain⟨w3,ak⟩:∃w3,((z.alloc (.cells (madeCells #[Iq 0] cells) 112)).alloc (.cells #[.slice none 0 0,Sq z.heap.size cells cells,Iq V,Iq Y,Iq Z,Iq f3,Iq f4,Iq f5,Iq f6,Iq f7,Iq f8,Iq 0,.bool false,.bool false,Iq 0,Iq 0] 257)).drew=w3:=⟨_,rfl⟩;have aB:Hid (gj w3 (z.heap.size+1) (.slice none 0 0) (Sq z.heap.size cells cells) fl ⟨[],List.replicate cells 0,0,false,false,0,0⟩∧Below z.heap.size z w3):=by
  have e1:(z.alloc (.cells (madeCells #[Iq 0] cells) 112)).heap.size=z.heap.size+1:=ZB _ _;have bl:=Zy (z.alloc (.cells (madeCells #[Iq 0] cells) 112)) (.cells #[.slice none 0 0,Sq z.heap.size cells cells,Iq V,Iq Y,Iq Z,Iq f3,Iq f4,Iq f5,Iq f6,Iq f7,Iq f8,Iq 0,.bool false,.bool false,Iq 0,Iq 0] 257);rw[e1] at bl;have aC:=acn (base:=0) (e:=112) (size:=1) z (madeCells #[Iq 0] cells) cells (ZL _) (by unfold maxLen;omega) (by rw[aci,Nat.mul_one])
  have bX:(madeCells #[Value.int .i64 0] cells).toList=(List.replicate cells (0:Int)).map (Value.int .i64):=by
   apply abD
   ·rw[abY,aci];simp
   ·intro j h1 h2
    simp[madeCells,acv]
  rw[bX] at aC;have bY:IR w3 112 (Sq z.heap.size cells cells) (List.replicate cells 0):=by
   rw[←ak];have:=aac aC (.cells #[.slice none 0 0,Sq z.heap.size cells cells,Iq V,Iq Y,Iq Z,Iq f3,Iq f4,Iq f5,Iq f6,Iq f7,Iq f8,Iq 0,.bool false,.bool false,Iq 0,Iq 0] 257);unfold IR;rw[aaw];exact this
  refine⟨⟨?_,IR.nil _ _,bY,fun b U=>by simp[Value.ownBlock] at U⟩,?_⟩
  ·rw[←ak]
   obtain⟨O,g1,g2,g3,g4,g5,g6,g7,g8⟩:=bj.out;unfold L9;rw[O,g1,g2,g3,g4,g5,g6,g7,g8];exact bl
  ·rw[←ak]
   exact(((ZA _ z).alloc (Zw _) _).alloc (by simp) _).drew
 rw[ak];clear ak;go_wp2_with fail;apply(W1 _).mono;rintro e w4 ⟨rfl,af⟩;have bm:Option.map (fun x=>x.size) (prog.info? 259)=some 19:=by kernel_rfl
 obtain⟨w5,aD⟩:∃w5,w4.alloc (.cells #[Value.nilFunc,Value.nilFunc,Value.nilFunc,Value.nilFunc,Value.nilFunc,Value.nilFunc,Value.nilFunc,Value.nilFunc,Value.nilFunc,Value.nilFunc,Value.nilFunc,Value.nilFunc,Value.nilFunc,Value.nilFunc,Value.nilFunc,Value.nilFunc,Value.nilFunc,Value.nilFunc,Value.nilFunc] 259)=w5:=⟨_,rfl⟩;have bo:w5.heap[w4.heap.size]?=some (.cells #[Value.nilFunc,Value.nilFunc,Value.nilFunc,Value.nilFunc,Value.nilFunc,Value.nilFunc,Value.nilFunc,Value.nilFunc,Value.nilFunc,Value.nilFunc,Value.nilFunc,Value.nilFunc,Value.nilFunc,Value.nilFunc,Value.nilFunc,Value.nilFunc,Value.nilFunc,Value.nilFunc,Value.nilFunc] 259 (0,0)):=by rw[←aD];exact Zy w4 _
 have ht:=zh bo;have aE:=Hi af;have ar:=Hi aD;clear af W1 aD HW;generalize bp:AJ.toArray=dT at*;have am:=Hi bp;clear bp
 go_wp2_with (
  rw[ar.out];refine wpList_store_mid (by rfl) _ _ _ (by rfl) w4.heap.size 0 dT (by rfl) (by rfl) (by rw[←am.out];exact ht) (by rw[←am.out];exact bm) (by rw[←am.out];exact all_oneCell_toArray Fz) ?_
  rw[←am.out])
 simp only[Act.put];obtain⟨w6,an⟩:∃w6,w5.setCells w4.heap.size 0 AJ=w6:=⟨_,rfl⟩;have bq:CP w w6 (z.heap.size+1) w4.heap.size (w.heap.size+1) z.heap.size (w4.heap.size+1) (Sq z.heap.size cells cells) ins fl cells C A Ru St (.slice none 0 0) ⟨[],List.replicate cells 0,0,false,false,0,0⟩:=by
  obtain⟨au,av⟩:=aB.out;obtain⟨aa,ai,aq⟩:=aA.out;obtain⟨l3,l4,l7,l8⟩:=a8.out;have af:=aE.out;have bZ:Below w4.heap.size w4 w5:=by rw[←ar.out];exact(ZA _ _).alloc (Zw _) _
  have br:Below w4.heap.size w4 w6:=by rw[←an];exact lW (Zw _) _ _ bZ
  have aF:Below w3.heap.size w3 w6:=af.trans (br.mono af.size);have aG:Below z.heap.size z w6:=av.trans (aF.mono av.size);have b0:=abM w4.heap.size AJ 0 w5 (fun j hj=>(ht j hj).1)
  refine⟨au.only (dt.of_below (F:=fun _=>False) aF) (fun _ _ h=>h),aa.trans (aG.mono aa.size),fun j v hv=>?_,(aG.block _ (by omega)).trans ai,fun b U=>?_,?_,?_⟩
  ·obtain⟨hj,rfl⟩:=Z6.1 hv
   have:=b0 j hj;rw[aaq,an] at this;exact this
  ·rcases U with U|U|U
   ·exact .inl U
   ·simp[Value.ownBlock] at U
   ·simp[Value.ownBlock] at U;exact .inr (.inl U.symm)
  ·have:=br.size
   have h5:w5.heap.size=w4.heap.size+1:=by rw[←ar.out,ZB]
   have h6:w5.heap.size≤w6.heap.size:=by rw[←an];exact(lW (B:=0) (ZL _) AJ 0 (ZA 0 w5)).size
   omega
  ·refine .inl ⟨rfl,0,_,[],ins.length,0,rfl,rfl,rfl,l4,l7,⟨trivial,fun c hc=>?_,by simp⟩,by simp,Zw _,?_⟩
   ·exfalso;apply hc
    simp only[Zs,aat]
    split<;>rfl
   ·have:=HJ.out
    unfold oT at this;rw[az] at this;exact this
 have b1:=Hi bq;have b2:Hid (z.heap.size<w4.heap.size∧z.heap.size+1<w4.heap.size∧w.heap.size+1<z.heap.size):=by
  obtain⟨au,av⟩:=aB.out;obtain⟨aa,ai,aq⟩:=aA.out;have bM:=be au.blk;have:=aE.out.size;exact⟨by omega,by omega,by omega⟩
 rw[an];clear an bq ht bo bm aA aB aE ar;clear am bj;generalize b3:z.heap.size+1=p at*;generalize b4:z.heap.size=O at*;generalize b5:w4.heap.size=I at*;generalize aH:w.heap.size+1=rb at*;have bs:Hid (O+1=p∧w.heap.size+1=rb):=⟨by omega,aH⟩
 clear b3 b4 b5 aH
 go_loopw [7] (fun _ wr=> ∃vs s,Hid (CP w wr p I rb O (I+1) (Sq O cells cells) ins fl cells C A Ru St vs s)) (fun _ wr=>CO wr p ins.length)
 case atStart=>exact⟨_,_,b1.out⟩
 case round=>
  obtain⟨vs,s,HI⟩:=hrel;have J:=HI.out;obtain⟨ao,aI,bt,bu,ap,aw⟩:=(dH.refl J.mac).cells;rcases J.sta with⟨ag,i,k,st,f,q,b6,aJ,ac,ad,aK,bv,aZ,b7,aL⟩|⟨ag,bw,bx,ac⟩
  ·have hm:=HM.out.below J.bel
   have c0:=hm.op i ad;have c1:=hm.num i ad;have c2:=hm.tos i ad;have c3:=hm.pls i ad;have bz:wr.cell? ⟨R,1,none⟩=some (Sq G ins.length cap):=by rw[Zz wr R 1 _ _ _ hm.blk];rfl
   have ct:(0:Int)≤(i:Int)∧(i:Int)<(ins.length:Int):=by omega
   obtain⟨l3,l4,l7,l8⟩:=a8.out;have bA:=l3.each _ (kP ad);have aM:=wS bA;rw[az] at aM;obtain⟨k',b8,cu,a0⟩:=l8 i (ZL _) ad k aK;rw[ag] at aI;rw[aJ] at ao;rw[ac] at ap;generalize b9:ins.getD i dw=x at*;generalize ca:jf ins x=tj at*;have aN:=aw 11;have aO:=aw 15;have bB:p<wr.heap.size:=be J.mac.blk;have hq:q≤4000:=by omega
   have cb:∀o,(wr.alloc o).cell? ⟨p,11,none⟩=some (Iq i):=fun o=>by rw[World.cell?_alloc_some _ _ _ (by rw[ao];rfl)];exact ao
   have cc:∀o,(wr.alloc o).frozen? ⟨p,11,none⟩=false:=fun o=>by rw[aao (w:=wr) (a:=⟨p,11,none⟩) (ZE wr o p bB)];exact aN
   have cd:∀o v,((wr.alloc o).setCell ⟨p,11,none⟩ v).cell? ⟨p,15,none⟩=some (Iq q):=fun o v=>by rw[dU _ _ _ _ _ (by decide),World.cell?_alloc_some _ _ _ (by rw[ap];rfl)];exact ap
   have ce:∀o v,((wr.alloc o).setCell ⟨p,11,none⟩ v).frozen? ⟨p,15,none⟩=false:=fun o v=>by simp;rw[aao (w:=wr) (a:=⟨p,15,none⟩) (ZE wr o p bB)];exact aO
   have aj:wr.cell? ⟨R,1,none⟩=some (Sq G ins.length cap)∧wr.cell? ⟨p,11,none⟩=some (Iq i)∧wr.cell? ⟨G,i*4,none⟩=some (Iq (x.op:Nat))∧wr.cell? ⟨G,i*4+1,none⟩=some (Iq x.n)∧wr.cell? ⟨G,i*4+2,none⟩=some (Iq tj)∧wr.cell? ⟨G,i*4+3,none⟩=some (Iq (x.pl:Nat)):=⟨bz,ao,c0,c1,c2,c3⟩;have KX:Hid (∀W:World,Below wr.heap.size wr W→(W.cell? ⟨R,1,none⟩=some (Sq G ins.length cap)∧W.cell? ⟨p,11,none⟩=some (Iq i)∧W.cell? ⟨G,i*4,none⟩=some (Iq (x.op:Nat))∧W.cell? ⟨G,i*4+1,none⟩=some (Iq x.n)∧W.cell? ⟨G,i*4+2,none⟩=some (Iq tj)∧W.cell? ⟨G,i*4+3,none⟩=some (Iq (x.pl:Nat)))):=fun W U=>by
    refine⟨?_,?_,?_,?_,?_,?_⟩<;>(rw[U.cell (Zx wr _ (by assumption))];assumption)
   go_wp2_with fail
   go_region_held3 (fun W=>W.cell? ⟨R,1,none⟩=some (Sq G ins.length cap)∧W.cell? ⟨p,11,none⟩=some (Iq i)∧W.cell? ⟨G,i*4,none⟩=some (Iq (x.op:Nat))∧W.cell? ⟨G,i*4+1,none⟩=some (Iq x.n)∧W.cell? ⟨G,i*4+2,none⟩=some (Iq tj)∧W.cell? ⟨G,i*4+3,none⟩=some (Iq (x.pl:Nat))) (first|with_reducible assumption|exact KX.out _ (((ZA _ wr).alloc (Zw _) _).drew)|exact KX.out _ ((((((ZA _ wr).alloc (Zw _) _).setCell (by simp) _).setCell (by simp) _).setCell (by simp) _).setCell (by simp) _).drew|go_keep) (fail)
   rename_i hHeld
   clear hHeld KX aj cb cc cd ce;obtain⟨D,ah⟩:∃D,(wr.alloc (.cells #[Iq (x.op:Nat),Iq x.n,Iq tj,Iq (x.pl:Nat)] 247)).drew=D:=⟨_,rfl⟩;have aP:Below wr.heap.size wr D:=by rw[←ah];exact((ZA _ wr).alloc (Zw _) _).drew
   have aQ:gj D p vs (Sq O cells cells) fl s:=J.mac.only (dt.of_below (F:=fun _=>False) aP) (fun _ _ h=>h)
   have bC:D.heap[wr.heap.size]?=some (mh x.op x.n tj (x.pl:Nat)):=by rw[←ah];exact Zy wr _
   have cf:D.heap.size=wr.heap.size+1:=by rw[←ah];exact ZB _ _
   obtain⟨bD,_,_,_,aR,aS⟩:=(dH.refl aQ).cells;rw[aJ] at bD;rw[ac] at aR;have bN:=aS 11;have bO:(D.setCell ⟨p,11,none⟩ (Iq ((i:Int)+1))).frozen? ⟨p,15,none⟩=false:=by simpa using aS 15
   have bP:(D.setCell ⟨p,11,none⟩ (Iq ((i:Int)+1))).cell? ⟨p,15,none⟩=some (Iq q):=by rw[dU _ _ _ _ _ (by decide)];exact aR
   have cg:dH D ((D.setCell ⟨p,11,none⟩ (Iq ((i:Int)+1))).setCell ⟨p,15,none⟩ (Iq ((q:Int)+1))) p vs (Sq O cells cells) fl {s with next:=(i:Int)+1,stp:=(q:Int)+1}:=
    ((dH.refl aQ).put (s':={s with next:=(i:Int)+1}) 11 (Iq ((i:Int)+1)) (fun _ _=>rfl) rfl rfl).put (s':={s with next:=(i:Int)+1,stp:=(q:Int)+1}) 15 (Iq ((q:Int)+1)) (fun _ _=>rfl) rfl rfl
   obtain⟨aT,bE,bQ,aU⟩:=cg;have ax:∀b,fq p aT (Sq O cells cells) b→fq p vs (Sq O cells cells) b∨wr.heap.size<b:=fun b U=>by
    rcases aU b U with h|h
    ·exact .inl h
    ·right;omega
   have W7:=Ic (W:=((D.setCell ⟨p,11,none⟩ (Iq ((i:Int)+1))).setCell ⟨p,15,none⟩ (Iq ((q:Int)+1))).drew) bE.drew b6 (by simp only[];omega) (by simp only[];omega) ag l3 az h6 hF l8 ad aK bv aZ b7 aL
   rw[b9,ca] at W7;unfold fI at W7;have bF:=aM.op;have co:=fun args w=>NA bF args w
   have cp:(0:Int)≤(x.op:Int)∧(x.op:Int)<19:=by omega
   have bR:O<I∧p<I∧rb<O:=b2.out;have bS:I<wr.heap.size:=by have:=J.siz;omega
   have aV:((D.setCell ⟨p,11,none⟩ (Iq ((i:Int)+1))).setCell ⟨p,15,none⟩ (Iq ((q:Int)+1))).heap[wr.heap.size]?=some (mh x.op x.n tj (x.pl:Nat)):=by
    rw[ZO _ _ _ _ (by simp;omega),ZO _ _ _ _ (by simp;omega)];exact bC
   have aW:((D.setCell ⟨p,11,none⟩ (Iq ((i:Int)+1))).setCell ⟨p,15,none⟩ (Iq ((q:Int)+1))).heap[I]?=wr.heap[I]?:=by
    rw[ZO _ _ _ _ (by simp;omega),ZO _ _ _ _ (by simp;omega)];exact aP.block I bS
   have HS:Hid (∀E:World,E.heap[wr.heap.size]?=some (mh x.op x.n tj (x.pl:Nat))→E.heap[I]?=wr.heap[I]?→(E.cell? ⟨wr.heap.size,0,none⟩=some (Iq (x.op:Nat))∧E.cell? ⟨wr.heap.size,1,none⟩=some (Iq x.n)∧E.cell? ⟨wr.heap.size,2,none⟩=some (Iq tj)∧E.cell? ⟨wr.heap.size,3,none⟩=some (Iq (x.pl:Nat))∧E.cell? ⟨I,x.op,none⟩=some (.func (.func (MN x.op)) #[] #[]))):=fun E q1 q2=>by
    have ab:=fun j=>Zz E _ j _ _ _ q1
    exact⟨ab 0,ab 1,ab 2,ab 3,by rw[ZI (w:=wr) (a:=⟨I,x.op,none⟩) q2];exact J.tab _ _ (Nt bF)⟩
   have ch:((D.setCell ⟨p,11,none⟩ (Iq ((i:Int)+1))).setCell ⟨p,15,none⟩ (Iq ((q:Int)+1))).drew.heap.size=wr.heap.size+1:=by
    show((D.setCell ⟨p,11,none⟩ (Iq ((i:Int)+1))).setCell ⟨p,15,none⟩ (Iq ((q:Int)+1))).heap.size=_
    simp;exact cf
   have KP:Hid (∀(E:World) (s':MS),dH ((D.setCell ⟨p,11,none⟩ (Iq ((i:Int)+1))).setCell ⟨p,15,none⟩ (Iq ((q:Int)+1))).drew E p aT (Sq O cells cells) fl s'→(E.cell? ⟨wr.heap.size,0,none⟩=some (Iq (x.op:Nat))∧E.cell? ⟨wr.heap.size,1,none⟩=some (Iq x.n)∧E.cell? ⟨wr.heap.size,2,none⟩=some (Iq tj)∧E.cell? ⟨wr.heap.size,3,none⟩=some (Iq (x.pl:Nat))∧E.cell? ⟨I,x.op,none⟩=some (.func (.func (MN x.op)) #[] #[]))):=fun E s' ho=>
    HS.out E ((J.apart ax ho (Zw _) (by omega) (by omega) (by omega) (.inr rfl)).trans aV) ((J.apart ax ho (by omega) (by omega) (by omega) (by omega) (.inl (by omega))).trans aW)
   have ci:=HS.out _ aV aW;have bG:Hid (∀(W8:World) (s2:MS),dH ((D.setCell ⟨p,11,none⟩ (Iq ((i:Int)+1))).setCell ⟨p,15,none⟩ (Iq ((q:Int)+1))).drew W8 p aT (Sq O cells cells) fl s2→Ay ins fl cells C A Ru St s2→(if s2.ended then 0 else ins.length+1 - s2.next.toNat)<ins.length+1 - i→(∃aX s2,Hid (CP w W8 p I rb O (I+1) (Sq O cells cells) ins fl cells C A Ru St aX s2))∧CO W8 p ins.length<CO wr p ins.length):=fun W8 s2 ho hj cj=>by
    rw[←ah] at ho;obtain⟨aX,bH⟩:=J.next bR bs.out ax ho hj;refine⟨⟨aX,s2,bH⟩,?_⟩;rw[FE bH.mac,FE J.mac,ag,aJ]
    simpa using cj
   rw[ah];clear J HI hm c0 c1 c2 c3 bz bA aM b8 a0 aQ bC aP aR bE bQ aU ax aV aW HS ch bv aK aL l3 l4 l7 l8 ao aI bt bu ap aw aN aO aS ah;go_wp2_with fail;clear bP bO bN bD;generalize ck:((D.setCell ⟨p,11,none⟩ (Iq ((i:Int)+1))).setCell ⟨p,15,none⟩ (Iq ((q:Int)+1)))=wb at*;clear ck
   go_region_held3 (fun W=>W.cell? ⟨wr.heap.size,0,none⟩=some (Iq (x.op:Nat))∧W.cell? ⟨wr.heap.size,1,none⟩=some (Iq x.n)∧W.cell? ⟨wr.heap.size,2,none⟩=some (Iq tj)∧W.cell? ⟨wr.heap.size,3,none⟩=some (Iq (x.pl:Nat))∧W.cell? ⟨I,x.op,none⟩=some (.func (.func (MN x.op)) #[] #[])) (first|with_reducible assumption|with_reducible exact KP.out _ _ (by assumption)|go_keep)
    (first|(refine W7.mono ?_;rintro e w8 ⟨rfl,s2,aY,bI,bJ⟩))
   rename_i hHeld
   have HU:=bG.out _ _ aY bI bJ;have cm:=Hi HU.1;have cn:=Hi HU.2;clear hHeld aY bI bJ HU KP W7 ci bG
   go_wp2
   exact⟨cm.out,cn.out⟩
  ·rw[ag] at aI
   rw[bw] at bt;rw[bx] at bu;rw[ac] at ap;have HB:=Hi J.bel;have ay:=fun j=>Zz wr _ j _ _ _ J.res
   have r0:wr.cell? ⟨rb,0,none⟩=some (.bool false):=ay 0;have r1:wr.cell? ⟨rb,1,none⟩=some (Iq 0):=ay 1;have r2:wr.cell? ⟨rb,2,none⟩=some (Iq 0):=ay 2;have rf:∀o,wr.frozen? ⟨rb,o,none⟩=false:=fun o=>by simp[World.frozen?,J.res]
   have cv:=rf 0;have cw:=rf 1;have cx:=rf 2;clear J HI ag bw bx ac ay rf aw
   go_wp2
   refine ZH (v:=vm A Ru St) (by simp[results,results100,go_sem,vm,fg,dU,lR,r0,r1,r2]) rfl ?_
   have aH:=bs.out.2;exact⟨rfl,((HB.out.setCell (by simp;omega) _).setCell (by simp;omega) _).setCell (by simp;omega) _⟩
theorem qo {c:Int} (I:dG c) (w:World):Calls prog 36 #[Iq c,Iq 3] w fun e w'=>e= .returned (Iq (eG c:Nat))∧w'=w:=by
 have D:Hid (((eG c:Nat):Int)=(if c<0 then -(c+1) else c) %3):=by show _=_;unfold eG;omega
 generalize eG c=R at*;unfold dG at I;obtain⟨V,Y⟩:=I
 by_cases J:c<0
 ·have z:Hid ((R:Int)=(-(c+1)) %3):=by have:=D.out;rw[Zu J] at this;exact this
  have E:(0:Int)≤ -(c+1):=by omega
  have O:IntKind.i64.wrap (c+1)=c+1:=by rw[ZY];omega
  have U:IntKind.i64.wrap (-(c+1))= -(c+1):=by rw[ZY];omega
  have G:(-(c+1)).tmod 3=(-(c+1)) %3:=aaO E;go_enter func36,ntmps36
  go_wp2
  go_ret;refine⟨eV ?_,rfl⟩
  first|exact z.out.symm|(simp[G,z.out];done)|(have:=z.out;omega)
 ·have z:Hid ((R:Int)=c %3):=by have:=D.out;rw[Zt J] at this;exact this
  have E:(0:Int)≤c:=by omega
  have G:c.tmod 3=c %3:=aaO E;go_enter func36,ntmps36
  go_wp2
  go_ret;refine⟨eV ?_,rfl⟩
  first|exact z.out.symm|(simp[G,z.out];done)|(have:=z.out;omega)
end Go.Proofs.YtfkdailfcmnjlaaGreatDoor
