/-
  A part.
-/
import Derived.Test.YtfkdailfcmnjlaaGreatDoorAll28
import Derived.Shelf.Abstract
set_option linter.all false
set_option maxHeartbeats 40000000
set_option maxRecDepth 1000000
namespace Go.Proofs.YtfkdailfcmnjlaaGreatDoor
open Go Go.RowKit Tryz
attribute [local go_sem ↓] Go.wp_at_zero Go.wp_at_succ
variable {z w p n vs G fl s W vc J i f q k st C A Ru wr U O rb V D I s2 b Y R o Z v2 gi lv}
def nU (a:Bool) (r s:Nat):Value:= .agg #[.bool a,Iq r,Iq s]
theorem Ox (h:1<=z/\z<=18) (args) (w):(callFunc (Eu z) args).run prog w= .ok (.enter (Eu z) args) w:=by
 have e:z=1\/z=2\/z=3\/z=4\/z=5\/z=6\/z=7\/z=8\/z=9\/z=10\/z=11\/z=12\/z=13\/z=14\/z=15\/z=16\/z=17\/z=18:=by omega
 rcases e with rfl|rfl|rfl|rfl|rfl|rfl|rfl|rfl|rfl|rfl|rfl|rfl|rfl|rfl|rfl|rfl|rfl|rfl
 ·exact enters_of func192 (by kernel_rfl) rfl args w
 ·exact enters_of func192 (by kernel_rfl) rfl args w
 ·exact enters_of func192 (by kernel_rfl) rfl args w
 ·exact enters_of func193 (by kernel_rfl) rfl args w
 ·exact enters_of func194 (by kernel_rfl) rfl args w
 ·exact enters_of func195 (by kernel_rfl) rfl args w
 ·exact enters_of func196 (by kernel_rfl) rfl args w
 ·exact enters_of func197 (by kernel_rfl) rfl args w
 ·exact enters_of func198 (by kernel_rfl) rfl args w
 ·exact enters_of func199 (by kernel_rfl) rfl args w
 ·exact enters_of func200 (by kernel_rfl) rfl args w
 ·exact enters_of func201 (by kernel_rfl) rfl args w
 ·exact enters_of func202 (by kernel_rfl) rfl args w
 ·exact enters_of func203 (by kernel_rfl) rfl args w
 ·exact enters_of func204 (by kernel_rfl) rfl args w
 ·exact enters_of func205 (by kernel_rfl) rfl args w
 ·exact enters_of func206 (by kernel_rfl) rfl args w
 exact enters_of func207 (by kernel_rfl) rfl args w
def Cv (w:World) (p n:Nat):Nat:=match w.cell? ⟨p,12,none⟩,w.cell? ⟨p,11,none⟩ with
 |some (.bool false),some (.int _ v)=>n+1 - v.toNat
 |_,_=>0
theorem FE (h:gA w p vs G fl s):Cv w p n=if s.ended then 0 else n+1 - s.next.toNat:=by
 have z:=λj=>Qm w p j _ _ _ h.blk
 have D:Cq w p 12 (.bool s.ended):=z 12;have E:Cq w p 11 (Iq s.next):=z 11;unfold Cv;rw[D,E];cases s.ended<;>rfl
def An (ins:List ek) (fl:List Int) (cells:Nat) (C:Nat->Option Kn) (A:Bool) (Ru St:Nat) (s:MS):Prop:=
 (s.ended=false/\ ∃(i:Nat) (k:Kn) (st:List Int) (f q:Nat),s.st=st.reverse/\s.next=i/\s.stp=q/\i<ins.length/\C i=some k/\uE k cells st s.cl/\st.length<=24/\q<=i/\rX ins fl f i st s.cl q=some (A,Ru,St))\/
 (s.ended=true/\s.al=A/\s.ru=Ru/\s.stp=St)
theorem IU {b:LB} {ins cells St} (h:gA W p vs vc fl G) (af:G.st=st.reverse) (ag:G.next=(i+1:Nat)) (I:G.stp=(q+1:Nat)) (aa:G.ended=false) (ah:fg b ins) (ai:cr b 2=cells) (ap:J<=24) (hF:dL fl) (hG:Good ins J 0 C) (R:i<ins.length) (aj:C i=some k) (ab:uE k cells st G.cl) (ao:st.length<=24) (aq:q<=i) (z:rX ins fl f i st G.cl q=some (A,Ru,St)):
 Calls prog (Eu (ins.getD i cH).op) #[Pq p,fG (ins.getD i cH).op (ins.getD i cH).n (jJ ins (ins.getD i cH)) ((ins.getD i cH).pl)] W λe w'=>e= .returned (.tuple #[])/\ ∃U,dR W w' p vs vc fl U/\An ins fl cells C A Ru St U/\(if U.ended then 0 else ins.length+1 - U.next.toNat)<ins.length+1 - i:=by
 have V:=kf (ah.each _ (gY R));rw[ai] at V;have ak:=eS b 2;obtain⟨f',rfl⟩:∃f',f=f'+1:=by
  cases f with
  |zero=>simp[rX] at z
  |succ f'=>exact⟨f',rfl⟩
 rw[rX,Qo R] at z;obtain⟨k',ac,ar,Y⟩:=hG i (QA _) R k aj;by_cases D:(ins.getD i cH).op=17\/(ins.getD i cH).op=18
 ·rw[Qo D] at z;simp only[QE,QS] at z;obtain⟨r1,r2,r3⟩:=z;obtain⟨n0,_,_⟩:=V.two (by rcases D with e|e<;>rw[e]<;>rfl)
  rcases D with e|e
  ·rw[e];have hA:A=true:=by rw[<-r1,e];rfl
   apply(Et 17 (ins.getD i cH).n _ _ h).mono;rintro e' w' ⟨rfl,O⟩;refine⟨rfl,_,O,.inr ⟨rfl,hA.symm,?_,?_⟩,by simp;omega⟩
   ·simp only[];rw[<-r2];omega
   simp only[];rw[I,<-r3]
  rw[e];have hA:A=false:=by rw[<-r1,e];rfl
  apply(Im 18 (ins.getD i cH).n _ _ h).mono;rintro e' w' ⟨rfl,O⟩;refine⟨rfl,_,O,.inr ⟨rfl,hA.symm,?_,?_⟩,by simp;omega⟩
  ·simp only[];rw[<-r2];omega
  simp only[];rw[I,<-r3]
 rw[Qj D] at z;obtain⟨st',cl',j,hs,E,hj,am⟩:=ti V hF ab ac D;rw[hs] at z;have ad:=zG (ins:=ins) (i:=i) hj am D;obtain⟨t,e,h1,h2,h3⟩:=Y _ ad;obtain⟨kq,e2,e3,e4⟩:=h3 k' rfl;have ae:uE kq cells st' cl':=⟨by rw[e3];exact E.typ,E.cel.less e4,E.len⟩
 have an:st'.length<=24:=by rw[E.typ.len];omega
 apply(Io (jJ ins (ins.getD i cH)) h V ab ac af rfl (by omega) (by omega) hs D).mono
 rintro e' w' ⟨rfl,O⟩;have Z:(if j then jJ ins (ins.getD i cH) else G.next)=t:=by
  cases j with
  |true=>
   have e:gn ins (ins.getD i cH)=some t:=e;rw[Qo rfl];unfold jJ;rw[Qo (hj rfl),e];rfl
  |false=>
   have e:(if i+1<ins.length then some (i+1) else none)=some t:=e;rw[Qj (by decide),ag]
   split at e
   ·simp at e;rw[<-e]
   cases e
 rw[Z] at O;refine⟨rfl,_,O,.inl ⟨aa,t,kq,st',f',q+1,rfl,rfl,I,h2,e2,ae,an,by omega,?_⟩,?_⟩
 ·cases j with
  |true=>
   have e:gn ins (ins.getD i cH)=some t:=e;simp only[] at z;rw[e] at z;exact z
  |false=>
   have e:(if i+1<ins.length then some (i+1) else none)=some t:=e;simp only[] at z;split at e
   ·simp at e;rw[<-e];exact z
   cases e
 simp only[];rw[aa];simp;omega
structure Cw (w wr) (p db rb g0 sz:Nat) (vc) (ins) (fl) (cells:Nat) (C) (A) (Ru St) (vs) (s):Prop where
 mac:gA wr p vs vc fl s
 bel:Below w.heap.size w wr
 tab:∀j v,Av[j]?=some v->wr.cell? ⟨db,j,none⟩=some v
 res:wr.heap[rb]?=some (.cells #[.bool false,Iq 0,Iq 0] 40 (0,0))
 foot:∀b,eF p vs vc b->b=p\/b=g0\/sz<=b
 siz:sz<=wr.heap.size
 sta:An ins fl cells C A Ru St s
theorem Cw.apart {ins:List ek} {cells St} (Y:Cw w wr p O rb V (O+1) D ins fl cells C A Ru St vs s) (Z:∀b,eF p I D b->eF p vs D b\/wr.heap.size<b) (ho:dR J U p I D fl s2) (hb:b<=wr.heap.size) (aa:b<J.heap.size) (hp:b≠p) (hg:b≠V) (z:b<O+1\/b=wr.heap.size):U.heap[b]?=J.heap[b]?:=by
 refine ho.only.block b aa (λhf=>?_)
 rcases Z b hf with h|h
 ·rcases Y.foot b h with E|E|E
  ·exact hp E
  ·exact hg E
  rcases z with z|z
  ·omega
  have:=Y.mac.lt h;omega
 omega
theorem Cw.next {ins cells St} (D:Cw w wr p z rb J (z+1) O ins fl cells C A Ru St vs s) (af:J<z/\p<z/\rb<J) (ai:J+1=p/\w.heap.size+1=rb) (U:∀b,eF p R O b->eF p vs O b\/wr.heap.size<b)
 (E:dR ((((wr.alloc o).drew.setCell ⟨p,11,none⟩ Z).setCell ⟨p,15,none⟩ v2)).drew Y p R O fl s2) (ac:An ins fl cells C A Ru St s2):∃V,Cw w Y p z rb J (z+1) O ins fl cells C A Ru St V s2:=by
 have aa:((((wr.alloc o).drew.setCell ⟨p,11,none⟩ Z).setCell ⟨p,15,none⟩ v2)).drew.heap.size=wr.heap.size+1:=by simp[World.drew]
 have ag:z<wr.heap.size:=by have:=D.siz;omega
 have I:∀b,b<z+1->b≠p->b≠J->Y.heap[b]?=wr.heap[b]?:=λb G h1 h2=>by
  rw[D.apart U E (by omega) (by omega) h1 h2 (.inl G)]
  show(((wr.alloc o).drew.setCell ⟨p,11,none⟩ Z).setCell ⟨p,15,none⟩ v2).heap[b]?=_;rw[Qr _ _ _ _ (by simpa using h1),Qr _ _ _ _ (by simpa using h1)]
  exact Qu wr o b (by omega)
 have ab:∀b,eF p R O b->w.heap.size<=b:=λb G=>by
  rcases U b G with h|h
  ·rcases D.foot b h with h'|h'|h'<;>omega
  omega
 have ad:Bl w Y:=by
  have q1:Bl w ((((wr.alloc o).drew.setCell ⟨p,11,none⟩ Z).setCell ⟨p,15,none⟩ v2)).drew:=(((D.bel.alloc D.bel.size _).drew.setCell (by simp;omega) _).setCell (by simp;omega) _).drew
  exact q1.trans (E.only.below q1.size (λb _ G=>ab b G))
 obtain⟨V,hm,ae,hf⟩:=E;refine⟨V,hm,ad,λj v hv=>?_,?_,λb G=>?_,?_,ac⟩
 ·rw[Qz (I z (by omega) (by omega) (by omega))];exact D.tab j v hv
 ·rw[I rb (by omega) (by omega) (by omega)];exact D.res
 ·rcases hf b G with h|h
  ·rcases U b h with h|h
   ·exact D.foot b h
   right;right;omega
  rw[aa] at h;right;right;omega
 have:=ae.size;rw[aa] at this;omega
theorem EJ {b:LB} {ins cap St} (bT:fD b=some ins) (hm:jz w R G cap (cr b 2) (cr b 1) ins) (hF:dL fl) (hj:mN b ins fl=some (A,Ru,St)):
 Calls prog 100 #[Pq R,LO fl] w λe w'=>e= .returned (nU A Ru St)/\Bl w w':=by
 obtain⟨h1,h2,h3,h4,h5,h6,C,h7,h8⟩:=mw bT;have bU:=eS b 2;have bV:=run_make_row' (P:=prog) 179 112 (Iq 0) 8 underlying179 uw rfl .i64 .i64 (cr b 2) (by omega) (by omega)
 have p0:w.cell? ⟨R,0,none⟩=some (Iq (cr b 2:Nat)):=by rw[Qm w R 0 _ _ _ hm.blk];rfl
 have bW:=be hm.blk;have W1:=λw=>Ep w
 have HM:=Hi hm;have a8:=Hi (And.intro h3 (And.intro h4 (And.intro h7 h8)));unfold LO;generalize a9:fl.getD 0 0=V;generalize ba:fl.getD 1 0=Y;generalize bb:fl.getD 2 0=Z;generalize bc:fl.getD 3 0=f3;generalize bd:fl.getD 4 0=f4;generalize bf:fl.getD 5 0=f5;generalize bg:fl.getD 6 0=f6;generalize bh:fl.getD 7 0=f7;generalize bi:fl.getD 8 0=f8;have bj:Hid (fl.getD 0 0=V/\fl.getD 1 0=Y/\fl.getD 2 0=Z/\fl.getD 3 0=f3/\fl.getD 4 0=f4/\fl.getD 5 0=f5/\fl.getD 6 0=f6/\fl.getD 7 0=f7/\fl.getD 8 0=f8):=⟨a9,ba,bb,bc,bd,bf,bg,bh,bi⟩;clear a9 ba bb bc bd bf bg bh bi hm h3 h4 h7 h8;have HJ:=Hi hj;clear hj;generalize az:cr b 2=cells at*;obtain⟨z,ae⟩:∃z,(w.alloc (.cells #[Iq V,Iq Y,Iq Z,Iq f3,Iq f4,Iq f5,Iq f6,Iq f7,Iq f8] 114)).alloc (.cells #[.bool false,Iq 0,Iq 0] 40)=z:=⟨_,rfl⟩;have aa:Below w.heap.size w z:=by rw[<-ae];exact((Qq _ _).alloc (Qn _) _).alloc (by simp) _
 have bk:z.heap[w.heap.size]?=some (.cells #[Iq V,Iq Y,Iq Z,Iq f3,Iq f4,Iq f5,Iq f6,Iq f7,Iq f8] 114 (0,0)):=by rw[<-ae];exact(Qu _ _ _ (by simp)).trans (Qp w _)
 have ai:z.heap[w.heap.size+1]?=some (.cells #[.bool false,Iq 0,Iq 0] 40 (0,0)):=by rw[<-ae];have:=Qp (w.alloc (.cells #[Iq V,Iq Y,Iq Z,Iq f3,Iq f4,Iq f5,Iq f6,Iq f7,Iq f8] 114)) (.cells #[.bool false,Iq 0,Iq 0] 40);rw[Qw] at this;exact this
 have aq:z.heap.size=w.heap.size+1+1:=by rw[<-ae,Qw,Qw]
 have ab:=λj=>Qm z _ j _ _ _ bk
 have aj:z.cell? ⟨R,0,none⟩=some (Iq cells)/\z.rangeAt w.heap.size 0 [Iq V,Iq Y,Iq Z,Iq f3,Iq f4,Iq f5,Iq f6,Iq f7,Iq f8]:=⟨by rw[aa.cell (p:=⟨R,0,none⟩) bW];exact p0,λj v hv=>by rw[QO,ab];simpa using hv⟩
 have KA:Hid (∀(W:World) (o:Obj),(W.cell? ⟨R,0,none⟩=some (Iq cells)/\W.rangeAt w.heap.size 0 [Iq V,Iq Y,Iq Z,Iq f3,Iq f4,Iq f5,Iq f6,Iq f7,Iq f8])->((W.alloc o).cell? ⟨R,0,none⟩=some (Iq cells)/\(W.alloc o).rangeAt w.heap.size 0 [Iq V,Iq Y,Iq Z,Iq f3,Iq f4,Iq f5,Iq f6,Iq f7,Iq f8])):=λW o hS=>by
  exact⟨by rw[World.cell?_alloc_some _ _ _ (by rw[hS.1];rfl)];exact hS.1,World.rangeAt_alloc hS.2 o⟩
 have bK:prog.underlying 114=some (.array 9 112):=underlying114;have bL:Option.map (λx=>x.size) (prog.info? 114)=some ([Value.int .i64 V,Iq Y,Iq Z,Iq f3,Iq f4,Iq f5,Iq f6,Iq f7,Iq f8]).length:=by kernel_rfl
 have aA:=Hi (And.intro aa (And.intro ai aq));have HW:=Hi ae;clear ae aa bk ai aq ab;go_enter func100,ntmps100;go_wp2_with fail;rw[HW.out];go_region_held3 (λW=>W.cell? ⟨R,0,none⟩=some (Iq cells)/\W.rangeAt w.heap.size 0 [Iq V,Iq Y,Iq Z,Iq f3,Iq f4,Iq f5,Iq f6,Iq f7,Iq f8]) (first|with_reducible assumption|exact KA.out z _ aj|exact KA.out _ _ (KA.out z _ aj)|go_keep) (fail)
 rename_i hHeld;clear hHeld KA aj bK bL bV;obtain⟨w3,ak⟩:∃w3,((z.alloc (.cells (madeCells #[Iq 0] cells) 112)).alloc (.cells #[.slice none 0 0,Sq z.heap.size cells cells,Iq V,Iq Y,Iq Z,Iq f3,Iq f4,Iq f5,Iq f6,Iq f7,Iq f8,Iq 0,.bool false,.bool false,Iq 0,Iq 0] 257)).drew=w3:=⟨_,rfl⟩;have aB:Hid (gA w3 (z.heap.size+1) (.slice none 0 0) (Sq z.heap.size cells cells) fl ⟨[],List.replicate cells 0,0,false,false,0,0⟩/\Bl z w3):=by
  have e1:(z.alloc (.cells (madeCells #[Iq 0] cells) 112)).heap.size=z.heap.size+1:=Qw _ _;have bl:=Qp (z.alloc (.cells (madeCells #[Iq 0] cells) 112)) (.cells #[.slice none 0 0,Sq z.heap.size cells cells,Iq V,Iq Y,Iq Z,Iq f3,Iq f4,Iq f5,Iq f6,Iq f7,Iq f8,Iq 0,.bool false,.bool false,Iq 0,Iq 0] 257);rw[e1] at bl;have aC:=Tw (base:=0) (e:=112) (size:=1) z (madeCells #[Iq 0] cells) cells (QA _) (by unfold maxLen;omega) (by rw[RT,TL])
  have bX:(madeCells #[Value.int .i64 0] cells).toList=(List.replicate cells (0:Int)).map (Value.int .i64):=by
   apply S3
   ·rw[Th,RT];simp
   intro j h1 h2;simp[madeCells,Tg]
  rw[bX] at aC;have bY:IR w3 112 (Sq z.heap.size cells cells) (List.replicate cells 0):=by
   rw[<-ak];have:=World.ownsRow.alloc aC (.cells #[.slice none 0 0,Sq z.heap.size cells cells,Iq V,Iq Y,Iq Z,Iq f3,Iq f4,Iq f5,Iq f6,Iq f7,Iq f8,Iq 0,.bool false,.bool false,Iq 0,Iq 0] 257);unfold IR;rw[Rl];exact this
  refine⟨⟨?_,IR.nil _ _,bY,λb U=>by simp[Value.ownBlock] at U⟩,?_⟩
  ·rw[<-ak];obtain⟨O,g1,g2,g3,g4,g5,g6,g7,g8⟩:=bj.out;unfold MM;rw[O,g1,g2,g3,g4,g5,g6,g7,g8];exact bl
  rw[<-ak];exact(((Qq _ z).alloc (Qn _) _).alloc (by simp) _).drew
 rw[ak];clear ak;go_wp2_with fail;apply(W1 _).mono;rintro e w4 ⟨rfl,af⟩;have bm:Option.map (λx=>x.size) (prog.info? 259)=some 19:=by kernel_rfl
 obtain⟨w5,aD⟩:∃w5,w4.alloc (.cells #[Nf,Nf,Nf,Nf,Nf,Nf,Nf,Nf,Nf,Nf,Nf,Nf,Nf,Nf,Nf,Nf,Nf,Nf,Nf] 259)=w5:=⟨_,rfl⟩;have bo:w5.heap[w4.heap.size]?=some (.cells #[Nf,Nf,Nf,Nf,Nf,Nf,Nf,Nf,Nf,Nf,Nf,Nf,Nf,Nf,Nf,Nf,Nf,Nf,Nf] 259 (0,0)):=by rw[<-aD];exact Qp w4 _
 have ht:=yQ bo;have aE:=Hi af;have ar:=Hi aD;clear af W1 aD HW;generalize bp:Av.toArray=dT at*;have am:=Hi bp;clear bp;go_wp2_with (
  rw[ar.out];refine wpList_store_mid (by rfl) _ _ _ (by rfl) w4.heap.size 0 dT (by rfl) (by rfl) (by rw[<-am.out];exact ht) (by rw[<-am.out];exact bm) (by rw[<-am.out];exact all_oneCell_toArray Fx) ?_
  rw[<-am.out])
 simp only[Act.put];obtain⟨w6,an⟩:∃w6,w5.setCells w4.heap.size 0 Av=w6:=⟨_,rfl⟩;have bq:Cw w w6 (z.heap.size+1) w4.heap.size (w.heap.size+1) z.heap.size (w4.heap.size+1) (Sq z.heap.size cells cells) ins fl cells C A Ru St (.slice none 0 0) ⟨[],List.replicate cells 0,0,false,false,0,0⟩:=by
  obtain⟨au,av⟩:=aB.out;obtain⟨aa,ai,aq⟩:=aA.out;obtain⟨l3,l4,l7,l8⟩:=a8.out;have af:=aE.out;have bZ:Bl w4 w5:=by rw[<-ar.out];exact(Qq _ _).alloc (Qn _) _
  have br:Bl w4 w6:=by rw[<-an];exact jh (Qn _) _ _ bZ
  have aF:Bl w3 w6:=af.trans (br.mono af.size);have aG:Bl z w6:=av.trans (aF.mono av.size);have b0:=Si w4.heap.size Av 0 w5 (λj hj=>(ht j hj).1)
  refine⟨au.only (cI.of_below (F:=λ_=>False) aF) (λ_ _ h=>h),aa.trans (aG.mono aa.size),λj v hv=>?_,(aG.block _ (by omega)).trans ai,λb U=>?_,?_,?_⟩
  ·obtain⟨hj,rfl⟩:=Rz.1 hv;have:=b0 j hj;rw[QO,an] at this;exact this
  ·rcases U with U|U|U
   ·exact .inl U
   ·simp[Value.ownBlock] at U
   simp[Value.ownBlock] at U;exact .inr (.inl U.symm)
  ·have:=br.size;have h5:w5.heap.size=w4.heap.size+1:=by rw[<-ar.out,Qw]
   have h6:w5.heap.size<=w6.heap.size:=by rw[<-an];exact(jh (B:=0) (QA _) Av 0 (Qq 0 w5)).size
   omega
  refine .inl ⟨rfl,0,_,[],ins.length,0,rfl,rfl,rfl,l4,l7,⟨trivial,λc hc=>?_,by simp⟩,by simp,Qn _,?_⟩
  ·exfalso;apply hc;simp only[Qi,Q8];split<;>rfl
  have:=HJ.out;unfold mN at this;rw[az] at this;exact this
 have b1:=Hi bq;have b2:Hid (z.heap.size<w4.heap.size/\z.heap.size+1<w4.heap.size/\w.heap.size+1<z.heap.size):=by
  obtain⟨au,av⟩:=aB.out;obtain⟨aa,ai,aq⟩:=aA.out;have bM:=be au.blk;have:=aE.out.size;exact⟨by omega,by omega,by omega⟩
 rw[an];clear an bq ht bo bm aA aB aE ar;clear am bj;generalize b3:z.heap.size+1=p at*;generalize b4:z.heap.size=O at*;generalize b5:w4.heap.size=I at*;generalize aH:w.heap.size+1=rb at*;have bs:Hid (O+1=p/\w.heap.size+1=rb):=⟨by omega,aH⟩
 clear b3 b4 b5 aH;go_loopw [7] (λ_ wr=> ∃vs s,Hid (Cw w wr p I rb O (I+1) (Sq O cells cells) ins fl cells C A Ru St vs s)) (λ_ wr=>Cv wr p ins.length)
 case atStart=>exact⟨_,_,b1.out⟩
 case round=>
  obtain⟨vs,s,HI⟩:=hrel;have J:=HI.out;obtain⟨ao,aI,bt,bu,ap,aw⟩:=(dR.refl J.mac).cells;rcases J.sta with⟨ag,i,k,st,f,q,b6,aJ,ac,ad,aK,bv,aZ,b7,aL⟩|⟨ag,bw,bx,ac⟩
  ·have hm:=HM.out.below J.bel;have c0:=hm.op i ad;have c1:=hm.num i ad;have c2:=hm.tos i ad;have c3:=hm.pls i ad;have bz:wr.cell? ⟨R,1,none⟩=some (Sq G ins.length cap):=by rw[Qm wr R 1 _ _ _ hm.blk];rfl
   have ct:(0:Int)<=(i:Int)/\(i:Int)<(ins.length:Int):=by omega
   obtain⟨l3,l4,l7,l8⟩:=a8.out;have bA:=l3.each _ (gY ad);have aM:=kf bA;rw[az] at aM;obtain⟨k',b8,cu,a0⟩:=l8 i (QA _) ad k aK;rw[ag] at aI;rw[aJ] at ao;rw[ac] at ap;generalize b9:ins.getD i cH=x at*;generalize ca:jJ ins x=tj at*;have aN:=aw 11;have aO:=aw 15;have bB:p<wr.heap.size:=be J.mac.blk;have hq:q<=4000:=by omega
   have cb:∀o,(wr.alloc o).cell? ⟨p,11,none⟩=some (Iq i):=λo=>by rw[World.cell?_alloc_some _ _ _ (by rw[ao];rfl)];exact ao
   have cc:∀o,(wr.alloc o).frozen? ⟨p,11,none⟩=false:=λo=>by rw[Re (w:=wr) (a:=⟨p,11,none⟩) (Qu wr o p bB)];exact aN
   have cd:∀o v,((wr.alloc o).setCell ⟨p,11,none⟩ v).cell? ⟨p,15,none⟩=some (Iq q):=λo v=>by rw[cN _ _ _ _ _ (by decide),World.cell?_alloc_some _ _ _ (by rw[ap];rfl)];exact ap
   have ce:∀o v,((wr.alloc o).setCell ⟨p,11,none⟩ v).frozen? ⟨p,15,none⟩=false:=λo v=>by simp;rw[Re (w:=wr) (a:=⟨p,15,none⟩) (Qu wr o p bB)];exact aO
   have aj:wr.cell? ⟨R,1,none⟩=some (Sq G ins.length cap)/\wr.cell? ⟨p,11,none⟩=some (Iq i)/\wr.cell? ⟨G,i*4,none⟩=some (Iq (x.op:Nat))/\wr.cell? ⟨G,i*4+1,none⟩=some (Iq x.n)/\wr.cell? ⟨G,i*4+2,none⟩=some (Iq tj)/\wr.cell? ⟨G,i*4+3,none⟩=some (Iq (x.pl:Nat)):=⟨bz,ao,c0,c1,c2,c3⟩;have KX:Hid (∀W:World,Bl wr W->(W.cell? ⟨R,1,none⟩=some (Sq G ins.length cap)/\W.cell? ⟨p,11,none⟩=some (Iq i)/\W.cell? ⟨G,i*4,none⟩=some (Iq (x.op:Nat))/\W.cell? ⟨G,i*4+1,none⟩=some (Iq x.n)/\W.cell? ⟨G,i*4+2,none⟩=some (Iq tj)/\W.cell? ⟨G,i*4+3,none⟩=some (Iq (x.pl:Nat)))):=λW U=>by
    refine⟨?_,?_,?_,?_,?_,?_⟩<;>(rw[U.cell (Qk wr _ (by assumption))];assumption)
   go_wp2_with fail;go_region_held3 (λW=>W.cell? ⟨R,1,none⟩=some (Sq G ins.length cap)/\W.cell? ⟨p,11,none⟩=some (Iq i)/\W.cell? ⟨G,i*4,none⟩=some (Iq (x.op:Nat))/\W.cell? ⟨G,i*4+1,none⟩=some (Iq x.n)/\W.cell? ⟨G,i*4+2,none⟩=some (Iq tj)/\W.cell? ⟨G,i*4+3,none⟩=some (Iq (x.pl:Nat))) (first|with_reducible assumption|exact KX.out _ (((Qq _ wr).alloc (Qn _) _).drew)|exact KX.out _ ((((((Qq _ wr).alloc (Qn _) _).setCell (by simp) _).setCell (by simp) _).setCell (by simp) _).setCell (by simp) _).drew|go_keep) (fail)
   rename_i hHeld;clear hHeld KX aj cb cc cd ce;obtain⟨D,ah⟩:∃D,(wr.alloc (.cells #[Iq (x.op:Nat),Iq x.n,Iq tj,Iq (x.pl:Nat)] 247)).drew=D:=⟨_,rfl⟩;have aP:Bl wr D:=by rw[<-ah];exact((Qq _ wr).alloc (Qn _) _).drew
   have aQ:gA D p vs (Sq O cells cells) fl s:=J.mac.only (cI.of_below (F:=λ_=>False) aP) (λ_ _ h=>h)
   have bC:D.heap[wr.heap.size]?=some (oD x.op x.n tj (x.pl:Nat)):=by rw[<-ah];exact Qp wr _
   have cf:D.heap.size=wr.heap.size+1:=by rw[<-ah];exact Qw _ _
   obtain⟨bD,_,_,_,aR,aS⟩:=(dR.refl aQ).cells;rw[aJ] at bD;rw[ac] at aR;have bN:=aS 11;have bO:(D.setCell ⟨p,11,none⟩ (Iq ((i:Int)+1))).frozen? ⟨p,15,none⟩=false:=by simpa using aS 15
   have bP:(D.setCell ⟨p,11,none⟩ (Iq ((i:Int)+1))).cell? ⟨p,15,none⟩=some (Iq q):=by rw[cN _ _ _ _ _ (by decide)];exact aR
   have cg:dR D ((D.setCell ⟨p,11,none⟩ (Iq ((i:Int)+1))).setCell ⟨p,15,none⟩ (Iq ((q:Int)+1))) p vs (Sq O cells cells) fl {s with next:=(i:Int)+1,stp:=(q:Int)+1}:=
    ((dR.refl aQ).put (s':={s with next:=(i:Int)+1}) 11 (Iq ((i:Int)+1)) (λ_ _=>rfl) rfl rfl).put (s':={s with next:=(i:Int)+1,stp:=(q:Int)+1}) 15 (Iq ((q:Int)+1)) (λ_ _=>rfl) rfl rfl
   obtain⟨aT,bE,bQ,aU⟩:=cg;have ax:∀b,eF p aT (Sq O cells cells) b->eF p vs (Sq O cells cells) b\/wr.heap.size<b:=λb U=>by
    rcases aU b U with h|h
    ·exact .inl h
    right;omega
   have W7:=IU (W:=((D.setCell ⟨p,11,none⟩ (Iq ((i:Int)+1))).setCell ⟨p,15,none⟩ (Iq ((q:Int)+1))).drew) bE.drew b6 (by simp only[];omega) (by simp only[];omega) ag l3 az h6 hF l8 ad aK bv aZ b7 aL
   rw[b9,ca] at W7;unfold fG at W7;have bF:=aM.op;have co:=λargs w=>Ox bF args w
   have cp:(0:Int)<=(x.op:Int)/\(x.op:Int)<19:=by omega
   have bR:O<I/\p<I/\rb<O:=b2.out;have bS:I<wr.heap.size:=by have:=J.siz;omega
   have aV:((D.setCell ⟨p,11,none⟩ (Iq ((i:Int)+1))).setCell ⟨p,15,none⟩ (Iq ((q:Int)+1))).heap[wr.heap.size]?=some (oD x.op x.n tj (x.pl:Nat)):=by
    rw[Qr _ _ _ _ (by simp;omega),Qr _ _ _ _ (by simp;omega)];exact bC
   have aW:((D.setCell ⟨p,11,none⟩ (Iq ((i:Int)+1))).setCell ⟨p,15,none⟩ (Iq ((q:Int)+1))).heap[I]?=wr.heap[I]?:=by
    rw[Qr _ _ _ _ (by simp;omega),Qr _ _ _ _ (by simp;omega)];exact aP.block I bS
   have HS:Hid (∀E:World,E.heap[wr.heap.size]?=some (oD x.op x.n tj (x.pl:Nat))->E.heap[I]?=wr.heap[I]?->(E.cell? ⟨wr.heap.size,0,none⟩=some (Iq (x.op:Nat))/\E.cell? ⟨wr.heap.size,1,none⟩=some (Iq x.n)/\E.cell? ⟨wr.heap.size,2,none⟩=some (Iq tj)/\E.cell? ⟨wr.heap.size,3,none⟩=some (Iq (x.pl:Nat))/\E.cell? ⟨I,x.op,none⟩=some (.func (.func (Eu x.op)) #[] #[]))):=λE q1 q2=>by
    have ab:=λj=>Qm E _ j _ _ _ q1
    exact⟨ab 0,ab 1,ab 2,ab 3,by rw[Qz (w:=wr) (a:=⟨I,x.op,none⟩) q2];exact J.tab _ _ (Og bF)⟩
   have ch:((D.setCell ⟨p,11,none⟩ (Iq ((i:Int)+1))).setCell ⟨p,15,none⟩ (Iq ((q:Int)+1))).drew.heap.size=wr.heap.size+1:=by
    show((D.setCell ⟨p,11,none⟩ (Iq ((i:Int)+1))).setCell ⟨p,15,none⟩ (Iq ((q:Int)+1))).heap.size=_;simp;exact cf
   have KP:Hid (∀(E:World) (s':MS),dR ((D.setCell ⟨p,11,none⟩ (Iq ((i:Int)+1))).setCell ⟨p,15,none⟩ (Iq ((q:Int)+1))).drew E p aT (Sq O cells cells) fl s'->(E.cell? ⟨wr.heap.size,0,none⟩=some (Iq (x.op:Nat))/\E.cell? ⟨wr.heap.size,1,none⟩=some (Iq x.n)/\E.cell? ⟨wr.heap.size,2,none⟩=some (Iq tj)/\E.cell? ⟨wr.heap.size,3,none⟩=some (Iq (x.pl:Nat))/\E.cell? ⟨I,x.op,none⟩=some (.func (.func (Eu x.op)) #[] #[]))):=λE s' ho=>
    HS.out E ((J.apart ax ho (Qn _) (by omega) (by omega) (by omega) (.inr rfl)).trans aV) ((J.apart ax ho (by omega) (by omega) (by omega) (by omega) (.inl (by omega))).trans aW)
   have ci:=HS.out _ aV aW;have bG:Hid (∀(W8:World) (s2:MS),dR ((D.setCell ⟨p,11,none⟩ (Iq ((i:Int)+1))).setCell ⟨p,15,none⟩ (Iq ((q:Int)+1))).drew W8 p aT (Sq O cells cells) fl s2->An ins fl cells C A Ru St s2->(if s2.ended then 0 else ins.length+1 - s2.next.toNat)<ins.length+1 - i->(∃aX s2,Hid (Cw w W8 p I rb O (I+1) (Sq O cells cells) ins fl cells C A Ru St aX s2))/\Cv W8 p ins.length<Cv wr p ins.length):=λW8 s2 ho hj cj=>by
    rw[<-ah] at ho;obtain⟨aX,bH⟩:=J.next bR bs.out ax ho hj;refine⟨⟨aX,s2,bH⟩,?_⟩;rw[FE bH.mac,FE J.mac,ag,aJ];simpa using cj
   rw[ah];clear J HI hm c0 c1 c2 c3 bz bA aM b8 a0 aQ bC aP aR bE bQ aU ax aV aW HS ch bv aK aL l3 l4 l7 l8 ao aI bt bu ap aw aN aO aS ah;go_wp2_with fail;clear bP bO bN bD;generalize ck:((D.setCell ⟨p,11,none⟩ (Iq ((i:Int)+1))).setCell ⟨p,15,none⟩ (Iq ((q:Int)+1)))=wb at*;clear ck;go_region_held3 (λW=>W.cell? ⟨wr.heap.size,0,none⟩=some (Iq (x.op:Nat))/\W.cell? ⟨wr.heap.size,1,none⟩=some (Iq x.n)/\W.cell? ⟨wr.heap.size,2,none⟩=some (Iq tj)/\W.cell? ⟨wr.heap.size,3,none⟩=some (Iq (x.pl:Nat))/\W.cell? ⟨I,x.op,none⟩=some (.func (.func (Eu x.op)) #[] #[])) (first|with_reducible assumption|with_reducible exact KP.out _ _ (by assumption)|go_keep)
    (first|(refine W7.mono ?_;rintro e w8 ⟨rfl,s2,aY,bI,bJ⟩))
   rename_i hHeld;have HU:=bG.out _ _ aY bI bJ;have cm:=Hi HU.1;have cn:=Hi HU.2;clear hHeld aY bI bJ HU KP W7 ci bG;go_wp2;exact⟨cm.out,cn.out⟩
  rw[ag] at aI;rw[bw] at bt;rw[bx] at bu;rw[ac] at ap;have HB:=Hi J.bel;have ay:=λj=>Qm wr _ j _ _ _ J.res
  have r0:wr.cell? ⟨rb,0,none⟩=some (.bool false):=ay 0;have r1:wr.cell? ⟨rb,1,none⟩=some (Iq 0):=ay 1;have r2:wr.cell? ⟨rb,2,none⟩=some (Iq 0):=ay 2;have rf:∀o,wr.frozen? ⟨rb,o,none⟩=false:=λo=>by simp[World.frozen?,J.res]
  have cv:=rf 0;have cw:=rf 1;have cx:=rf 2;clear J HI ag bw bx ac ay rf aw;go_wp2;refine Qs (v:=nU A Ru St) (by simp[results,results100,go_sem,nU,cY,cN,eY,r0,r1,r2]) rfl ?_
  have aH:=bs.out.2;exact⟨rfl,((HB.out.setCell (by simp;omega) _).setCell (by simp;omega) _).setCell (by simp;omega) _⟩
theorem yV {q:List (LB×Int)} (u:LB) (h:dn z) (A:∀x∈q,dn x.2):dn (dQ z q u):=by
 induction q with
 |nil=>exact h
 |cons x r ih=>
  rw[dQ];split
  ·exact A x (by simp)
  exact ih (λy D=>A y (by simp[D]))
theorem Cx (n):dn (eZ n):=by unfold eZ dn;split<;>omega
theorem yW (q:List (LB×Int)) (u:LB):dn (dM q u):=by
 induction q with
 |nil=>show dn 0;unfold dn;omega
 |cons x r ih=>
  rw[dM];split
  ·exact Cx _
  exact ih
theorem Cy (e) (s) (z:dn e.need) (A:dn e.when_) (h3:dn s.dflt) (q:∀x∈s.levels,dn x.2):dL (dz e s):=by
 intro n D;have c:n=0\/n=1\/n=2\/n=3\/n=4\/n=5\/n=6\/n=7\/n=8:=by omega
 rcases c with rfl|rfl|rfl|rfl|rfl|rfl|rfl|rfl|rfl
 ·exact⟨yV _ h3 q,λe=>by simp[fL] at e⟩
 ·exact⟨yV _ h3 q,λe=>by simp[fL] at e⟩
 ·exact⟨z,λe=>by simp[fL] at e⟩
 ·exact⟨A,λe=>by simp[fL] at e⟩
 ·exact⟨yW _ _,λe=>by simp[fL] at e⟩
 ·exact⟨yW _ _,λe=>by simp[fL] at e⟩
 ·exact⟨Cx _,λe=>by simp[fL] at e⟩
 ·exact mu _ _
 exact mu _ _
abbrev Cz (w q:World) (z A D E G I wh J) (O:List (List UInt8×Int)) (R U V) (Y:List (List UInt8×Int)) (Z op) (W:World):=Below (w.heap.size+1+1) q W/\W.cell? ⟨z,0,none⟩=some (.pointer (some ⟨A,0,none⟩))/\W.cell? ⟨w.heap.size,0,none⟩=some (S D)/\W.cell? ⟨w.heap.size,1,none⟩=some (S E)/\W.cell? ⟨w.heap.size,2,none⟩=some (.int .i64 G)/\W.cell? ⟨w.heap.size,3,none⟩=some (.int .i64 I)/\W.cell? ⟨w.heap.size,4,none⟩=some (.int .i64 wh)/\W.cell? ⟨w.heap.size+1,0,none⟩=some (.slice J O.length R)/\W.cell? ⟨w.heap.size+1,1,none⟩=some (.int .i64 U)/\W.cell? ⟨w.heap.size+1,2,none⟩=some (.slice V Y.length Z)/\W.cell? ⟨w.heap.size+1,3,none⟩=some (.bool op)
theorem EK {b:LB} {ins cap St mv} (e) (s) (af:fD b=some ins) (ad:w.heap[U]?=some (.cells #[Pq V] 207 (0,0))) (hm:jz w V gi cap (cr b 2) (cr b 1) ins) (h1:dc lv s.levels w) (h2:dc mv s.members w) (hF:dL (dz e s)) (hj:mN b ins (dz e s)=some (A,Ru,St)):
 Calls prog 53 #[Pq U,xN e,lh lv mv s] w λen w'=>en= .returned (nU A Ru St)/\Bl w w':=by
 have c0:w.cell? ⟨U,0,none⟩=some (Pq V):=by rw[Qm w U 0 _ _ _ ad];rfl
 have aj:=be ad;have W1:∀W,Bl w W->Calls prog 40 #[xN e,lh lv mv s] W λen w'=>en= .returned (LO (dz e s))/\Bl W w':=λW hb=>uu e s W (h1.below hb) (h2.below hb)
 have W2:∀W,Bl w W->Calls prog 100 #[Pq V,LO (dz e s)] W λe w'=>e= .returned (nU A Ru St)/\Bl W w':=λW hb=>EJ af (hm.below hb) hF hj
 obtain⟨z,D,E,G,wh⟩:=e;obtain⟨I,J,O,R⟩:=s;obtain⟨_,Z,lc,rfl,_⟩:=h1;obtain⟨_,ma,mc,rfl,_⟩:=h2;unfold xN lh LO at*;simp only[] at*;generalize (dz ⟨z,D,E,G,wh⟩ ⟨I,J,O,R⟩).getD 0 0=f0 at*;generalize (dz ⟨z,D,E,G,wh⟩ ⟨I,J,O,R⟩).getD 1 0=f1 at*;generalize (dz ⟨z,D,E,G,wh⟩ ⟨I,J,O,R⟩).getD 2 0=f2 at*;generalize (dz ⟨z,D,E,G,wh⟩ ⟨I,J,O,R⟩).getD 3 0=f3 at*;generalize (dz ⟨z,D,E,G,wh⟩ ⟨I,J,O,R⟩).getD 4 0=f4 at*;generalize (dz ⟨z,D,E,G,wh⟩ ⟨I,J,O,R⟩).getD 5 0=f5 at*;generalize (dz ⟨z,D,E,G,wh⟩ ⟨I,J,O,R⟩).getD 6 0=f6 at*;generalize (dz ⟨z,D,E,G,wh⟩ ⟨I,J,O,R⟩).getD 7 0=f7 at*;generalize (dz ⟨z,D,E,G,wh⟩ ⟨I,J,O,R⟩).getD 8 0=f8 at*;obtain⟨q,Y⟩:∃q,((w.alloc (.cells #[S z,S D,Iq E,Iq G,Iq wh] 46)).alloc (.cells #[.slice Z I.length lc,Iq J,.slice ma O.length mc,.bool R] 50)).alloc (.cells #[.bool false,Iq 0,Iq 0] 40)=q:=⟨_,rfl⟩;have ab:Bl w q:=by rw[<-Y];exact(((Qq _ w).alloc (Qn _) _).alloc (by simp) _).alloc (by simp;omega) _
 have ag:q.heap[w.heap.size]?=some (.cells #[S z,S D,Iq E,Iq G,Iq wh] 46 (0,0)):=by rw[<-Y];exact(Qu _ _ _ (by simp;omega)).trans ((Qu _ _ _ (by simp)).trans (Qp w _))
 have ah:q.heap[w.heap.size+1]?=some (.cells #[.slice Z I.length lc,Iq J,.slice ma O.length mc,.bool R] 50 (0,0)):=by
  rw[<-Y];refine(Qu _ _ _ (by simp)).trans ?_
  have:=Qp (w.alloc (.cells #[S z,S D,Iq E,Iq G,Iq wh] 46)) (.cells #[.slice Z I.length lc,Iq J,.slice ma O.length mc,.bool R] 50);rw[Qw] at this;exact this
 have ac:q.heap[w.heap.size+1+1]?=some (.cells #[.bool false,Iq 0,Iq 0] 40 (0,0)):=by
  rw[<-Y];have:=Qp ((w.alloc (.cells #[S z,S D,Iq E,Iq G,Iq wh] 46)).alloc (.cells #[.slice Z I.length lc,Iq J,.slice ma O.length mc,.bool R] 50)) (.cells #[.bool false,Iq 0,Iq 0] 40);rw[Qw,Qw] at this;exact this
 have ak:Hid (q.heap.size=w.heap.size+1+1+1):=by show q.heap.size=_;rw[<-Y,Qw,Qw,Qw]
 have q1:=λj=>Qm q _ j _ _ _ ag
 have q2:=λj=>Qm q _ j _ _ _ ah
 have c3:q.cell? ⟨U,0,none⟩=some (Pq V):=by rw[ab.cell (p:=⟨U,0,none⟩) aj];exact c0
 have am:Cz w q U V z D E G wh Z I lc J ma O mc R q:=⟨Qq _ _,c3,q1 0,q1 1,q1 2,q1 3,q1 4,q2 0,q2 1,q2 2,q2 3⟩;have KB:Hid (∀W W',(Cz w q U V z D E G wh Z I lc J ma O mc R W)->Bl W W'->(Cz w q U V z D E G wh Z I lc J ma O mc R W')):=λW W' hS hb=>by
  obtain⟨s0,s1,s2,s3,s4,s5,s6,s7,s8,s9,an⟩:=hS;refine⟨s0.trans (hb.mono (by have:=s0.size;have:=ak.out;omega)),?_,?_,?_,?_,?_,?_,?_,?_,?_,?_⟩<;>(rw[hb.cell (Qk W _ (by assumption))];assumption)
 have HG:Hid (∀W,Below (w.heap.size+1+1) q W->Bl w W):=λW h=>ab.trans (h.mono (by omega))
 have V1:∀W,Below (w.heap.size+1+1) q W->_:=λW h=>W1 W (HG.out W h)
 have V2:∀W,Below (w.heap.size+1+1) q W->_:=λW h=>W2 W (HG.out W h)
 have HR:Hid (∀W,Bl q W->Cq W (w.heap.size+1+1) 0 (.bool false)/\Cq W (w.heap.size+1+1) 1 (Iq 0)/\Cq W (w.heap.size+1+1) 2 (Iq 0)/\W.frozen? ⟨w.heap.size+1+1,0,none⟩=false/\W.frozen? ⟨w.heap.size+1+1,1,none⟩=false/\W.frozen? ⟨w.heap.size+1+1,2,none⟩=false):=λW h=>by
  have hk:=(h.block _ (be ac)).trans ac;have ae:=λj=>Qm W _ j _ _ _ hk
  exact⟨ae 0,ae 1,ae 2,by simp[World.frozen?,hk],by simp[World.frozen?,hk],by simp[World.frozen?,hk]⟩
 have KD:Hid (∀W,(Cz w q U V z D E G wh Z I lc J ma O mc R W)->(Cz w q U V z D E G wh Z I lc J ma O mc R W.drew)):=λW hS=>⟨hS.1.drew,hS.2⟩
 have KS:Hid (∀W v0 v1 v2,(Cz w q U V z D E G wh Z I lc J ma O mc R W)->(Cz w q U V z D E G wh Z I lc J ma O mc R (((W.setCell ⟨w.heap.size+1+1,0,none⟩ v0).setCell ⟨w.heap.size+1+1,1,none⟩ v1).setCell ⟨w.heap.size+1+1,2,none⟩ v2))):=λW v0 v1 v2 hS=>by
  obtain⟨s0,s1,s2,s3,s4,s5,s6,s7,s8,s9,an⟩:=hS;refine⟨((s0.setCell (by simp) _).setCell (by simp) _).setCell (by simp) _,?_,?_,?_,?_,?_,?_,?_,?_,?_,?_⟩<;>
   (rw[World.cell?_setCell_far _ _ _ _ (by simp only[];omega),World.cell?_setCell_far _ _ _ _ (by simp only[];omega),World.cell?_setCell_far _ _ _ _ (by simp only[];omega)];assumption)
 clear W1 W2;have HW:=Hi Y;have ao:=c3;rw[<-Y] at ao;clear ad hm hF hj af ag ah ac q1 q2 ab Y c3;go_enter func53,ntmps53;go_wp2;rw[HW.out];unfold nU at V2;go_region_held3 (Cz w q U V z D E G wh Z I lc J ma O mc R) (first|with_reducible assumption|with_reducible exact KD.out _ (by assumption)|with_reducible exact KB.out _ _ (by assumption) (by assumption)|with_reducible exact KS.out _ _ _ _ (by assumption)|go_keep)
  (first
   |(go_at_call 40;refine(V1 _ (by exact SL (by assumption))).mono ?_;rintro e w4 ⟨rfl,aa⟩)
   |(go_at_call 100;refine(V2 _ (by exact SL (by assumption))).mono ?_;rintro e w5 ⟨rfl,ai⟩;obtain⟨r0,r1,r2,g0,g1,g2⟩:=HR.out _ (Below.trans ⟨aa.os,aa.tape,aa.output,aa.size,aa.block⟩ (ai.mono aa.size))))
 rename_i hHeld;have ap:=Hi (HG.out _ hHeld.1);clear hHeld KB KD KS V1 V2 HR HG am aa ai;go_wp2;refine Qs (v:=nU A Ru St) (by simp[results,results53,go_sem,nU,cY,cN,eY,r0,r1,r2]) rfl ?_
 exact⟨rfl,ap.out⟩
end Go.Proofs.YtfkdailfcmnjlaaGreatDoor
