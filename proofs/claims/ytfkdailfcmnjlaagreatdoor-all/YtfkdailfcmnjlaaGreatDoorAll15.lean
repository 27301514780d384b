/-
  A part.
-/
import Derived.Test.YtfkdailfcmnjlaaGreatDoorAll12
set_option linter.all false
set_option maxHeartbeats 40000000
set_option maxRecDepth 1000000
namespace Go.Proofs.YtfkdailfcmnjlaaGreatDoor
section
open Go Go.RowKit Tryz
attribute [local go_sem ↓] Go.wp_at_zero Go.wp_at_succ
variable {b L w i x cs f rb gl cl ts s ok2 ok3 j2 j3 a O ae j4 j5 J ab}
def ee:Tok:=⟨101,[],0⟩
def gC (ts:List Tok) (G:Bool) (j:Nat) (ks:List Nat):Tok:=if G&&kA ts ks j then cq ts j else ee
theorem tD (ts) (z:Bool) (j) (ks):rW ts z j ks= .agg #[Iq (cy (gC ts z j ks)),Iq (gC ts z j ks).pl,Iq (cV (gC ts z j ks)),S (cE (gC ts z j ks))]:=by
 unfold rW gC;split
 ·rfl
 rfl
def LN (t u:Tok) (b:Nat):Value:= .agg #[Iq (cy t),Iq t.pl,Iq (cV t),S (cE t),Iq (cy u),Iq u.pl,Iq (cV u),S (cE u),Iq 0,Pq b]
def OL (t u:Tok) (n:Int) (b:Nat):Value:= .agg #[Iq (cy t),Iq t.pl,Iq (cV t),S (cE t),Iq (cy u),Iq u.pl,Iq (cV u),S (cE u),Iq n,Pq b]
def fN (t u:Tok) (n:Int) (v:Value):Obj:= .cells #[Iq (cy t),Iq t.pl,Iq (cV t),S (cE t),Iq (cy u),Iq u.pl,Iq (cV u),S (cE u),Iq n,v] 163 (0,0)
def gS (t u:Tok) (v:Value):Obj:= .cells #[Iq (cy t),Iq t.pl,Iq (cV t),S (cE t),Iq (cy u),Iq u.pl,Iq (cV u),S (cE u),Iq 0,v] 163 (0,0)
theorem dI {w:World} {x0 x1 x2 x3 x4 x5 x6 x7 x8 x9:Value} (h:w.heap[b]?=some (.cells #[x0,x1,x2,x3,x4,x5,x6,x7,x8,x9] 163 (0,0))):(Cq w b 0 x0/\Cq w b 1 x1/\Cq w b 2 x2/\Cq w b 3 x3/\Cq w b 4 x4/\Cq w b 5 x5/\Cq w b 6 x6/\Cq w b 7 x7/\Cq w b 8 x8/\Cq w b 9 x9)/\ ∀j,w.frozen? ⟨b,j,none⟩=false:=by
 have z:=λj=>Qm w b j _ _ _ h
 exact⟨⟨z 0,z 1,z 2,z 3,z 4,z 5,z 6,z 7,z 8,z 9⟩,λj=>by simp[World.frozen?,h]⟩
theorem de.item {lt} (h:de L lt w i b) (O:w.heap[x]?=some (.cells cs 163 (0,0))) (j) (v):de L lt (w.setCell ⟨x,j,none⟩ v) i b:=
 h.keep λk U ty z D=>Qr _ _ _ _ (by
  simp only;intro e;rw[e,O] at z;simp only[QE,RN] at z;rw[<-z.2.1] at D;exact absurd D (by decide))
theorem ef {w:World} (z:w.heap[x]?=some (.cells cs 163 (0,0))) (j) (v):(w.setCell ⟨x,j,none⟩ v).heap[x]?=some (.cells (cs.setIfInBounds j v) 163 (0,0)):=by
 rw[QB w x j _ _ v z]
theorem lV {w:World} {x y:Nat} (h:y≠x) (j) (v):(w.setCell ⟨x,j,none⟩ v).heap[y]?=w.heap[y]?:=Qr _ _ _ _ (by simpa using h)
theorem tE (hf:fm f 152 6 rb gl cl ts) (h:RR rb gl cl ts s w) (ab:s.bad=false) (hk:cy (cq ts s.i)=11) (V:ok2=kA ts [2] (s.i+1)) (R:j2=qL ok2 (s.i+1)) (E:ok3=(ok2&&kA ts [8] j2)) (G:j3=qL ok3 j2)
 (hP:ok3=true->P f 6 ts j3 L 0=some a) (e6:j4=if ok3 then a.i else j3) (e7:O=(ok3&&a.ok)) (e8:ae=(O&&kA ts [5] j4)) (e9:j5=qL ae j4):
 Calls prog 104 #[Pq rb] w λe w'=> ∃b,e= .returned (LN (cq ts s.i) (gC ts true (s.i+1) [2]) b)/\PF rb w w'/\RR rb gl cl ts (Bj ts s ae j5) w'/\(O=true->de a.L rb w' a.top b):=by
 have af:kA ts [11,12,13] s.i=true:=by unfold kA;rw[hk];rfl
 have h0:RR rb gl cl ts (Bj ts s true s.i) (w.alloc (gS ee ee (.pointer none))):=h.alloc _;have au:(w.alloc (gS ee ee (.pointer none))).heap[w.heap.size]?=some (gS ee ee (.pointer none)):=Qp w _;have F0:PF rb w (w.alloc (gS ee ee (.pointer none))):=(PF.refl rb w).alloc _;have bi:=h.rlt;have bj:=h.glt;have W1:=mo h0 [11,12,13] (by decide) (by decide)
 rw[tD] at W1;have et:gC ts true s.i [11,12,13]=cq ts s.i:=by unfold gC;rw[af];rfl
 rw[et,af] at W1;simp only[Bool.and_self,show qL true s.i=s.i+1 from rfl] at W1;have av:=Hi V;have aw:=Hi R;have ax:=Hi E;have ay:=Hi G;have HP:=Hi hP;have az:=Hi au;have HG:=Hi ab;have aA:=Hi F0;have ba:Hid (∀t u v,gS t u v= .cells #[Iq (cy t),Iq t.pl,Iq (cV t),S (cE t),Iq (cy u),Iq u.pl,Iq (cV u),S (cE u),Iq 0,v] 163 (0,0)):=λ_ _ _=>rfl
 have aB:=Hi e6;have aC:=Hi e7;have aD:=Hi e8;have aE:=Hi e9;have aF:(w.alloc (gS ee ee (.pointer none))).heap.size=w.heap.size+1:=by simp
 have HV:Hid (∀b,LN (cq ts s.i) (gC ts true (s.i+1) [2]) b= .agg #[Iq (cy (cq ts s.i)),Iq (cq ts s.i).pl,Iq (cV (cq ts s.i)),S (cE (cq ts s.i)),Iq (cy (gC ts true (s.i+1) [2])),Iq (gC ts true (s.i+1) [2]).pl,Iq (cV (gC ts true (s.i+1) [2])),S (cE (gC ts true (s.i+1) [2])),Iq 0,Pq b]):=λ_=>rfl
 generalize LN (cq ts s.i) (gC ts true (s.i+1) [2])=iv at HV⊢;go_enter func104,ntmps104;go_wp2_with fail;rw[aF] at W1;apply W1.mono;rintro e I ⟨rfl,h1,F1⟩;have ag:I.heap[w.heap.size]?=some (gS ee ee (.pointer none)):=by rw[F1.block _ (by rw[aF];omega) (by omega)];exact az.out
 have bb:=be ag;generalize bk:cq ts s.i=z at*;have h2:=h1.alloc (gS z ee (.pointer none));have F2:=(aA.out.trans F1).alloc (gS z ee (.pointer none));have ah:(I.alloc (gS z ee (.pointer none))).heap[I.heap.size]?=some (gS z ee (.pointer none)):=Qp I _;have ai:(I.alloc (gS z ee (.pointer none))).heap[w.heap.size]?=some (gS ee ee (.pointer none)):=by rw[Qu _ _ _ bb];exact ag
 have U:I.heap.size≠rb:=by have:=h1.rlt;omega
 have V:I.heap.size≠gl:=by have:=h1.glt;omega
 have R:w.heap.size≠I.heap.size:=by omega
 have E:w.heap.size≠rb:=by omega
 have G:w.heap.size≠gl:=by omega
 have bc:w.heap.size<=I.heap.size:=by omega
 have W2:=mo h2 [2] (by decide) (by decide)
 rw[tD] at W2;have J:(I.alloc (gS z ee (.pointer none))).heap.size=I.heap.size+1:=by simp
 rw[J] at W2;simp only[ba.out,hk] at h2 F2 J ah ai W2;rw[SA,<-av.out,<-aw.out] at W2;go_wp2_with fail;apply W2.mono;rintro e w3 ⟨rfl,h3,F3⟩;generalize bd:gC ts true (s.i+1) [2]=u0 at HV⊢;have aj:=(F3.block _ (by rw[J];omega) U).trans ah
 have aG:=(F3.block _ (by rw[J];omega) E).trans ai
 have aH:=F2.trans F3;generalize aI:I.heap.size=Y at*;generalize D:w.heap.size=br at*;have aJ:=Hi D;obtain⟨⟨y0,y1,y2,y3,y4,y5,y6,y7,y8,y9⟩,yf⟩:=dI aj;have h4:=((((h3.other U V 4 (Iq (cy u0))).other U V 5 (Iq u0.pl)).other U V 6 (Iq (cV u0))).other U V 7 (S (cE u0)));have Z:w.heap.size<=Y:=by rw[aJ.out];exact bc
 have F4:=((((aH.new Z 4 (Iq (cy u0))).new Z 5 (Iq u0.pl)).new Z 6 (Iq (cV u0))).new Z 7 (S (cE u0)));have ak:=ef (ef (ef (ef aj 4 (Iq (cy u0))) 5 (Iq u0.pl)) 6 (Iq (cV u0))) 7 (S (cE u0));have am:=(lV R 7 (S (cE u0))).trans ((lV R 6 (Iq (cV u0))).trans ((lV R 5 (Iq u0.pl)).trans ((lV R 4 (Iq (cy u0))).trans aG)));have aK:=Hi F4;have aL:=Hi ak;have aM:=Hi am;have W3:=mo h4 [8] (by decide) (by decide)
 rw[<-ax.out,<-ay.out] at W3;have an:=be ak;have aa:=be am;simp only[To] at W3 an aa;generalize rW ts ok2 j2 [8]=bm at*;go_wp2_with fail;apply W3.mono;rintro e w5 ⟨rfl,h5,F5⟩;have ac:=(F5.block Y (by simpa using an) U).trans aL.out
 have ao:=(F5.block br (by simpa using aa) E).trans aM.out
 have aN:=aK.out.trans F5;have W4:=Bk hf HG.out h5 HP.out;rw[<-aB.out,<-aC.out] at W4;obtain⟨⟨y0,y1,y2,y3,y4,y5,y6,y7,y8,y9⟩,yf⟩:=dI ac;have bf:=be ac;have a9:=be ao;have aO:=Hi ac;have aP:=Hi ao;have aQ:=Hi aN;go_wp2_with fail;apply W4.mono;rintro e w6 ⟨b,rfl,F6,h6,aR⟩;have ad:=(F6.block Y bf U).trans aO.out;have aS:=(F6.block br a9 E).trans aP.out;have h7:=h6.other U V 9 (Pq b);have F7:=(aQ.out.trans F6).new Z 9 (Pq b);have aT:=ef ad 9 (Pq b);have aU:=(lV R 9 (Pq b)).trans aS;have aV:O=true->de a.L rb (w6.setCell ⟨Y,9,none⟩ (Pq b)) a.top b:=λe=>(aR e).item ad _ _
 obtain⟨⟨y0,y1,y2,y3,y4,y5,y6,y7,y8,y9⟩,yf⟩:=dI ad;have W5:=mo h7 [5] (by decide) (by decide)
 rw[<-aD.out,<-aE.out] at W5;simp only[To] at W5;have H7:=Hi h7;have aW:=Hi F7;have ap:=Hi aT;have aq:=Hi aU;have aX:=Hi aV;generalize rW ts O j4 [5]=bo at*;go_wp2_with fail;apply W5.mono;rintro e w8 ⟨rfl,h8,F8⟩;have aY:=(F8.block Y (be ap.out) U).trans ap.out;have ar:=(F8.block br (be aq.out) E).trans aq.out;have aZ:=aW.out.trans F8;have a0:O=true->de a.L rb w8 a.top b:=λe=>(aX.out e).pf H7.out F8
 obtain⟨⟨y0,y1,y2,y3,y4,y5,y6,y7,y8,y9⟩,yf⟩:=dI aY;obtain⟨⟨z0,z1,z2,z3,z4,z5,z6,z7,z8,z9⟩,zf⟩:=dI ar;have H8:=Hi h8;have bg:=Hi aZ;have bh:=Hi a0;have a8:=Hi ar;go_wp2;have D:=Se aJ.out;refine Qs (v:= .agg #[Iq 11,Iq z.pl,Iq (cV z),S (cE z),Iq (cy u0),Iq u0.pl,Iq (cV u0),S (cE u0),Iq 0,Pq b]) (by simp[results,results104,go_sem,z0,z1,z2,z3,z4,z5,z6,z7,z8,z9,zf]) rfl ⟨b,?_,?_,?_,?_⟩
 ·rw[HV.out,hk];rfl
 ·exact(((((((((bg.out.new D _ _).new D _ _).new D _ _).new D _ _).new D _ _).new D _ _).new D _ _).new D _ _).new D _ _).new D _ _
 ·exact(((((((((H8.out.other E G _ _).other E G _ _).other E G _ _).other E G _ _).other E G _ _).other E G _ _).other E G _ _).other E G _ _).other E G _ _).other E G _ _
 intro e;have c1:=(bh.out e).item a8.out 0 (Iq 11);have x1:=ef a8.out 0 (Iq 11);have c2:=c1.item x1 1 (Iq z.pl);have x2:=ef x1 1 (Iq z.pl);have c3:=c2.item x2 2 (Iq (cV z));have x3:=ef x2 2 (Iq (cV z));have c4:=c3.item x3 3 (S (cE z));have x4:=ef x3 3 (S (cE z));have c5:=c4.item x4 4 (Iq (cy u0));have x5:=ef x4 4 (Iq (cy u0));have c6:=c5.item x5 5 (Iq u0.pl);have x6:=ef x5 5 (Iq u0.pl);have c7:=c6.item x6 6 (Iq (cV u0));have x7:=ef x6 6 (Iq (cV u0));have c8:=c7.item x7 7 (S (cE u0));have x8:=ef x7 7 (S (cE u0));have c9:=c8.item x8 8 (Iq 0);have x9:=ef x8 8 (Iq 0);exact c9.item x9 9 (Pq b)
theorem tF (hf:fm f 152 6 rb gl cl ts) (h:RR rb gl cl ts s w) (U:s.bad=false) (hk:cy (gC ts true s.i [11,12,13])≠11) (e2:ok2=kA ts [11,12,13] s.i) (e3:j2=qL ok2 s.i) (E:ok3=(ok2&&kA ts [14] j2)) (I:j3=qL ok3 j2)
 (hP:ok3=true->P f 6 ts j3 L 0=some a) (e6:j4=if ok3 then a.i else j3) (e7:J=(ok3&&a.ok)) (e8:ab=(J&&kA ts [5] j4)) (e9:j5=qL ab j4):
 Calls prog 104 #[Pq rb] w λe w'=> ∃b,e= .returned (LN (gC ts true s.i [11,12,13]) ee b)/\PF rb w w'/\RR rb gl cl ts (Bj ts s ab j5) w'/\(J=true->de a.L rb w' a.top b):=by
 have h0:RR rb gl cl ts (Bj ts s true s.i) (w.alloc (gS ee ee (.pointer none))):=h.alloc _;have ai:(w.alloc (gS ee ee (.pointer none))).heap[w.heap.size]?=some (gS ee ee (.pointer none)):=Qp w _;have F0:PF rb w (w.alloc (gS ee ee (.pointer none))):=(PF.refl rb w).alloc _;have aY:=h.rlt;have aZ:=h.glt;have W1:=mo h0 [11,12,13] (by decide) (by decide)
 rw[tD] at W1;rw[SA,<-e2,<-e3] at W1;have aj:=Hi E;have ak:=Hi I;have HP:=Hi hP;have am:=Hi ai;have HG:=Hi U;have an:=Hi F0;have aQ:Hid (∀t u v,gS t u v= .cells #[Iq (cy t),Iq t.pl,Iq (cV t),S (cE t),Iq (cy u),Iq u.pl,Iq (cV u),S (cE u),Iq 0,v] 163 (0,0)):=λ_ _ _=>rfl
 have ao:=Hi e6;have ap:=Hi e7;have aq:=Hi e8;have ar:=Hi e9;have au:(w.alloc (gS ee ee (.pointer none))).heap.size=w.heap.size+1:=by simp
 have HV:Hid (∀b,LN (gC ts true s.i [11,12,13]) ee b= .agg #[Iq (cy (gC ts true s.i [11,12,13])),Iq (gC ts true s.i [11,12,13]).pl,Iq (cV (gC ts true s.i [11,12,13])),S (cE (gC ts true s.i [11,12,13])),Iq 0,Iq 0,Iq 0,S [],Iq 0,Pq b]):=λ_=>rfl
 generalize LN (gC ts true s.i [11,12,13]) ee=iv at HV⊢;generalize gC ts true s.i [11,12,13]=z at*;generalize aR:cy z=O at*;have a0:(O==11)=false:=by
  have: ¬(O=11):=by omega
  simpa using this
 go_enter func104,ntmps104;go_wp2_with fail;rw[au] at W1;apply W1.mono;rintro e G ⟨rfl,h1,F1⟩;have ac:G.heap[w.heap.size]?=some (gS ee ee (.pointer none)):=by rw[F1.block _ (by rw[au];omega) (by omega)];exact am.out
 have aS:=be ac;have h2:=h1.alloc (gS z ee (.pointer none));have F2:=(an.out.trans F1).alloc (gS z ee (.pointer none));have V:(G.alloc (gS z ee (.pointer none))).heap[G.heap.size]?=some (gS z ee (.pointer none)):=Qp G _;have Y:(G.alloc (gS z ee (.pointer none))).heap[w.heap.size]?=some (gS ee ee (.pointer none)):=by rw[Qu _ _ _ aS];exact ac
 have e1:G.heap.size≠rb:=by have:=h1.rlt;omega
 have e2:G.heap.size≠gl:=by have:=h1.glt;omega
 have e3:w.heap.size≠G.heap.size:=by omega
 have E:w.heap.size≠rb:=by omega
 have I:w.heap.size≠gl:=by omega
 have aT:w.heap.size<=G.heap.size:=by omega
 have R:(G.alloc (gS z ee (.pointer none))).heap.size=G.heap.size+1:=by simp
 have W3:=mo h2 [14] (by decide) (by decide)
 rw[<-aj.out,<-ak.out] at W3;rw[R] at W3;simp only[aQ.out,aR] at h2 F2 R V Y W3;have av:=be V;have ad:=be Y;generalize rW ts ok2 j2 [14]=a8 at*;go_wp2_with fail;apply W3.mono;rintro e w5 ⟨rfl,h5,F5⟩;have Z:w5.heap[G.heap.size]?=some (.cells #[Iq O,Iq z.pl,Iq (cV z),S (cE z),Iq 0,Iq 0,Iq 0,S [],Iq 0,.pointer none] 163 (0,0)):=(F5.block G.heap.size av e1).trans V;have ae:=(F5.block w.heap.size ad E).trans Y;have aw:=F2.trans F5;generalize ax:G.heap.size=bi at*;generalize D:w.heap.size=br at*;have ay:=Hi D;have aU:w.heap.size<=bi:=by rw[ay.out];exact aT
 have W4:=Bk hf HG.out h5 HP.out;rw[<-ao.out,<-ap.out] at W4;obtain⟨⟨y0,y1,y2,y3,y4,y5,y6,y7,y8,y9⟩,yf⟩:=dI Z;have aV:=be Z;have aN:=be ae;have az:=Hi Z;have aA:=Hi ae;have aB:=Hi aw;go_wp2_with fail;apply W4.mono;rintro e w6 ⟨b,rfl,F6,h6,aC⟩;have aa:=(F6.block bi aV e1).trans az.out;have aD:=(F6.block br aN E).trans aA.out;have h7:=h6.other e1 e2 9 (Pq b);have F7:=(aB.out.trans F6).new aU 9 (Pq b);have aE:(w6.setCell ⟨bi,9,none⟩ (Pq b)).heap[bi]?=some (.cells #[Iq O,Iq z.pl,Iq (cV z),S (cE z),Iq 0,Iq 0,Iq 0,S [],Iq 0,Pq b] 163 (0,0)):=ef aa 9 (Pq b);have aF:=(lV e3 9 (Pq b)).trans aD;have aG:J=true->de a.L rb (w6.setCell ⟨bi,9,none⟩ (Pq b)) a.top b:=λe=>(aC e).item aa _ _
 obtain⟨⟨y0,y1,y2,y3,y4,y5,y6,y7,y8,y9⟩,yf⟩:=dI aa;have W5:=mo h7 [5] (by decide) (by decide)
 rw[<-aq.out,<-ar.out] at W5;simp only[To] at W5;have H7:=Hi h7;have aH:=Hi F7;have af:=Hi aE;have ag:=Hi aF;have aI:=Hi aG;generalize rW ts J j4 [5]=ba at*;go_wp2_with fail;apply W5.mono;rintro e w8 ⟨rfl,h8,F8⟩;have aJ:=(F8.block bi (be af.out) e1).trans af.out;have ah:=(F8.block br (be ag.out) E).trans ag.out;have aK:=aH.out.trans F8;have aL:J=true->de a.L rb w8 a.top b:=λe=>(aI.out e).pf H7.out F8
 obtain⟨⟨y0,y1,y2,y3,y4,y5,y6,y7,y8,y9⟩,yf⟩:=dI aJ;obtain⟨⟨z0,z1,z2,z3,z4,z5,z6,z7,z8,z9⟩,zf⟩:=dI ah;have H8:=Hi h8;have aW:=Hi aK;have aX:=Hi aL;have aM:=Hi ah;go_wp2_with fail;have D:w.heap.size<=br:=Se ay.out;refine Qs (v:= .agg #[Iq O,Iq z.pl,Iq (cV z),S (cE z),Iq 0,Iq 0,Iq 0,S [],Iq 0,Pq b]) (by simp[results,results104,go_sem,z0,z1,z2,z3,z4,z5,z6,z7,z8,z9,zf]) rfl ⟨b,?_,?_,?_,?_⟩
 ·rw[HV.out]
 ·exact(((((((((aW.out.new D _ _).new D _ _).new D _ _).new D _ _).new D _ _).new D _ _).new D _ _).new D _ _).new D _ _).new D _ _
 ·exact(((((((((H8.out.other E I _ _).other E I _ _).other E I _ _).other E I _ _).other E I _ _).other E I _ _).other E I _ _).other E I _ _).other E I _ _).other E I _ _
 intro e;have c1:=(aX.out e).item aM.out 0 (Iq O);have x1:=ef aM.out 0 (Iq O);have c2:=c1.item x1 1 (Iq z.pl);have x2:=ef x1 1 (Iq z.pl);have c3:=c2.item x2 2 (Iq (cV z));have x3:=ef x2 2 (Iq (cV z));have c4:=c3.item x3 3 (S (cE z));have x4:=ef x3 3 (S (cE z));have c5:=c4.item x4 4 (Iq 0);have x5:=ef x4 4 (Iq 0);have c6:=c5.item x5 5 (Iq 0);have x6:=ef x5 5 (Iq 0);have c7:=c6.item x6 6 (Iq 0);have x7:=ef x6 6 (Iq 0);have c8:=c7.item x7 7 (S []);have x8:=ef x7 7 (S []);have c9:=c8.item x8 8 (Iq 0);have x9:=ef x8 8 (Iq 0);exact c9.item x9 9 (Pq b)
end
section
open Go Go.RowKit Tryz
variable {ts k f i L x r rb gl cl s w}
theorem GQ {ts:List Tok} (hW:∀t∈ts,hY t) (j:Nat):hY (cq ts j)\/cq ts j=ik:=by
 by_cases h:cq ts j=ik
 ·exact .inr h
 exact .inl (hW _ (qX h).2)
theorem qg (hW:∀t∈ts,hY t) (j:Nat) {x:LB} (z:x∈cU.drop 3) (D:kn x=k):eJ (cq ts j) x=decide (cy (cq ts j)=k):=by
 rcases GQ hW j with h|h
 ·rw[RE,rS h z,D];simp
 have:=lT x z;rw[h,sO,show cy ik=0 from by decide,<-D]
 unfold kn;symm;rw[SQ];omega
theorem iK {t:Tok}:cy t=2↔t.k=111:=by
 unfold cy;constructor
 ·intro h;by_cases D:t.k=110
  ·rw[Qo D] at h;simp at h
  rw[Qj D] at h;by_cases E:t.k=111
  ·exact E
  rw[Qj E] at h;by_cases h3:t.k=101
  ·rw[Qo h3] at h;simp at h
  rw[Qj h3] at h;exfalso;have G:∀x,(dx cU x).toNat≠2:=by
   intro x;by_cases I:x=[]
   ·subst I;decide
   have z:∀r,dx ([]::r) x=if dx r x<0 then -1 else dx r x+1:=λr=>by
    rw[dx,Qj (by simpa using I)]
   have e:cU=[]::[]::[]::cU.drop 3:=by decide
   rw[e,z,z,z];have:=jx (cU.drop 3) x;split
   ·decide
   omega
  exact G _ h
 intro h;rw[Qj (by omega),Qo h]
theorem mz (ts:List Tok) (k j:Nat):kA ts [k] j=decide (cy (cq ts j)=k):=by
 unfold kA;exact fB _ _
def wu (x:dw) (t u:Tok):Prop:=
 (x.name≠[]/\cy t=11/\t.pl=x.pl/\cy u=2/\u.pl=x.named/\cE u=x.name/\cV u=0)\/
 (x.name=[]/\cy t=(if x.allow then 12 else 13)/\t.pl=x.pl/\u=ee)
def Dy (rb gl cl:Nat) (ts:List Tok) (s:Q) (w:World) (r:At) (e:Ending) (w':World):Prop:=
 ∃t u b,e= .returned (LN t u b)/\PF rb w w'/\((r.ok=true/\RR rb gl cl ts {s with i:=r.i} w'/\de r.L rb w' r.it.top b/\wu r.it t u)\/(r.ok=false/\RR rb gl cl ts (fO ts {s with i:=r.i}) w'))
theorem kG (h:gj f ts i L x=some r):
 ∃a:Rd,P f 6 ts i L 0=some a/\((a.ok=true/\eJ (cq ts a.i) [59]=true/\r=⟨true,a.i+1,a.L,{x with top:=a.top,parts:=a.L.length}⟩)\/((a.ok&&eJ (cq ts a.i) [59])=false/\r.ok=false/\r.i=a.i)):=by
 unfold gj at h;cases E:P f 6 ts i L 0 with
 |none=>rw[E] at h;simp at h
 |some a=>
  rw[E] at h;simp only at h;refine⟨a,rfl,?_⟩;by_cases z:a.ok=true
  ·rw[Qo z] at h;by_cases D:eJ (cq ts a.i) [59]=true
   ·rw[Qo D] at h;simp at h;exact .inl ⟨z,D,h.symm⟩
   rw[Qj D] at h;simp[dV] at h;subst h;exact .inr ⟨by rw[z];simpa using D,rfl,rfl⟩
  rw[Qj z] at h;simp[dV] at h;subst h;exact .inr ⟨by simp at z;rw[z];rfl,rfl,rfl⟩
theorem GR (Z:fm f 152 6 rb gl cl ts) (hW:∀t∈ts,hY t) (hN:∀t∈ts,t.k=111->t.text≠[]) (h:RR rb gl cl ts s w) (D:s.bad=false) {r:At} (z:iF f ts s.i L=some r):
 Calls prog 104 #[Pq rb] w (Dy rb gl cl ts s w r):=by
 unfold iF at z;have aa:=qg hW s.i (x:=CJ) (by decide) (k:=11) (by decide)
 have J:=qg hW s.i (x:=ir) (by decide) (k:=12) (by decide)
 have V:=qg hW s.i (x:=qA) (by decide) (k:=13) (by decide)
 have O:∀{ok3:Bool} {j3:Nat} {a:Rd} {t u:Tok} {x:dw} {E R:Bool} {j4 j5:Nat},ok3=true->j4=(if ok3 then a.i else j3)->E=(ok3&&a.ok)->R=(E&&kA ts [5] j4)->j5=qL R j4->wu {x with top:=a.top,parts:=a.L.length} t u->
  ((a.ok=true/\eJ (cq ts a.i) [59]=true/\r=⟨true,a.i+1,a.L,{x with top:=a.top,parts:=a.L.length}⟩)\/((a.ok&&eJ (cq ts a.i) [59])=false/\r.ok=false/\r.i=a.i))->
  ∀e w',(∃b,e= .returned (LN t u b)/\PF rb w w'/\RR rb gl cl ts (Bj ts s R j5) w'/\(E=true->de a.L rb w' a.top b))->Dy rb gl cl ts s w r e w':=by
  intro ok3 j3 a t u x E R j4 j5 e3 e6 e7 U e9 hO hr e w' ⟨b,he,hF,hR,hC⟩;subst e3;have e6:j4=a.i:=e6;rw[SA] at e7;subst e6;have hs:=qg hW a.i (x:=[59]) (by decide) (k:=5) (by decide)
  rw[mz,<-hs,e7] at U;refine⟨t,u,b,he,hF,?_⟩;rcases hr with⟨ok,hw,rfl⟩|⟨no,ag,ri⟩
  ·rw[ok,hw] at U;have U:=U;subst U;subst e9;exact .inl ⟨rfl,hR,hC (by rw[e7];exact ok),hO⟩
  rw[no] at U;subst U;subst e9;exact .inr ⟨ag,by rw[ri];exact hR⟩
 have fails:∀{t u:Tok} {j:Nat} {a:Rd} {E:Bool},r=⟨false,j,[],dr⟩-> ∀e w',(∃b,e= .returned (LN t u b)/\PF rb w w'/\RR rb gl cl ts (Bj ts s false j) w'/\(E=true->de a.L rb w' a.top b))->Dy rb gl cl ts s w r e w':=by
  intro t u j a E e e' w' ⟨b,he,hF,hR,_⟩;subst e;exact⟨t,u,b,he,hF,.inr ⟨rfl,hR⟩⟩
 by_cases hl:eJ (cq ts s.i) CJ=true
 ·rw[Qo hl] at z;have hk:cy (cq ts s.i)=11:=by rw[aa] at hl;simpa using hl
  by_cases I:(cq ts (s.i+1)).k=111
  ·rw[Qo I] at z;have k2:kA ts [2] (s.i+1)=true:=by rw[mz];simpa using iK.2 I
   have s8:=qg hW (s.i+2) (x:=[61]) (by decide) (k:=8) (by decide)
   have eu:gC ts true (s.i+1) [2]=cq ts (s.i+1):=by unfold gC;rw[k2];rfl
   have ah:=hN _ (qX (ts:=ts) (i:=s.i+1) λe=>by rw[e] at I;simp[ik] at I).2 I
   by_cases h8:eJ (cq ts (s.i+2)) [61]=true
   ·rw[Qo h8] at z;obtain⟨a,hP,hr⟩:=kG z;have k8:kA ts [8] (s.i+2)=true:=by rw[mz,<-s8];exact h8
    apply(tE Z h D hk (ok2:=true) (ok3:=true) (j2:=s.i+2) (j3:=s.i+3) k2.symm rfl (by rw[k8];rfl) rfl (λ_=>hP) rfl rfl rfl rfl).mono
    refine O (ok3:=true) (j3:=s.i+3) rfl rfl rfl rfl rfl ?_ hr;rw[eu];refine .inl ⟨ah,hk,rfl,iK.2 I,rfl,?_,?_⟩
    ·unfold cE;rw[Qo I]
    unfold cV;rw[Qj (by omega)]
   rw[Qj h8] at z;have k8:kA ts [8] (s.i+2)=false:=by rw[mz,<-s8];simpa using h8
   simp[dV] at z;apply(tE Z h D hk (ok2:=true) (ok3:=false) (j2:=s.i+2) (j3:=s.i+2) k2.symm rfl (by rw[k8];rfl) rfl (L:=L) (a:=⟨false,0,[],0⟩) (λe=>by simp at e) rfl rfl rfl rfl).mono
   exact fails z.symm
  rw[Qj I] at z;have k2:kA ts [2] (s.i+1)=false:=by rw[mz];simpa using λe=>I (iK.1 e)
  simp[dV] at z;apply(tE Z h D hk (ok2:=false) (ok3:=false) (j2:=s.i+1) (j3:=s.i+1) k2.symm rfl rfl rfl (L:=L) (a:=⟨false,0,[],0⟩) (λe=>by simp at e) rfl rfl rfl rfl).mono
  exact fails z.symm
 rw[Qj hl] at z;have ab:cy (cq ts s.i)≠11:=by rw[aa] at hl;simpa using hl
 have ac:cy (gC ts true s.i [11,12,13])≠11:=by
  unfold gC;split
  ·exact ab
  decide
 have s3:kA ts [11,12,13] s.i=(eJ (cq ts s.i) ir||eJ (cq ts s.i) qA):=by
  rw[J,V,RE];unfold kA;rw[QJ];simp[ab]
 by_cases G:(eJ (cq ts s.i) ir||eJ (cq ts s.i) qA)=true
 ·rw[Qo G] at z;rw[G] at s3;have af:=qg hW (s.i+1) (x:=oI) (by decide) (k:=14) (by decide)
  have et:gC ts true s.i [11,12,13]=cq ts s.i:=by unfold gC;rw[s3];rfl
  by_cases hi:eJ (cq ts (s.i+1)) oI=true
  ·rw[Qo hi] at z;obtain⟨a,hP,hr⟩:=kG z;have ad:kA ts [14] (s.i+1)=true:=by rw[mz,<-af];exact hi
   apply(tF Z h D ac (ok2:=true) (ok3:=true) (j2:=s.i+1) (j3:=s.i+2) s3.symm rfl (by rw[ad];rfl) rfl (λ_=>hP) rfl rfl rfl rfl).mono
   refine O (ok3:=true) (j3:=s.i+2) rfl rfl rfl rfl rfl ?_ hr;rw[et];refine .inr ⟨rfl,?_,rfl,rfl⟩;simp only;by_cases Y:eJ (cq ts s.i) ir=true
   ·rw[Qo (by simpa using (gX Y).1)]
    rw[J] at Y;simpa using Y
   have ae:eJ (cq ts s.i) qA=true:=by
    simp at G;rcases G with G|G
    ·exact absurd G Y
    exact G
   rw[Qj (by rw[(gX ae).1];decide)]
   rw[V] at ae;simpa using ae
  rw[Qj hi] at z;have ad:kA ts [14] (s.i+1)=false:=by rw[mz,<-af];simpa using hi
  simp[dV] at z;apply(tF Z h D ac (ok2:=true) (ok3:=false) (j2:=s.i+1) (j3:=s.i+1) s3.symm rfl (by rw[ad];rfl) rfl (L:=L) (a:=⟨false,0,[],0⟩) (λe=>by simp at e) rfl rfl rfl rfl).mono
  exact fails z.symm
 rw[Qj G] at z;have ai:kA ts [11,12,13] s.i=false:=by rw[s3];simpa using G
 simp[dV] at z;apply(tF Z h D ac (ok2:=false) (ok3:=false) (j2:=s.i) (j3:=s.i) ai.symm rfl rfl rfl (L:=L) (a:=⟨false,0,[],0⟩) (λe=>by simp at e) rfl rfl rfl rfl).mono
 exact fails z.symm
end
section
open Go Go.RowKit Tryz
attribute [local go_sem ↓] Go.wp_at_zero Go.wp_at_succ
variable {F i L r base v n xs k rb gl cl ts s w w'}
theorem ox:(prog.info? 163).map (λi=>(i.zero,i.size,i.bytes))=some (some (.agg #[Iq 0,Iq 0,Iq 0,.string ⟨#[]⟩,Iq 0,Iq 0,Iq 0,.string ⟨#[]⟩,Iq 0,.pointer none]),10,96):=by kernel_rfl
def eK (y:Tok×Tok×Nat×Int):List Value:=[Iq (cy y.1),Iq y.1.pl,Iq (cV y.1),S (cE y.1),Iq (cy y.2.1),Iq y.2.1.pl,Iq (cV y.2.1),S (cE y.2.1),Iq y.2.2.2,Pq y.2.2.1]
def dB (ys:List (Tok×Tok×Nat×Int)):List Value:=ys.flatMap eK
theorem Dz (ys:List (Tok×Tok×Nat×Int)):(dB ys).length=ys.length*10:=by
 induction ys with
 |nil=>rfl
 |cons t ts ih=>simp[dB,eK] at ih⊢;omega
theorem mP (ys:List (Tok×Tok×Nat×Int)) (y:Tok×Tok×Nat×Int):dB (ys++[y])=dB ys++eK y:=by simp[dB]
def du (C:Nat->Nat->Prop):List dw->List (Tok×Tok×Nat×Int)->Prop
 |[],[]=>True
 |x::xs,y::ys=>(C x.top y.2.2.1/\wu x y.1 y.2.1)/\du C xs ys
 |_,_=>False
theorem du.mono {C z:Nat->Nat->Prop} (D:∀i b,C i b->z i b):∀{xs ys},du C xs ys->du z xs ys
 |[],[],_=>trivial
 |_::_,_::_,h=>⟨⟨D _ _ h.1.1,h.1.2⟩,du.mono D h.2⟩
theorem du.snoc {C x y} (z:C x.top y.2.2.1) (D:wu x y.1 y.2.1):∀{xs ys},du C xs ys->du C (xs++[x]) (ys++[y])
 |[],[],_=>⟨⟨z,D⟩,trivial⟩
 |_::_,_::_,h=>⟨h.1,du.snoc z D h.2⟩
theorem du.len {C:Nat->Nat->Prop}:∀{xs ys},du C xs ys->ys.length=xs.length
 |[],[],_=>rfl
 |_::_,_::_,h=>by simp[du.len h.2]
theorem Ko {ts:List Tok} (h:iF F ts i L=some r) (z:r.ok=true):i<r.i/\ ∃new,r.L=L++new:=by
 have tail:∀(j:Nat) (x:dw),i<j->gj F ts j L x=some r->i<r.i/\ ∃new,r.L=L++new:=by
  intro j x O J;obtain⟨a,G,E⟩:=kG J;rcases E with⟨D,R,rfl⟩|⟨_,I,_⟩
  ·have U:=(vb F 6 ts j L 0 a G D (by omega)).1
   exact⟨by simp;omega,AE G D (by omega)⟩
  ·rw[I] at z;simp at z
 unfold iF at h
 split at h
 ·split at h
  ·split at h
   ·exact tail _ _ (by omega) h
   ·simp[dV] at h;subst h;simp at z
  ·simp[dV] at h;subst h;simp at z
 ·split at h
  ·split at h
   ·exact tail _ _ (by omega) h
   ·simp[dV] at h;subst h;simp at z
  ·simp[dV] at h;subst h;simp at z
theorem Bt {t:Tok} (h:hY t):cy t=0↔t.k=101:=by
 rcases h.cases with h|h|h|⟨h,z⟩
 ·unfold cy;rw[Qo h];omega
 ·unfold cy;rw[Qj (by omega),Qo h];omega
 ·unfold cy;rw[Qj (by omega),Qj (by omega),Qo h];simp[h]
 ·rw[dU h];have:=lT _ z;unfold kn;omega
theorem RR.grown {rb gl cl ts s w w' row} (h:RR rb gl cl ts s w) (z:w.grownBy w' row) (D:row≠some rb) (E:row≠some gl):RR rb gl cl ts s w':=
 h.move (z.block _ h.glt E.symm) (by rw[z.block _ h.rlt D.symm];exact h.rd) h.lt
theorem tG {w:World} (h:w.ownsRow base 163 10 v n xs) (z:v.ownBlock=some k):∃cs,w.heap[k]?=some (.cells cs 163 (0,0)):=by
 rcases h.2 with⟨rfl,_⟩|⟨g,cap,G,rfl,V,R,_⟩
 ·simp[Value.ownBlock] at z
 ·simp[Value.ownBlock] at z;subst z;exact⟨G,R⟩
theorem RR.apart (h:RR rb gl cl ts s w) (D:w.ownsRow base 163 10 v n xs):v.ownBlock≠some rb/\v.ownBlock≠some gl:=by
 constructor
 ·intro e
  obtain⟨cs,z⟩:=tG D e;rw[h.rd] at z;simp[mg] at z
 ·intro e
  obtain⟨cs,z⟩:=tG D e;obtain⟨G,E⟩:=h.wl;rw[E] at z;simp at z
theorem de.grown {L lt w w' i b} (h:de L lt w i b) {base v n xs} (G:w.ownsRow base 163 10 v n xs) (I:w.grownBy w' v.ownBlock):de L lt w' i b:=
 h.keep λk cs ty D E=>I.block k (be D) λe=>by
  obtain⟨J,z⟩:=tG G e.symm;rw[D] at z;simp only[QE,RN] at z;rw[z.2.1] at E;exact absurd E (by decide)
theorem DA (E:RR rb gl cl ts s w) (h:w.ownsRow base 163 10 v n xs) (G:PF rb w w'):w'.ownsRow base 163 10 v n xs:=by
 have I:=(E.apart h).1;obtain⟨J,z⟩:=h;refine⟨J,?_⟩;rcases z with z|⟨g,cap,D,rfl,b,c,d⟩
 ·exact .inl z
 ·refine .inr ⟨g,cap,D,rfl,b,?_,d⟩
  rw[G.block g (be c) (λe=>I (by rw[e];rfl))];exact c
end
section
open Go Go.RowKit Tryz
attribute [local go_sem ↓] Go.wp_at_zero Go.wp_at_succ
variable {bs : Nat}
theorem wy (k:Nat) (w:World) (D:k<=100):Calls prog 154 #[Iq k] w λe w'=>e= .returned (Iq (qI k))/\w'=w:=by
 have z:Hid (qI k=if k=1\/(27<=k/\k<=30) then 1 else if k=20\/k=21\/k=34\/k=35 then 2 else if(22<=k/\k<=26)\/(31<=k/\k<=33) then 3 else 0):=rfl
 generalize qI k=r at*;go_enter func154,ntmps154
 go_wp2
 all_goals go_ret
 all_goals refine⟨da ?_,rfl⟩
 all_goals rw[z.out]
 all_goals clear z
 all_goals (repeat' split)
 all_goals first
  |rfl
  |(exfalso;omega)
  |(exfalso;simp at*;omega)
theorem tH (D:List Nat) (g o cap z E:Nat) (w:World) (hl:D.length<=100) (hb:z<=100)
 (V:∀j,j<D.length->Cq w g (o+j) (Iq (D.getD j 0))/\D.getD j 0<=100):
 Calls prog 218 #[.slice (some ⟨g,o,none⟩) D.length cap,Iq z,Iq E] w λe w'=>e= .returned (Iq (iw D z E))/\w'=w:=by
 have Y:=Hi V;clear V;go_enter func218,ntmps218
 go_wp2
 go_loop [11] (λi=> ∃k:Nat,k<=D.length/\i= Iq k/\Hid (∀q,q<k->D.getD q 0=z)) (λi=>D.length - (intOf i).toNat)
 case atStart=>exact⟨0,QA _,rfl,λq hq=>by omega⟩
 case round=>
  obtain⟨k,hk,rfl,Z⟩:=hrel
  by_cases G:k<D.length
  ·obtain⟨J,O⟩:=Y.out k G
   have I:Hid (D.getD k 0∈D):=by rw[Qi,Ql G];exact QD G
   clear Y;generalize R:D.getD k 0=x at J I O;have HX:=Hi R;clear R
   by_cases U:x=z
   ·subst U
    go_wp2
    refine⟨⟨k+1,by omega,by go_num,λq hq=>?_⟩,by simp[intOf];omega⟩
    by_cases e:q=k
    ·rw[e];exact HX.out
    ·exact Z.out q (by omega)
   ·have aa: ¬((x:Int)=(z:Int)):=by omega
    have ab:((x:Int)==(z:Int))=false:=by simpa using aa
    have HV:=Hi U;clear U
    go_wp2
    go_ret;refine⟨da ?_,rfl⟩;unfold iw;rw[Qj (λe=>HV.out (by simpa using Sk.1 e x I.out))];rfl
  ·go_wp2
   go_ret;refine⟨da ?_,rfl⟩;unfold iw;rw[Qo];rw[Sk];intro x R;obtain⟨j,hj,rfl⟩:=RG.1 R;have:=Z.out j (by omega)
   rw[Qi,Ql hj] at this
   simpa using this
theorem Bu (ks:List Nat) (v:Nat) (b cap) (w) (hl:ks.length<=100)
 (I:∀j,j<ks.length->Cq w b j (Iq (ks.getD j 0))):
 Calls prog 217 #[Sq b ks.length cap,Iq v] w λe w'=>(∃r,e= .returned (Iq r)/\ -1<=r/\r<=1000/\(decide (0<=r)=ks.contains v))/\w'=w:=by
 have Y:=Hi I;clear I;go_enter func217,ntmps217
 go_wp2
 go_loop [8] (λi=> ∃k:Nat,k<=ks.length/\i= Iq k/\Hid (∀q,q<k->ks.getD q 0≠v)) (λi=>ks.length - (intOf i).toNat)
 case atStart=>exact⟨0,QA _,rfl,λq Z=>by omega⟩
 case round=>
  obtain⟨k,hk,rfl,J⟩:=hrel
  by_cases z:k<ks.length
  ·have E:=Y.out k z
   have D:Hid (ks.getD k 0∈ks):=by rw[Qi,Ql z];exact QD z
   generalize O:ks.getD k 0=x at E D;have HX:=Hi O;clear O
   by_cases G:v=x
   ·subst G
    go_wp2
    go_ret;refine⟨⟨k,rfl,by omega,by omega,?_⟩,rfl⟩
    simp[D.out]
   ·have R: ¬((v:Int)=(x:Int)):=by omega
    have aa:((v:Int)==(x:Int))=false:=by simpa using R
    have HV:=Hi G;clear G
    go_wp2
    refine⟨⟨k+1,by omega,by go_num,λq Z=>?_⟩,by simp[intOf];omega⟩
    by_cases e:q=k
    ·rw[e,HX.out];exact λe=>HV.out e.symm
    ·exact J.out q (by omega)
  ·go_wp2
   go_ret;refine⟨⟨-1,rfl,by omega,by omega,?_⟩,rfl⟩
   have U:v∉ks:=λe=>by
    obtain⟨j,hj,V⟩:=RG.1 e;exact J.out j (by omega) (by rw[Qi,Ql hj];exact V)
   simp[U]
theorem wB (ks:List Nat) (v:Nat) (b cap) (w) (E:ks.length<=100)
 (z:∀j,j<ks.length->Cq w b j (Iq (ks.getD j 0))):
 Calls prog 155 #[Sq b ks.length cap,Iq v] w λe w'=>e= .returned (.bool (ks.contains v))/\w'=w:=by
 have D:=Bu ks v b cap w E z;clear z;go_enter func155,ntmps155;go_wp2_with fail;apply D.mono;rintro e w' ⟨⟨r,rfl,I,J,h3⟩,rfl⟩;have G:=Hi h3;clear D h3;go_wp2;go_ret;exact⟨iG G.out,rfl⟩
end
section
open Go Go.RowKit Tryz
attribute [local go_sem ↓] Go.wp_at_zero Go.wp_at_succ
variable {bs : Nat}
theorem zL (k:Nat) (q:List Nat) (g) (w) (hl:q.length<=3) (J:0<q.length)
 (E:k=6\/k=7\/k=9\/k=10\/k=17\/k=18\/k=19\/k=8\/k=14) (R:k=8->True) (D:k=14->q.length=3)
 (A:∀j,j<q.length->Cq w g j (Iq (q.getD j 0))/\q.getD j 0<=100):
 Calls prog 156 #[Iq k,.slice (some ⟨g,0,none⟩) q.length q.length] w λe w'=>e= .returned (Iq (iW k q))/\Below w.heap.size w w':=by
 by_cases Z:k=8\/k=14
 rotate_left
 ·have z:=λx y G=>tH q g 0 q.length x y w (by omega) G (by simpa using A)
  clear A R D;rcases(by omega:k=6\/k=7\/k=9\/k=10\/k=17\/k=18\/k=19) with rfl|rfl|rfl|rfl|rfl|rfl|rfl
  all_goals
   go_enter func156,ntmps156;go_wp2_with fail;refine(z _ _ (by decide)).mono ?_
   rintro e w' ⟨rfl,rfl⟩;clear z;go_wp2_with fail;go_ret;exact⟨da rfl,Qq _ _⟩
 clear E;rcases Z with E|E
 ·subst E
  obtain⟨U,O⟩:=A 0 J;have z:=tH q g 0 q.length (q.getD 0 0) 2 w (by omega) O (by simpa using A)
  have I:Hid (iW 8 q=iw q (q.getD 0 0) 2):=rfl;clear A R D;generalize iW 8 q=r at*;generalize q.getD 0 0=u0 at*;go_enter func156,ntmps156;go_wp2_with fail;refine z.mono ?_;rintro e w' ⟨rfl,rfl⟩;clear z;go_wp2_with fail;go_ret;exact⟨da (by rw[I.out]),Qq _ _⟩
 ·subst E
  have h3:=D rfl;obtain⟨U,O⟩:=A 0 J;obtain⟨V,Y⟩:=A 1 (by omega)
  have z:=tH (q.drop 1) g 1 (q.length - 1) (q.getD 1 0) (q.getD 1 0) w.drew (by simp;omega) Y (λj hj=>by
   have:=A (1+j) (by simp at hj;omega)
   rw[show(q.drop 1).getD j 0=q.getD (1+j) 0 from by simp[Qi,Nat.add_comm]]
   exact this)
  rw[show(q.drop 1).length=q.length - 1 from by simp] at z
  have I:Hid (iW 14 q=if q.getD 0 0=2 then iw (q.drop 1) (q.getD 1 0) (q.getD 1 0) else 0):=rfl
  clear A R D;generalize iW 14 q=r at*;generalize q.getD 0 0=u0 at*;generalize q.getD 1 0=u1 at*;generalize q.drop 1=ur at*;rw[h3] at z;rw[h3]
  by_cases G:u0=2
  ·subst G
   go_enter func156,ntmps156;go_wp2_with fail
   go_region_held3 (λw'=>Cq w' g 1 (Iq u1)) (first|exact V|go_keep) ((refine z.mono ?_;rintro e w' ⟨rfl,rfl⟩))
   go_wp2_with fail;go_ret;exact⟨da (by rw[I.out];simp),(Qq _ _).drew⟩
  ·have aa:((u0:Int)==(2:Int))=false:=by
    have: ¬((u0:Int)=2):=by omega
    simpa using this
   have H2:Hid _:=G;clear G z;go_enter func156,ntmps156;go_wp2_with fail;go_ret;exact⟨da (by rw[I.out,Qj H2.out];rfl),Qq _ _⟩
end
section
open Go Go.RowKit Tryz
attribute [local go_sem ↓] Go.wp_at_zero Go.wp_at_succ
variable {x v ys base e size g n xs j w F gl cl R}
def qw:Nat->Nat->List (Tok×Tok×Nat×Int)->List (Tok×Tok×Nat×Int)
 |_,_,[]=>[]
 |l,r,y::ys=>if cy y.1=11 then(y.1,y.2.1,y.2.2.1,(l:Int))::qw (l+1) r ys else(y.1,y.2.1,y.2.2.1,((r+1:Nat):Int))::qw l (r+1) ys
def sh:Nat->Nat->List dw->List (Tok×Tok×Nat×Int)->Prop
 |_,_,[],[]=>True
 |l,r,x::xs,y::ys=>(x.name≠[]/\y.2.2.2=(l:Int)/\sh (l+1) r xs ys)\/(x.name=[]/\y.2.2.2=((r+1:Nat):Int)/\sh l (r+1) xs ys)
 |_,_,_,_=>False
theorem si:∀(l r:Nat) (ys:List (Tok×Tok×Nat×Int)),(qw l r ys).length=ys.length
 |_,_,[]=>rfl
 |l,r,y::ys=>by
  rw[qw];split
  ·simp[si (l+1) r ys]
  simp[si l (r+1) ys]
theorem wC {t u:Tok} (h:wu x t u):(x.name≠[]/\cy t=11)\/(x.name=[]/\cy t≠11):=by
 rcases h with h|h
 ·exact .inl ⟨h.1,h.2.1⟩
 exact .inr ⟨h.1,by rw[h.2.1];split<;>decide⟩
theorem zM {C:Nat->Nat->Prop}:∀{xs ys} l r,du C xs ys->sh l r xs (qw l r ys)/\du C xs (qw l r ys)
 |[],[],_,_,_=>⟨trivial,trivial⟩
 |x::xs,y::ys,l,r,h=>by
  obtain⟨⟨J,z⟩,h3⟩:=h;rw[qw];rcases wC z with⟨D,E⟩|⟨D,E⟩
  ·rw[Qo E];obtain⟨G,I⟩:=zM (l+1) r h3;exact⟨.inl ⟨D,rfl,G⟩,⟨J,z⟩,I⟩
  rw[Qj E];obtain⟨G,I⟩:=zM l (r+1) h3;exact⟨.inr ⟨D,rfl,G⟩,⟨J,z⟩,I⟩
theorem jR {w:World} {base:Nat} (h:w.ownsRow base 163 10 v ys.length (dB ys)):∃a cap,v= .slice a ys.length cap/\ ∀k,k<ys.length-> ∃g,a=some ⟨g,0,none⟩/\(∃cs,w.heap[g]?=some (.cells cs 163 (0,0)))/\ ∀j,j<10->w.cell? ⟨g,k*10+j,none⟩=(eK (ys.getD k (ee,ee,0,0)))[j]?:=by
 obtain⟨V,h⟩:=h;rcases h with⟨rfl,J⟩|⟨g,cap,D,rfl,Y,E,Z,h2,h3,O⟩
 ·exact⟨none,0,by rw[J],λk z=>by omega⟩
 refine⟨_,cap,rfl,λk z=>⟨g,rfl,⟨D,E⟩,λj hj=>?_⟩⟩
 rw[Qm w g (k*10+j) _ _ _ E];have R:D[k*10+j]?=(D.toList.take (ys.length*10))[k*10+j]?:=by
  rw[Rv (by omega)];simp
 rw[R,O];have:∀ys k,k<ys.length->(dB ys)[k*10+j]?=(eK (ys.getD k (ee,ee,0,0)))[j]?:=by
  intro ys;induction ys with
  |nil=>intro k z;simp at z
  |cons y ys ih=>
   intro k z;have G:dB (y::ys)=eK y++dB ys:=rfl;have U:(eK y).length=10:=rfl;cases k with
   |zero=>rw[G,QT (by omega)];simp
   |succ k=>
    rw[G,QQ (by omega),U,show(k+1)*10+j - 10=k*10+j from by omega,ih k (by simpa using z)]
    rfl
 exact this ys k z
theorem Bv {w:World} {cap} (h:w.ownsRow base e size (Sq g n cap) n xs) (U:j<n*size) (u:Value):(w.setCell ⟨g,j,none⟩ u).ownsRow base e size (Sq g n cap) n (xs.set j u):=by
 obtain⟨D,h⟩:=h;refine⟨by simpa using D,?_⟩
 rcases h with⟨h,_⟩|⟨V,E,z,h,G,I,h3,J,O,R⟩
 ·simp at h
 simp only[QK,QE,RL,SC,R8] at h;obtain⟨rfl,rfl⟩:=h;refine .inr ⟨g,cap,z.setIfInBounds j u,rfl,G,QB w g j _ _ u I,h3,J,by simpa using O,?_⟩
 rw[<-R];simp[TO]
theorem GS {w w':World} {g:Nat} (h:w.grownBy w' (some g)) (j) (u):w.grownBy (w'.setCell ⟨g,j,none⟩ u) (some g):=
 ⟨h.os,h.tape,h.output,by simpa using h.size,λk D z=>(Qr _ _ _ _ (by simpa using z)).trans (h.block k D z)⟩
theorem DB (d) (y:Tok×Tok×Nat×Int) (r) (n):(dB (d++y::r)).set (d.length*10+8) (Iq n)=dB (d++(y.1,y.2.1,y.2.2.1,n)::r):=by
 have e:∀a b,dB (a++b)=dB a++dB b:=λa b=>by simp[dB]
 rw[e,e,<-Dz d,Sx _ _ (by omega)]
 congr 1;rw[show(dB d).length+8 - (dB d).length=8 by omega]
 simp[dB,eK]
theorem GU {base:Nat} (G:w.ownsRow base 163 10 v ys.length (dB ys)) (hy:ys.length<=1001):
 Calls prog 105 #[v] w λe w'=>e= .returned (.tuple #[])/\w'.ownsRow base 163 10 v ys.length (dB (qw 0 0 ys))/\w.grownBy w' v.ownBlock:=by
 have ad:∃a cap,v= .slice a ys.length cap:=by
  rcases G.2 with⟨rfl,h0⟩|⟨g,cap,ae,rfl,_⟩
  ·exact⟨none,0,by rw[h0]⟩
  exact⟨_,cap,rfl⟩
 obtain⟨a,cap,rfl⟩:=ad;have ai:=hy;generalize hn:ys.length=n at*;have HN:=Hi hn;have HW:Hid (w.ownsRow base 163 10 (.slice a n cap) n (dB ys)):=G;have af:Hid (qw 0 0 ys=qw 0 0 ys):=rfl;generalize ab:qw 0 0 ys=nf at*;have HF:=Hi ab;go_enter func105,ntmps105;go_wp2;go_loopw [2,3,7] (λlv rv kv wr=> ∃k l r d rest,k<=n/\l<=k/\r<=k/\kv= Iq k/\lv= Iq l/\rv= Iq r/\Hid (d.length=k/\k+rest.length=n/\nf=d++qw l r rest/\wr.ownsRow base 163 10 (.slice a n cap) n (dB (d++rest))/\w.grownBy wr (Value.slice a n cap).ownBlock)) (λ_ _ kv _=>n - (intOf kv).toNat)
 case atStart=>exact⟨0,0,0,[],ys,QA _,QA _,QA _,rfl,rfl,rfl,rfl,by rw[QO];exact HN.out,HF.out.symm,HW.out,World.grownBy.refl _ _⟩
 case round=>
  obtain⟨k,l,r,d,rest,hk,hl,hr,rfl,rfl,rfl,Z⟩:=hrel;by_cases aj:k<n
  ·obtain⟨O,I,h3,R,U⟩:=Z.out;cases rest with
   |nil=>simp at I;omega
   |cons y q=>
    have J:=R;rcases R.2 with⟨_,h0⟩|⟨g,ac,ae,e,hb,hg,_⟩
    ·omega
    simp only[QK,R8] at e;obtain⟨rfl,rfl⟩:=e;have z:∀j,j<10->wr.cell? ⟨g,k*10+j,none⟩=(eK y)[j]?:=λj hj=>by
     have aa:wr.ownsRow base 163 10 (Sq g (d++y::q).length cap) (d++y::q).length (dB (d++y::q)):=by
      have e:(d++y::q).length=n:=by simp at I⊢;omega
      rw[e];exact J
     obtain⟨a',ac,e,V⟩:=jR aa;obtain⟨g',e',_,V⟩:=V k (by simp;omega)
     simp only[QK,R8] at e;rw[<-e.1] at e';simp at e';rw[<-e'] at V;have e3:(d++y::q).getD k (ee,ee,0,0)=y:=by
      rw[Qi,QQ (by omega),O];simp
     rw[e3] at V;exact V j hj
    have c0:Cq wr g (k*10) (Iq (cy y.1)):=z 0 (by omega)
    have c8:=z 8 (by omega)
    have ak:∀j,wr.frozen? ⟨g,j,none⟩=false:=λj=>by simp[World.frozen?,hg]
    have Y:=λ(m:Int)=>Bv J (j:=k*10+8) (by omega) (Iq m)
    have D:=λm=>DB d y q m
    rw[O] at D;have HS:Hid (∀m,(wr.setCell ⟨g,k*10+8,none⟩ (Iq m)).ownsRow base 163 10 (Sq g n cap) n (dB (d++(y.1,y.2.1,y.2.2.1,m)::q))/\w.grownBy (wr.setCell ⟨g,k*10+8,none⟩ (Iq m)) (Value.slice (some ⟨g,0,none⟩) n cap).ownBlock):=λm=>⟨by rw[<-D m];exact Y m,GS U _ _⟩
    have H3:=Hi h3;have H1:=Hi O;have H2:=Hi I;by_cases E:cy y.1=11
    ·rw[E] at c0;go_wp2;go_roundw
     case rel=>
      refine⟨k+1,l+1,r,d++[(y.1,y.2.1,y.2.2.1,(l:Int))],q,by omega,by omega,by omega,by simp,by simp,rfl,by simp[H1.out],by have:=H2.out;simp at this;omega,?_,?_,(HS.out l).2⟩
      ·rw[H3.out,qw,Qo E];simp
      have:=(HS.out l).1;simpa using this
     case measure=>simp[intOf];omega
    have ag:((cy y.1)==11)=false:=by
     have: ¬((cy y.1)=11):=by omega
     simpa using this
    have HK:=Hi E;generalize cy y.1=kd at c0 ag;go_wp2;go_roundw
    case rel=>
     refine⟨k+1,l,r+1,d++[(y.1,y.2.1,y.2.2.1,((r+1:Nat):Int))],q,by omega,by omega,by omega,by simp,rfl,by simp,by simp[H1.out],by have:=H2.out;simp at this;omega,?_,?_,?_⟩
     ·rw[H3.out,qw,Qj HK.out];simp
     ·have:=(HS.out (r+1)).1;simpa using this
     have:=(HS.out (r+1)).2;simpa using this
    case measure=>simp[intOf];omega
  have ah:k=n:=by omega
  subst ah;obtain⟨O,I,h3,R,U⟩:=Z.out;have hr:rest=[]:=by cases rest with
   |nil=>rfl
   |cons y q=>simp at I
  subst hr;have HE:Hid (wr.ownsRow base 163 10 (.slice a k cap) k (dB nf)/\w.grownBy wr (Value.slice a k cap).ownBlock):=⟨by rw[h3];exact R,U⟩
  go_wp2;go_end0;exact⟨rfl,HE.out⟩
def sj (ts:List Tok) (R:nY) (w:World) (e:Ending) (w':World):Prop:=
 Below w.heap.size w w'/\((R.ok=false/\e= .returned (.tuple #[.slice none 0 0,Iq (cq ts R.i).pl,.bool false]))\/(R.ok=true/\ ∃v ys,e= .returned (.tuple #[v,Iq 0,.bool true])/\ys.length<=1001/\w'.ownsRow w.heap.size 163 10 v ys.length (dB ys)/\du (de R.L w.heap.size w') R.xs ys/\sh 0 0 R.xs ys))
def Qc (F rb gl cl:Nat) (ts:List Tok) (R:nY) (D:Nat) (v:Value) (wr:World):Prop:=
 (∃(i:Nat) (L:List Pt) (xs:List dw) (g:Nat) (ys:List (Tok×Tok×Nat×Int)),RR rb gl cl ts ⟨i,false,0⟩ wr/\dH F ts g i L xs=some R/\ys.length<=i/\wr.ownsRow D 163 10 v ys.length (dB ys)/\du (de L rb wr) xs ys)\/
 (R.ok=false/\RR rb gl cl ts (fO ts ⟨R.i,false,0⟩) wr)
theorem GV {ts:List Tok} {w:World} (hW:∀t∈ts,hY t) (hN:∀t∈ts,t.k=111->t.text≠[]) (hn:0<ts.length) (aq:ts.length<=1001) (ao:cy (cq ts (ts.length - 1))=0)
 (wl:∃cs,w.heap[gl]?=some (.cells cs 160 (0,0)))
 (wc:∀i,i<ts.length->Cq w gl (i*4) (Iq (cy (cq ts i)))/\Cq w gl (i*4+1) (Iq (cq ts i).pl)/\Cq w gl (i*4+2) (Iq (cV (cq ts i)))/\Cq w gl (i*4+3) (S (cE (cq ts i))))
 (hR:dH F ts g 0 [] []=some R):
 Calls prog 56 #[Sq gl ts.length cl] w (sj ts R w):=by
 obtain⟨i0,hi,ar,au,av⟩:=Ry ox;have aj:=be wl.choose_spec;have Y:Below w.heap.size w (w.alloc (mg gl ts.length cl ⟨0,false,0⟩)):=(Qq _ _).alloc (Qn _) _;have h0:RR w.heap.size gl cl ts ⟨0,false,0⟩ (w.alloc (mg gl ts.length cl ⟨0,false,0⟩)):=by
  refine⟨Qp w _,?_,λi hi=>?_,hn,aq,ao⟩
  ·rw[Y.block _ aj];exact wl
  have e:∀j,(w.alloc (mg gl ts.length cl ⟨0,false,0⟩)).cell? ⟨gl,j,none⟩=w.cell? ⟨gl,j,none⟩:=λj=>Qz (w:=w) (Y.block _ aj)
  rw[e,e,e,e];exact wc i hi
 have aa:Qc F w.heap.size gl cl ts R w.heap.size (.slice none 0 0) (w.alloc (mg gl ts.length cl ⟨0,false,0⟩)):=
  .inl ⟨0,[],[],g,[],h0,hR,by simp,QX _ _ _ _,trivial⟩
 have aw:=Hi (Pb (rb:=w.heap.size) (gl:=gl) (cl:=cl) hW F).1;have HW:=Hi hW;have HN:=Hi hN;unfold mg at Y aa;go_enter func56,ntmps56;go_wp2;generalize w.alloc (.cells #[Sq gl ts.length cl,Iq (0:Nat),.bool false,Iq (0:Nat)] 213 (0,0))=wz at Y aa;generalize Z:w.heap.size=rb at*;go_loopw [6] (λv wr=>Qc F rb gl cl ts R rb v wr/\Below rb w wr) (λ_ wr=>ts.length - Mc rb wr)
 case atStart=>exact⟨aa,Y⟩
 case round=>
  obtain⟨ax,z⟩:=hrel;rcases ax with⟨i,L,xs,g',ys,E,hp,aG,O,ab⟩|⟨ay,E⟩
  ·have ht:=HW.out _ (jq E.lt);simp only[] at ht;have J:=iV E;simp only[] at J;by_cases U:cy (cq ts i)=0
   ·have az:=nt hp ((Bt ht).1 U);subst az;rw[U] at J;obtain⟨⟨r0,r1,r2,r3⟩,rf⟩:=E.drew.cells;have D:wr.drew.ownsRow rb 163 10 u6 ys.length (dB ys):=O;have ad:ys.length<=1001:=by have:=E.lt;have:=E.nb;simp only[] at*;omega
    have WC:=GU D ad;have HA:Hid (∀w',w'.ownsRow rb 163 10 u6 ys.length (dB (qw 0 0 ys))->wr.drew.grownBy w' u6.ownBlock->sj ts ⟨true,i,L,xs⟩ w (.returned (.tuple #[u6,Iq 0,.bool true])) w'):=λw' ho V=>by
     have aA:∀q,u6.ownBlock=some q->rb<=q:=λq hq=>by
      rcases D.2 with⟨e,_⟩|⟨g,c,aH,e,hb,_⟩
      ·rw[e] at hq;simp[Value.ownBlock] at hq
      rw[e] at hq;simp[Value.ownBlock] at hq;omega
     have hB:Bl w w':=⟨V.os.trans z.drew.os,V.tape.trans z.drew.tape,V.output.trans z.drew.output,QV z.drew.size V.size,λq hq=>by
      rw[Z] at hq;rw[V.block q (by have:=z.drew.size;omega) (λe=>by have:=aA q e.symm;omega)]
      exact z.drew.block q hq⟩
     obtain⟨n1,n2⟩:=zM 0 0 ab;refine⟨hB,.inr ⟨rfl,u6,qw 0 0 ys,rfl,by rw[si];exact ad,?_,?_,n1⟩⟩
     ·rw[Z,si];exact ho
     rw[Z];exact n2.mono λi b h=>(h.keep λk _ _ _ _=>rfl:de L rb wr.drew i b).grown D V
    go_wp2_with fail;apply J.mono;rintro e w' ⟨rfl,rfl⟩;go_wp2_with fail;apply WC.mono;rintro e w' ⟨rfl,ho,V⟩;have aB:Hid (sj ts ⟨true,i,L,xs⟩ w (.returned (.tuple #[u6,Iq 0,.bool true])) w'):=HA.out w' ho V;go_wp2;refine Qs (v:= .tuple #[u6,Iq 0,.bool true]) (by simp[results,results56,go_sem]) rfl ?_
    exact aB.out
   obtain⟨r,g2,ae,ac⟩:=u9 hp λe=>U ((Bt ht).2 e)
   have ah:=E.more (by simpa using U)
   have aI:((cy (cq ts i):Int)==(0:Int))=false:=by
    have: ¬((cy (cq ts i):Int)=0):=by omega
    simpa using this
   have ak:=GR aw.out HW.out HN.out E.drew rfl ae;have D:=O;have aC:=E.lt;simp only[] at aC ah;have HR:=Hi E;have am:=Hi ac;have HT:=Hi ab;have HI:=Hi ae;generalize cy (cq ts i)=kd at*;go_wp2_with fail;apply J.mono;rintro e w' ⟨rfl,rfl⟩;go_wp2_with fail;apply ak.mono;rintro e w1 ⟨t,u,b,rfl,F1,hL⟩;have I:=DA HR.out.drew D F1;have af:Below rb w w1:=⟨F1.os.trans z.drew.os,F1.tape.trans z.drew.tape,F1.output.trans z.drew.output,QV z.drew.size F1.size,λk U=>(F1.block k (by have:=z.drew.size;omega) (by omega)).trans (z.drew.block k U)⟩
   have aK:=af.size;have HL:=Hi hL;have aD:=Hi F1;unfold LN;go_wp2_with (
    at_builtin;go_must (refine wpList_append_lies _ (by rfl) _ _ 84 (by rfl) rb 163 i0 (.agg #[Iq 0,Iq 0,Iq 0,.string ⟨#[]⟩,Iq 0,Iq 0,Iq 0,.string ⟨#[]⟩,Iq 0,.pointer none]) 10 96 underlying84 hi ar au av (by rfl) (by decide) _ _ _ (by rfl) (I.alloc _) ⟨w1.heap.size,0,none⟩ 1 1 (eK (t,u,b,0)) (by rfl) (by rfl) (World.news_of_block (Qp w1 _)) (λx hx=>by simp[eK] at hx;rcases hx with rfl|rfl|rfl|rfl|rfl|rfl|rfl|rfl|rfl|rfl<;>rfl) (by decide) (by unfold maxLen;omega) (by omega) (by simp;omega) _ rfl ?_)
    intro g3 cap w3 ai G aL aF)
   have ag:Below rb w w3:=by subst Z;exact gP af I G
   rcases HL.out with⟨ok,h1,hc,aE⟩|⟨ok,h1⟩
   ·have ha:=h1.apart I;have h3:=(h1.alloc _).grown G ha.1 ha.2;obtain⟨aM,ap⟩:=Ko HI.out ok;refine⟨⟨.inl ⟨r.i,r.L,xs++[r.it],g2,ys++[(t,u,b,0)],h3,?_,by simp;omega,?_,?_⟩,ag⟩,?_⟩
    ·rcases am.out with⟨_,hp⟩|⟨no,_⟩
     ·exact hp
     rw[ok] at no;simp at no
    ·rw[mP];simpa using ai
    ·refine du.snoc (((hc.grow ((Qq _ _).alloc (Qn _) _)).grown (I.alloc _) G)) aE (HT.out.mono λi b h=>?_)
     exact(pW ((h.pf HR.out (PF.refl rb wr).drew).pf HR.out.drew aD.out) ap).grow ((Qq _ _).alloc (Qn _) _)|>.grown (I.alloc _) G
    rw[mM h3,mM HR.out];have:=h3.lt;simp only[] at*;omega
   have ha:=h1.apart I;have h3:=(h1.alloc _).grown G ha.1 ha.2;refine⟨⟨.inr ?_,ag⟩,?_⟩
   ·rcases am.out with⟨an,_⟩|⟨_,rfl⟩
    ·rw[ok] at an;simp at an
    exact⟨rfl,h3⟩
   rw[mM h3,mM HR.out];simp only[fO];omega
  have J:=iV E;have U:cy (cq ts (fO ts ⟨R.i,false,0⟩).i)=0:=by rw[show(fO ts ⟨R.i,false,0⟩).i=ts.length - 1 from rfl];exact E.fin
  rw[U] at J;obtain⟨⟨r0,r1,r2,r3⟩,rf⟩:=E.drew.cells;have HA:Hid (sj ts R w (.returned (.tuple #[.slice none 0 0,Iq (cq ts R.i).pl,.bool false])) wr.drew.drew):=
   ⟨by rw[Z];exact z.drew.drew,.inl ⟨ay,rfl⟩⟩
  simp only[fO] at r0 r1 r2 r3;rw[Qj (by simp)] at r3
  generalize (cq ts R.i).pl=pp at*;go_wp2_with fail;apply J.mono;rintro e w' ⟨rfl,rfl⟩;go_wp2_with fail;go_region_held (λw'=>w'.cell? ⟨rb,3,none⟩=some (Iq pp)) (go_keep) (fail)
  go_wp2;refine Qs (v:= .tuple #[.slice none 0 0,Iq pp,.bool false]) (by simp[results,results56,go_sem]) rfl ?_
  exact HA.out
end
section
open Go Go.RowKit Tryz
attribute [local go_sem ↓] Go.wp_at_zero Go.wp_at_succ
variable {bs : Nat}
variable {L N w i b w' t u n g}
structure dh (bs) (L:List Pt) (N:Tok->Int->Prop) (w) (i b):Prop where
 lay::
 out:∀C:Nat->Nat->Prop,(∀(i b:Nat) (u:Value) (n:Int) (bl:Nat->Nat),i<L.length->bs<=b->N (L.getD i cz).tok n->w.heap[b]?=some (gR (L.getD i cz).tok u n)->jo w u (L.getD i cz).subs.length bl->(∀j,j<(L.getD i cz).subs.length->C ((L.getD i cz).subs.getD j 0) (bl j))->C i b)->C i b
theorem dh.mk {L N w} (i b) (u) (n) (bl) (hi:i<L.length) (hlo:bs<=b) (hn:N (L.getD i cz).tok n) (hb:w.heap[b]?=some (gR (L.getD i cz).tok u n))
 (hu:jo w u (L.getD i cz).subs.length bl) (hs:∀j,j<(L.getD i cz).subs.length->dh bs L N w ((L.getD i cz).subs.getD j 0) (bl j)):dh bs L N w i b:=
 ⟨λC hC=>hC i b u n bl hi hlo hn hb hu λj hj=>(hs j hj).out C hC⟩
theorem dh.ind (M:Nat->Nat->Prop)
 (hM:∀i b u n bl,i<L.length->bs<=b->N (L.getD i cz).tok n->w.heap[b]?=some (gR (L.getD i cz).tok u n)->jo w u (L.getD i cz).subs.length bl->(∀j,j<(L.getD i cz).subs.length->dh bs L N w ((L.getD i cz).subs.getD j 0) (bl j))->(∀j,j<(L.getD i cz).subs.length->M ((L.getD i cz).subs.getD j 0) (bl j))->M i b)
 (h:dh bs L N w i b):M i b:=
 (h.out (λi b=>dh bs L N w i b/\M i b) λi b u n bl hi hlo hn hb hu hs=>⟨.mk i b u n bl hi hlo hn hb hu λj hj=>(hs j hj).1,hM i b u n bl hi hlo hn hb hu (λj hj=>(hs j hj).1) λj hj=>(hs j hj).2⟩).2
theorem dh.inv (h:dh bs L N w i b):∃(u:Value) (n:Int) (bl:Nat->Nat),i<L.length/\bs<=b/\N (L.getD i cz).tok n/\w.heap[b]?=some (gR (L.getD i cz).tok u n)/\jo w u (L.getD i cz).subs.length bl/\ ∀j,j<(L.getD i cz).subs.length->dh bs L N w ((L.getD i cz).subs.getD j 0) (bl j):=
 h.ind (λi b=> ∃u n bl,i<L.length/\bs<=b/\N (L.getD i cz).tok n/\w.heap[b]?=some (gR (L.getD i cz).tok u n)/\jo w u (L.getD i cz).subs.length bl/\ ∀j,j<(L.getD i cz).subs.length->dh bs L N w ((L.getD i cz).subs.getD j 0) (bl j)) λ_ _ u n bl hi hlo hn hb hu hs _=>⟨u,n,bl,hi,hlo,hn,hb,hu,hs⟩
theorem de.toS {i b:Nat} (h:de L bs w i b) (hN:∀k,k<L.length->N (L.getD k cz).tok 0):dh bs L N w i b:=
 h.ind (λi b=>dh bs L N w i b) λi b u bl hi hlo hb hu _ _ ih=> .mk i b u 0 bl hi hlo (hN i hi) hb hu ih
theorem dh.keep (h:dh bs L N w i b)
 (hk:∀(k:Nat) cs ty,w.heap[k]?=some (Obj.cells cs ty (0,0))->ty=229\/ty=161->w'.heap[k]?=w.heap[k]?):dh bs L N w' i b:=by
 refine h.ind (λi b=>dh bs L N w' i b) ?_
 intro i b u n bl hi hlo hn hb hu hs ih;refine .mk i b u n bl hi hlo hn ?_ ?_ ih
 ·rw[hk b _ _ hb (.inl rfl)];exact hb
 rcases hu with hu|⟨h0,g,h1,h2⟩
 ·exact .inl hu
 exact .inr ⟨h0,g,h1,by rw[hk g _ _ h2 (.inr rfl)];exact h2⟩
theorem dh.grow (h:dh bs L N w i b) (hb:Bl w w'):dh bs L N w' i b:=
 h.keep λk _ _ hk _=>hb.block k (be hk)
theorem gx {b:Nat} (h:w.heap[b]?=some (gR t u n)):(Cq w b 0 (Iq (cy t))/\Cq w b 1 (Iq t.pl)/\Cq w b 2 (Iq (cV t))/\Cq w b 3 (S (cE t))/\Cq w b 4 u/\Cq w b 5 (Iq n))/\ ∀j,w.frozen? ⟨b,j,none⟩=false:=by
 have z:=λj=>Qm w b j _ _ _ h
 exact⟨⟨z 0,z 1,z 2,z 3,z 4,z 5⟩,λj=>by simp[World.frozen?,h,gR]⟩
theorem gy {w:World} {z:Nat->Nat} (h:w.heap[g]?=some (.cells ((List.range n).map λj=>Value.pointer (some ⟨z j,0,none⟩)).toArray 161 (0,0))) (j:Nat) (D:j<n):w.cell? ⟨g,j,none⟩=some (.pointer (some ⟨z j,0,none⟩)):=by
 rw[Qm w g j _ _ _ h];simp[D]
theorem jo.slice {w u n z} (h:jo w u n z):∃a,u= .slice a n n/\ ∀j,j<n-> ∃g,a=some ⟨g,0,none⟩/\w.heap[g]?=some (.cells ((List.range n).map λj=>Value.pointer (some ⟨z j,0,none⟩)).toArray 161 (0,0)):=by
 rcases h with⟨rfl,rfl⟩|⟨I,g,rfl,E⟩
 ·exact⟨none,rfl,λj J=>by omega⟩
 exact⟨_,rfl,λj _=>⟨g,rfl,E⟩⟩
theorem DC (F:Nat->Nat) (l:List Nat) (k:Nat) (z:k<l.length):lF F (l.take (k+1))=lF F (l.take k)+F (l.getD k 0):=by
 induction l generalizing k with
 |nil=>simp at z
 |cons x l ih=>
  cases k with
  |zero=>simp[lF]
  |succ k=>simp only[RA,lF,QI];rw[ih k (by simpa using z)];omega
theorem Bw (F:Nat->Nat) (l) (k:Nat):lF F (l.take k)<=lF F l:=by
 induction l generalizing k with
 |nil=>simp[lF]
 |cons x l ih=>
  cases k with
  |zero=>simp[lF]
  |succ k=>simp only[RA,lF];have:=ih k;omega
theorem GW {N:Tok->Int->Prop} (hL:L.length<=5000) (f:Nat):∀{lo i b w},dN f L lo i->dh bs L N w i b->
 Calls prog 106 #[.pointer (some ⟨b,0,none⟩)] w λe w'=>e= .returned (.int .i64 (cnt f L i))/\Bl w w':=by
 induction f with
 |zero=>intro lo i b w h;exact h.elim
 |succ f ih=>
  intro lo i b w hT hC;have hcnt:=hT.cnt;have hle:=hT.le;have hlt:=hT.lt;obtain⟨u,n,bl,hi,hlo,hn,hb,hu,hs⟩:=hC.inv;obtain⟨⟨c0,c1,c2,c3,c4,c5⟩,cf⟩:=gx hb;rw[cnt] at hcnt;obtain⟨a,rfl,ha⟩:=hu.slice;have hn3:(L.getD i cz).subs.length<=3:=by
   rcases hT.2.1 with⟨_,h1⟩|⟨_,h1⟩|⟨_,h1⟩|⟨m,_,_,h1⟩
   ·rw[h1];simp
   all_goals omega
  have hsub:=ku _ hT.2.2;have HS:=Hi hs;have HT:=Hi hsub;have HA:=Hi ha;clear hs hb hu hT hsub ha hn;generalize hjs:(L.getD i cz).subs=js at*;have HJS:=Hi hjs;clear hjs;go_enter func106,ntmps106;go_wp2;go_loopw [3,11] (λnv kv wr=> ∃k,k<=js.length/\kv= .int .i64 k/\nv= .int .i64 (1+lF (cnt f L) (js.take k))/\Bl w wr) (λ_ kv _=>js.length - (intOf kv).toNat)
  case atStart=>exact⟨0,QA _,rfl,rfl,Qq _ _⟩
  case round=>
   obtain⟨k,hk,rfl,rfl,hbw⟩:=hrel;have hsl:=Bw (cnt f L) js k;by_cases hlt:k<js.length
   ·obtain⟨g,rfl,hg⟩:=HA.out k hlt;have hg':=(hbw.block g (be hg)).trans hg;have hcell:=gy hg' k hlt;have htk:=DC (cnt f L) js k hlt;have hsl2:=Bw (cnt f L) js (k+1);obtain⟨lo',hT'⟩:=HT.out (js.getD k 0) (by rw[Qi,Ql hlt];exact QD hlt)
    have HI:=ih hT' ((HS.out k hlt).grow hbw);clear hg hg' hT';rw[htk] at hsl2;have HTK:=Hi htk;clear htk;generalize lF (cnt f L) (js.take k)=A at*;generalize cnt f L (js.getD k 0)=X at*;go_wp2_with fail;apply HI.mono;rintro e w1 ⟨rfl,hb1⟩;clear HI;go_wp2;go_roundw
    case rel=>
     refine⟨k+1,by omega,by simp,?_,hbw.trans (hb1.mono hbw.size)⟩
     rw[HTK.out];simp;omega
    case measure=>simp[intOf];omega
   have hke:k=js.length:=by omega
   subst hke;rw[RP] at*;go_wp2;go_ret;exact⟨by rw[cnt,HJS.out];rfl,hbw⟩
end
section
open Go Go.RowKit Tryz
attribute [local go_sem ↓] Go.wp_at_zero Go.wp_at_succ
variable {bs : Nat}
variable {L}
theorem DD {N:Tok->Int->Prop} (f:Nat) (hf:f<=5001):∀{V i b w},dN f L V i->dh bs L N w i b->
 Calls prog 108 #[Pq b] w λe w'=>e= .returned (Iq (dep f L i))/\Below w.heap.size w w':=by
 induction f with
 |zero=>intro V i b w h;exact h.elim
 |succ f ih=>
  intro V i b w E hC;have ih:= @ih (by omega)
  obtain⟨u,n,bl,hi,ah,hn,hb,hu,hs⟩:=hC.inv;obtain⟨⟨c0,c1,c2,c3,c4,c5⟩,cf⟩:=gx hb;obtain⟨a,rfl,ha⟩:=hu.slice;have ai:(L.getD i cz).subs.length<=3:=by
   rcases E.2.1 with⟨_,J⟩|⟨_,J⟩|⟨_,J⟩|⟨m,_,_,J⟩
   ·rw[J];simp
   all_goals omega
  have G:=ku _ E.2.2;have HS:=Hi hs;have HT:=Hi G;have HA:=Hi ha;generalize O:(L.getD i cz).subs=js at*;have aa:=Hi O;go_enter func108,ntmps108;go_wp2
  go_loopw [3,11] (λnv Y wr=> ∃k,k<=js.length/\Y= Iq k/\nv= Iq (gT (dep f L) (js.take k):Nat)/\Below w.heap.size w wr) (λ_ Y _=>js.length - (intOf Y).toNat)
  case atStart=>exact⟨0,QA _,rfl,by simp[gT],Qq _ _⟩
  case round=>
   obtain⟨k,hk,rfl,rfl,D⟩:=hrel;have aj:=nX (dep f L) (f+1) (lR f L) (js.take k)
   by_cases z:k<js.length
   ·obtain⟨g,rfl,Z⟩:=HA.out k z
    have R:=(D.block g (be Z)).trans Z;have ae:=gy R k z;have I:=rD (dep f L) js k z;obtain⟨ak,U⟩:=HT.out (js.getD k 0) (by rw[Qi,Ql z];exact QD z)
    have HI:=ih U ((HS.out k z).grow D);have am:=lR f L (js.getD k 0);rw[show js[k]=js.getD k 0 from by rw[Qi,Ql z];rfl] at I
    have ab:=Hi I;generalize gT (dep f L) (js.take k)=A at*;generalize dep f L (js.getD k 0)=X at*;go_wp2_with fail;apply HI.mono;rintro e w1 ⟨rfl,ac⟩;go_wp2
    go_roundw
    case rel=>
     refine⟨k+1,by omega,by simp,?_,D.trans (ac.mono D.size)⟩
     rw[ab.out];simp;omega
    case measure=>simp[intOf];omega
   ·have ad:k=js.length:=by omega
    subst ad;rw[RP] at*;go_wp2;go_ret;refine⟨?_,D⟩;rw[dep,aa.out];exact RK (λn:Int=>Ending.returned (Value.int .i64 n)) (show(1:Int)+(gT (dep f L) js:Nat)=((gT (dep f L) js+1:Nat):Int) by omega)
end
section
open Go Go.RowKit Tryz
attribute [local go_sem ↓] Go.wp_at_zero Go.wp_at_succ
variable {bs : Nat}
variable {L r lets i N xs ys base v w}
def GX:Option Nat->Value
 |some p=> .tuple #[Iq p,.bool false]
 |none=> .tuple #[Iq 0,.bool true]
theorem DE {x:dw} {lt} (z:lt=lets+(if x.name==[] then 0 else 1)):fz L (x::r) lets i=if 10<lt\/20<i+1 - lt\/200<x.parts\/20<dep (x.top+1) L x.top then some x.pl else fz L r lt (i+1):=by
 rw[fz,<-z]
theorem ep {α:Type} {l:List α} {k:Nat} (h:k<l.length) (d:α):l.drop k=l.getD k d::l.drop (k+1):=by
 rw[QF h,Qi,Ql h];rfl
theorem DF (t u) (n:Int) (b) (w):
 Calls prog 107 #[OL t u n b] w λe w'=>e= .returned (.bool (if cy t=11 then decide (10<=n) else decide (20<n)))/\Bl w w':=by
 unfold OL;have D:Hid (Bl w (w.alloc (.cells #[Iq (cy t),Iq t.pl,Iq (cV t),S (cE t),Iq (cy u),Iq u.pl,Iq (cV u),S (cE u),Iq n,Pq b] 163 (0,0)))):=(Qq w.heap.size w).alloc (Qn _) _;by_cases z:cy t=11
 ·have E:Hid ((if cy t=11 then decide (10<=n) else decide (20<n))=decide (10<=n)):=by show _=_;rw[Qo z]
  generalize (if cy t=11 then decide (10<=n) else decide (20<n))=r at*;rw[z] at D⊢;generalize t.pl=G at*;generalize cV t=I at*;generalize cE t=J at*;generalize cy u=O at*;generalize u.pl=R at*;generalize cV u=U at*;generalize cE u=V at*;go_enter func107,ntmps107;go_wp2;go_ret;exact⟨by rw[E.out];rfl,D.out⟩
 have E:Hid ((if cy t=11 then decide (10<=n) else decide (20<n))=decide (20<n)):=by show _=_;rw[Qj z]
 generalize (if cy t=11 then decide (10<=n) else decide (20<n))=r at*;have Y:((cy t)==11)=false:=by
  have: ¬((cy t)=11):=by omega
  simpa using this
 generalize cy t=Z at*;generalize t.pl=G at*;generalize cV t=I at*;generalize cE t=J at*;generalize cy u=O at*;generalize u.pl=R at*;generalize cV u=U at*;generalize cE u=V at*;go_enter func107,ntmps107;go_wp2;go_ret;exact⟨by rw[E.out];rfl,D.out⟩
theorem Mp (hL:L.length<=5000) (ak:w.ownsRow base 163 10 v ys.length (dB ys)) (hy:ys.length<=1001)
 (am:du (dh bs L N w) xs ys) (aw:fs L xs 0) (ax:sh 0 0 xs ys):
 Calls prog 57 #[v] w λe w'=>e= .returned (GX (fz L xs 0 0))/\Bl w w':=by
 obtain⟨a,cap,rfl,ag⟩:=jR ak;have ab:=Hi am.len;have HC:=Hi ag;have HT:=Hi am;have aH:=Hi aw;have aI:=Hi ax;clear ak ag am aw ax;go_enter func57,ntmps57;go_wp2;go_loopw [4,9] (λpv kv wr=> ∃k lets fr,k<=ys.length/\kv= Iq k/\pv= Iq (fr:Nat)/\lets<=k/\fr<=L.length/\Hid (fz L xs 0 0=fz L (xs.drop k) lets k)/\Hid (fs L (xs.drop k) fr)/\Hid (du (dh bs L N w) (xs.drop k) (ys.drop k))/\Hid (lets<=10/\k - lets<=20)/\Hid (sh lets (k - lets) (xs.drop k) (ys.drop k))/\Below w.heap.size w wr) (λ_ kv _=>ys.length - (intOf kv).toNat)
 case atStart=>exact⟨0,0,0,QA _,rfl,rfl,Qn _,QA _,rfl,aH.out,HT.out,⟨by omega,by omega⟩,aI.out,Qq _ _⟩
 case round=>
  obtain⟨k,lets,fr,hk,rfl,rfl,aX,aY,HM,aD,aE,ay,an,G⟩:=hrel;by_cases ah:k<ys.length
  ·have Z:=aD.out;have D:=aE.out;have J:=an.out;rw[ep (show k<xs.length by rw[<-ab.out];exact ah) dr] at Z D J
   rw[ep (show k<xs.length by rw[<-ab.out];exact ah) dr] at HM
   rw[ep ah (ee,ee,0,0)] at D J;obtain⟨g,rfl,aJ,aa⟩:=HC.out k ah;have aK:=be aJ.choose_spec;generalize xs.getD k dr=x at*;generalize ys.getD k (ee,ee,0,0)=y at*;obtain⟨⟨ai,hO⟩,D⟩:=D;obtain⟨az,aZ,Z⟩:=Z;obtain⟨E,u0,b,wh⟩:=y;simp only[] at ai hO;unfold sh at J;simp only[] at J;have z:∀j,j<10->wr.cell? ⟨g,k*10+j,none⟩=(eK (E,u0,b,wh))[j]?:=λj hj=>by
    rw[G.cell (p:=⟨g,k*10+j,none⟩) aK];exact aa j hj
   have c0:=z 0 (by omega)
   have c1:=z 1 (by omega)
   have c2:=z 2 (by omega)
   have c3:=z 3 (by omega)
   have c4:=z 4 (by omega)
   have c5:=z 5 (by omega)
   have c6:=z 6 (by omega)
   have c7:=z 7 (by omega)
   have c8:=z 8 (by omega)
   have c9:=z 9 (by omega)
   simp[eK] at c0 c1 c2 c3 c4 c5 c6 c7 c8 c9;have O:=az.fit;have aL:=O.cnt;have a0:=O.le;have a8:=O.lt;have W1:=GW (N:=N) hL (x.top+1) O (ai.grow (G.alloc G.size (.cells #[Iq (cy E),Iq E.pl,Iq (cV E),S (cE E),Iq (cy u0),Iq u0.pl,Iq (cV u0),S (cE u0),Iq wh,Pq b] 163 (0,0))));rw[aL] at W1;have WB:=λW=>DF E u0 wh b W
   unfold OL at WB;obtain⟨lt,ac,ao,R⟩:∃lt,(lt=lets+(if x.name==[] then 0 else 1))/\((if cy E=11 then decide (10<=wh) else decide (20<wh))=decide (10<lt\/20<k+1 - lt))/\sh lt (k+1 - lt) (xs.drop (k+1)) (ys.drop (k+1)):=by
    have a9:=ay.out;have aA:=wC hO;rcases J with⟨hn,hw,R⟩|⟨hn,hw,R⟩
    ·have ad:cy E=11:=by rcases aA with h|h;exact h.2;exact absurd h.1 hn
     refine⟨lets+1,by rw[Qj (by simpa using hn)],?_,by rw[show k+1 - (lets+1)=k - lets by omega];exact R⟩
     rw[Qo ad,hw];exact S5.2 (by omega)
    have ad:cy E≠11:=by rcases aA with h|h;exact absurd hn h.1;exact h.2
    refine⟨lets,by simp[hn],?_,by rw[show k+1 - lets=k - lets+1 by omega];exact R⟩
    rw[Qj ad,hw];exact S5.2 (by omega)
   have aW:lt<=k+1:=by rw[ac];split<;>omega
   rw[ao] at WB;have aj:=Hi (DE (L:=L) (x:=x) (r:=xs.drop (k+1)) (lets:=lets) (i:=k) (lt:=lt) ac);have aN:=Hi R;have aO:=Hi O;have aP:=Hi ai;have aF:=Hi Z;have aG:=Hi D;have aB:E.pl=x.pl:=by unfold wu at hO;rcases hO with hO|hO<;>exact hO.2.2.1
   have ae:=Hi aB;clear aB az O ai Z D z aa J ac ao R hO an ay;generalize cy E=kd at*;generalize E.pl=p0 at*;generalize cV E=m2 at*;generalize cE E=s3 at*;generalize cy u0=m4 at*;generalize u0.pl=m5 at*;generalize cV u0=m6 at*;generalize cE u0=s7 at*;go_wp2_with fail;apply W1.mono;rintro e w1 ⟨rfl,ap⟩;clear W1;have aq:=(ap.block _ (by simp)).trans (Qp wr _)
   have ar:=(G.alloc G.size _).trans (ap.mono (by have:=G.size;simp;omega))
   obtain⟨⟨z0,z1,z2,z3,z4,z5,z6,z7,z8,z9⟩,zf⟩:=dI aq;have U:=Hi aq;have V:=Hi ar;clear aq ap c0 c1 c2 c3 c4 c5 c6 c7 c8 c9 ar;generalize aQ:dep (x.top+1) L x.top=dd at*;generalize wr.heap.size=bi at*;by_cases hA:10<lt\/20<k+1 - lt
   ·rw[QZ hA] at WB;go_wp2_with fail;apply(WB _).mono;rintro e w2 ⟨rfl,I⟩;have hz:=(dI (w:=w2) (b:=bi) (x0:= Iq kd) (x1:= Iq p0) (x2:= Iq m2) (x3:=S s3) (x4:= Iq m4) (x5:= Iq m5) (x6:= Iq m6) (x7:=S s7) (x8:= Iq wh) (x9:= Pq b) (by rw[I.block _ (be U.out)];exact U.out))
    clear WB z0 z1 z2 z3 z4 z5 z6 z7 z8 z9 zf;obtain⟨⟨z0,z1,z2,z3,z4,z5,z6,z7,z8,z9⟩,zf⟩:=hz;have Y:=Hi (V.out.trans (I.mono V.out.size));clear I U V;go_wp2;refine Qs (v:= .tuple #[Iq p0,.bool false]) (by simp[results,results57,go_sem]) rfl ⟨?_,Y.out⟩
    rw[HM.out,aj.out,Qo (by omega),ae.out];rfl
   rw[QM hA] at WB;go_wp2_with fail;apply(WB _).mono;rintro e w2 ⟨rfl,I⟩;have D:w2.heap[bi]?=some (.cells #[Iq kd,Iq p0,Iq m2,S s3,Iq m4,Iq m5,Iq m6,S s7,Iq wh,Pq b] 163 (0,0)):=by rw[I.block _ (be U.out)];exact U.out
   clear WB z0 z1 z2 z3 z4 z5 z6 z7 z8 z9 zf;obtain⟨⟨z0,z1,z2,z3,z4,z5,z6,z7,z8,z9⟩,zf⟩:=dI D;have af:=V.out.trans (I.mono V.out.size);have W2:=DD (N:=N) (x.top+1) (by omega) aO.out (aP.out.grow af)
   rw[aQ] at W2;have Y:=Hi af;have au:=Hi D;clear I U V af D;by_cases hC:200<x.parts
   ·clear W2;go_wp2;refine Qs (v:= .tuple #[Iq p0,.bool false]) (by simp[results,results57,go_sem]) rfl ⟨?_,Y.out⟩
    rw[HM.out,aj.out,Qo (by omega),ae.out];rfl
   go_wp2_with fail;apply W2.mono;rintro e w3 ⟨rfl,av⟩;clear W2;have hz:=(dI (w:=w3) (b:=bi) (x0:= Iq kd) (x1:= Iq p0) (x2:= Iq m2) (x3:=S s3) (x4:= Iq m4) (x5:= Iq m5) (x6:= Iq m6) (x7:=S s7) (x8:= Iq wh) (x9:= Pq b) (by rw[av.block _ (be au.out)];exact au.out))
   clear z0 z1 z2 z3 z4 z5 z6 z7 z8 z9 zf;obtain⟨⟨z0,z1,z2,z3,z4,z5,z6,z7,z8,z9⟩,zf⟩:=hz;have aC:=Hi (Y.out.trans (av.mono Y.out.size));clear av au Y;by_cases hD:20<dd
   ·go_wp2;refine Qs (v:= .tuple #[Iq p0,.bool false]) (by simp[results,results57,go_sem]) rfl ⟨?_,aC.out⟩
    rw[HM.out,aj.out,Qo (by omega),ae.out];rfl
   go_wp2;go_roundw
   case rel=>
    refine⟨k+1,lt,x.parts,by omega,by simp,by simp;omega,by omega,by omega,?_,aF.out,aG.out,⟨by omega,by omega⟩,aN.out,aC.out⟩
    show _=_;rw[HM.out,aj.out,Qj (by omega)]
   case measure=>simp[intOf];omega
  have aR:k=ys.length:=by omega
  subst aR;have hm:fz L xs 0 0=none:=by
   have:=HM.out;rw[QG (by rw[ab.out];exact Qn _)] at this
   exact this
  have aS:=Hi hm;clear hm;go_wp2;refine Qs (v:= .tuple #[Iq 0,.bool true]) (by simp[results,results57,go_sem]) rfl ⟨?_,G⟩
  rw[aS.out];rfl
end
section
open Go Go.RowKit Tryz
attribute [local go_sem ↓] Go.wp_at_zero Go.wp_at_succ
variable {bs : Nat}
def pz (w:World) (a:Option Addr) (l:List (List UInt8)):Prop:= ∀j,j<l.length-> ∃g,a=some ⟨g,0,none⟩/\(∃cs,w.heap[g]?=some (.cells cs 9 (0,0)))/\w.cell? ⟨g,j,none⟩=some (S (l.getD j []))
theorem sk (l:List (List UInt8)) (s) (a) (cap) (w) (hl:l.length<=2000) (G:pz w a l):
 Calls prog 153 #[.slice a l.length cap,S s] w λe w'=>e= .returned (Iq (dx l s))/\w'=w:=by
 have I:=Hi G;go_enter func153,ntmps153
 go_wp2
 go_loop [8] (λi=> ∃k:Nat,k<=l.length/\i= Iq k/\Hid (dx l s=(if dx (l.drop k) s<0 then -1 else dx (l.drop k) s+k))) (λi=>l.length - (intOf i).toNat)
 case atStart=>
  refine⟨0,QA _,rfl,?_⟩;have:=jx l s
  show _=_
  simp;omega
 case round=>
  obtain⟨k,hk,rfl,H⟩:=hrel
  by_cases z:k<l.length
  ·obtain⟨g,rfl,_,U⟩:=I.out k z
   have J:=Hi (Ay l s k z);have O:Hid (l[k]=l.getD k []):=by show _=_;rw[Qi,Ql z];rfl
   generalize l.getD k []=x at*
   by_cases D:s=x
   ·subst D
    go_wp2
    go_ret;refine⟨da ?_,rfl⟩;rw[H.out,J.out,O.out];simp
   ·have Z:(s==x)=false:=by simpa using D
    have V:=Hi D
    go_wp2
    refine⟨⟨k+1,by omega,by go_num,?_⟩,by simp[intOf];omega⟩
    show _=_
    have R: ¬(x==s)=true:=λe=>V.out (Td.1 e).symm
    rw[H.out,J.out,O.out,Qj R]
    by_cases E:dx (l.drop (k+1)) s<0
    ·rw[Qo E,Qo E];rfl
    ·rw[Qj E,Qj E,Qj (by omega)];omega
  ·go_wp2
   go_ret;refine⟨da ?_,rfl⟩;rw[H.out,QG (by omega)]
   simp[dx]
theorem uF (l:List (List UInt8)) (s) (a) (cap) (w) (G:l.length<=2000) (D:pz w a l):
 Calls prog 109 #[.slice a l.length cap,S s] w λe w'=>e= .returned (.bool (decide (0<=dx l s)))/\w'=w:=by
 have E:=sk l s a cap w G D;have J:=jx l s;have z:=zx l s;have I:dx l s<=2000:=by
  rcases z with h|h
  ·omega
  ·rw[h];simp[dx]
 generalize dx l s=r at*;go_enter func109,ntmps109;go_wp2_with fail;apply E.mono;rintro e w' ⟨rfl,rfl⟩;go_wp2;go_ret;exact⟨rfl,rfl⟩
end
section
open Go Go.RowKit Tryz
attribute [local go_sem ↓] Go.wp_at_zero Go.wp_at_succ
variable {bs : Nat}
variable {u E w w' cs ty fr L N i b a t n lo}
structure RF (SS:Nat->Nat->List UInt8->Int->Prop) (w w':World):Prop where
 os:w'.os=w.os
 tape:w'.tape=w.tape
 output:w'.output=w.output
 size:w.heap.size<=w'.heap.size
 block:∀k,k<w.heap.size->w'.heap[k]?=w.heap[k]?\/ ∃t u n n',w.heap[k]?=some (gR t u n)/\w'.heap[k]?=some (gR t u n')/\SS k (cy t) (cE t) n'
theorem DG {t z:Tok} {n O:Int} (h:gR t u n=gR z E O):cy t=cy z/\cE t=cE z/\ ∀m,gR t u m=gR z E m:=by
 have D:=h;unfold gR at D;simp only[RN] at D;obtain⟨R,_⟩:=D;have G:=RK Array.toList R;simp only[Sv,Value.int.injEq,R8] at G;obtain⟨I,U,h3,V,Y,h6,_⟩:=G;have J:cE t=cE z:=by simpa [S] using V
 have Z:cy t=cy z:=by exact Int.ofNat.inj I
 refine⟨Z,J,λm=>?_⟩
 unfold gR;rw[I,U,h3,J,Y]
theorem RF.refl (SS:Nat->Nat->LB->Int->Prop) (w:World):RF SS w w:=⟨rfl,rfl,rfl,Qn _,λ_ _=> .inl rfl⟩
theorem RF.trans {SS:Nat->Nat->LB->Int->Prop} {w J O:World} (h:RF SS w J) (k:RF SS J O):RF SS w O:=by
 refine⟨k.os.trans h.os,k.tape.trans h.tape,k.output.trans h.output,QV h.size k.size,λj D=>?_⟩
 rcases k.block j (Rh D h.size) with e|⟨t,u,n,z,E,R,U⟩
 ·rcases h.block j D with f|⟨t,u,n,z,G,I,V⟩
  ·exact .inl (e.trans f)
  exact .inr ⟨t,u,n,z,G,e.trans I,V⟩
 rcases h.block j D with f|⟨Z,u',m,m',G,I,V⟩
 ·exact .inr ⟨t,u,n,z,f.symm.trans E,R,U⟩
 rw[I] at E;have Y:=(DG (Rf E)).2.2 m;exact .inr ⟨t,u,m,z,by rw[G,Y],R,U⟩
theorem RF.mono {SS z:Nat->Nat->LB->Int->Prop} (D:∀q k o n,SS q k o n->z q k o n) {w w':World} (h:RF SS w w'):RF z w w':=
 ⟨h.os,h.tape,h.output,h.size,λk E=>(h.block k E).imp id λ⟨t,u,n,G,a,b,c⟩=>⟨t,u,n,G,a,b,D _ _ _ _ c⟩⟩
theorem RF.of_below {SS:Nat->Nat->LB->Int->Prop} {w w':World} (h:Bl w w'):RF SS w w':=⟨h.os,h.tape,h.output,h.size,λk z=> .inl (h.block k z)⟩
theorem RF.drew {SS:Nat->Nat->LB->Int->Prop} {w w':World} (h:RF SS w w'):RF SS w w'.drew:=⟨h.os,h.tape,h.output,h.size,h.block⟩
theorem RF.other {SS:Nat->Nat->LB->Int->Prop} (h:RF SS w w') {k:Nat} (D:w.heap[k]?=some (.cells cs ty fr)) (E:ty≠229):w'.heap[k]?=w.heap[k]?:=by
 rcases h.block k (be D) with e|⟨t,u,n,G,z,_⟩
 ·exact e
 rw[D] at z;simp only[gR,QE,RN] at z;exact absurd z.2.1 E
theorem dh.rf {SS:Nat->Nat->LB->Int->Prop} (h:dh bs L N w i b) (hf:RF SS w w') (hN:∀q t n,SS q (cy t) (cE t) n->N t n):dh bs L N w' i b:=by
 refine h.ind (λi b=>dh bs L N w' i b) ?_
 intro i b u n bl hi hlo hn hb hu hs ih;have hu':jo w' u (L.getD i cz).subs.length bl:=by
  rcases hu with hu|⟨h0,g,h1,h2⟩
  ·exact .inl hu
  exact .inr ⟨h0,g,h1,by rw[hf.other h2 (by decide)];exact h2⟩
 rcases hf.block b (be hb) with e|⟨t,u',m,m',e1,e2,e3⟩
 ·exact .mk i b u n bl hi hlo hn (e.trans hb) hu' ih
 rw[hb] at e1;obtain⟨k1,k2,k3⟩:=DG (Rf e1);refine .mk i b u m' bl hi hlo (hN _ _ _ (by rw[k1,k2];exact e3)) ?_ hu' ih
 rw[e2,k3]
theorem pz.rf {SS:Nat->Nat->LB->Int->Prop} {l:List LB} (h:pz w a l) (D:RF SS w w'):pz w' a l:=by
 intro j E;obtain⟨g,G,⟨cs,z⟩,h3⟩:=h j E;have e:=D.other z (by decide)
 exact⟨g,G,⟨cs,by rw[e];exact z⟩,by rw[Qz e];exact h3⟩
def SB (z:Nat) (q _k:Nat) (_o:List UInt8) (_n:Int):Prop:=z<=q
theorem RF.below (h:RF (SB bs) w w') {B:Nat} (hB:B<=bs) (hw:B<=w.heap.size):Below B w w':=⟨h.os,h.tape,h.output,h.size,λk hk=>by
 rcases h.block k (by omega) with e|⟨_,_,_,_,_,_,e⟩
 ·exact e
 have:bs<=k:=e;omega⟩
def N0 (ix:List UInt8->Int) (t:Tok) (n:Int):Prop:=n=0\/(cy t=2/\n=ix (cE t))
def N1 (ix:List UInt8->Int) (t:Tok) (n:Int):Prop:=n=if cy t=2 then ix (cE t) else 0
def SX (z:Nat) (ix:List UInt8->Int) (q k:Nat) (o:List UInt8) (n:Int):Prop:=z<=q/\k=2/\n=ix o
theorem Nr {ix:LB->Int} (q) (t) (n) (h:SX bs ix q (cy t) (cE t) n):N0 ix t n:= .inr h.2
theorem Fl {ix:LB->Int} (q) (t) (n) (h:SX bs ix q (cy t) (cE t) n):N1 ix t n:=by unfold N1;rw[Qo h.2.1];exact h.2.2
def zN (D:Nat) (L:List Pt) (ix:List UInt8->Int) (w:World) (i b:Nat) (o:Option Nat) (e:Ending) (w':World):Prop:=
 (∃p,o=some p/\e= .returned (.tuple #[Iq p,.bool false])/\RF (SB D) w w')\/
 (o=none/\ ∃p:Nat,e= .returned (.tuple #[Iq p,.bool true])/\RF (SX D ix) w w'/\dh D L (N1 ix) w' i b)
theorem Kp {w:World} (h:w.heap[b]?=some (gR t u n)) (m:Int):(w.setCell ⟨b,5,none⟩ (Iq m)).heap[b]?=some (gR t u m):=by
 unfold gR at h⊢;rw[QB w b 5 _ _ _ h];rfl
theorem RF.note {SS:Nat->Nat->LB->Int->Prop} (h:w.heap[b]?=some (gR t u n)) (m) (z:SS b (cy t) (cE t) m):RF SS w (w.setCell ⟨b,5,none⟩ (Iq m)):=by
 refine⟨rfl,rfl,rfl,by simp,λk D=>?_⟩
 by_cases e:k=b
 ·subst e;exact .inr ⟨t,u,n,m,h,Kp h m,z⟩
 exact .inl (Qr _ _ _ _ (by simpa using e))
theorem zO {G:List LB} {ix:LB->Int} (hG:G.length<=2000) (hix:∀s,0<=dx G s->ix s=dx G s) (f) {cap} (hT:dN (f+1) L lo i) (hC:dh bs L (N0 ix) w i b) (hS:pz w a G) (ho:(L.getD i cz).tok.k=111):
 Calls prog 110 #[Pq b,.slice a G.length cap] w (zN bs L ix w i b (kY (λt=>decide (dx G (cE t)<0)) (f+1) L i)):=by
 have hsub:=qY hT.2.1 ho;obtain⟨u,n,bl,hi,hlo,hn,hb,hu,hs⟩:=hC.inv;obtain⟨⟨c0,c1,c2,c3,c4,c5⟩,cf⟩:=gx hb;have hr:kY (λt=>decide (dx G (cE t)<0)) (f+1) L i=if dx G (cE (L.getD i cz).tok)<0 then some (L.getD i cz).tok.pl else none:=by
  rw[kY,Qo ho];simp
 have HR:=Hi hr;have hk2:=iK.2 ho;rw[hk2] at c0;generalize kY (λt=>decide (dx G (cE t)<0)) (f+1) L i=o at*
 have HI:=sk G (cE (L.getD i cz).tok) a cap w hG hS;have hfail:=λh:dx G (cE (L.getD i cz).tok)<0=>RF.note (SS:=SB bs) hb (dx G (cE (L.getD i cz).tok)) hlo
 have hgood:=λh:0<=dx G (cE (L.getD i cz).tok)=>RF.note (SS:=SX bs ix) hb (dx G (cE (L.getD i cz).tok)) ⟨hlo,hk2,(hix _ h).symm⟩
 have hcd:=Kp hb (dx G (cE (L.getD i cz).tok));have hnew:0<=dx G (cE (L.getD i cz).tok)->dh bs L (N1 ix) (w.setCell ⟨b,5,none⟩ (Iq (dx G (cE (L.getD i cz).tok)))) i b:=λh0=>
  .mk i b u _ bl hi hlo (by unfold N1;rw[Qo hk2];exact(hix _ h0).symm) hcd (by rw[hsub] at hu⊢;rcases hu with hu|hu;exact .inl hu;simp at hu) (by rw[hsub];intro j hj;simp at hj)
 have HF:=Hi hfail;have HGo:=Hi hgood;have HN:=Hi hnew;have hge:=jx G (cE (L.getD i cz).tok);obtain⟨⟨d0,d1,d2,d3,d4,d5⟩,df⟩:=gx hcd;have HCD:=Hi hcd;clear hr hfail hgood hnew hs hu hn hb hS hix hsub hT hcd;have hle2:dx G (cE (L.getD i cz).tok)<=2000:=by
  rcases zx G (cE (L.getD i cz).tok) with h|h
  ·omega
  rw[h];simp[dx]
 generalize dx G (cE (L.getD i cz).tok)=r at*;generalize (L.getD i cz).tok.pl=p at*;generalize cE (L.getD i cz).tok=nm at*;go_enter func110,ntmps110;go_wp2_with fail;apply HI.mono;rintro e w' ⟨rfl,rfl⟩;clear HI;go_wp2;clear c0 c1 c2 c3 c4 c5 cf d0 d2 d3 d4;have HA:Hid (zN bs L ix w' i b o (.returned (.tuple #[Iq p,.bool (decide (0<=r))])) (w'.setCell ⟨b,5,none⟩ (Iq r)).drew):=by
  by_cases h0:r<0
  ·have e:o=some p:=by rw[HR.out,Qo h0]
   refine .inl ⟨p,e,?_,(HF.out h0).drew⟩;rw[QM (by omega)]
  have e:o=none:=by rw[HR.out,Qj h0]
  refine .inr ⟨e,p,?_,(HGo.out (by omega)).drew,(HN.out (by omega)).keep λ_ _ _ _ _=>rfl⟩
  rw[QZ (by omega)]
 clear HR HF HGo HN HCD;generalize w'.setCell ⟨b,5,none⟩ (Iq r)=w2 at*;go_region_held (λw''=>w''.cell? ⟨b,1,none⟩=some (Iq p)/\w''.cell? ⟨b,5,none⟩=some (Iq r)) (go_keep) (fail)
 go_wp2;refine Qs (v:= .tuple #[Iq p,.bool (decide (0<=r))]) (by simp[results,results110,go_sem]) rfl ?_
 exact HA.out
end
section
open Go Go.RowKit Tryz
attribute [local go_sem ↓] Go.wp_at_zero Go.wp_at_succ
variable {bs : Nat}
variable {G ix}
theorem zP (F:Nat->Option Nat) (js:List Nat) (k:Nat) (z:k<js.length):fU F (js.drop k)=match F (js.getD k 0) with|some p=>some p|none=>fU F (js.drop (k+1)):=by
 rw[ep z 0,fU]
 cases F (js.getD k 0)<;>rfl
theorem zQ {L:List Pt} (hG:G.length<=2000) (hix:∀s,0<=dx G s->ix s=dx G s) (f):∀{lo i b cap a} {w:World},dN f L lo i->dh bs L (N0 ix) w i b->pz w a G->
 Calls prog 110 #[Pq b,.slice a G.length cap] w (zN bs L ix w i b (kY (λt=>decide (dx G (cE t)<0)) f L i)):=by
 induction f with
 |zero=>intro lo i b cap a w h;exact h.elim
 |succ f ih=>
  intro lo i b cap a w hT hC hS
  by_cases ho:(L.getD i cz).tok.k=111
  ·exact zO hG hix f hT hC hS ho
  ·obtain⟨u,n,bl,hi,hlo,hn,hb,hu,hs⟩:=hC.inv
   obtain⟨⟨c0,c1,c2,c3,c4,c5⟩,cf⟩:=gx hb;have hr:kY (λt=>decide (dx G (cE t)<0)) (f+1) L i=fU (kY (λt=>decide (dx G (cE t)<0)) f L) (L.getD i cz).subs:=by
    rw[kY,Qj ho]
   rw[hr];have hk2:cy (L.getD i cz).tok≠2:=λe=>ho (iK.1 e)
   have hk3:((cy (L.getD i cz).tok:Int)==(2:Int))=false:=by
    have: ¬((cy (L.getD i cz).tok:Int)=2):=by omega
    simpa using this
   obtain⟨au,eu,ha⟩:=hu.slice;have hn3:(L.getD i cz).subs.length<=3:=by
    rcases hT.2.1 with⟨_,h1⟩|⟨_,h1⟩|⟨_,h1⟩|⟨m,_,_,h1⟩
    ·rw[h1];simp
    all_goals omega
   have hsub:=ku _ hT.2.2;have hend:∀wr,RF (SX bs ix) w wr->(∀j,j<(L.getD i cz).subs.length->dh bs L (N1 ix) wr ((L.getD i cz).subs.getD j 0) (bl j))->dh bs L (N1 ix) wr i b:=by
    intro wr hf hall;have hu':jo wr u (L.getD i cz).subs.length bl:=by
     rcases hu with hu|⟨h0,g,h1,h2⟩
     ·exact .inl hu
     ·exact .inr ⟨h0,g,h1,by rw[hf.other h2 (by decide)];exact h2⟩
    have hbw:wr.heap[b]?=w.heap[b]?:=by
     rcases hf.block b (be hb) with e|⟨t,u',m,m',e1,e2,e3⟩
     ·exact e
     ·rw[hb] at e1
      have:=(DG (Rf e1)).1;exact absurd (this.trans e3.2.1) hk2
    refine .mk i b u n bl hi hlo ?_ (hbw.trans hb) hu' hall
    unfold N1;rw[Qj hk2]
    rcases hn with hn|hn
    ·exact hn
    ·exact absurd hn.1 hk2
   subst eu;have HEND:=Hi hend;have HS:=Hi hs;have HT:=Hi hsub;have HA:=Hi ha;have HSt:=Hi hS;generalize cy (L.getD i cz).tok=kd at*;generalize hjs:(L.getD i cz).subs=js at*;have HF:Hid (∀j,kY (λt=>decide (dx G (cE t)<0)) f L j=kY (λt=>decide (dx G (cE t)<0)) f L j):=λ_=>rfl
   generalize hFF:kY (λt=>decide (dx G (cE t)<0)) f L=FF at*
   have ho:Hid (fU FF js=fU FF (js.drop 0)):=rfl;generalize hoo:fU FF js=o at*;go_enter func110,ntmps110;go_wp2
   go_loopw [41] (λkv wr=> ∃k,k<=js.length/\kv= Iq k/\Hid (o=fU FF (js.drop k))/\Hid (∀j,j<k->dh bs L (N1 ix) wr (js.getD j 0) (bl j))/\RF (SX bs ix) w wr) (λkv _=>js.length - (intOf kv).toNat)
   case atStart=>exact⟨0,QA _,rfl,ho,λj hj=>by omega,RF.refl _ _⟩
   case round=>
    obtain⟨k,hk,rfl,HO,HD,hf⟩:=hrel
    by_cases hlt:k<js.length
    ·obtain⟨g,rfl,hg⟩:=HA.out k hlt
     have hg':=(hf.other hg (by decide)).trans hg
     have hcell:=gy hg' k hlt;have hst:=Hi (zP FF js k hlt);obtain⟨lo',hT'⟩:=HT.out (js.getD k 0) (by rw[Qi,Ql hlt];exact QD hlt)
     have HI:=ih (cap:=cap) hT' ((HS.out k hlt).rf hf Nr) (pz.rf HSt.out hf);go_wp2_with fail;apply HI.mono;rintro e w1 (⟨p,hp,rfl,hf1⟩|⟨hp,p,rfl,hf1,hC1⟩)
     ·have HP:Hid _:=hp
      go_wp2;refine Qs (v:= .tuple #[Iq p,.bool false]) (by simp[results,results110,go_sem]) rfl ?_
      refine .inl ⟨p,?_,rfl,(hf.mono λ_ _ _ _ h=>h.1).trans hf1⟩
      rw[HO.out,hst.out,HP.out]
     ·have HP:Hid _:=hp
      have HC1:=Hi hC1;go_wp2
      go_roundw
      case rel=>
       refine⟨k+1,by omega,by simp,?_,?_,hf.trans hf1⟩
       ·show _=_
        rw[HO.out,hst.out,HP.out]
       ·intro j hj
        by_cases e:j=k
        ·subst e;exact HC1.out
        ·exact(HD.out j (by omega)).rf hf1 Fl
      case measure=>simp[intOf];omega
    ·have hke:k=js.length:=by omega
     subst hke;have hno:Hid (o=none):=by
      have:=HO.out;rw[QG (Qn _)] at this;exact this
     have HA:Hid (zN bs L ix w i b o (.returned (.tuple #[Iq 0,.bool true])) wr):= .inr ⟨hno.out,0,rfl,hf,HEND.out wr hf HD.out⟩;go_wp2;refine Qs (v:= .tuple #[Iq 0,.bool true]) (by simp[results,results110,go_sem]) rfl ?_
     exact HA.out
end
section
open Go Go.RowKit Tryz
attribute [local go_sem ↓] Go.wp_at_zero Go.wp_at_succ
variable {bs : Nat}
variable {v base n xs k L N w w' i b e size ys}
theorem Kq:(prog.info? 9).map (λi=>(i.zero,i.size,i.bytes))=some (some (.string ⟨#[]⟩),1,16):=by kernel_rfl
theorem RF.grown {SS:Nat->Nat->LB->Int->Prop} {w wr w' row} (h:RF SS w wr) (z:wr.grownBy w' row) (E:∀k,row=some k->w.heap.size<=k):RF SS w w':=
 ⟨z.os.trans h.os,z.tape.trans h.tape,z.output.trans h.output,QV h.size z.size,λk D=>by
  have e:=z.block k (Rh D h.size) (λe=>by have:=E k e.symm;omega)
  rcases h.block k D with f|⟨t,u,n,G,I,J,O⟩
  ·exact .inl (e.trans f)
  exact .inr ⟨t,u,n,G,I,e.trans J,O⟩⟩
theorem RF.alloc {SS:Nat->Nat->LB->Int->Prop} {w wr:World} (h:RF SS w wr) (o):RF SS w (wr.alloc o):=
 h.trans (RF.of_below ((Qq _ _).alloc (Qn _) o))
theorem Mq {w:World} {base:Nat} {l:List LB} (h:w.ownsRow base 9 1 v l.length (l.map S)):∃a cap,v= .slice a l.length cap/\pz w a l:=by
 obtain⟨R,h⟩:=h;rcases h with⟨rfl,I⟩|⟨g,cap,z,rfl,U,E,V,Y,h3,J⟩
 ·exact⟨none,0,by rw[I],λk G=>by omega⟩
 refine⟨_,cap,rfl,λk G=>⟨g,rfl,⟨z,E⟩,?_⟩⟩
 rw[Qm w g k _ _ _ E];have O:z[k]?=(z.toList.take (l.length*1))[k]?:=by
  rw[Rv (by omega)];simp
 rw[O,J];simp[G,Qi]
theorem yF {w:World} (h:w.ownsRow base 9 1 v n xs) (z:v.ownBlock=some k):base<=k/\ ∃cs,w.heap[k]?=some (.cells cs 9 (0,0)):=by
 rcases h.2 with⟨rfl,_⟩|⟨g,cap,D,rfl,E,G,_⟩
 ·simp[Value.ownBlock] at z
 simp[Value.ownBlock] at z;subst z;exact⟨E,D,G⟩
theorem dh.grownStr (h:dh bs L N w i b) (hr:w.ownsRow base 9 1 v n xs) (hg:w.grownBy w' v.ownBlock):dh bs L N w' i b:=
 h.keep λk cs ty hk ht=>hg.block k (be hk) λe=>by
  obtain⟨_,cs',hc⟩:=yF hr e.symm;rw[hk] at hc;simp only[QE,RN] at hc;rw[hc.2.1] at ht;exact absurd ht (by decide)
theorem oy {SS:Nat->Nat->LB->Int->Prop} (h:w.ownsRow base e size v n xs) (E:e≠229) (G:RF SS w w'):w'.ownsRow base e size v n xs:=by
 obtain⟨I,z⟩:=h;refine⟨I,?_⟩;rcases z with z|⟨g,cap,D,a,b,c,d⟩
 ·exact .inl z
 exact .inr ⟨g,cap,D,a,b,by rw[G.other c E];exact c,d⟩
theorem du.rf {L N} {SS:Nat->Nat->LB->Int->Prop} {w w'} (hf:RF SS w w') (hN:∀q t n,SS q (cy t) (cE t) n->N t n) {xs ys} (h:du (dh bs L N w) xs ys):du (dh bs L N w') xs ys:=
 h.mono λ_ _ h=>h.rf hf hN
theorem nM {α:Type} {l:List α} {k:Nat} (h:k<l.length) (d:α):l.take (k+1)=l.take k++[l.getD k d]:=by
 rw[Rw h,Qi,Ql h];rfl
def DH (z:Nat) (L:List Pt) (ix:List UInt8->Int) (xs:List dw) (ys:List (Tok×Tok×Nat×Int)) (w:World) (e:Ending) (w':World):Prop:=
 (∃p,dt xs L xs 0 0=some p/\e= .returned (.tuple #[Iq p,.bool false])/\RF (SB z) w w')\/
 (dt xs L xs 0 0=none/\e= .returned (.tuple #[Iq 0,.bool true])/\RF (SX z ix) w w'/\du (dh z L (N1 ix) w') xs ys)
theorem Bx (hL:iu L) (hrow:w.ownsRow base 163 10 v ys.length (dB ys)) (hy:ys.length<=1001)
 (hit:du (dh bs L (N0 (dx (fI xs))) w) xs ys) (htr:fs L xs 0):
 Calls prog 58 #[v] w (DH bs L (dx (fI xs)) xs ys w):=by
 obtain⟨a,cap,rfl,hcell⟩:=jR hrow;obtain⟨i0,hi,hz0,hz1,hz2⟩:=Ry Kq;have hlen:=Hi hit.len;have HC:=Hi hcell;have HT:=Hi hit;have HTR:=Hi htr;have HL:=Hi hL;clear hrow hcell hit htr hL;go_enter func58,ntmps58;go_wp2;go_loopw [4,11] (λgv kv wr=> ∃k fr,k<=ys.length/\kv= Iq k/\Hid (dt xs L xs 0 0=dt xs L (xs.drop k) fr k)/\Hid (fs L (xs.drop k) fr)/\Hid (du (dh bs L (N0 (dx (fI xs))) w) (xs.drop k) (ys.drop k))/\Hid (du (dh bs L (N1 (dx (fI xs))) wr) (xs.take k) (ys.take k))/\wr.ownsRow w.heap.size 9 1 gv (fI (xs.take k)).length ((fI (xs.take k)).map S)/\RF (SX bs (dx (fI xs))) w wr) (λ_ kv _=>ys.length - (intOf kv).toNat)
 case atStart=>exact⟨0,0,QA _,rfl,rfl,HTR.out,HT.out,trivial,QX _ _ _ _,RF.refl _ _⟩
 case round=>
  obtain⟨k,fr,hk,rfl,HM,HTR2,HIT2,HDN,hown,hf⟩:=hrel;by_cases hlt:k<ys.length
  ·have hltx:k<xs.length:=by rw[<-hlen.out];exact hlt
   have hgl:=uM (xs.take k);have hgl2:(fI (xs.take k)).length<=k:=QV hgl (by simp;omega)
   have ht2:=HTR2.out;have hi2:=HIT2.out;rw[ep hltx dr] at ht2 hi2;rw[ep hltx dr] at HM;rw[ep hlt (ee,ee,0,0)] at hi2;obtain⟨g,rfl,⟨gcs,hgc⟩,hcells⟩:=HC.out k hlt;have HTX:=Hi (nM hltx dr);have HTY:=Hi (nM hlt (ee,ee,0,0));generalize xs.getD k dr=x at*;generalize ys.getD k (ee,ee,0,0)=y at*;obtain⟨⟨hCd,hO⟩,hi2⟩:=hi2;obtain⟨hTr,hpt,ht2⟩:=ht2;obtain⟨t0,u0,b,wh⟩:=y;simp only[] at hCd hO;have hgw:=hf.other hgc (by decide)
   have hct:∀j,j<10->wr.cell? ⟨g,k*10+j,none⟩=(eK (t0,u0,b,wh))[j]?:=λj hj=>by
    rw[Qz (w:=w) (a:=⟨g,k*10+j,none⟩) hgw];exact hcells j hj
   have c0:=hct 0 (by omega)
   have c1:=hct 1 (by omega)
   have c2:=hct 2 (by omega)
   have c3:=hct 3 (by omega)
   have c4:=hct 4 (by omega)
   have c5:=hct 5 (by omega)
   have c6:=hct 6 (by omega)
   have c7:=hct 7 (by omega)
   have c8:=hct 8 (by omega)
   have c9:=hct 9 (by omega)
   simp[eK] at c0 c1 c2 c3 c4 c5 c6 c7 c8 c9;have hTF:=hTr.fit;have HST:=Hi (vg (xs:=xs) HL.out (r:=xs.drop (k+1)) (i:=k) hTr hpt);obtain⟨ag,capg,rfl,hSt⟩:=Mq hown;have hf0:=hf.alloc (.cells #[Iq (cy t0),Iq t0.pl,Iq (cV t0),S (cE t0),Iq (cy u0),Iq u0.pl,Iq (cV u0),S (cE u0),Iq wh,Pq b] 163 (0,0));have hb0:RF (SX bs (dx (fI xs))) wr (wr.alloc (.cells #[Iq (cy t0),Iq t0.pl,Iq (cV t0),S (cE t0),Iq (cy u0),Iq u0.pl,Iq (cV u0),S (cE u0),Iq wh,Pq b] 163 (0,0))):=(RF.refl _ _).alloc _;have hG2:(fI (xs.take k)).length<=2000:=by omega
   have W2:=zQ (L:=L) (ix:=dx (fI xs)) (cap:=capg) hG2 (λs h=>vh k h) (x.top+1) hTF (hCd.rf hf0 Nr) (pz.rf hSt hb0)
   rw[CP (bad':=oO xs k) (λq hq ho=>by
    have e1:cE (L.getD q cz).tok=(L.getD q cz).tok.text:=by unfold cE;rw[Qo ho]
    have e2:=sP _ (HL.out.own q hq ho) xs k;unfold oO;rw[e1,RE];simpa using e2) (x.top+1) hTF] at W2
   have W1:=uF (fI (xs.take k)) (cE u0) ag capg _ hG2 (pz.rf hSt hb0);have hown0:=oy hown (by decide) hb0
   have hit0:Hid (du (dh bs L (N1 (dx (fI xs))) (wr.alloc (.cells #[Iq (cy t0),Iq t0.pl,Iq (cV t0),S (cE t0),Iq (cy u0),Iq u0.pl,Iq (cV u0),S (cE u0),Iq wh,Pq b] 163 (0,0)))) (xs.take k) (ys.take k)):=HDN.out.rf hb0 Fl;have hz0':(wr.alloc (.cells #[Iq (cy t0),Iq t0.pl,Iq (cV t0),S (cE t0),Iq (cy u0),Iq u0.pl,Iq (cV u0),S (cE u0),Iq wh,Pq b] 163 (0,0))).heap[wr.heap.size]?=_:=Qp wr _;have HTR3:=Hi ht2;have HIT3:=Hi hi2;have HO:Hid (wu x t0 u0):=hO;have hFw:=Hi hf0;have hOwn:=Hi hown0;unfold wu at hO;clear hTr hTF hCd ht2 hi2 hct hcells hSt hf hown HDN hf0 hb0 hgw hgc HTR2 HIT2 hown0 HTR HT;generalize hkd0:cy t0=kd at*;generalize hu1:u0.pl=m5 at*;generalize hu2:cE u0=s7 at*;generalize t0.pl=p0 at*;generalize cV t0=m2 at*;generalize cE t0=s3 at*;generalize cy u0=m4 at*;generalize cV u0=m6 at*;rcases hO with hO|hO
   ·have hkd:kd=11:=hO.2.1;subst hkd;have hne:=hO.1;have e5:=hO.2.2.2.2.1;have e7:=hO.2.2.2.2.2.1;have HNE:=Hi hne;have HE5:=Hi e5;have HE7:=Hi e7;clear hO hne e5 e7 hkd0 hu1 hu2;by_cases hdup:0<=dx (fI (xs.take k)) s7
    ·rw[QZ hdup] at W1;have HA:Hid (DH bs L (dx (fI xs)) xs ys w (.returned (.tuple #[Iq m5,.bool false])) (wr.alloc (.cells #[Iq 11,Iq p0,Iq m2,S s3,Iq m4,Iq m5,Iq m6,S s7,Iq wh,Pq b] 163 (0,0)))):=by
      refine .inl ⟨m5,?_,rfl,hFw.out.mono λ_ _ _ _ h=>h.1⟩
      rw[HM.out,HST.out,Qo ⟨HNE.out,by rw[<-HE7.out];exact hdup⟩,HE5.out]
     obtain⟨⟨z0,z1,z2,z3,z4,z5,z6,z7,z8,z9⟩,zf⟩:=dI hz0';clear W2 hz0' hdup;go_wp2_with fail;apply W1.mono;rintro e w' ⟨rfl,rfl⟩;clear W1;go_wp2;refine Qs (v:= .tuple #[Iq m5,.bool false]) (by simp[results,results58,go_sem]) rfl ?_
     exact HA.out
    rw[QM hdup] at W1;have hst2:Hid (dt xs L xs 0 0=(kY (oO xs k) (x.top+1) L x.top).or (dt xs L (xs.drop (k+1)) x.parts (k+1))):=by
     show _=_;rw[HM.out,HST.out,Qj (λe=>hdup (by rw[HE7.out];exact e.2))]
    obtain⟨⟨z0,z1,z2,z3,z4,z5,z6,z7,z8,z9⟩,zf⟩:=dI hz0';have HZ:=Hi hz0';clear hz0' hdup;generalize kY (oO xs k) (x.top+1) L x.top=ro at*;go_wp2_with fail;apply W1.mono;rintro e w' ⟨rfl,rfl⟩;clear W1;go_wp2_with fail;apply W2.mono;rintro e w1 (⟨q,hq,rfl,hf1⟩|⟨hq,q,rfl,hf1,hC1⟩)
    ·have HQ:Hid _:=hq;clear W2 hq z0 z1 z2 z3 z4 z5 z6 z7 z8 z9 zf;go_wp2;refine Qs (v:= .tuple #[Iq q,.bool false]) (by simp[results,results58,go_sem]) rfl ?_
     refine .inl ⟨q,?_,rfl,(hFw.out.mono λ_ _ _ _ h=>h.1).trans hf1⟩
     rw[hst2.out,HQ.out];rfl
    have HQ:Hid _:=hq;have HC1:=Hi hC1;have hz1':=(hf1.other HZ.out (by decide)).trans HZ.out
    have hown1:=oy hOwn.out (by decide) hf1
    have hF1:=Hi (hFw.out.trans hf1);have hD1:=Hi (hit0.out.rf hf1 Fl);have hs1:=hf1.size;have hs0:=hFw.out.size;clear W2 hq hC1 z0 z1 z2 z3 z4 z5 z6 z7 z8 z9 zf HZ hOwn hFw hit0 hf1;obtain⟨⟨z0,z1,z2,z3,z4,z5,z6,z7,z8,z9⟩,zf⟩:=dI hz1';clear hz1';simp only[Qw] at hs0 hs1;generalize wr.heap.size=bi at*;generalize hGl:fI (xs.take k)=G at*;go_wp2_with (
     at_builtin;go_must (refine wpList_append_lies _ (by rfl) _ _ 131 (by rfl) w.heap.size 9 i0 (.string ⟨#[]⟩) 1 16 underlying131 hi hz0 hz1 hz2 (by rfl) (by decide) _ _ _ (by rfl) (hown1.alloc _) ⟨w1.heap.size,0,none⟩ 1 1 [S s7] (by rfl) (by rfl) (World.news_of_block (Qp w1 _)) (λx hx=>by simp at hx;rcases hx with rfl;rfl) (by decide) (by unfold maxLen;omega) (by omega) (by simp;omega) _ rfl ?_)
     intro g3 cap3 w3 hown3 hgrow3 hat hlt3)
    have hrowb:∀q,(Value.slice ag G.length capg).ownBlock=some q->w.heap.size<=q:=λq hq=>(yF hown1 hq).1
    refine⟨⟨k+1,x.parts,by omega,by simp,?_,HTR3.out,HIT3.out,?_,?_,(hF1.out.alloc _).grown hgrow3 hrowb⟩,by simp[intOf];omega⟩
    ·show _=_;rw[hst2.out,HQ.out];rfl
    ·show du _ _ _;rw[HTX.out,HTY.out];exact du.snoc ((HC1.out.grow ((Qq _ _).alloc (Qn _) _)).grownStr (hown1.alloc _) hgrow3) HO.out (hD1.out.mono λi b h=>(h.grow ((Qq _ _).alloc (Qn _) _)).grownStr (hown1.alloc _) hgrow3)
    have e:fI (xs.take (k+1))=G++[s7]:=by rw[HTX.out,AH,Qj HNE.out,hGl,HE7.out]
    rw[e];simpa using hown3
   have hkd:((kd:Int)==(11:Int))=false:=by
    have h1:=hO.2.1;have: ¬((kd:Int)=11):=by split at h1<;>omega
    simpa using this
   have HNE:=Hi hO.1;clear hO hkd0 hu1 hu2 W1;have hst2:Hid (dt xs L xs 0 0=(kY (oO xs k) (x.top+1) L x.top).or (dt xs L (xs.drop (k+1)) x.parts (k+1))):=by
    show _=_;rw[HM.out,HST.out,Qj (λe=>e.1 HNE.out)]
   obtain⟨⟨z0,z1,z2,z3,z4,z5,z6,z7,z8,z9⟩,zf⟩:=dI hz0';have HZ:=Hi hz0';clear hz0';generalize kY (oO xs k) (x.top+1) L x.top=ro at*;go_wp2_with fail;apply W2.mono;rintro e w1 (⟨q,hq,rfl,hf1⟩|⟨hq,q,rfl,hf1,hC1⟩)
   ·have HQ:Hid _:=hq;clear W2 hq z0 z1 z2 z3 z4 z5 z6 z7 z8 z9 zf;go_wp2;refine Qs (v:= .tuple #[Iq q,.bool false]) (by simp[results,results58,go_sem]) rfl ?_
    refine .inl ⟨q,?_,rfl,(hFw.out.mono λ_ _ _ _ h=>h.1).trans hf1⟩
    rw[hst2.out,HQ.out];rfl
   have HQ:Hid _:=hq;have HC1:=Hi hC1;have hz1':=(hf1.other HZ.out (by decide)).trans HZ.out
   have hown1:=oy hOwn.out (by decide) hf1
   have hF1:=Hi (hFw.out.trans hf1);have hD1:=Hi (hit0.out.rf hf1 Fl);clear W2 hq hC1 z0 z1 z2 z3 z4 z5 z6 z7 z8 z9 zf HZ hOwn hFw hit0 hf1;obtain⟨⟨z0,z1,z2,z3,z4,z5,z6,z7,z8,z9⟩,zf⟩:=dI hz1';clear hz1';generalize wr.heap.size=bi at*;go_wp2;refine⟨⟨k+1,x.parts,by omega,by simp,?_,HTR3.out,HIT3.out,?_,?_,hF1.out⟩,by simp[intOf];omega⟩
   ·show _=_;rw[hst2.out,HQ.out];rfl
   ·show du _ _ _;rw[HTX.out,HTY.out];exact du.snoc HC1.out HO.out hD1.out
   have e:fI (xs.take (k+1))=fI (xs.take k):=by rw[HTX.out,AH,Qo HNE.out]
   rw[e];exact hown1
  have hke:k=ys.length:=by omega
  subst hke;have hm:dt xs L xs 0 0=none:=by
   have:=HM.out;rw[QG (by rw[hlen.out];exact Qn _)] at this
   exact this
  have hd:=HDN.out;rw[RP,Q4 (by rw[hlen.out];exact Qn _)] at hd
  have HA:Hid (DH bs L (dx (fI xs)) xs ys w (.returned (.tuple #[Iq 0,.bool true])) wr):= .inr ⟨hm,rfl,hf,hd⟩;clear hm hd HDN;go_wp2;refine Qs (v:= .tuple #[Iq 0,.bool true]) (by simp[results,results58,go_sem]) rfl ?_
  exact HA.out
end
section
open Go Go.RowKit Tryz
attribute [local go_sem ↓] Go.wp_at_zero Go.wp_at_succ
variable {bs : Nat}
variable {a l L xs its z f lo i b w}
def DI (w:World) (a:Option Addr) (l:List Nat):Prop:= ∀j,j<l.length-> ∃g,a=some ⟨g,0,none⟩/\w.cell? ⟨g,j,none⟩=some (Iq (l.getD j 0))
theorem DI.grow {w w':World} (h:DI w a l) (D:Below w.heap.size w w'):DI w' a l:=λj E=>by
 obtain⟨g,G,z⟩:=h j E;exact⟨g,G,by rw[D.cell (p:=⟨g,j,none⟩) (Qk w _ z)];exact z⟩
theorem By (c:UInt8):eA c<=3:=by unfold eA;split;omega;split;omega;split<;>omega
theorem DJ {p:Pt} (h:rG p) (G:p.subs≠[]):(cy p.tok=6\/cy p.tok=7\/cy p.tok=9\/cy p.tok=10\/cy p.tok=17\/cy p.tok=18\/cy p.tok=19\/cy p.tok=8\/cy p.tok=14)/\(cy p.tok=14->p.subs.length=3):=by
 rcases h with⟨_,h⟩|⟨h,E⟩|⟨h,E⟩|⟨n,_,h,E⟩
 ·exact absurd h G
 ·obtain⟨e,z⟩:=gX h
  rw[dU z,e];exact⟨by decide,λe=>absurd e (by decide)⟩
 ·obtain⟨e,z⟩:=gX h
  rw[dU z,e];exact⟨by decide,λ_=>E⟩
 ·obtain⟨e,z⟩:=mi h
  rw[dU z];have D:∀x∈([[43],[45],[60],[60,61],[61],[111,114],[97,110,100]]:List (List UInt8)),(kn x=6\/kn x=7\/kn x=9\/kn x=10\/kn x=17\/kn x=18\/kn x=19\/kn x=8\/kn x=14)/\kn x≠14:=by decide
  exact⟨(D _ e).1,λh=>absurd h (D _ e).2⟩
theorem DK {cap} (hT:dN (f+1) L lo i) (hC:dh bs L (N1 (dx (fI xs))) w i b) (R:DI w a z) (aa:z.length<=1001) (I:(L.getD i cz).tok.k=111)
 (U:0<=dx (fI xs) (L.getD i cz).tok.text) (J:(dx (fI xs) (L.getD i cz).tok.text).toNat<z.length) (O:z.getD (dx (fI xs) (L.getD i cz).tok.text).toNat 0=eA (dk xs its L (f+1) i)):
 Calls prog 111 #[Pq b,.slice a z.length cap] w λe w'=>e= .returned (Iq (eA (dk xs its L (f+1) i)))/\Below w.heap.size w w':=by
 obtain⟨u,n,bl,hi,ab,E,V,hu,hs⟩:=hC.inv;obtain⟨⟨c0,c1,c2,c3,c4,c5⟩,cf⟩:=gx V;have G:=iK.2 I;rw[G] at c0;have Y:n=dx (fI xs) (L.getD i cz).tok.text:=by
  unfold N1 at E;rw[Qo G] at E
  have e1:cE (L.getD i cz).tok=(L.getD i cz).tok.text:=by unfold cE;rw[Qo I]
  rw[e1] at E;exact E
 rw[<-Y] at U J O;obtain⟨g,rfl,D⟩:=R _ J;rw[O] at D;obtain⟨m,rfl⟩:∃m:Nat,n=m:=⟨n.toNat,by omega⟩
 have Z:(m:Int).toNat=m:=by omega
 rw[Z] at J D;clear R hT V hu hs E Y O U G I Z;generalize eA (dk xs its L (f+1) i)=r at*;go_enter func111,ntmps111;go_wp2;go_ret;exact⟨rfl,Qq _ _⟩
end
variable {F ts i L r xs fr}
theorem NX (f):∀z ts i L x r,P f z ts i L x=some r->r.ok=true->(z<=6\/z=10\/z=11\/z=13\/z=14)->r.L.length+i<=L.length+r.i:=by
 induction f with
 |zero=>intro z ts i L x r h;rw[P] at h;simp at h
 |succ f ih=>
  intro z ts i L x r h D ht;by_cases h6:z=6
  ·subst h6;by_cases R:eJ (cq ts i) oI=true
   ·obtain⟨E,rb,rc,I,U,V,aa,ab,Y⟩:=nr h R;rw[aa] at D;obtain⟨J,O,rfl⟩:=Y D;have ka:=ih 6 ts (i+1) L 0 E I J (by omega)
    unfold Nx at U V;have ac:eJ (cq ts E.i) lC=true:=by
     cases e:eJ (cq ts E.i) lC with
     |true=>rfl
     |false=>rw[Qj (by simp[e])] at U;rw[U.1] at O;simp at O
    have ad:eJ (cq ts rb.i) lD=true:=by
     cases e:eJ (cq ts rb.i) lD with
     |true=>rfl
     |false=>rw[Qj (by simp[e])] at V;rw[V.1] at D;simp at D
    rw[Qo ⟨J,ac⟩] at U;rw[Qo ⟨O,ad⟩] at V;have kb:=ih 6 ts (E.i+1) E.L 0 rb U O (by omega)
    have kc:=ih 6 ts (rb.i+1) rb.L 0 rc V D (by omega)
    simp[mT];omega
   exact ih 0 ts i L 0 r (qW h R) D (by omega)
  by_cases h5:z=5
  ·subst h5;by_cases R:eJ (cq ts i) [40]=true
   ·obtain⟨E,I,G⟩:=ns h R;rcases G with⟨J,ah,rfl⟩|⟨_,G,_⟩
    ·have ka:=ih 6 ts (i+1) L 0 E I J (by omega)
     simp;omega
    rw[G] at D;simp at D
   rcases lQ h R with⟨ha,rfl⟩|⟨_,rfl⟩
   ·simp;omega
   simp at D
  by_cases h2:z=2
  ·subst h2;by_cases R:eJ (cq ts i) km=true
   ·obtain⟨E,I,ae,ab,Y⟩:=pN h R;rw[ae] at D;have Y:=Y D;subst Y;have ka:=ih 2 ts (i+1) L 0 E I D (by omega)
    simp[mT];omega
   exact ih 3 ts i L 0 r (qV h R) D (by omega)
  by_cases ai:z<10
  ·have Z:dD z:=by unfold dD;omega
   obtain⟨E,I,G⟩:=jN Z h;rcases G with⟨J,G⟩|⟨no,rfl⟩
   ·unfold dD at Z;have ka:=ih (z+1) ts i L 0 E I J (by omega)
    have kb:=ih (10+z) ts E.i E.L E.top r G D (by omega)
    omega
   rw[no] at D;simp at D
  obtain⟨n,rfl⟩:∃n,z=10+n:=⟨z - 10,by omega⟩
  have Z:dD n:=by unfold dD;omega
  have af:=Z;unfold dD at af;cases hj:iB n (cq ts i) with
  |false=>
   have:=pO Z h hj;subst this;simp
  |true=>
   obtain⟨rb,ag,G⟩:=oM Z h hj;rcases G with⟨no,rfl⟩|⟨O,G⟩
   ·rw[no] at D;simp at D
   have kb:=ih (n+1) ts (i+1) L 0 rb ag O (by omega)
   rcases G with⟨h3,rfl⟩|⟨h3,G⟩
   ·simp[mT];omega
   have kc:=ih (10+n) ts rb.i _ _ r G D (by omega)
   simp at kc;omega
theorem GY (J:ve ts) (O:kQ ts L i) (h:iF F ts i L=some r) (D:r.ok=true):
 i<r.i/\(∃new,r.L=L++new)/\iR r.L L.length r.it.top/\r.it.top+1=r.it.parts/\r.it.parts=r.L.length/\kQ ts r.L r.i/\r.L.length+i<=L.length+r.i:=by
 have tail:∀j x,i<j->gj F ts j L x=some r->i<r.i/\(∃new,r.L=L++new)/\iR r.L L.length r.it.top/\r.it.top+1=r.it.parts/\r.it.parts=r.L.length/\kQ ts r.L r.i/\r.L.length+i<=L.length+r.i:=by
  intro j x Z R;obtain⟨a,E,G⟩:=kG R;rcases G with⟨z,hw,rfl⟩|⟨_,I,_⟩
  ·have f1:=(vb F 6 ts j L 0 a E z (by omega)).1
   obtain⟨U,V,Y⟩:=NH J F 6 j L 0 L.length a E z (by omega) (O.mono (by omega)) (λ_=>rfl) (by omega)
   have t4:=NX F 6 ts j L 0 a E z (by omega)
   exact⟨by simp;omega,AE E z (by omega),V,U,rfl,Y.mono (by simp),by simp;omega⟩
  rw[I] at D;simp at D
 unfold iF at h;split at h
 ·split at h
  ·split at h
   ·exact tail _ _ (by omega) h
   simp[dV] at h;subst h;simp at D
  simp[dV] at h;subst h;simp at D
 split at h
 ·split at h
  ·exact tail _ _ (by omega) h
  simp[dV] at h;subst h;simp at D
 simp[dV] at h;subst h;simp at D
theorem Kr {ts:List Tok} (h:iF F ts i L=some r) (z:r.ok=true):r.i<=ts.length:=by
 have tail:∀j x,gj F ts j L x=some r->r.i<=ts.length:=by
  intro j x I;obtain⟨a,O,D⟩:=kG I;rcases D with⟨J,E,rfl⟩|⟨_,G,_⟩
  ·have:=(qX λe=>by rw[e,sO] at E;simp at E).1
   simp only[];omega
  rw[G] at z;simp at z
 unfold iF at h;split at h
 ·split at h
  ·split at h
   ·exact tail _ _ h
   simp[dV] at h;subst h;simp at z
  simp[dV] at h;subst h;simp at z
 split at h
 ·split at h
  ·exact tail _ _ h
  simp[dV] at h;subst h;simp at z
 simp[dV] at h;subst h;simp at z
theorem fs.snoc (h:fs L xs fr) (new) (x) (z:iR (L++new) L.length x.top) (D:x.top+1=x.parts) (h3:x.parts=(L++new).length):fs (L++new) (xs++[x]) fr:=by
 induction xs generalizing fr with
 |nil=>
  have:fr=L.length:=h;subst this;exact⟨z,D,h3⟩
 |cons y r ih=>
  obtain⟨a,b,c⟩:=h;exact⟨a.more ⟨new,rfl⟩,b,ih c⟩
theorem uo {ts:List Tok} (Z:ve ts) (g):∀i L xs R,fs L xs 0->kQ ts L i->L.length<=i->i<=ts.length->dH F ts g i L xs=some R->R.ok=true->fs R.L R.xs 0/\kQ ts R.L R.i/\R.L.length<=R.i/\R.i<=ts.length:=by
 induction g with
 |zero=>intro i L xs R _ _ _ _ h;rw[dH] at h;simp at h
 |succ g ih=>
  intro i L xs R E G hl hi h I;by_cases J:(cq ts i).k=101
  ·have:=nt h J;subst this;exact⟨E,G,hl,hi⟩
  rw[dH,Qj J] at h;cases D:iF F ts i L with
  |none=>rw[D] at h;simp at h
  |some r=>
   rw[D] at h;simp only at h;by_cases z:r.ok=true
   ·rw[Qo z] at h;obtain⟨k1,⟨new,e⟩,O,k3,U,V,k6⟩:=GY Z G D z;have Y:=Kr D z;rw[e] at O U V k6 h;exact ih r.i (L++new) (xs++[r.it]) R (E.snoc new r.it O k3 U) V (by omega) Y h I
   rw[Qj z] at h;simp at h;subst h;simp at I
end Go.Proofs.YtfkdailfcmnjlaaGreatDoor
