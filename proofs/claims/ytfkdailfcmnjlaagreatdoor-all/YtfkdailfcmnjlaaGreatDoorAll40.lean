/-
  A part.
-/
import Derived.Test.YtfkdailfcmnjlaaGreatDoorAll39
import Derived.Shelf.SlicesQ.Reverse
import Derived.Ground.SlgnProg
set_option linter.all false
set_option maxHeartbeats 40000000
set_option maxRecDepth 1000000
namespace Go.Proofs.YtfkdailfcmnjlaaGreatDoor
open Go Go.RowKit Tryz
section
open Go.Sort (HoldsK putRowK flatK size_flatK get_flatK holdsK_putRowK holdsK_ahead)
def uL:Go.Shelf.Ren:=⟨fun | 35 => 178 | n => n, fun | 22 => 84 | 23 => 163 | 3 => 3 | 4 => 4 | 0 => 0 | n => n, fun | n => n⟩
theorem uB:Go.Proofs.SlLaysE0.n35 prog uL:={
 mixed:=by kernel_rfl
 f35:=⟨f178.name, by decide, func178.trans (RK some (by kernel_rfl))⟩
 t0:=underlying0
 a0:=isAgg0
 z0:=sizeOf0
 v0:=zeroValue0
 t3:=underlying3
 a3:=isAgg3
 z3:=sizeOf3
 v3:=zeroValue3
 t4:=underlying4
 a4:=isAgg4
 z4:=sizeOf4
 v4:=zeroValue4
 t22:=underlying84
 a22:=isAgg84
 z22:=sizeOf84
 v22:=zeroValue84 }
theorem LA [Inhabited Yt] (ys : List Yt) {i : Nat} (h : i < ys.length) : ys.toArray[i]! = ys.getD i Cs := by
  rw [getElem!_pos ys.toArray i (by simpa using h), Qi, Ql h]; simp
theorem qt (y:Yt):(eK y).length=10:=rfl
theorem IX (y:Yt):∀v∈eK y,v.oneCell'=true:=λv z=>by
 unfold eK at z;simp only[Ra,RQ,Tn] at z;rcases z with rfl|rfl|rfl|rfl|rfl|rfl|rfl|rfl|rfl|rfl<;>rfl
theorem IY [Inhabited Yt] {w : World} {base g cap : Nat} {ys : List Yt} (h : w.ownsRow base 163 10 (Sq g ys.length cap) ys.length (dB ys)) : HoldsK eK 10 w g 0 ys.toArray := by
  intro t ht;rw [size_flatK] at ht;simp only [Tv] at ht;have hth := IW h (o := 0) (m := ys.length * 10) (by omega) t ht
  rw [QO] at hth ⊢;refine ⟨?_, hth.2⟩;obtain ⟨a, cap', e, hc⟩ := jR h;simp only [QK, R8] at e;obtain ⟨rfl, rfl⟩ := e;have hd : t / 10 < ys.length := by omega
  obtain ⟨g', e, _, hj⟩ := hc (t / 10) hd;simp only [QE, RL, SC] at e;subst e;have := hj (t % 10) (Nat.mod_lt _ (by decide))
  rw [Nat.div_add_mod' t 10] at this;rw [this, get_flatK _ _ _ _ (by simpa using ht), LA ys hd]
  have hl : t % 10 < (eK (ys.getD (t / 10) Cs)).length := by rw [qt]; exact Nat.mod_lt _ (by decide)
  show (eK (ys.getD (t / 10) Cs))[t % 10]? = some ((eK (ys.getD (t / 10) Cs))[t % 10]!)
  rw [Ql hl, getElem!_pos (eK (ys.getD (t / 10) Cs)) (t % 10) hl]
theorem IZ [Inhabited Yt] {w : World} {g cap : Nat} {ys : List Yt} (h : HoldsK eK 10 w g 0 ys.toArray) : kW w (Sq g ys.length cap) ys := by
  refine ⟨_, cap, rfl, λk hk => ⟨g, rfl, ?_, λj hj => ?_⟩⟩
  · have := (h.cell (i := k) (c := 0) (by simpa using hk) (by decide)).1
    exact Qk w _ this
  · have := (h.cell (i := k) (c := j) (by simpa using hk) hj).1
    rw [QO, LA ys hk] at this;rw [this, Ql (by rw [qt]; exact hj), getElem!_pos _ _ (by rw [qt]; exact hj)]
theorem CC [Inhabited Yt] {w:World} {n g:Nat} {d:Array Yt}:cI (λb=>b=g) w (putRowK eK 10 (Sort.ahead w n) g 0 d):=by
 refine⟨rfl,rfl,rfl,by unfold putRowK;rw[Sort.size_putRow];exact Qn _,λi hi hn=>?_⟩
 unfold putRowK Sort.putRow Sort.mapBlock Sort.ahead;simp only[Array.getElem?_modify];rw[Qj (λe=>hn e.symm)]
theorem CD {w:World} {base:Nat} {v:Value} {ys:List Yt} (h:w.ownsRow base 163 10 v ys.length (dB ys)) (hl:ys.length<=1001):
 Calls prog 178 #[v] w λe w'=>e= .returned (.tuple #[])/\cI (λg=>v.ownBlock=some g) w w'/\kW w' v ys.reverse:=by
 have:Inhabited Yt:=⟨Cs⟩
 obtain⟨a,cap,ev⟩:=nT h;subst ev
 by_cases h0:ys.length=0
 ·have:ys=[]:=Rc h0
  subst this;apply(AnyQ.slices_Reverse_empty uB a cap w).mono;rintro e w' ⟨rfl,rfl⟩;exact⟨rfl,cI.refl _ _,kW.of_row h⟩
 ·obtain⟨g,c2,ev,_,_⟩:=World.ownsRow.form h (by omega)
  simp only[QK,R8] at ev;obtain⟨rfl,rfl⟩:=ev;have H:=IY h;apply(AnyQ.slices_Reverse uB 10 isAgg163 sizeOf163 eK qt IX g 0 cap ys.toArray w H (by simp;omega)).mono
  rintro e w' ⟨rfl,n,rfl⟩;refine⟨rfl,(CC (w:=w) (n:=n) (g:=g)).weak (λi _ hi=>by rw[hi];rfl),?_⟩
  have h2:=holdsK_putRowK eK 10 (Sort.ahead w n) g 0 ys.toArray ys.toArray.reverse (holdsK_ahead eK 10 w n g 0 _ H) (by simp)
  have e:ys.toArray.reverse=ys.reverse.toArray:=by simp
  rw[e] at h2⊢;have h3:=IZ (cap:=cap) h2;rw[Sj] at h3;obtain⟨a,c,e1,e2⟩:=h3;exact⟨a,c,e1,e2⟩
end
section
attribute [local go_sem ↓] Go.wp_at_zero Go.wp_at_succ
theorem iN.turn {F:Nat->Prop} {d:Nat} {w:World} {xs:List fM} {ys:List Yt} (h:iN F d w xs ys):iN F d w xs.reverse ys.reverse:=by
 have z:=h.1;refine⟨by simp[z],λj q=>?_⟩
 rw[Sj] at q;have e:∀{α:Type} (l:List α) (d:α) (j:Nat),j<l.length->l.reverse.getD j d=l.getD (l.length - 1 - j) d:=λl d j q=>by
  rw[Qi,Qi,List.getElem?_reverse q]
 rw[e _ _ _ q,e _ _ _ (by omega),z]
 exact h.2 _ (by omega)
structure xv (F:Nat->Prop) (d:Nat) (w wr:World) (v:Value) (ks:List fM) (zs:List Yt) (nm:List Bool):Prop where
 row:wr.ownsRow (w.heap.size+1) 163 10 v zs.length (dB zs)
 bel:Below w.heap.size w wr
 its:iN F d w ks zs
 nms:sM wr w.heap.size nm
 big:w.heap.size+1<=wr.heap.size
theorem xv.noted {F:Nat->Prop} {d:Nat} {w wr A:World} {v:Value} {ks:List fM} {E:List Yt} {nm z:List Bool} (h:xv F d w wr v ks E nm) (D:cI (λg=>g=w.heap.size) wr A) (G:sM A w.heap.size z):xv F d w A v ks E z:=
 ⟨cM h.row (λk q=>D.block k (h.row.lt k q).2 (λe=>by have:=(h.row.lt k q).1;omega)),h.bel.trans (D.below h.bel.size (λk _ q=>by rw[q];exact Qn _)),h.its,G,QV h.big D.size⟩
theorem xv.next {F:Nat->Prop} {d:Nat} {w q A:World} {v:Value} {ks:List fM} {z:List Yt} {nm:List Bool} {x:fM} {y:Yt} {gg cap:Nat} {o:Obj} (h:xv F d w q v ks z nm) (O:OO F d w x y)
 (E:A.ownsRow (w.heap.size+1) 163 10 (Sq gg (z.length+1) cap) (z.length+1) (dB z++eK y)) (D:(q.alloc o).grownBy A v.ownBlock):xv F d w A (Sq gg (z.length+1) cap) (ks++[x]) (z++[y]) nm:=by
 have G:=((cI.refl (λg=>v.ownBlock=some g) q).alloc _).grown D (λk R=> .inl R)
 refine⟨?_,h.bel.trans (G.below h.bel.size (λg _ U=>by have:=(h.row.lt g U).1;omega)),h.its.snoc O,⟨h.nms.1,λj I=>?_⟩,QV h.big G.size⟩
 ·rw[mP,Qt];exact E
 have J:=G.block w.heap.size (by have:=h.big;omega) (λe=>by have:=(h.row.lt _ e).1;omega)
 exact⟨by rw[Qz J];exact(h.nms.2 j I).1,by rw[Re J];exact(h.nms.2 j I).2⟩
theorem PL {w:World} {b j:Nat} {cs:Array Value} {t:TypeId} (h:w.heap[b]?=some (.cells cs t (0,0))):w.frozen? ⟨b,j,none⟩=false:=by simp[World.frozen?,h]
theorem I0 (w:World):sM (w.alloc (.cells #[.bool false,.bool false,.bool false,.bool false,.bool false,.bool false,.bool false,.bool false,.bool false,.bool false] 275)) w.heap.size Fe:=by
 have q:=Qp w (.cells #[.bool false,.bool false,.bool false,.bool false,.bool false,.bool false,.bool false,.bool false,.bool false,.bool false] 275);refine⟨rfl,λj z=>⟨?_,PL q⟩⟩
 rw[Qm _ _ j _ _ _ q];have:j=0\/j=1\/j=2\/j=3\/j=4\/j=5\/j=6\/j=7\/j=8\/j=9:=by omega
 rcases this with rfl|rfl|rfl|rfl|rfl|rfl|rfl|rfl|rfl|rfl<;>rfl
theorem I2 {F:Nat->Prop} {d:Nat} {xs:List fM} {ys:List Yt} {v:Value} {w:World} (hv:kW w v ys) (hI:iN F d w xs ys) (hl:ys.length<=1001) (hW:∀j,j<ys.length->gU d (xs.getD j mD).c/\(∃lt:List Nat,lt.length=10/\cR lt d (xs.getD j mD).c≠0)/\((xs.getD j mD).kind=11->(xs.getD j mD).wh<10)):
 Calls prog 131 #[v] w λe w'=> ∃v' ad,e= .returned v'/\kW w' v' ad/\iN F d w (iJ d xs).1 ad/\Bl w w'/\ad.length<=ys.length:=by
 obtain⟨a,cap,rfl,hq⟩:=hv;have HQ:=Hi hq;have HW:=Hi hW;have HI:Hid (iN F d w xs ys):=hI;have H0:Hid (xv F d w (w.alloc (.cells #[.bool false,.bool false,.bool false,.bool false,.bool false,.bool false,.bool false,.bool false,.bool false,.bool false] 275)) (.slice none 0 0) (iJ d (xs.drop ys.length)).1.reverse [] (iJ d (xs.drop ys.length)).2):=by
  show xv _ _ _ _ _ _ _ _;rw[QG (by rw[hI.1];exact Qn _)]
  exact⟨QX _ _ _ _,(Qq _ _).alloc (Qn _) _,iN.nil,I0 w,by simp⟩
 obtain⟨i0,hi,au,av,aw⟩:=Ry ox;clear hq hI hW;go_enter func131,ntmps131;go_wp2_with fail;go_loopw [4,5] (λvv iv wr=> ∃(k:Nat) (D:List Yt),k<=ys.length/\iv= Iq ((k:Int) - 1)/\D.length<=ys.length - k/\Hid (xv F d w wr vv (iJ d (xs.drop k)).1.reverse D (iJ d (xs.drop k)).2)) (λ_ iv _=>(intOf iv+1).toNat)
 case atStart=>exact⟨ys.length,[],Qn _,by go_num,by simp,H0.out⟩
 case round=>
  obtain⟨k,D,aE,rfl,aF,HX⟩:=hrel;cases k with
  |succ m=>
   have V:m<ys.length:=by omega
   have em:((m+1:Nat):Int) - 1=(m:Int):=by omega
   rw[em];clear em;have hX:=HX.out;obtain⟨g,rfl,ae,G⟩:=HQ.out m V;have I:=HI.out.2 m V;obtain⟨ai,⟨lt,ao,aj⟩,U⟩:=HW.out m V;have hE:iJ d (xs.drop m)=if(xs.getD m mD).kind=11/\(iJ d (xs.drop (m+1))).2.getD (xs.getD m mD).wh false=false then iJ d (xs.drop (m+1)) else((xs.getD m mD)::(iJ d (xs.drop (m+1))).1,iY d (xs.getD m mD).c (iJ d (xs.drop (m+1))).2):=by
    rw[Aj (by rw[HI.out.1];exact V) mD,iJ]
   generalize iJ d (xs.drop (m+1))=J at*;generalize xs.getD m mD=x at*;generalize ys.getD m Cs=y at*;obtain⟨A,u0,b,wh⟩:=y;have ax:=Hi I;have O:=I.kd;have ak:=I.wh;simp only[] at O ak;obtain⟨va,ap,ev⟩:=nT hX.row;obtain rfl:=ev;have af:=hX.bel;have R:∀j,j<10->wr.cell? ⟨g,m*10+j,none⟩=(eK (A,u0,b,wh))[j]?:=λj hj=>by
    rw[af.cell (p:=⟨g,m*10+j,none⟩) ae];exact G j hj
   have c0:Cq wr g (m*10) (Iq (cy A)):=R 0 (by omega)
   have c8:Cq wr g (m*10+8) (Iq wh):=R 8 (by omega)
   have c9:Cq wr g (m*10+9) (Pq b):=R 9 (by omega)
   have aG:(0:Int)<=(m:Int)/\(m:Int)<(ys.length:Int):=by omega
   have ay:Hid (gB (λg=>g=w.heap.size) d wr b x.c):=(I.tr.more (λg hg e=>by omega)).below af
   have W1:=Pw ao d ai aj ay.out hX.nms;have Y:=Hi hX;have HE:=Hi hE;have az:Hid (∀j,j<10->wr.cell? ⟨g,m*10+j,none⟩=(eK (A,u0,b,wh))[j]?):=R;have am:Hid (g<w.heap.size):=ae;clear R G hX I ae hE ai aj af;subst ak;by_cases E:x.kind=11;have aA:((cy A:Int)==11)=true:=by rw[O,E];rfl
   have aB:=U E;have n8:=(Y.out.nms.2 x.wh aB).1;have aI:(0:Int)<=(x.wh:Int)/\(x.wh:Int)<10:=by omega
   cases Z:J.2.getD x.wh false
   ·have aa:Hid (iJ d (xs.drop m)=J):=by show _=_;rw[HE.out,Qo ⟨E,Z⟩]
    rw[Z] at n8;clear O E U HE W1;go_wp2_with fail;go_roundw
    case rel=>exact⟨m,D,by omega,by go_num,by omega,by rw[aa.out];exact Y.out⟩
    case measure=>simp[intOf]
   have aa:Hid (iJ d (xs.drop m)=(x::J.1,iY d x.c J.2)):=by show _=_;rw[HE.out,Qj (λe=>by rw[Z] at e;simp at e)]
   rw[Z] at n8;rotate_left;have aA:((cy A:Int)==11)=false:=by rw[O];simp;omega
   have aa:Hid (iJ d (xs.drop m)=(x::J.1,iY d x.c J.2)):=by show _=_;rw[HE.out,Qj (λe=>E e.1)]
   all_goals
    clear O E U HE;go_wp2_with fail;apply W1.mono;rintro e q ⟨rfl,ag,an⟩;have ah:=Hi (Y.out.noted ag an);have aC:Hid (q.ownsRow (w.heap.size+1) 163 10 (.slice va D.length ap) D.length (dB D)):=ah.out.row;have aJ:=ah.out.big;have z:∀j,j<10->q.cell? ⟨g,m*10+j,none⟩=(eK (A,u0,b,(x.wh:Int)))[j]?:=λj hj=>by
     rw[Qz (w:=wr) (a:=⟨g,m*10+j,none⟩) (ag.block g (by have:=Y.out.bel.size;have:=am.out;omega) (λe=>by have:=am.out;omega))];exact az.out j hj
    have d0:Cq q g (m*10) (Iq (cy A)):=z 0 (by omega)
    have d1:Cq q g (m*10+1) (Iq A.pl):=z 1 (by omega)
    have d2:Cq q g (m*10+2) (Iq (cV A)):=z 2 (by omega)
    have d3:Cq q g (m*10+3) (S (cE A)):=z 3 (by omega)
    have d4:Cq q g (m*10+4) (Iq (cy u0)):=z 4 (by omega)
    have d5:Cq q g (m*10+5) (Iq u0.pl):=z 5 (by omega)
    have d6:Cq q g (m*10+6) (Iq (cV u0)):=z 6 (by omega)
    have d7:Cq q g (m*10+7) (S (cE u0)):=z 7 (by omega)
    have d8:Cq q g (m*10+8) (Iq (x.wh:Nat)):=z 8 (by omega)
    have d9:Cq q g (m*10+9) (Pq b):=z 9 (by omega)
    clear W1 ag an z c0 c8 c9;go_wp2_with (at_builtin;go_must (refine wpList_append_lies _ (by rfl) _ _ 84 (by rfl) (w.heap.size+1) 163 i0 (.agg #[Iq 0,Iq 0,Iq 0,.string ⟨#[]⟩,Iq 0,Iq 0,Iq 0,.string ⟨#[]⟩,Iq 0,.pointer none]) 10 96 underlying84 hi au av aw (by rfl) (by decide) _ _ _ (by rfl) (aC.out.alloc _) ⟨q.heap.size,0,none⟩ 1 1 [Iq (cy A),Iq A.pl,Iq (cV A),S (cE A),Iq (cy u0),Iq u0.pl,Iq (cV u0),S (cE u0),Iq (x.wh:Nat),Pq b] (by rfl) (by rfl) (World.news_of_block (Qp q _)) (λx hx=>by simp at hx;rcases hx with rfl|rfl|rfl|rfl|rfl|rfl|rfl|rfl|rfl|rfl<;>rfl) (by decide) (by unfold maxLen;omega) (by omega) (by simp;omega) _ rfl ?_);intro gg aq w5 ab ac aD ar;have HN:Hid (xv F d w w5 (Sq gg (D.length+1) aq) (J.1.reverse++[x]) (D++[(A,u0,b,(x.wh:Int))]) (iY d x.c J.2)):=ah.out.next ax.out ab ac;clear ab ac aD ar)
    go_roundw
    case rel=>exact⟨m,D++[(A,u0,b,(x.wh:Int))],by omega,by go_num,by simp;omega,by rw[aa.out];simp only[RI];exact HN.out⟩
    case measure=>simp[intOf]
  |zero=>
   have HR:Hid (xv F d w wr u4 (iJ d xs).1.reverse D (iJ d xs).2):=HX.out;have W1:=CD HR.out.row (by omega)
   clear HX;go_wp2_with fail;apply W1.mono;rintro e q ⟨rfl,ho,hr⟩;have HF:Hid (kW q u4 D.reverse/\iN F d w (iJ d xs).1 D.reverse/\Bl w q):=by
    refine⟨hr,?_,HR.out.bel.trans (ho.below HR.out.bel.size (λk _ hk=>by have:=(HR.out.row.lt k hk).1;omega))⟩
    have:=HR.out.its.turn;rwa [List.reverse_reverse] at this
   clear ho hr W1;go_wp2;go_ret;exact⟨_,D.reverse,rfl,HF.out.1,HF.out.2.1,HF.out.2.2,by rw[Sj];omega⟩
end
section
def Gx (F:Nat->Prop) (U:Nat) (lv V:Value) (E:Nat->Prop) (g:Nat):Prop:=E g\/g=U\/lv.ownBlock=some g\/V.ownBlock=some g\/F g
structure qS (F:Nat->Prop) (n:Int) (d:Nat) (w wr:World) (lv kv:Value) (lets:List Tr) (bs:List Nat) (ks:List fM) (zs:List Yt) (E:Nat->Prop):Prop where
 blk:wr.heap[w.heap.size]?=some (.cells #[Iq n,lv] 237 (0,0))
 len:bs.length=lets.length
 lrow:wr.ownsRow (w.heap.size+1) 161 1 lv lets.length (jM bs)
 krow:wr.ownsRow (w.heap.size+1) 163 10 kv zs.length (dB zs)
 bel:Below w.heap.size w wr
 ltr:∀j,j<lets.length->gB (Gx F w.heap.size lv kv E) d wr (bs.getD j 0) (lets.getD j fQ)
 its:iN (Gx F w.heap.size lv kv E) d wr ks zs
 old:∀g,F g->g<w.heap.size
 off:∀g,E g->w.heap.size+1<=g/\g<wr.heap.size/\lv.ownBlock≠some g/\kv.ownBlock≠some g
variable {F : Nat -> Prop} {n : Int} {d : Nat} {w wr w1 w5 : World} {lv kv : Value} {lets : List Tr} {bs : List Nat} {ks : List fM} {zs : List Yt} {E : Nat -> Prop}
theorem qS.big (h:qS F n d w wr lv kv lets bs ks zs E):w.heap.size+1<=wr.heap.size:=be h.blk
theorem qS.apart (h:qS F n d w wr lv kv lets bs ks zs E) {g:Nat} (h1:lv.ownBlock=some g):kv.ownBlock≠some g:=λh2=>by
 obtain⟨c1,e1⟩:=cK h.lrow h1;obtain⟨c2,e2⟩:=cK h.krow h2;rw[e1] at e2;simp at e2
theorem qS.lt (h:qS F n d w wr lv kv lets bs ks zs E):∀g,Gx F w.heap.size lv kv E g->g<wr.heap.size:=λg hg=>by
 have:=h.big;rcases hg with hg|hg|hg|hg|hg
 ·exact(h.off g hg).2.1
 ·omega
 ·exact(h.lrow.lt g hg).2
 ·exact(h.krow.lt g hg).2
 have:=h.old g hg;omega
theorem qS.ge (h:qS F n d w wr lv kv lets bs ks zs E):∀g,Gx F w.heap.size lv kv E g->w.heap.size<=g\/F g:=λg hg=>by
 rcases hg with hg|hg|hg|hg|hg
 ·have:=(h.off g hg).1;omega
 ·omega
 ·have:=(h.lrow.lt g hg).1;omega
 ·have:=(h.krow.lt g hg).1;omega
 exact .inr hg
theorem qS.below (h:qS F n d w wr lv kv lets bs ks zs E) (hb:Bl wr w1):qS F n d w w1 lv kv lets bs ks zs E:=
 ⟨(hb.block _ (be h.blk)).trans h.blk,h.len,cD h.lrow hb,cD h.krow hb,h.bel.trans (hb.mono h.bel.size),λj hj=>(h.ltr j hj).below hb,h.its.map (λ_ _ t=>t.below hb),h.old,λg hg=>by
  obtain⟨a,b,c⟩:=h.off g hg;exact⟨a,Rh b hb.size,c⟩⟩
theorem qS.item (h:qS F n d w wr lv kv lets bs ks zs (λ_=>False)) (o:Obj):qS F n d w (wr.alloc o) lv kv lets bs ks zs (λg=>g=wr.heap.size):=by
 have hb:Bl wr (wr.alloc o):=(Qq _ _).alloc (Qn _) _;have hg:∀g,g<wr.heap.size->Gx F w.heap.size lv kv (λg=>g=wr.heap.size) g->Gx F w.heap.size lv kv (λ_=>False) g:=λg hg hx=>by
  rcases hx with hx|hx
  ·omega
  exact .inr hx
 refine⟨(hb.block _ (be h.blk)).trans h.blk,h.len,cD h.lrow hb,cD h.krow hb,h.bel.trans (hb.mono h.bel.size),λj hj=>((h.ltr j hj).more hg).below hb,h.its.map (λ_ _ t=>(t.more hg).below hb),h.old,λg e=>?_⟩
 subst e;exact⟨h.big,by simp,λe=>by have:=(h.lrow.lt _ e).2;omega,λe=>by have:=(h.krow.lt _ e).2;omega⟩
theorem qS.only (h:qS F n d w wr lv kv lets bs ks zs E) (ho:cI E wr w1):qS F n d w w1 lv kv lets bs ks zs E:=by
 have hg:cI (Gx F w.heap.size lv kv E) wr w1:=ho.weak (λi _ hi=> .inl hi)
 refine⟨(ho.block _ (be h.blk) (λe=>by have:=(h.off _ e).1;omega)).trans h.blk,h.len,cM h.lrow (λk hk=>ho.block k (h.lrow.lt k hk).2 (λe=>(h.off _ e).2.2.1 hk)),cM h.krow (λk hk=>ho.block k (h.krow.lt k hk).2 (λe=>(h.off _ e).2.2.2 hk)),h.bel.trans (ho.below h.bel.size (λk _ hk=>by have:=(h.off k hk).1;omega)),λj hj=>(h.ltr j hj).only hg,h.its.map (λ_ _ t=>t.only hg),h.old,λg hg=>?_⟩
 obtain⟨a,b,c⟩:=h.off g hg;exact⟨a,Rh b ho.size,c⟩
theorem qS.free (h:qS F n d w wr lv kv lets bs ks zs E):qS F n d w wr lv kv lets bs ks zs (λ_=>False):=by
 have hg:∀g,g<wr.heap.size->Gx F w.heap.size lv kv (λ_=>False) g->Gx F w.heap.size lv kv E g:=λg _ hx=>by
  rcases hx with hx|hx
  ·exact hx.elim
  exact .inr hx
 exact⟨h.blk,h.len,h.lrow,h.krow,h.bel,λj hj=>(h.ltr j hj).more hg,h.its.map (λ_ _ t=>t.more hg),h.old,λg e=>e.elim⟩
theorem qS.rw (h:qS F n d w wr lv kv lets bs ks zs E):sK (Gx F w.heap.size lv kv E) wr w.heap.size n lv (λj=>bs.getD j 0) d lets:=by
 refine⟨Qm wr _ 0 _ _ _ h.blk,Qm wr _ 1 _ _ _ h.blk,?_,h.ltr⟩;obtain⟨va,vcap,ev⟩:=nT h.lrow;subst ev;refine⟨va,vcap,rfl,λj hj=>?_⟩
 obtain⟨g,c2,ev,_,_⟩:=World.ownsRow.form h.lrow (by omega)
 simp only[QK,R8] at ev;obtain⟨rfl,rfl⟩:=ev;refine⟨g,rfl,λhx=>hx,?_⟩
 rw[Rs h.lrow j (by omega)]
 unfold jM;show(bs.map λb=>(Value.pointer (some ⟨b,0,none⟩)))[j]?=some (Value.pointer (some ⟨bs.getD j 0,0,none⟩))
 rw[QN,Qi,Ql (by rw[h.len];exact hj)]
 rfl
end
section
variable {F : Nat -> Prop} {n : Int} {d : Nat} {w wr w1 w5 : World} {lv kv : Value} {lets : List Tr} {bs : List Nat} {ks : List fM} {zs : List Yt} {E : Nat -> Prop}
theorem CE {F G:Nat->Prop} {gg:Nat} (ho:cI F w1 w5) (hat:F gg\/w1.heap.size<=gg) (hG:∀g,G g->F g\/g=gg) {b:Nat} {t:Tr} (h:gB F d w1 b t):gB G d w5 b t:=by
 have h1:gB (λg=>F g\/g=gg) d w1 b t:=h.more (λg hg hx=>by
  rcases hx with hx|hx
  ·exact hx
  subst hx;rcases hat with h2|h2
  ·exact h2
  omega)
 exact(h1.only (ho.weak (λi _ hi=> .inl hi))).more (λg _ hx=>hG g hx)
theorem qS.addLet (h:qS F n d w w1 lv kv lets bs ks zs E) {o:Obj} {gg cap b':Nat} {c:Tr} (ht:gB (Gx F w.heap.size lv kv E) d w1 b' c)
 (hown:w5.ownsRow (w.heap.size+1) 161 1 (Sq gg (lets.length+1) cap) (lets.length+1) (jM bs++[Pq b'])) (hgrow:(w1.alloc o).grownBy w5 lv.ownBlock) (hat:lv.ownBlock=some gg\/gg=w1.heap.size+1):
 qS F n d w (w5.setCell ⟨w.heap.size,1,none⟩ (Sq gg (lets.length+1) cap)) (Sq gg (lets.length+1) cap) kv (lets++[c]) (bs++[b']) ks zs E:=by
 have ho5:cI (λg=>lv.ownBlock=some g) w1 w5:=((cI.refl (λg=>lv.ownBlock=some g) w1).alloc _).grown hgrow (λk hk=> .inl hk)
 have hl5:=ho5.block _ (be h.blk) (λe=>by have:=(h.lrow.lt _ e).1;omega)
 have ho:cI (λg=>g=w.heap.size\/lv.ownBlock=some g) w1 (w5.setCell ⟨w.heap.size,1,none⟩ (Sq gg (lets.length+1) cap)):=(ho5.weak (λi _ hi=> .inr hi)).setCell (.inl (.inl rfl)) _
 have hoG:cI (Gx F w.heap.size lv kv E) w1 (w5.setCell ⟨w.heap.size,1,none⟩ (Sq gg (lets.length+1) cap)):=ho.weak (λi _ hi=>by
  rcases hi with hi|hi
  ·exact .inr (.inl hi)
  exact .inr (.inr (.inl hi)))
 have hgw:=(hown.lt gg rfl).1;have step:∀{b} {t},gB (Gx F w.heap.size lv kv E) d w1 b t->gB (Gx F w.heap.size (Sq gg (lets.length+1) cap) kv E) d (w5.setCell ⟨w.heap.size,1,none⟩ (Sq gg (lets.length+1) cap)) b t:=λ{b t} hx=>by
  refine CE (gg:=gg) hoG ?_ ?_ hx
  ·rcases hat with e|e
   ·exact .inl (.inr (.inr (.inl e)))
   right;omega
  intro g hg;rcases hg with hg|hg|hg|hg|hg
  ·exact .inl (.inl hg)
  ·exact .inl (.inr (.inl hg))
  ·right;simp[Value.ownBlock] at hg;exact hg.symm
  ·exact .inl (.inr (.inr (.inr (.inl hg))))
  exact .inl (.inr (.inr (.inr (.inr hg))))
 refine⟨?_,by simp[h.len],?_,?_,?_,?_,?_,h.old,?_⟩
 ·rw[QB w5 w.heap.size 1 _ _ _ (hl5.trans h.blk)];rfl
 ·have h2:=Rg hown (a:=⟨w.heap.size,1,none⟩) (by
   intro e;simp[Value.ownBlock] at e;omega) (Sq gg (lets.length+1) cap)
  unfold jM at h2⊢;rw[Qt,QU];exact h2
 ·exact cM h.krow (λk hk=>ho.block k (h.krow.lt k hk).2 (λe=>by
   rcases e with e|e
   ·have:=(h.krow.lt k hk).1;omega
   exact h.apart e hk))
 ·exact h.bel.trans (ho.below h.bel.size (λk _ hk=>by
   rcases hk with hk|hk
   ·omega
   have:=(h.lrow.lt k hk).1;omega))
 ·intro j hj;by_cases e:j<lets.length
  ·rw[kh e,kh (by rw[h.len];exact e)]
   exact step (h.ltr j e)
  have e2:j=lets.length:=by simp at hj;omega
  subst e2;have e3:(bs++[b']).getD lets.length 0=b':=by rw[<-h.len];exact iA
  rw[iA,e3];exact step ht
 ·exact h.its.map (λ_ _ t=>step t)
 intro g hg;obtain⟨a,b,c,e⟩:=h.off g hg;refine⟨a,Rh b ho.size,λq=>?_,e⟩
 simp[Value.ownBlock] at q;subst q;rcases hat with q|q
 ·exact c q
 omega
theorem qS.keep (h:qS F n d w w1 lv kv lets bs ks zs E) {o:Obj} {gg cap:Nat} {x:fM} {y:Yt} (ht:OO (Gx F w.heap.size lv kv E) d w1 x y)
 (hown:w5.ownsRow (w.heap.size+1) 163 10 (Sq gg (zs.length+1) cap) (zs.length+1) (dB zs++eK y)) (hgrow:(w1.alloc o).grownBy w5 kv.ownBlock) (hat:kv.ownBlock=some gg\/gg=w1.heap.size+1):
 qS F n d w w5 lv (Sq gg (zs.length+1) cap) lets bs (ks++[x]) (zs++[y]) E:=by
 have ho:cI (λg=>kv.ownBlock=some g) w1 w5:=((cI.refl (λg=>kv.ownBlock=some g) w1).alloc _).grown hgrow (λk hk=> .inl hk)
 have hoG:cI (Gx F w.heap.size lv kv E) w1 w5:=ho.weak (λi _ hi=> .inr (.inr (.inr (.inl hi))))
 have step:∀{b} {t},gB (Gx F w.heap.size lv kv E) d w1 b t->gB (Gx F w.heap.size lv (Sq gg (zs.length+1) cap) E) d w5 b t:=λ{b t} hx=>by
  refine CE (gg:=gg) hoG ?_ ?_ hx
  ·rcases hat with e|e
   ·exact .inl (.inr (.inr (.inr (.inl e))))
   right;omega
  intro g hg;rcases hg with hg|hg|hg|hg|hg
  ·exact .inl (.inl hg)
  ·exact .inl (.inr (.inl hg))
  ·exact .inl (.inr (.inr (.inl hg)))
  ·right;simp[Value.ownBlock] at hg;exact hg.symm
  exact .inl (.inr (.inr (.inr (.inr hg))))
 refine⟨(ho.block _ (be h.blk) (λe=>by have:=(h.krow.lt _ e).1;omega)).trans h.blk,h.len,cM h.lrow (λk hk=>ho.block k (h.lrow.lt k hk).2 (λe=>h.apart hk e)),?_,h.bel.trans (ho.below h.bel.size (λk _ hk=>by have:=(h.krow.lt k hk).1;omega)),λj hj=>step (h.ltr j hj),?_,h.old,?_⟩
 ·rw[mP,Qt];exact hown
 ·exact(h.its.map (λ_ _ t=>step t)).snoc ⟨ht.kd,ht.wh,step ht.tr⟩
 intro g hg;obtain⟨a,b,c,e⟩:=h.off g hg;refine⟨a,Rh b ho.size,c,λq=>?_⟩
 simp[Value.ownBlock] at q;subst q;rcases hat with q|q
 ·exact e q
 omega
theorem Nc {p:mW} {d:Nat} {fl:List Int} (Z:dL fl) {x:fM} {r:List fM} {lets:List Tr} {m:Nat} {lt lt':List Nat} {lv lv':List Int} (h:r9 p lets m lt lt' lv lv' fl) (E:qc d lt (x::r)) (z:ot m (x::r)):
 ∃J U lv2 V,r9 p (if x.kind=11 then lets++[kF p lets d x.c] else lets) (if x.kind=11 then m+1 else m) J U lv2 V fl/\qc d J r/\ot (if x.kind=11 then m+1 else m) r:=by
 obtain⟨I,O,hk⟩:=E;have Y:=vV h.ok h.has' Z I O;have hv:=tm h.has Z I O;rcases hk with⟨D,R,E⟩|⟨ac,ad,R,E⟩
 ·have z:x.wh=m/\ot (m+1) r:=by
   rcases z with z|z
   ·exact z.2
   exact absurd D z.1
  obtain⟨hm,z⟩:=z;rw[hm] at R E;have ae:=h.llt;obtain⟨n1,n2⟩:=uk h (by omega) (c:=kF p lets d x.c) (ty:=cR lt d x.c) (v:=fT lv fl d x.c) (λhs _=>by
   have G:gU 1 (kF p lets d x.c):=by
    cases d with
    |zero=>exact I.elim
    |succ d=>exact⟨Y.wf.1,by rw[hs];simp⟩
   have hd:1<=d:=by
    cases d with
    |zero=>exact I.elim
    |succ d=>omega
   refine⟨G,?_,?_⟩
   ·rw[<-mO G hd,Y.ty]
   rw[<-pn G hd,Y.ev]) hv
  rw[Qo D,Qo D];by_cases hi:p.inl=true/\(kF p lets d x.c).kids=[]
  ·exact⟨_,_,_,_,n1 hi,E,z⟩
  exact⟨_,_,_,_,n2 hi,E,z⟩
 have D:x.kind≠11:=by omega
 have z:ot m r:=by
  rcases z with z|z
  ·exact absurd z.1 D
  exact z.2
 rw[Qj D,Qj D];exact⟨_,_,_,_,h,E,z⟩
theorem Oy {z:Int} {fl:List Int} (D:dL fl) {lets:List Tr} {m:Nat} {lt lt':List Nat} {lv lv':List Int} (h:r9 (cP z) lets m lt lt' lv lv' fl) (E:lets.length<=1000):Ov z lets lt lt' lv lv' fl:=
 ⟨h.ok,h.has',D,λi G=>by
  by_cases e:i<lets.length
  ·exact e
  exact absurd (h.late i (by rw[<-h.len];omega)) G,E⟩
end
section
attribute [local go_sem ↓] Go.wp_at_zero Go.wp_at_succ
structure PZ (F:Nat->Prop) (n:Int) (d:Nat) (fl:List Int) (xs:List fM) (w wr:World) (lv kv:Value) (lets:List Tr) (bs:List Nat) (ks:List fM) (zs:List Yt) (k:Nat):Prop where
 mem:qS F n d w wr lv kv lets bs ks zs (λ_=>False)
 zk:zs.length<=k
 lk:lets.length<=k
 inv:∃m lt lt' lvs lvs',r9 (cP n) lets m lt lt' lvs lvs' fl/\qc d lt (xs.drop k)/\ot m (xs.drop k)
 eq:ks++tu (cP n) d lets (xs.drop k)=tu (cP n) d [] xs
theorem LC {F:Nat->Prop} {n:Int} {d:Nat} {fl:List Int} {xs:List fM} {w:World} (z:∀g,F g->g<w.heap.size) (A:qc d eN xs) (D:ot 0 xs):PZ F n d fl xs w (w.alloc (.cells #[Iq n,.slice none 0 0] 237)) (.slice none 0 0) (.slice none 0 0) [] [] [] [] 0:=by
 have q:∀i,eN.getD i 0≠0->False:=λi h=>h (iZ i)
 refine⟨⟨Qp w _,rfl,QX _ _ _ _,QX _ _ _ _,(Qq _ _).alloc (Qn _) _,λj E=>by simp at E,iN.nil,z,λg e=>e.elim⟩,Qn _,Qn _,⟨0,eN,eN,lI,lI,⟨⟨λi h=>(q i h).elim,λi h=>(q i h).elim⟩,λi h=>(q i h).elim,λi h=>(q i h).elim,rfl,λi _=>iZ i,rfl,rfl,rfl,rfl,λi h=>(q i h).elim⟩,A,D⟩,rfl⟩
theorem FJ {F:Nat->Prop} {n:Int} {d:Nat} {w z q:World} {lv V:Value} {lets:List Tr} {Y:List Nat} {ks:List fM} {Z:List Yt} {E:Nat->Prop} {o:Obj} (h:qS F n d w z lv V lets Y ks Z E) (A:(z.alloc o).grownBy q lv.ownBlock):Cq q w.heap.size 1 lv/\q.frozen? ⟨w.heap.size,1,none⟩=false:=by
 have O:=((cI.refl (λg=>lv.ownBlock=some g) z).alloc _).grown A (λk hk=> .inl hk)
 have R:=(O.block _ (be h.blk) (λe=>by have:=(h.lrow.lt _ e).1;omega)).trans h.blk
 exact⟨Qm q _ 1 _ _ _ R,PL R⟩
theorem LD {F:Nat->Prop} {n:Int} {d:Nat} {w q A:World} {lv G:Value} {lets:List Tr} {I:List Nat} {ks:List fM} {J:List Yt} {E:Nat->Prop} {o:Obj} (_h:qS F n d w q lv G lets I ks J E) (z:(q.alloc o).grownBy A lv.ownBlock) {it:Nat} (O:it<q.heap.size) (R:lv.ownBlock≠some it):A.heap[it]?=q.heap[it]?:=by
 have D:=((cI.refl (λg=>lv.ownBlock=some g) q).alloc _).grown z (λk U=> .inl U)
 exact D.block it O R
theorem LF {F:Nat->Prop} {n:Int} {d:Nat} {w z:World} {lv A:Value} {lets:List Tr} {q:List Nat} {ks:List fM} {D:List Yt} {E:Nat->Prop} {c:Tr} {b:Nat} (h:qS F n d w z lv A (lets++[c]) (q++[b]) ks D E):gB (Gx F w.heap.size lv A E) d z b c:=by
 have:=h.ltr lets.length (by simp)
 have G:q.length=lets.length:=by have:=h.len;simpa using this
 have I:(q++[b]).getD lets.length 0=b:=by rw[<-G];exact iA
 rw[iA,I] at this;exact this
theorem ub {d:Nat}:∀{l:List fM} {lt:List Nat},qc d lt l->lt.length=10-> ∀j,j<l.length->gU d (l.getD j mD).c/\(∃lt:List Nat,lt.length=10/\cR lt d (l.getD j mD).c≠0)/\((l.getD j mD).kind=11->(l.getD j mD).wh<10)
 |[],lt,_,_,j,D=>by simp at D
 |x::r,lt,h,z,j,D=>by
  obtain⟨J,E,G⟩:=h;cases j with
  |zero=>
   refine⟨J,⟨lt,z,E⟩,λI=>?_⟩
   have O:x.kind=11:=I;rcases G with⟨_,q,_⟩|⟨q,_⟩
   ·rw[z] at q;exact q
   omega
  |succ j=>
   have A:j<r.length:=by simpa using D
   rcases G with⟨_,_,q⟩|⟨_,_,_,q⟩
   ·exact ub q (by simpa using z) j A
   exact ub q z j A
theorem CF {F:Nat->Prop} {n:Int} {d:Nat} {fl:List Int} (hF:dL fl) {xs:List fM} {ys:List Yt} {v:Value} {w:World} (hv:kW w v ys) (hI:iN F d w xs ys) (aT:∀g,F g->g<w.heap.size) (hl:ys.length<=1000) (U:qc d eN xs) (hS:ot 0 xs):
 Calls prog 91 #[v,Iq n] w λe w'=> ∃v' aH,e= .returned v'/\kW w' v' aH/\iN F d w' (po (cP n) d xs) aH/\Bl w w'/\aH.length<=ys.length:=by
 obtain⟨a,cap,rfl,hq⟩:=hv;have HQ:=Hi hq;have HI:Hid (iN F d w xs ys):=hI;have HF:Hid (dL fl):=hF;have H0:Hid (PZ F n d fl xs w (w.alloc (.cells #[Iq n,.slice none 0 0] 237)) (.slice none 0 0) (.slice none 0 0) [] [] [] [] 0):=LC aT U hS;have aU:=Hi (And.intro U hS);obtain⟨i0,hi,aV,aW,aX⟩:=Ry ox;obtain⟨j0,hj,br,bt,bu⟩:=Ry yU;clear hq hI U hS hF aT;go_enter func91,ntmps91;go_wp2_with fail;go_loopw [6,14] (λkv iv wr=> ∃(k:Nat) (lv:Value) (lets:List Tr) (bs:List Nat) (ks:List fM) (V:List Yt),k<=ys.length/\iv= Iq k/\Hid (PZ F n d fl xs w wr lv kv lets bs ks V k)) (λ_ iv _=>ys.length - (intOf iv).toNat)
 case atStart=>exact⟨0,_,_,_,_,_,QA _,rfl,H0.out⟩
 case round=>
  obtain⟨k,lv,lets,bs,ks,V,bG,rfl,HX⟩:=hrel;by_cases aI:k<ys.length
  ·have G:=HX.out;have hE:=G.eq;obtain⟨mm,lt,lt',bH,bF,aw,U,aJ⟩:=G.inv;obtain⟨g,rfl,aY,ao⟩:=HQ.out k aI;have ap:=HI.out.2 k aI;have bI:=G.lk;have bJ:=G.zk;rw[Aj (by rw[HI.out.1];exact aI) mD] at hE U aJ
   obtain⟨aK,aZ⟩:∃aK,∃aq ai aB aj,r9 (cP n) (if(xs.getD k mD).kind=11 then lets++[kF (cP n) lets d (xs.getD k mD).c] else lets) aK aq ai aB aj fl/\qc d aq (xs.drop (k+1))/\ot aK (xs.drop (k+1)):=⟨_,Nc HF.out aw U aJ⟩;have a0:=Hi aZ;generalize xs.getD k mD=x at*;generalize ys.getD k Cs=y at*;obtain⟨z,u0,b,wh⟩:=y;have bK:=Hi ap;have aL:=ap.kd;have a8:=ap.wh;simp only[] at aL a8;subst a8;have ah:=Hi aL;clear aL;obtain⟨va,ax,ev⟩:=nT G.mem.krow;obtain rfl:=ev;obtain⟨la,ak,ev⟩:=nT G.mem.lrow;obtain rfl:=ev;have a9:=G.mem.bel;have I:∀j,j<10->wr.cell? ⟨g,k*10+j,none⟩=(eK (z,u0,b,(x.wh:Int)))[j]?:=λj hj=>by
    rw[a9.cell (p:=⟨g,k*10+j,none⟩) aY];exact ao j hj
   have c0:wr.cell? ⟨g,k*10,none⟩=some (Iq (cy z)):=I 0 (by omega)
   have c1:wr.cell? ⟨g,k*10+1,none⟩=some (Iq z.pl):=I 1 (by omega)
   have c2:wr.cell? ⟨g,k*10+2,none⟩=some (Iq (cV z)):=I 2 (by omega)
   have c3:wr.cell? ⟨g,k*10+3,none⟩=some (S (cE z)):=I 3 (by omega)
   have c4:wr.cell? ⟨g,k*10+4,none⟩=some (Iq (cy u0)):=I 4 (by omega)
   have c5:wr.cell? ⟨g,k*10+5,none⟩=some (Iq u0.pl):=I 5 (by omega)
   have c6:wr.cell? ⟨g,k*10+6,none⟩=some (Iq (cV u0)):=I 6 (by omega)
   have c7:wr.cell? ⟨g,k*10+7,none⟩=some (S (cE u0)):=I 7 (by omega)
   have c8:wr.cell? ⟨g,k*10+8,none⟩=some (Iq (x.wh:Nat)):=I 8 (by omega)
   have c9:wr.cell? ⟨g,k*10+9,none⟩=some (Pq b):=I 9 (by omega)
   have bL:(0:Int)<=(k:Int)/\(k:Int)<(ys.length:Int):=by omega
   have am:(wr.alloc (fN z u0 (x.wh:Int) (Pq b))).heap[wr.heap.size]?=some (fN z u0 (x.wh:Int) (Pq b)):=Qp wr _;have ac:=G.mem.item (fN z u0 (x.wh:Int) (Pq b));unfold fN at am ac;generalize ba:wr.alloc (.cells #[Iq (cy z),Iq z.pl,Iq (cV z),S (cE z),Iq (cy u0),Iq u0.pl,Iq (cV u0),S (cE u0),Iq (x.wh:Nat),Pq b] 163 (0,0))=w1 at*;have bb:=Hi ba;have bc:gB (Gx F w.heap.size (.slice la lets.length ak) (.slice va V.length ax) (λg=>g=wr.heap.size)) d w1 b x.c:=(ap.tr.more (λg hg hx=>by rcases ac.ge g hx with q|q;omega;exact q)).below ac.bel
   have W1:=Lt (Oy HF.out aw (by omega)) d d ac.lt ac.rw U.1 U.2.1 bc
   have bd:=Hi ac;have ad:=Hi am;have HE:=Hi hE;obtain⟨⟨z0,z1,z2,z3,z4,z5,z6,z7,z8,z9⟩,zf⟩:=dI am;clear I ao G a9 ap am HX aY ba hE aZ aw U aJ ac bc;go_upto_region 6 with fail;rw[bb.out];go_upto_region 7 with(first|(go_at_call 128;refine W1.mono ?_;rintro e w2 ⟨⟨b',rfl,bf⟩,ar⟩;have q9:w2.cell? ⟨wr.heap.size,9,none⟩=some (Pq b):=by{rw[ar.cell (p:=⟨wr.heap.size,9,none⟩) (be ad.out)];exact z9};have qf:w2.frozen? ⟨wr.heap.size,9,none⟩=false:=by{rw[Re (w:=w1) (a:=⟨wr.heap.size,9,none⟩) (ar.block _ (be ad.out))];exact zf 9}))
   have aa:=(bd.out.below ar).only ((cI.refl (λg=>g=wr.heap.size) w2).setCell (o:=9) (.inl rfl) (Pq b'))
   have au:=bf.only (((cI.refl (λg=>g=wr.heap.size) w2).setCell (o:=9) (.inl rfl) (Pq b')).weak (λi _ hi=>Or.inl hi))
   have ae:(w2.setCell ⟨wr.heap.size,9,none⟩ (Pq b')).heap[wr.heap.size]?=some (.cells #[Iq (cy z),Iq z.pl,Iq (cV z),S (cE z),Iq (cy u0),Iq u0.pl,Iq (cV u0),S (cE u0),Iq (x.wh:Nat),Pq b'] 163 (0,0)):=by
    rw[QB w2 wr.heap.size 9 _ _ _ ((ar.block _ (be ad.out)).trans ad.out)];rfl
   generalize w2.setCell ⟨wr.heap.size,9,none⟩ (Pq b')=J at*;clear z0 z1 z2 z3 z4 z5 z6 z7 z8 z9 zf c0 c1 c2 c3 c4 c5 c6 c7 c8 c9 q9 qf W1 bf ar bd ad bb;obtain⟨⟨s0,s1,s2,s3,s4,s5,s6,s7,s8,s9⟩,sf⟩:=dI ae;have bv:=Hi aa;have bw:=Hi au;have an:=Hi ae;by_cases O:x.kind=11
   ·have bx:((cy z:Int)==11)=true:=by rw[ah.out,O];rfl
    have Z:=Hi a0.out;rw[Qo O] at Z;have hD:Bl J J.drew:=(Qq _ _).drew;have R:=Hi (aa.below hD);have bp:=Hi (au.below hD);have bz:Hid (J.drew.ownsRow (w.heap.size+1) 161 1 (.slice la lets.length ak) lets.length (jM bs)):=R.out.lrow;have r1:=Qm J _ 1 _ _ _ aa.blk;have rf:J.frozen? ⟨w.heap.size,1,none⟩=false:=PL aa.blk;have bM:=aa.big;have aC:Hid (tu (cP n) d lets (x::List.drop (k+1) xs)=if iT n 1=true/\(kF (cP n) lets d x.c).kids=[] then tu (cP n) d (lets++[kF (cP n) lets d x.c]) (List.drop (k+1) xs) else⟨x.kind,x.wh,kF (cP n) lets d x.c⟩::tu (cP n) d (lets++[kF (cP n) lets d x.c]) (List.drop (k+1) xs)):=by
     show _=_;rw[tu,Qo O];by_cases q:iT n 1=true/\(kF (cP n) lets d x.c).kids=[]
     ·rw[Qo q,Qo ⟨q.1,O,q.2⟩]
     rw[Qj q,Qj (λe=>q ⟨e.1,e.2.2⟩)]
    have aM:Hid (decide (cy z=11)=true):=by show _=_;rw[ah.out];exact QZ O
    have pa:w.heap.size<J.heap.size:=by omega
    have ia:=be ae;clear aa au ae O hD;go_upto_region 8 with fail;go_region_law (first
     |(refine step_append_lies _ (by rfl) _ _ _ (by rfl) (w.heap.size+1) 161 j0 _ 1 8 underlying227 hj br bt bu (by rfl) (by decide) (.slice la lets.length ak) lets.length (jM bs) (by rfl) (World.ownsRow.alloc bz.out _) ⟨J.heap.size,0,none⟩ 1 1 [Pq b'] (by rfl) (by rfl) (World.news_of_block (Qp J.drew _)) (λx hx=>by simp at hx;rcases hx with rfl;rfl) (by decide) (by unfold maxLen;omega) (by omega) (by simp;omega) (J.heap.size+1) (by simp) ?_;intro aN ay w5 D A ab af;have y1:=(FJ R.out A).1;have yf:=(FJ R.out A).2;have bA:Hid _:=LD R.out A (be an.out) (R.out.off _ rfl).2.2.1;have aD:Hid _:=R.out.addLet bp.out D A (by rcases ab with h|h;exact .inl h;right;rw[h];rfl);clear D A ab af))
    all_goals
     have az:(w5.setCell ⟨w.heap.size,1,none⟩ (Sq aN (lets.length+1) ay)).heap[wr.heap.size]?=_:=(Qr _ _ _ _ (by have:=(R.out.off _ rfl).1;simp only[];omega)).trans (bA.out.trans an.out)
     have aO:=Hi az;generalize w5.setCell ⟨w.heap.size,1,none⟩ (Sq aN (lets.length+1) ay)=w6 at*;generalize Value.slice (some ⟨aN,0,none⟩) (lets.length+1) ay=bN at*;have bg:=Hi (LF aD.out);have W2:=uA (kd:=cy z) (wh:=x.wh) (a1:= Iq z.pl) (a2:= Iq (cV z)) (a3:=S (cE z)) (a4:= Iq (cy u0)) (a5:= Iq u0.pl) (a6:= Iq (cV u0)) (a7:=S (cE u0)) rfl rfl rfl rfl rfl rfl rfl aD.out.rw bg.out;rw[aM.out,SA] at W2;clear s0 s1 s2 s3 s4 s5 s6 s7 s8 s9 sf r1 rf y1 yf;obtain⟨⟨s0,s1,s2,s3,s4,s5,s6,s7,s8,s9⟩,sf⟩:=dI az;clear az;by_cases hq:iT n 1=true/\(kF (cP n) lets d x.c).kids=[]
     ·have av:Hid (tu (cP n) d lets (x::List.drop (k+1) xs)=tu (cP n) d (lets++[kF (cP n) lets d x.c]) (List.drop (k+1) xs)):=by
       show _=_;rw[aC.out,Qo hq]
      rw[hq.1,SA,QZ hq.2] at W2;clear aC aM hq;go_wp2_with (first|(go_at_call 129;refine W2.mono ?_;rintro e w7 ⟨rfl,E⟩))
      have Y:=Hi (aD.out.below E).free;clear E W2;go_roundw
      case rel=>
       obtain⟨aq,ai,aB,aj,i1,i2,i3⟩:=Z.out;exact⟨k+1,_,_,_,_,_,by omega,by go_num,⟨Y.out,by omega,by simp;omega,⟨_,_,_,_,_,i1,i2,i3⟩,by rw[<-HE.out,av.out]⟩⟩
      case measure=>simp[intOf];omega
     have av:Hid (tu (cP n) d lets (x::List.drop (k+1) xs)=⟨x.kind,x.wh,kF (cP n) lets d x.c⟩::tu (cP n) d (lets++[kF (cP n) lets d x.c]) (List.drop (k+1) xs)):=by
      show _=_;rw[aC.out,Qj hq]
     rw[show(iT n 1&&decide ((kF (cP n) lets d x.c).kids=[]))=false by cases h:iT n 1<;>simp_all] at W2
     clear aC aM hq;go_upto_region 9 with fail;go_upto_region 10 with(first|(go_at_call 129;refine W2.mono ?_;rintro e w7 ⟨rfl,E⟩))
     have Y:=Hi (aD.out.below E);have aP:=Hi (bg.out.below E);have ag:=(E.block _ (be aO.out)).trans aO.out;obtain⟨⟨p0,p1,p2,p3,p4,p5,p6,p7,p8,p9⟩,pf⟩:=dI ag;have aQ:Hid (w7.ownsRow (w.heap.size+1) 163 10 (.slice va V.length ax) V.length (dB V)):=Y.out.krow;have bB:=Y.out.big;clear ag E W2 s0 s1 s2 s3 s4 s5 s6 s7 s8 s9 sf;go_wp2_with (at_builtin;go_must (refine wpList_append_lies _ (by rfl) _ _ 84 (by rfl) (w.heap.size+1) 163 i0 (.agg #[Iq 0,Iq 0,Iq 0,.string ⟨#[]⟩,Iq 0,Iq 0,Iq 0,.string ⟨#[]⟩,Iq 0,.pointer none]) 10 96 underlying84 hi aV aW aX (by rfl) (by decide) _ _ _ (by rfl) (aQ.out.alloc _) ⟨w7.heap.size,0,none⟩ 1 1 [Iq (cy z),Iq z.pl,Iq (cV z),S (cE z),Iq (cy u0),Iq u0.pl,Iq (cV u0),S (cE u0),Iq (x.wh:Nat),Pq b'] (by rfl) (by rfl) (World.news_of_block (Qp w7 _)) (λx hx=>by simp at hx;rcases hx with rfl|rfl|rfl|rfl|rfl|rfl|rfl|rfl|rfl|rfl<;>rfl) (by decide) (by unfold maxLen;omega) (by omega) (by simp;omega) _ rfl ?_);intro gg bq w8 D A ab af;have HN:Hid _:=(Y.out.keep (x:=⟨x.kind,x.wh,kF (cP n) lets d x.c⟩) (y:=(z,u0,b',(x.wh:Int))) ⟨ah.out,rfl,aP.out⟩ D A (by rcases ab with h|h;exact .inl h;right;rw[h,Qw])).free;clear D A ab af)
     go_roundw
     case rel=>
      obtain⟨aq,ai,aB,aj,i1,i2,i3⟩:=Z.out;exact⟨k+1,_,_,_,_,_,by omega,by go_num,⟨HN.out,by simp;omega,by simp;omega,⟨_,_,_,_,_,i1,i2,i3⟩,by rw[<-HE.out,av.out];simp⟩⟩
     case measure=>simp[intOf];omega
   have bx:((cy z:Int)==11)=false:=by rw[ah.out];simp;omega
   have av:Hid (tu (cP n) d lets (x::List.drop (k+1) xs)=⟨x.kind,x.wh,kF (cP n) lets d x.c⟩::tu (cP n) d lets (List.drop (k+1) xs)):=by
    show _=_;rw[tu,Qj O,Qj (λe=>O e.2.1)]
   have Z:=Hi a0.out;rw[Qj O] at Z;have W2:=uA (kd:=cy z) (wh:=x.wh) (a1:= Iq z.pl) (a2:= Iq (cV z)) (a3:=S (cE z)) (a4:= Iq (cy u0)) (a5:= Iq u0.pl) (a6:= Iq (cV u0)) (a7:=S (cE u0)) rfl rfl rfl rfl rfl rfl rfl aa.rw au;have bh:decide (cy z=11)=false:=by rw[ah.out];exact QM O
   rw[bh,SZ,Bool.and_false] at W2;clear aa au ae bh O;go_upto_region 9 with fail;go_upto_region 10 with(first|(go_at_call 129;refine W2.mono ?_;rintro e w7 ⟨rfl,E⟩))
   have Y:=Hi (bv.out.below E);have aP:=Hi (bw.out.below E);have ag:=(E.block _ (be an.out)).trans an.out;obtain⟨⟨p0,p1,p2,p3,p4,p5,p6,p7,p8,p9⟩,pf⟩:=dI ag;have aQ:Hid (w7.ownsRow (w.heap.size+1) 163 10 (.slice va V.length ax) V.length (dB V)):=Y.out.krow;have bB:=Y.out.big;clear ag E W2 s0 s1 s2 s3 s4 s5 s6 s7 s8 s9 sf;go_wp2_with (at_builtin;go_must (refine wpList_append_lies _ (by rfl) _ _ 84 (by rfl) (w.heap.size+1) 163 i0 (.agg #[Iq 0,Iq 0,Iq 0,.string ⟨#[]⟩,Iq 0,Iq 0,Iq 0,.string ⟨#[]⟩,Iq 0,.pointer none]) 10 96 underlying84 hi aV aW aX (by rfl) (by decide) _ _ _ (by rfl) (aQ.out.alloc _) ⟨w7.heap.size,0,none⟩ 1 1 [Iq (cy z),Iq z.pl,Iq (cV z),S (cE z),Iq (cy u0),Iq u0.pl,Iq (cV u0),S (cE u0),Iq (x.wh:Nat),Pq b'] (by rfl) (by rfl) (World.news_of_block (Qp w7 _)) (λx hx=>by simp at hx;rcases hx with rfl|rfl|rfl|rfl|rfl|rfl|rfl|rfl|rfl|rfl<;>rfl) (by decide) (by unfold maxLen;omega) (by omega) (by simp;omega) _ rfl ?_);intro gg bq w8 D A ab af;have HN:Hid _:=(Y.out.keep (x:=⟨x.kind,x.wh,kF (cP n) lets d x.c⟩) (y:=(z,u0,b',(x.wh:Int))) ⟨ah.out,rfl,aP.out⟩ D A (by rcases ab with h|h;exact .inl h;right;rw[h,Qw])).free;clear D A ab af)
   go_roundw
   case rel=>
    obtain⟨aq,ai,aB,aj,i1,i2,i3⟩:=Z.out;exact⟨k+1,_,_,_,_,_,by omega,by go_num,⟨HN.out,by simp;omega,by omega,⟨_,_,_,_,_,i1,i2,i3⟩,by rw[<-HE.out,av.out];simp⟩⟩
   case measure=>simp[intOf];omega
  obtain rfl:k=ys.length:=by omega
  have G:=HX.out;have hE:ks=tu (cP n) d [] xs:=by
   have:=G.eq;rw[QG (by rw[HI.out.1];exact Qn _)] at this
   simpa [tu] using this
  have bi:Hid (iN F d wr ks V):=G.mem.its.map (λ_ _ t=>t.more (λ_ _ e=> .inr (.inr (.inr (.inr e)))))
  have HR:Hid (kW wr u6 V):=kW.of_row G.mem.krow;have HB:Hid (Bl w wr):=G.mem.bel;have HZ:Hid (V.length<=ys.length):=G.zk;have bj:Hid (qc d eN (jy ks)):=by
   have hz:∀i,eN.getD i 0≠0->False:=λi h=>h (iZ i)
   have i1:=(vX (p:=cP n) (d:=d) HF.out (lets:=[]) (m:=0) (lt:=eN) (lt':=eN) (lv:=lI) (lv':=lI) ⟨⟨λi h=>(hz i h).elim,λi h=>(hz i h).elim⟩,λi h=>(hz i h).elim,λi h=>(hz i h).elim,rfl,λi _=>iZ i,rfl,rfl,rfl,rfl,λi h=>(hz i h).elim⟩ aU.out.1 aU.out.2).1
   rw[<-hE] at i1;exact(sd (fl:=fl) (lv:=lI) i1).1
  have aE:Hid (po (cP n) d xs=if iT n 4=true then(iJ d (jy ks)).1 else ks):=by
   show _=_;rw[hE];rfl
  have D1:=pI 4 (Qm wr _ 0 _ _ _ G.mem.blk:Cq wr w.heap.size 0 (Iq n));clear G HX hE;cases h4:iT n 4
  ·rw[h4] at D1;have aA:Hid (po (cP n) d xs=ks):=by show _=_;rw[aE.out,Qj (by rw[h4];decide)]
   clear aE bj h4;go_wp2_with fail;apply D1.mono;rintro e w' ⟨rfl,aR⟩;subst aR;clear D1;go_wp2;go_ret;exact⟨_,V,rfl,HR.out,by rw[aA.out];exact bi.out,HB.out,HZ.out⟩
  rw[h4] at D1;have aA:Hid (po (cP n) d xs=(iJ d (jy ks)).1):=by show _=_;rw[aE.out,Qo h4]
  have V1:=λ(_:Unit)=>Ct HR.out bi.out (by have:=HZ.out;omega)
  clear aE h4;go_wp2_with fail;apply D1.mono;rintro e w' ⟨rfl,aR⟩;subst aR;clear D1;go_wp2_with fail;apply(V1 ()).mono;rintro e w7 ⟨v7,bC,rfl,kp,bk⟩;have V2:=I2 (F:=F) (kW.of_row kp.row) (kp.its.map (λ_ _ t=>t.below kp.bel)) (by have:=HZ.out;omega) (λj hj=>ub bj.out rfl j (by rw[kp.its.1];exact hj))
  have bl:Hid (Bl w w7):=HB.out.trans (kp.bel.mono HB.out.size);have bD:Hid (bC.length<=V.length):=bk;clear V1 kp bk;go_wp2_with fail;apply V2.mono;rintro e w8 ⟨v8,aF,rfl,bm,bo,aS,bE⟩;have aG:Hid (kW w8 v8 aF/\iN F d w8 (iJ d (jy ks)).1 aF/\Bl w w8/\aF.length<=ys.length):=⟨bm,bo.map (λ_ _ t=>t.below aS),bl.out.trans (aS.mono bl.out.size),by have:=HZ.out;have:=bD.out;omega⟩
  clear V2 bm bo aS bE;go_wp2;go_ret;exact⟨_,aF,rfl,aG.out.1,by rw[aA.out];exact aG.out.2.1,aG.out.2.2.1,aG.out.2.2.2⟩
theorem kW.only {w w':World} {v:Value} {ys:List Yt} {lp:Nat} {j:Bool} {a b c:Value} {T:TypeId} {z:Nat×Nat} (h:kW w v ys) (E:cI (λg=>g=lp) w w') (O:w.heap[lp]?=some (.cells #[.bool j,a,b,c] T z)):kW w' v ys:=by
 obtain⟨q,cap,e,R⟩:=h;refine⟨q,cap,e,λk U=>?_⟩
 obtain⟨g,e,V,G⟩:=R k U;have I: ¬g=lp:=λe=>by
  subst e;have D:=G 0 (by omega)
  have Y:=Qm w g (k*10+0) _ _ _ O;rw[Y] at D;cases k with
  |zero=>
   have D:=D;cases D
  |succ k=>
   rw[Qx,QC (by simp;omega)] at D
   have D:=D;cases D
 refine⟨g,e,by have:=E.size;omega,λj J=>?_⟩
 rw[Qz (E.block g V I)];exact G j J
theorem xw {d:Nat}:∀{l:List fM} {lt:List Nat},qc d lt l->lt.length=10-> ∀x∈l,(x.kind=11\/x.kind=12\/x.kind=13)/\x.wh<=255
 |[],_,_,_=>by simp
 |x::r,lt,h,G=>by
  obtain⟨J,O,h3⟩:=h;intro y z;simp only[Ra] at z;rcases h3 with⟨D,I,E⟩|⟨D,_,I,E⟩
  ·rcases z with rfl|z
   ·exact⟨.inl D,by omega⟩
   exact xw E (by simpa using G) y z
  rcases z with rfl|z
  ·exact⟨.inr D,I⟩
  exact xw E G y z
structure LG (d:Nat) (L:List fM) (w2 wr:World) (lp:Nat) (jmp:Bool) (vi:Value) (k:Nat):Prop where
 ly:Ax (λg=>g=lp) w2 wr lp jmp vi (jU jmp d (L.take k) []) (rC jmp d (L.take k) 0) (tW (L.take k) 0)
theorem LG.below {d:Nat} {L:List fM} {z wr w':World} {lp:Nat} {jmp:Bool} {D:Value} {k:Nat} (h:LG d L z wr lp jmp D k) (E:Bl wr w'):LG d L z w' lp jmp D k:=⟨h.ly.below E⟩
theorem LG.next {d:Nat} {L:List fM} {E wr w':World} {lp:Nat} {jmp:Bool} {G:Value} {k:Nat} {x:fM} (h:LG d L E wr lp jmp G k) (z:L[k]?=some x) (I:dG wr w' lp jmp G (jU jmp d (L.take k) []++iE jmp d x (jU jmp d (L.take k) []).length) (max (rC jmp d (L.take k) 0) (iD jmp d x)) (if x.kind=11 then x.wh+1 else tW (L.take k) 0)):∃D,LG d L E w' lp jmp D (k+1):=by
 obtain⟨D,J,_⟩:=h.ly.next I;refine⟨D,⟨?_⟩⟩;rw[EE z,IJ z,IK z];exact J
theorem LG.lay {d:Nat} (hd:d<=24) {L:List fM} {D wr:World} {lp b:Nat} {jmp:Bool} {U:Value} {k:Nat} {x:fM} (h:LG d L D wr lp jmp U k) (E:L[k]?=some x) (I:qc d eN L) (hn:ig d L<=200) (hl:L.length<=30) (V:gB (λg=>g=lp) d D b x.c) {a1 a2 a3 a4 a5 a6 a7:Value} (Y:a1.oneCell'=true) (Z:a2.oneCell'=true) (o3:a3.oneCell'=true) (o4:a4.oneCell'=true) (o5:a5.oneCell'=true) (o6:a6.oneCell'=true) (o7:a7.oneCell'=true):
 Calls prog 92 #[Pq lp,.agg #[Iq x.kind,a1,a2,a3,a4,a5,a6,a7,Iq x.wh,Pq b]] wr λe w'=>e= .returned (.tuple #[])/\ ∃v',LG d L D w' lp jmp v' (k+1):=by
 have G:x∈L:=Ta E;obtain⟨hk,hw⟩:=xw I rfl x G;have z:=Al I;have hs:=tY (jmp:=jmp) (d:=d) (L:=L.take k) (l:=[]) (λy hy=>z y (SH hy))
 have hi:=Lv (jmp:=jmp) (z x G);have J:=IL (d:=d) L (k+1);rw[qq E] at J;have e2:ig d (L.take k++[x])=ig d (L.take k)+eP d x.c:=by simp[ig]
 have ab:(L.take k).length<=30:=by rw[SJ];omega
 have ac:rC jmp d (L.take k) 0<=24:=by rw[Ak];have:=Dt jmp d (L.take k);omega
 simp only[Q7] at hs;exact(Cr Y Z o3 o4 o5 o6 o7 hk hw (z x G) V h.ly (by omega) (by omega) (by omega)).mono λe w' O=>⟨O.1,h.next E O.2⟩
theorem Ap {n:Int} {d:Nat} (hd:d<=24) {l:List fM} {ys:List Yt} {v:Value} {w:World} (hv:kW w v ys) (hI:iN (λg=>w.heap.size<=g) d w l ys) (hT:qc d eN l) (hS:ot 0 l) (hn:ig d l<=200) (hl:l.length<=30):
 Calls prog 44 #[v,Iq n] w λe w'=>e= .returned (S (ow (cP n) d l))/\Bl w w':=by
 have aI:l.length=ys.length:=hI.1;obtain⟨L,hL⟩:∃L,po (cP n) d l=L:=⟨_,rfl⟩;obtain⟨ls,ad⟩:∃ls,jU (cP n).jmp d L []++[⟨18,0,0⟩]=ls:=⟨_,rfl⟩;obtain⟨Y,R,I,J,U,aw,ax,ay⟩:=IN hd hT hS hn hl hL ad;have ej:(cP n).jmp=iT n 8:=rfl;have eb:iT n 8=(bits .and .i64 n 8 !=0):=rfl;have G:Bl w (w.alloc (.cells #[.bool (iT n 8),.slice none 0 0,Iq 0,Iq 0] 194)):=(Qq _ _).alloc (Qn _) _;have aa:(w.alloc (.cells #[.bool (iT n 8),.slice none 0 0,Iq 0,Iq 0] 194)).heap[w.heap.size]?=some (.cells #[.bool (iT n 8),.slice none 0 0,Iq 0,Iq 0] 194 (0,0)):=Qp w _;generalize ag:w.alloc (.cells #[.bool (iT n 8),.slice none 0 0,Iq 0,Iq 0] 194)=wA at*;have Z:=be aa;have W1:=CF (F:=λg=>g=w.heap.size) (n:=n) om (hv.below G) (hI.map λ_ _ t=>(t.more (λg _ (e:g=w.heap.size)=>by omega)).below G) (λg (e:g=w.heap.size)=>by omega) (by omega) hT hS
 have HW:=Hi ag;rw[hL] at W1;clear ag hI hv;have HB:=Hi aa;go_enter func44,ntmps44;go_wp2_with fail;rw[<-eb,HW.out];apply W1.mono;rintro e w2 ⟨v',E,rfl,hr,hi,ae,aL⟩;obtain⟨a,cap,rfl,hq⟩:=hr;go_wp2_with fail;have V:=(ae.block _ Z).trans HB.out;have az:Hid (kW w2 (.slice a E.length cap) E):=⟨a,cap,rfl,hq⟩;have aA:=Hi hi;have au:=Hi V;have ah:Hid (Bl w w2):=G.trans (ae.mono G.size);have aB:Hid (LG d L w2 w2 w.heap.size (iT n 8) (.slice none 0 0) 0):=⟨⟨⟨V,QX _ _ _ _⟩,.inl rfl,λg hg=>by simp[Value.ownBlock] at hg,cI.refl _ _⟩⟩
 have ai:=Hi (And.intro Y (And.intro R (And.intro I (And.intro J U))));have aj:=Hi ad;have aM:L.length=E.length:=hi.1;clear V hq hi W1 ae G aa HW HB Y I R J U ad Z;go_wp2_with fail;go_loopw [17] (λiv wr=> ∃k vi,k<=E.length/\iv= Iq k/\Hid (LG d L w2 wr w.heap.size (iT n 8) vi k)) (λiv _=>E.length - (intOf iv).toNat)
 case atStart=>exact⟨0,_,QA _,rfl,aB.out⟩
 case round=>
  obtain⟨k,vi,hk,rfl,HX⟩:=hrel;by_cases Z:k<E.length
  ·have hX:=HX.out;obtain⟨a2,aJ,e2,ak⟩:=kW.only az.out hX.ly.bel au.out;simp only[QK,R8] at e2;obtain⟨rfl,rfl⟩:=e2;obtain⟨g,rfl,aC,z⟩:=ak k Z;have ab:=aA.out.2 k Z;have am:L[k]?=some (L.getD k mD):=by rw[Qi,Ql (by omega)];rfl
   generalize L.getD k mD=x at*;generalize E.getD k Cs=y at*;obtain⟨O,u0,b,wh⟩:=y;have an:cy O=x.kind:=ab.kd;have aD:wh=x.wh:=ab.wh;have ao:gB (λg=>g=w.heap.size) d w2 b x.c:=ab.tr
   subst aD;have c0:Cq wr g (k*10) (Iq x.kind):=by rw[<-an];exact z 0 (by omega)
   have c1:Cq wr g (k*10+1) (Iq O.pl):=z 1 (by omega)
   have c2:Cq wr g (k*10+2) (Iq (cV O)):=z 2 (by omega)
   have c3:Cq wr g (k*10+3) (S (cE O)):=z 3 (by omega)
   have c4:Cq wr g (k*10+4) (Iq (cy u0)):=z 4 (by omega)
   have c5:Cq wr g (k*10+5) (Iq u0.pl):=z 5 (by omega)
   have c6:Cq wr g (k*10+6) (Iq (cV u0)):=z 6 (by omega)
   have c7:Cq wr g (k*10+7) (S (cE u0)):=z 7 (by omega)
   have c8:Cq wr g (k*10+8) (Iq x.wh):=z 8 (by omega)
   have c9:Cq wr g (k*10+9) (Pq b):=z 9 (by omega)
   have aN:0<=k/\k<E.length:=by omega
   have G:Bl wr (wr.alloc (.cells #[Iq x.kind,Iq O.pl,Iq (cV O),S (cE O),Iq (cy u0),Iq u0.pl,Iq (cV u0),S (cE u0),Iq x.wh,Pq b] 163)):=(Qq _ _).alloc (Qn _) _;have W2:=(hX.below G).lay hd am aw ax ay ao (a1:= Iq O.pl) (a2:= Iq (cV O)) (a3:=S (cE O)) (a4:= Iq (cy u0)) (a5:= Iq u0.pl) (a6:= Iq (cV u0)) (a7:=S (cE u0)) rfl rfl rfl rfl rfl rfl rfl;clear z ab am ao hX HX G ak aC an;go_wp2_with fail;apply W2.mono;rintro e D ⟨rfl,v3,h3⟩;have HN:=Hi h3;clear W2 h3 c0 c1 c2 c3 c4 c5 c6 c7 c8 c9;go_wp2;go_roundw
   case rel=>exact⟨k+1,v3,by omega,by go_num,HN.out⟩
   case measure=>simp[intOf];omega
  obtain rfl:k=E.length:=by omega
  have hX:=HX.out;have ac:=hX.ly;rw[Q4 (by omega)] at ac
  obtain⟨Y,R,I,J,U⟩:=ai.out;have af:(jU (iT n 8) d L []).length+1=ls.length:=by rw[<-aj.out];simp[ej]
  have W2:=jE 18 0 ac.at_ (by omega)
  have ap:=Hi ac;clear hX HX ac Y R I J U;go_wp2_with fail;apply W2.mono;rintro e D ⟨rfl,aq⟩;obtain⟨v3,h3,_⟩:=ap.out.next aq;have e3:jU (iT n 8) d L []++[⟨18,0,0⟩]=ls:=aj.out;rw[e3] at h3;obtain⟨Y,R,I,J,U⟩:=ai.out;rw[ej] at Y J;have W3:=λW (hb:Bl D W)=>IC (dep:=rC (iT n 8) d L 0) (cells:=tW L 0) (h3.below hb).at_.ins (by omega) I (by omega) (by omega)
  rw[Y] at W3;obtain⟨va,av,aE⟩:=nT h3.at_.row;subst aE;have P1:∀W,Bl D W->Cq W w.heap.size 1 (.slice va ls.length av):=λW hb=>Qm W _ 1 _ _ _ (h3.below hb).at_.blk
  have P2:∀W,Bl D W->Cq W w.heap.size 2 (Iq (rC (iT n 8) d L 0)):=λW hb=>Qm W _ 2 _ _ _ (h3.below hb).at_.blk
  have P3:∀W,Bl D W->Cq W w.heap.size 3 (Iq (tW L 0)):=λW hb=>Qm W _ 3 _ _ _ (h3.below hb).at_.blk
  have HF:Hid (Bl w D):=ah.out.trans (h3.bel.below ah.out.size (λk _ hk=>by have hk:k=w.heap.size:=hk;omega))
  have aF:Bl D D:=Qq _ _;have KD:Hid (∀W,Bl D W->Bl D W.drew):=λW h=>h.drew
  have KB:Hid (∀W W',Bl D W->Bl W W'->Bl D W'):=λW W' h h'=>h.trans (h'.mono h.size)
  clear W2 aq h3 e3 Y R I J U ap af;generalize ar:ow (cP n) d l=cb at*;have aG:=Hi ar;clear ar;generalize rC (iT n 8) d L 0=dp at*;generalize tW L 0=cl at*;go_wp2;go_region_held3 (λW=>Bl D W) (first|assumption|exact KB.out _ _ (by assumption) aH|exact KD.out _ aF|exact KD.out _ (by assumption)|go_keep)
   (first
    |(go_at_call 94;refine(W3 _ (by assumption)).mono ?_;rintro e w4 ⟨rfl,aH⟩))
  all_goals
   rename_i hHeld;go_wp2;go_ret;exact⟨by rw[aG.out];rfl,HF.out.trans (hHeld.mono HF.out.size)⟩
theorem Aq {z:Nat} {L:List Pt} {xs:List dw} {base:Nat} {v:Value} {ys:List Yt} {w:World} {n:Int} (h:wF z L xs base v ys w) (D:lr L xs):
 Calls prog 44 #[v,Iq n] w λe w'=>e= .returned (S (ow (cP n) 24 (wM L xs)))/\Bl w w':=by
 obtain⟨E,G,h3⟩:=M5 h D;exact Ap (Qn _) E G h3.ty h3.seq (by rw[h3.cnt];exact h3.few.1) (by rw[h3.len];exact h3.few.2)
def Ar (l:List UInt8) (n:Int):List UInt8:=if(cF l).1.1=0 then ow (cP n) 24 (wM (cF l).2.1 (cF l).2.2) else[]
theorem As (l:List UInt8) (m:Int) (w:World) (hW:Wd w) (hm:l.length<=maxLen):Calls prog 23 #[S l,Iq m] w λe w'=>e= .returned (.tuple #[S (Ar l m),Iq (cF l).1.1,Iq (cF l).1.2])/\Below w.heap.size w w':=by
 have U:=qh l w hW hm;have J:Hid ((cF l).1.1=0->lr (cF l).2.1 (cF l).2.2):=rm l;have E:Hid (Ar l m=if(cF l).1.1=0 then ow (cP m) 24 (wM (cF l).2.1 (cF l).2.2) else[]):=rfl
 have O:Hid ((cF l).1.1=0->(cF l).1.2=0):=yJ l;have hb:=jf l;generalize Ar l m=r at*;generalize (cF l).1.1=n at*;generalize (cF l).1.2=k at*;generalize (cF l).2.1=L at*;generalize (cF l).2.2=xs at*;go_enter func23,ntmps23;go_wp2_with fail;apply U.mono;rintro e w1 ⟨G,v,rfl,R⟩
 by_cases z:n=0
 ·obtain⟨bs,ys,ac,V⟩:=R z
  have Y:=J.out z;have Z:=Aq (n:=m) V Y;have D:Hid (r=ow (cP m) 24 (wM L xs)):=by show _=_;rw[E.out,Qo z]
  have aa:=Hi (O.out z);have I:=Hi G;subst z;generalize ow (cP m) 24 (wM L xs)=pr at*;go_wp2_with fail;apply Z.mono;rintro e w2 ⟨rfl,ab⟩;go_wp2;refine Qs (v:= .tuple #[S pr,Iq 0,Iq 0]) (by simp[results,results23,go_sem]) rfl ?_
  exact⟨by rw[D.out,aa.out];rfl,I.out.trans (ab.mono I.out.size)⟩
 ·have e1:((n:Int)==0)=false:=by
   have: ¬(n:Int)=0:=by omega
   simpa using this
  have e2:((n:Int) !=0)=true:=by
   have: ¬(n:Int)=0:=by omega
   simpa using this
  have D:Hid (r=[]):=by show _=_;rw[E.out,Qj z]
  have I:=Hi G;go_wp2;refine Qs (v:= .tuple #[S [],Iq n,Iq k]) (by simp[results,results23,go_sem]) rfl ?_
  exact⟨by rw[D.out],I.out⟩
end
end Go.Proofs.YtfkdailfcmnjlaaGreatDoor
