/-
  A part.
-/
import Derived.Test.YtfkdailfcmnjlaaGreatDoorCompiles40
import Derived.Shelf.SlicesQ.Reverse
import Derived.Ground.SlgnProg
set_option linter.all false
set_option maxHeartbeats 40000000
set_option maxRecDepth 1000000
namespace Go.Proofs.YtfkdailfcmnjlaaGreatDoor
open Go Go.RowKit Tryz
section
open Go.Sort (HoldsK putRowK flatK size_flatK get_flatK holdsK_putRowK holdsK_ahead)
def vy:Go.Shelf.Ren:=⟨fun | 35 => 178 | n => n, fun | 22 => 84 | 23 => 163 | 3 => 3 | 4 => 4 | 0 => 0 | n => n, fun | n => n⟩
theorem u7:Go.Proofs.SlLaysE0.n35 prog vy:={
 mixed:=by kernel_rfl
 f35:=⟨f178.name, by decide, func178.trans (Te some (by kernel_rfl))⟩
 t0:=underlying0
 a0:=isAgg0
 z0:=sizeOf0
 v0:=zeroValue0
 t3:=underlying3
 a3:=isAgg3
 z3:=sizeOf3
 v3:=zeroValue3
 t4:=underlying4
 a4:=isAgg4
 z4:=sizeOf4
 v4:=zeroValue4
 t22:=underlying84
 a22:=isAgg84
 z22:=sizeOf84
 v22:=zeroValue84 }
theorem MZ [Inhabited Yt] (ys : List Yt) {i : Nat} (h : i < ys.length) : ys.toArray[i]! = ys.getD i Dx := by
  rw [getElem!_pos ys.toArray i (by simpa using h), RG, RI h]; simp
theorem qM (y:Yt):(ff y).length=10:=rfl
theorem Ka (y:Yt):∀v∈ff y,v.oneCell'=true:=λv z=>by
 unfold ff at z;simp only[Sm,SJ,T2] at z;rcases z with rfl|rfl|rfl|rfl|rfl|rfl|rfl|rfl|rfl|rfl<;>rfl
theorem Kb [Inhabited Yt] {w : World} {base g cap : Nat} {ys : List Yt} (h : w.ownsRow base 163 10 (Sq g ys.length cap) ys.length (dE ys)) : HoldsK ff 10 w g 0 ys.toArray := by
  intro t ht;rw [size_flatK] at ht;simp only [U3] at ht;have hth := J9 h (o := 0) (m := ys.length * 10) (by omega) t ht
  rw [Sw] at hth ⊢;refine ⟨?_, hth.2⟩;obtain ⟨a, cap', e, hc⟩ := mg h;simp only [Sb, TV] at e;obtain ⟨rfl, rfl⟩ := e;have hd : t / 10 < ys.length := by omega
  obtain ⟨g', e, _, hj⟩ := hc (t / 10) hd;simp only [R6, Tx, Uj] at e;subst e;have := hj (t % 10) (Nat.mod_lt _ (by decide))
  rw [Nat.div_add_mod' t 10] at this;rw [this, get_flatK _ _ _ _ (by simpa using ht), MZ ys hd]
  have hl : t % 10 < (ff (ys.getD (t / 10) Dx)).length := by rw [qM]; exact Nat.mod_lt _ (by decide)
  show (ff (ys.getD (t / 10) Dx))[t % 10]? = some ((ff (ys.getD (t / 10) Dx))[t % 10]!)
  rw [RI hl, getElem!_pos (ff (ys.getD (t / 10) Dx)) (t % 10) hl]
theorem Kc [Inhabited Yt] {w : World} {g cap : Nat} {ys : List Yt} (h : HoldsK ff 10 w g 0 ys.toArray) : lF w (Sq g ys.length cap) ys := by
  refine ⟨_, cap, rfl, λk hk => ⟨g, rfl, ?_, λj hj => ?_⟩⟩
  · have := (h.cell (i := k) (c := 0) (by simpa using hk) (by decide)).1
    exact RN w _ this
  · have := (h.cell (i := k) (c := j) (by simpa using hk) hj).1
    rw [Sw, MZ ys hk] at this;rw [this, RI (by rw [qM]; exact hj), getElem!_pos _ _ (by rw [qM]; exact hj)]
theorem Dz [Inhabited Yt] {w:World} {n g:Nat} {d:Array Yt}:cK (λb=>b=g) w (putRowK ff 10 (Sort.ahead w n) g 0 d):=by
 refine⟨rfl,rfl,rfl,by unfold putRowK;rw[Sort.size_putRow];exact RL _,λi hi hn=>?_⟩
 unfold putRowK Sort.putRow Sort.mapBlock Sort.ahead;simp only[Array.getElem?_modify];rw[RH (λe=>hn e.symm)]
theorem DA {w:World} {base:Nat} {v:Value} {ys:List Yt} (h:w.ownsRow base 163 10 v ys.length (dE ys)) (hl:ys.length<=1001):
 Calls prog 178 #[v] w λe w'=>e= .returned (.tuple #[])/\cK (λg=>v.ownBlock=some g) w w'/\lF w' v ys.reverse:=by
 have:Inhabited Yt:=⟨Dx⟩
 obtain⟨a,cap,ev⟩:=rC h;subst ev
 by_cases h0:ys.length=0
 ·have:ys=[]:=SI h0
  subst this;apply(AnyQ.slices_Reverse_empty u7 a cap w).mono;rintro e w' ⟨rfl,rfl⟩;exact⟨rfl,cK.refl _ _,lF.of_row h⟩
 ·obtain⟨g,c2,ev,_,_⟩:=World.ownsRow.form h (by omega)
  simp only[Sb,TV] at ev;obtain⟨rfl,rfl⟩:=ev;have H:=Kb h;apply(AnyQ.slices_Reverse u7 10 isAgg163 sizeOf163 ff qM Ka g 0 cap ys.toArray w H (by simp;omega)).mono
  rintro e w' ⟨rfl,n,rfl⟩;refine⟨rfl,(Dz (w:=w) (n:=n) (g:=g)).weak (λi _ hi=>by rw[hi];rfl),?_⟩
  have h2:=holdsK_putRowK ff 10 (Sort.ahead w n) g 0 ys.toArray ys.toArray.reverse (holdsK_ahead ff 10 w n g 0 _ H) (by simp)
  have e:ys.toArray.reverse=ys.reverse.toArray:=by simp
  rw[e] at h2⊢;have h3:=Kc (cap:=cap) h2;rw[T6] at h3;obtain⟨a,c,e1,e2⟩:=h3;exact⟨a,c,e1,e2⟩
end
section
attribute [local go_sem ↓] Go.wp_at_zero Go.wp_at_succ
theorem iW.turn {F:Nat->Prop} {d:Nat} {w:World} {xs:List fQ} {ys:List Yt} (h:iW F d w xs ys):iW F d w xs.reverse ys.reverse:=by
 have z:=h.1;refine⟨by simp[z],λj q=>?_⟩
 rw[T6] at q;have e:∀{α:Type} (l:List α) (d:α) (j:Nat),j<l.length->l.reverse.getD j d=l.getD (l.length - 1 - j) d:=λl d j q=>by
  rw[RG,RG,List.getElem?_reverse q]
 rw[e _ _ _ q,e _ _ _ (by omega),z]
 exact h.2 _ (by omega)
structure xW (F:Nat->Prop) (d:Nat) (w wr:World) (v:Value) (ks:List fQ) (zs:List Yt) (nm:List Bool):Prop where
 row:wr.ownsRow (w.heap.size+1) 163 10 v zs.length (dE zs)
 bel:Below w.heap.size w wr
 its:iW F d w ks zs
 nms:tH wr w.heap.size nm
 big:w.heap.size+1<=wr.heap.size
theorem xW.noted {F:Nat->Prop} {d:Nat} {w wr A:World} {v:Value} {ks:List fQ} {E:List Yt} {nm z:List Bool} (h:xW F d w wr v ks E nm) (D:cK (λg=>g=w.heap.size) wr A) (G:tH A w.heap.size z):xW F d w A v ks E z:=
 ⟨cO h.row (λk q=>D.block k (h.row.lt k q).2 (λe=>by have:=(h.row.lt k q).1;omega)),h.bel.trans (D.below h.bel.size (λk _ q=>by rw[q];exact RL _)),h.its,G,SF h.big D.size⟩
theorem xW.next {F:Nat->Prop} {d:Nat} {w q A:World} {v:Value} {ks:List fQ} {z:List Yt} {nm:List Bool} {x:fQ} {y:Yt} {gg cap:Nat} {o:Obj} (h:xW F d w q v ks z nm) (O:Qp F d w x y)
 (E:A.ownsRow (w.heap.size+1) 163 10 (Sq gg (z.length+1) cap) (z.length+1) (dE z++ff y)) (D:(q.alloc o).grownBy A v.ownBlock):xW F d w A (Sq gg (z.length+1) cap) (ks++[x]) (z++[y]) nm:=by
 have G:=((cK.refl (λg=>v.ownBlock=some g) q).alloc _).grown D (λk R=> .inl R)
 refine⟨?_,h.bel.trans (G.below h.bel.size (λg _ U=>by have:=(h.row.lt g U).1;omega)),h.its.snoc O,⟨h.nms.1,λj I=>?_⟩,SF h.big G.size⟩
 ·rw[nt,RT];exact E
 have J:=G.block w.heap.size (by have:=h.big;omega) (λe=>by have:=(h.row.lt _ e).1;omega)
 exact⟨by rw[R1 J];exact(h.nms.2 j I).1,by rw[SO J];exact(h.nms.2 j I).2⟩
theorem Rb {w:World} {b j:Nat} {cs:Array Value} {t:TypeId} (h:w.heap[b]?=some (.cells cs t (0,0))):w.frozen? ⟨b,j,none⟩=false:=by simp[World.frozen?,h]
theorem Kd (w:World):tH (w.alloc (.cells #[.bool false,.bool false,.bool false,.bool false,.bool false,.bool false,.bool false,.bool false,.bool false,.bool false] 275)) w.heap.size Gt:=by
 have q:=RO w (.cells #[.bool false,.bool false,.bool false,.bool false,.bool false,.bool false,.bool false,.bool false,.bool false,.bool false] 275);refine⟨rfl,λj z=>⟨?_,Rb q⟩⟩
 rw[RM _ _ j _ _ _ q];have:j=0\/j=1\/j=2\/j=3\/j=4\/j=5\/j=6\/j=7\/j=8\/j=9:=by omega
 rcases this with rfl|rfl|rfl|rfl|rfl|rfl|rfl|rfl|rfl|rfl<;>rfl
theorem Ke {F:Nat->Prop} {d:Nat} {xs:List fQ} {ys:List Yt} {v:Value} {w:World} (hv:lF w v ys) (hI:iW F d w xs ys) (hl:ys.length<=1001) (hW:∀j,j<ys.length->hY d (xs.getD j mV).c/\(∃lt:List Nat,lt.length=10/\cP lt d (xs.getD j mV).c≠0)/\((xs.getD j mV).kind=11->(xs.getD j mV).wh<10)):
 Calls prog 131 #[v] w λe w'=> ∃v' ad,e= .returned v'/\lF w' v' ad/\iW F d w (iQ d xs).1 ad/\Bl w w'/\ad.length<=ys.length:=by
 obtain⟨a,cap,rfl,hq⟩:=hv;have HQ:=Hi hq;have HW:=Hi hW;have HI:Hid (iW F d w xs ys):=hI;have H0:Hid (xW F d w (w.alloc (.cells #[.bool false,.bool false,.bool false,.bool false,.bool false,.bool false,.bool false,.bool false,.bool false,.bool false] 275)) (.slice none 0 0) (iQ d (xs.drop ys.length)).1.reverse [] (iQ d (xs.drop ys.length)).2):=by
  show xW _ _ _ _ _ _ _ _;rw[R8 (by rw[hI.1];exact RL _)]
  exact⟨SC _ _ _ _,(RP _ _).alloc (RL _) _,iW.nil,Kd w,by simp⟩
 obtain⟨i0,hi,au,av,aw⟩:=Tz oG;clear hq hI hW;go_enter func131,ntmps131;go_wp2_with fail;go_loopw [4,5] (λvv iv wr=> ∃(k:Nat) (D:List Yt),k<=ys.length/\iv= Iq ((k:Int) - 1)/\D.length<=ys.length - k/\Hid (xW F d w wr vv (iQ d (xs.drop k)).1.reverse D (iQ d (xs.drop k)).2)) (λ_ iv _=>(intOf iv+1).toNat)
 case atStart=>exact⟨ys.length,[],RL _,by go_num,by simp,H0.out⟩
 case round=>
  obtain⟨k,D,aE,rfl,aF,HX⟩:=hrel;cases k with
  |succ m=>
   have V:m<ys.length:=by omega
   have em:((m+1:Nat):Int) - 1=(m:Int):=by omega
   rw[em];clear em;have hX:=HX.out;obtain⟨g,rfl,ae,G⟩:=HQ.out m V;have I:=HI.out.2 m V;obtain⟨ai,⟨lt,ao,aj⟩,U⟩:=HW.out m V;have hE:iQ d (xs.drop m)=if(xs.getD m mV).kind=11/\(iQ d (xs.drop (m+1))).2.getD (xs.getD m mV).wh false=false then iQ d (xs.drop (m+1)) else((xs.getD m mV)::(iQ d (xs.drop (m+1))).1,jk d (xs.getD m mV).c (iQ d (xs.drop (m+1))).2):=by
    rw[A6 (by rw[HI.out.1];exact V) mV,iQ]
   generalize iQ d (xs.drop (m+1))=J at*;generalize xs.getD m mV=x at*;generalize ys.getD m Dx=y at*;obtain⟨A,u0,b,wh⟩:=y;have ax:=Hi I;have O:=I.kd;have ak:=I.wh;simp only[] at O ak;obtain⟨va,ap,ev⟩:=rC hX.row;obtain rfl:=ev;have af:=hX.bel;have R:∀j,j<10->wr.cell? ⟨g,m*10+j,none⟩=(ff (A,u0,b,wh))[j]?:=λj hj=>by
    rw[af.cell (p:=⟨g,m*10+j,none⟩) ae];exact G j hj
   have c0:Cq wr g (m*10) (Iq (cz A)):=R 0 (by omega)
   have c8:Cq wr g (m*10+8) (Iq wh):=R 8 (by omega)
   have c9:Cq wr g (m*10+9) (Pq b):=R 9 (by omega)
   have aG:(0:Int)<=(m:Int)/\(m:Int)<(ys.length:Int):=by omega
   have ay:Hid (gG (λg=>g=w.heap.size) d wr b x.c):=(I.tr.more (λg hg e=>by omega)).below af
   have W1:=QZ ao d ai aj ay.out hX.nms;have Y:=Hi hX;have HE:=Hi hE;have az:Hid (∀j,j<10->wr.cell? ⟨g,m*10+j,none⟩=(ff (A,u0,b,wh))[j]?):=R;have am:Hid (g<w.heap.size):=ae;clear R G hX I ae hE ai aj af;subst ak;by_cases E:x.kind=11;have aA:((cz A:Int)==11)=true:=by rw[O,E];rfl
   have aB:=U E;have n8:=(Y.out.nms.2 x.wh aB).1;have aI:(0:Int)<=(x.wh:Int)/\(x.wh:Int)<10:=by omega
   cases Z:J.2.getD x.wh false
   ·have aa:Hid (iQ d (xs.drop m)=J):=by show _=_;rw[HE.out,RK ⟨E,Z⟩]
    rw[Z] at n8;clear O E U HE W1;go_wp2_with fail;go_roundw
    case rel=>exact⟨m,D,by omega,by go_num,by omega,by rw[aa.out];exact Y.out⟩
    case measure=>simp[intOf]
   have aa:Hid (iQ d (xs.drop m)=(x::J.1,jk d x.c J.2)):=by show _=_;rw[HE.out,RH (λe=>by rw[Z] at e;simp at e)]
   rw[Z] at n8;rotate_left;have aA:((cz A:Int)==11)=false:=by rw[O];simp;omega
   have aa:Hid (iQ d (xs.drop m)=(x::J.1,jk d x.c J.2)):=by show _=_;rw[HE.out,RH (λe=>E e.1)]
   all_goals
    clear O E U HE;go_wp2_with fail;apply W1.mono;rintro e q ⟨rfl,ag,an⟩;have ah:=Hi (Y.out.noted ag an);have aC:Hid (q.ownsRow (w.heap.size+1) 163 10 (.slice va D.length ap) D.length (dE D)):=ah.out.row;have aJ:=ah.out.big;have z:∀j,j<10->q.cell? ⟨g,m*10+j,none⟩=(ff (A,u0,b,(x.wh:Int)))[j]?:=λj hj=>by
     rw[R1 (w:=wr) (a:=⟨g,m*10+j,none⟩) (ag.block g (by have:=Y.out.bel.size;have:=am.out;omega) (λe=>by have:=am.out;omega))];exact az.out j hj
    have d0:Cq q g (m*10) (Iq (cz A)):=z 0 (by omega)
    have d1:Cq q g (m*10+1) (Iq A.pl):=z 1 (by omega)
    have d2:Cq q g (m*10+2) (Iq (cY A)):=z 2 (by omega)
    have d3:Cq q g (m*10+3) (S (cG A)):=z 3 (by omega)
    have d4:Cq q g (m*10+4) (Iq (cz u0)):=z 4 (by omega)
    have d5:Cq q g (m*10+5) (Iq u0.pl):=z 5 (by omega)
    have d6:Cq q g (m*10+6) (Iq (cY u0)):=z 6 (by omega)
    have d7:Cq q g (m*10+7) (S (cG u0)):=z 7 (by omega)
    have d8:Cq q g (m*10+8) (Iq (x.wh:Nat)):=z 8 (by omega)
    have d9:Cq q g (m*10+9) (Pq b):=z 9 (by omega)
    clear W1 ag an z c0 c8 c9;go_wp2_with (at_builtin;go_must (refine wpList_append_lies _ (by rfl) _ _ 84 (by rfl) (w.heap.size+1) 163 i0 (.agg #[Iq 0,Iq 0,Iq 0,.string ⟨#[]⟩,Iq 0,Iq 0,Iq 0,.string ⟨#[]⟩,Iq 0,.pointer none]) 10 96 underlying84 hi au av aw (by rfl) (by decide) _ _ _ (by rfl) (aC.out.alloc _) ⟨q.heap.size,0,none⟩ 1 1 [Iq (cz A),Iq A.pl,Iq (cY A),S (cG A),Iq (cz u0),Iq u0.pl,Iq (cY u0),S (cG u0),Iq (x.wh:Nat),Pq b] (by rfl) (by rfl) (World.news_of_block (RO q _)) (λx hx=>by simp at hx;rcases hx with rfl|rfl|rfl|rfl|rfl|rfl|rfl|rfl|rfl|rfl<;>rfl) (by decide) (by unfold maxLen;omega) (by omega) (by simp;omega) _ rfl ?_);intro gg aq w5 ab ac aD ar;have HN:Hid (xW F d w w5 (Sq gg (D.length+1) aq) (J.1.reverse++[x]) (D++[(A,u0,b,(x.wh:Int))]) (jk d x.c J.2)):=ah.out.next ax.out ab ac;clear ab ac aD ar)
    go_roundw
    case rel=>exact⟨m,D++[(A,u0,b,(x.wh:Int))],by omega,by go_num,by simp;omega,by rw[aa.out];simp only[Tw];exact HN.out⟩
    case measure=>simp[intOf]
  |zero=>
   have HR:Hid (xW F d w wr u4 (iQ d xs).1.reverse D (iQ d xs).2):=HX.out;have W1:=DA HR.out.row (by omega)
   clear HX;go_wp2_with fail;apply W1.mono;rintro e q ⟨rfl,ho,hr⟩;have HF:Hid (lF q u4 D.reverse/\iW F d w (iQ d xs).1 D.reverse/\Bl w q):=by
    refine⟨hr,?_,HR.out.bel.trans (ho.below HR.out.bel.size (λk _ hk=>by have:=(HR.out.row.lt k hk).1;omega))⟩
    have:=HR.out.its.turn;rwa [List.reverse_reverse] at this
   clear ho hr W1;go_wp2;go_ret;exact⟨_,D.reverse,rfl,HF.out.1,HF.out.2.1,HF.out.2.2,by rw[T6];omega⟩
end
section
def Gx (F:Nat->Prop) (U:Nat) (lv V:Value) (E:Nat->Prop) (g:Nat):Prop:=E g\/g=U\/lv.ownBlock=some g\/V.ownBlock=some g\/F g
structure rD (F:Nat->Prop) (n:Int) (d:Nat) (w wr:World) (lv kv:Value) (lets:List Tr) (bs:List Nat) (ks:List fQ) (zs:List Yt) (E:Nat->Prop):Prop where
 blk:wr.heap[w.heap.size]?=some (.cells #[Iq n,lv] 237 (0,0))
 len:bs.length=lets.length
 lrow:wr.ownsRow (w.heap.size+1) 161 1 lv lets.length (vx bs)
 krow:wr.ownsRow (w.heap.size+1) 163 10 kv zs.length (dE zs)
 bel:Below w.heap.size w wr
 ltr:∀j,j<lets.length->gG (Gx F w.heap.size lv kv E) d wr (bs.getD j 0) (lets.getD j fL)
 its:iW (Gx F w.heap.size lv kv E) d wr ks zs
 old:∀g,F g->g<w.heap.size
 off:∀g,E g->w.heap.size+1<=g/\g<wr.heap.size/\lv.ownBlock≠some g/\kv.ownBlock≠some g
variable {F : Nat -> Prop} {n : Int} {d : Nat} {w wr w1 w5 : World} {lv kv : Value} {lets : List Tr} {bs : List Nat} {ks : List fQ} {zs : List Yt} {E : Nat -> Prop}
theorem rD.big (h:rD F n d w wr lv kv lets bs ks zs E):w.heap.size+1<=wr.heap.size:=cq h.blk
theorem rD.apart (h:rD F n d w wr lv kv lets bs ks zs E) {g:Nat} (h1:lv.ownBlock=some g):kv.ownBlock≠some g:=λh2=>by
 obtain⟨c1,e1⟩:=cM h.lrow h1;obtain⟨c2,e2⟩:=cM h.krow h2;rw[e1] at e2;simp at e2
theorem rD.lt (h:rD F n d w wr lv kv lets bs ks zs E):∀g,Gx F w.heap.size lv kv E g->g<wr.heap.size:=λg hg=>by
 have:=h.big;rcases hg with hg|hg|hg|hg|hg
 ·exact(h.off g hg).2.1
 ·omega
 ·exact(h.lrow.lt g hg).2
 ·exact(h.krow.lt g hg).2
 have:=h.old g hg;omega
theorem rD.ge (h:rD F n d w wr lv kv lets bs ks zs E):∀g,Gx F w.heap.size lv kv E g->w.heap.size<=g\/F g:=λg hg=>by
 rcases hg with hg|hg|hg|hg|hg
 ·have:=(h.off g hg).1;omega
 ·omega
 ·have:=(h.lrow.lt g hg).1;omega
 ·have:=(h.krow.lt g hg).1;omega
 exact .inr hg
theorem rD.below (h:rD F n d w wr lv kv lets bs ks zs E) (hb:Bl wr w1):rD F n d w w1 lv kv lets bs ks zs E:=
 ⟨(hb.block _ (cq h.blk)).trans h.blk,h.len,cH h.lrow hb,cH h.krow hb,h.bel.trans (hb.mono h.bel.size),λj hj=>(h.ltr j hj).below hb,h.its.map (λ_ _ t=>t.below hb),h.old,λg hg=>by
  obtain⟨a,b,c⟩:=h.off g hg;exact⟨a,SL b hb.size,c⟩⟩
theorem rD.item (h:rD F n d w wr lv kv lets bs ks zs (λ_=>False)) (o:Obj):rD F n d w (wr.alloc o) lv kv lets bs ks zs (λg=>g=wr.heap.size):=by
 have hb:Bl wr (wr.alloc o):=(RP _ _).alloc (RL _) _;have hg:∀g,g<wr.heap.size->Gx F w.heap.size lv kv (λg=>g=wr.heap.size) g->Gx F w.heap.size lv kv (λ_=>False) g:=λg hg hx=>by
  rcases hx with hx|hx
  ·omega
  exact .inr hx
 refine⟨(hb.block _ (cq h.blk)).trans h.blk,h.len,cH h.lrow hb,cH h.krow hb,h.bel.trans (hb.mono h.bel.size),λj hj=>((h.ltr j hj).more hg).below hb,h.its.map (λ_ _ t=>(t.more hg).below hb),h.old,λg e=>?_⟩
 subst e;exact⟨h.big,by simp,λe=>by have:=(h.lrow.lt _ e).2;omega,λe=>by have:=(h.krow.lt _ e).2;omega⟩
theorem rD.only (h:rD F n d w wr lv kv lets bs ks zs E) (ho:cK E wr w1):rD F n d w w1 lv kv lets bs ks zs E:=by
 have hg:cK (Gx F w.heap.size lv kv E) wr w1:=ho.weak (λi _ hi=> .inl hi)
 refine⟨(ho.block _ (cq h.blk) (λe=>by have:=(h.off _ e).1;omega)).trans h.blk,h.len,cO h.lrow (λk hk=>ho.block k (h.lrow.lt k hk).2 (λe=>(h.off _ e).2.2.1 hk)),cO h.krow (λk hk=>ho.block k (h.krow.lt k hk).2 (λe=>(h.off _ e).2.2.2 hk)),h.bel.trans (ho.below h.bel.size (λk _ hk=>by have:=(h.off k hk).1;omega)),λj hj=>(h.ltr j hj).only hg,h.its.map (λ_ _ t=>t.only hg),h.old,λg hg=>?_⟩
 obtain⟨a,b,c⟩:=h.off g hg;exact⟨a,SL b ho.size,c⟩
theorem rD.free (h:rD F n d w wr lv kv lets bs ks zs E):rD F n d w wr lv kv lets bs ks zs (λ_=>False):=by
 have hg:∀g,g<wr.heap.size->Gx F w.heap.size lv kv (λ_=>False) g->Gx F w.heap.size lv kv E g:=λg _ hx=>by
  rcases hx with hx|hx
  ·exact hx.elim
  exact .inr hx
 exact⟨h.blk,h.len,h.lrow,h.krow,h.bel,λj hj=>(h.ltr j hj).more hg,h.its.map (λ_ _ t=>t.more hg),h.old,λg e=>e.elim⟩
theorem rD.rw (h:rD F n d w wr lv kv lets bs ks zs E):tF (Gx F w.heap.size lv kv E) wr w.heap.size n lv (λj=>bs.getD j 0) d lets:=by
 refine⟨RM wr _ 0 _ _ _ h.blk,RM wr _ 1 _ _ _ h.blk,?_,h.ltr⟩;obtain⟨va,vcap,ev⟩:=rC h.lrow;subst ev;refine⟨va,vcap,rfl,λj hj=>?_⟩
 obtain⟨g,c2,ev,_,_⟩:=World.ownsRow.form h.lrow (by omega)
 simp only[Sb,TV] at ev;obtain⟨rfl,rfl⟩:=ev;refine⟨g,rfl,λhx=>hx,?_⟩
 rw[TB h.lrow j (by omega)]
 unfold vx;show(bs.map λb=>(Value.pointer (some ⟨b,0,none⟩)))[j]?=some (Value.pointer (some ⟨bs.getD j 0,0,none⟩))
 rw[Se,RG,RI (by rw[h.len];exact hj)]
 rfl
end
section
variable {F : Nat -> Prop} {n : Int} {d : Nat} {w wr w1 w5 : World} {lv kv : Value} {lets : List Tr} {bs : List Nat} {ks : List fQ} {zs : List Yt} {E : Nat -> Prop}
theorem DB {F G:Nat->Prop} {gg:Nat} (ho:cK F w1 w5) (hat:F gg\/w1.heap.size<=gg) (hG:∀g,G g->F g\/g=gg) {b:Nat} {t:Tr} (h:gG F d w1 b t):gG G d w5 b t:=by
 have h1:gG (λg=>F g\/g=gg) d w1 b t:=h.more (λg hg hx=>by
  rcases hx with hx|hx
  ·exact hx
  subst hx;rcases hat with h2|h2
  ·exact h2
  omega)
 exact(h1.only (ho.weak (λi _ hi=> .inl hi))).more (λg _ hx=>hG g hx)
theorem rD.addLet (h:rD F n d w w1 lv kv lets bs ks zs E) {o:Obj} {gg cap b':Nat} {c:Tr} (ht:gG (Gx F w.heap.size lv kv E) d w1 b' c)
 (hown:w5.ownsRow (w.heap.size+1) 161 1 (Sq gg (lets.length+1) cap) (lets.length+1) (vx bs++[Pq b'])) (hgrow:(w1.alloc o).grownBy w5 lv.ownBlock) (hat:lv.ownBlock=some gg\/gg=w1.heap.size+1):
 rD F n d w (w5.setCell ⟨w.heap.size,1,none⟩ (Sq gg (lets.length+1) cap)) (Sq gg (lets.length+1) cap) kv (lets++[c]) (bs++[b']) ks zs E:=by
 have ho5:cK (λg=>lv.ownBlock=some g) w1 w5:=((cK.refl (λg=>lv.ownBlock=some g) w1).alloc _).grown hgrow (λk hk=> .inl hk)
 have hl5:=ho5.block _ (cq h.blk) (λe=>by have:=(h.lrow.lt _ e).1;omega)
 have ho:cK (λg=>g=w.heap.size\/lv.ownBlock=some g) w1 (w5.setCell ⟨w.heap.size,1,none⟩ (Sq gg (lets.length+1) cap)):=(ho5.weak (λi _ hi=> .inr hi)).setCell (.inl (.inl rfl)) _
 have hoG:cK (Gx F w.heap.size lv kv E) w1 (w5.setCell ⟨w.heap.size,1,none⟩ (Sq gg (lets.length+1) cap)):=ho.weak (λi _ hi=>by
  rcases hi with hi|hi
  ·exact .inr (.inl hi)
  exact .inr (.inr (.inl hi)))
 have hgw:=(hown.lt gg rfl).1;have step:∀{b} {t},gG (Gx F w.heap.size lv kv E) d w1 b t->gG (Gx F w.heap.size (Sq gg (lets.length+1) cap) kv E) d (w5.setCell ⟨w.heap.size,1,none⟩ (Sq gg (lets.length+1) cap)) b t:=λ{b t} hx=>by
  refine DB (gg:=gg) hoG ?_ ?_ hx
  ·rcases hat with e|e
   ·exact .inl (.inr (.inr (.inl e)))
   right;omega
  intro g hg;rcases hg with hg|hg|hg|hg|hg
  ·exact .inl (.inl hg)
  ·exact .inl (.inr (.inl hg))
  ·right;simp[Value.ownBlock] at hg;exact hg.symm
  ·exact .inl (.inr (.inr (.inr (.inl hg))))
  exact .inl (.inr (.inr (.inr (.inr hg))))
 refine⟨?_,by simp[h.len],?_,?_,?_,?_,?_,h.old,?_⟩
 ·rw[R3 w5 w.heap.size 1 _ _ _ (hl5.trans h.blk)];rfl
 ·have h2:=Tn hown (a:=⟨w.heap.size,1,none⟩) (by
   intro e;simp[Value.ownBlock] at e;omega) (Sq gg (lets.length+1) cap)
  unfold vx at h2⊢;rw[RT,Sv];exact h2
 ·exact cO h.krow (λk hk=>ho.block k (h.krow.lt k hk).2 (λe=>by
   rcases e with e|e
   ·have:=(h.krow.lt k hk).1;omega
   exact h.apart e hk))
 ·exact h.bel.trans (ho.below h.bel.size (λk _ hk=>by
   rcases hk with hk|hk
   ·omega
   have:=(h.lrow.lt k hk).1;omega))
 ·intro j hj;by_cases e:j<lets.length
  ·rw[kI e,kI (by rw[h.len];exact e)]
   exact step (h.ltr j e)
  have e2:j=lets.length:=by simp at hj;omega
  subst e2;have e3:(bs++[b']).getD lets.length 0=b':=by rw[<-h.len];exact iJ
  rw[iJ,e3];exact step ht
 ·exact h.its.map (λ_ _ t=>step t)
 intro g hg;obtain⟨a,b,c,e⟩:=h.off g hg;refine⟨a,SL b ho.size,λq=>?_,e⟩
 simp[Value.ownBlock] at q;subst q;rcases hat with q|q
 ·exact c q
 omega
theorem rD.keep (h:rD F n d w w1 lv kv lets bs ks zs E) {o:Obj} {gg cap:Nat} {x:fQ} {y:Yt} (ht:Qp (Gx F w.heap.size lv kv E) d w1 x y)
 (hown:w5.ownsRow (w.heap.size+1) 163 10 (Sq gg (zs.length+1) cap) (zs.length+1) (dE zs++ff y)) (hgrow:(w1.alloc o).grownBy w5 kv.ownBlock) (hat:kv.ownBlock=some gg\/gg=w1.heap.size+1):
 rD F n d w w5 lv (Sq gg (zs.length+1) cap) lets bs (ks++[x]) (zs++[y]) E:=by
 have ho:cK (λg=>kv.ownBlock=some g) w1 w5:=((cK.refl (λg=>kv.ownBlock=some g) w1).alloc _).grown hgrow (λk hk=> .inl hk)
 have hoG:cK (Gx F w.heap.size lv kv E) w1 w5:=ho.weak (λi _ hi=> .inr (.inr (.inr (.inl hi))))
 have step:∀{b} {t},gG (Gx F w.heap.size lv kv E) d w1 b t->gG (Gx F w.heap.size lv (Sq gg (zs.length+1) cap) E) d w5 b t:=λ{b t} hx=>by
  refine DB (gg:=gg) hoG ?_ ?_ hx
  ·rcases hat with e|e
   ·exact .inl (.inr (.inr (.inr (.inl e))))
   right;omega
  intro g hg;rcases hg with hg|hg|hg|hg|hg
  ·exact .inl (.inl hg)
  ·exact .inl (.inr (.inl hg))
  ·exact .inl (.inr (.inr (.inl hg)))
  ·right;simp[Value.ownBlock] at hg;exact hg.symm
  exact .inl (.inr (.inr (.inr (.inr hg))))
 refine⟨(ho.block _ (cq h.blk) (λe=>by have:=(h.krow.lt _ e).1;omega)).trans h.blk,h.len,cO h.lrow (λk hk=>ho.block k (h.lrow.lt k hk).2 (λe=>h.apart hk e)),?_,h.bel.trans (ho.below h.bel.size (λk _ hk=>by have:=(h.krow.lt k hk).1;omega)),λj hj=>step (h.ltr j hj),?_,h.old,?_⟩
 ·rw[nt,RT];exact hown
 ·exact(h.its.map (λ_ _ t=>step t)).snoc ⟨ht.kd,ht.wh,step ht.tr⟩
 intro g hg;obtain⟨a,b,c,e⟩:=h.off g hg;refine⟨a,SL b ho.size,c,λq=>?_⟩
 simp[Value.ownBlock] at q;subst q;rcases hat with q|q
 ·exact e q
 omega
theorem OE {p:mY} {d:Nat} {fl:List Int} (Z:dI fl) {x:fQ} {r:List fQ} {lets:List Tr} {m:Nat} {lt lt':List Nat} {lv lv':List Int} (h:sU p lets m lt lt' lv lv' fl) (E:pd d lt (x::r)) (z:nX m (x::r)):
 ∃J U lv2 V,sU p (if x.kind=11 then lets++[kW p lets d x.c] else lets) (if x.kind=11 then m+1 else m) J U lv2 V fl/\pd d J r/\nX (if x.kind=11 then m+1 else m) r:=by
 obtain⟨I,O,hk⟩:=E;have Y:=wZ h.ok h.has' Z I O;have hv:=kH h.has Z I O;rcases hk with⟨D,R,E⟩|⟨ac,ad,R,E⟩
 ·have z:x.wh=m/\nX (m+1) r:=by
   rcases z with z|z
   ·exact z.2
   exact absurd D z.1
  obtain⟨hm,z⟩:=z;rw[hm] at R E;have ae:=h.llt;obtain⟨n1,n2⟩:=uN h (by omega) (c:=kW p lets d x.c) (ty:=cP lt d x.c) (v:=eP lv fl d x.c) (λhs _=>by
   have G:hY 1 (kW p lets d x.c):=by
    cases d with
    |zero=>exact I.elim
    |succ d=>exact⟨Y.wf.1,by rw[hs];simp⟩
   have hd:1<=d:=by
    cases d with
    |zero=>exact I.elim
    |succ d=>omega
   refine⟨G,?_,?_⟩
   ·rw[<-nu G hd,Y.ty]
   rw[<-pU G hd,Y.ev]) hv
  rw[RK D,RK D];by_cases hi:p.inl=true/\(kW p lets d x.c).kids=[]
  ·exact⟨_,_,_,_,n1 hi,E,z⟩
  exact⟨_,_,_,_,n2 hi,E,z⟩
 have D:x.kind≠11:=by omega
 have z:nX m r:=by
  rcases z with z|z
  ·exact absurd z.1 D
  exact z.2
 rw[RH D,RH D];exact⟨_,_,_,_,h,E,z⟩
theorem Qa {z:Int} {fl:List Int} (D:dI fl) {lets:List Tr} {m:Nat} {lt lt':List Nat} {lv lv':List Int} (h:sU (cQ z) lets m lt lt' lv lv' fl) (E:lets.length<=1000):P8 z lets lt lt' lv lv' fl:=
 ⟨h.ok,h.has',D,λi G=>by
  by_cases e:i<lets.length
  ·exact e
  exact absurd (h.late i (by rw[<-h.len];omega)) G,E⟩
end
section
attribute [local go_sem ↓] Go.wp_at_zero Go.wp_at_succ
structure Rn (F:Nat->Prop) (n:Int) (d:Nat) (fl:List Int) (xs:List fQ) (w wr:World) (lv kv:Value) (lets:List Tr) (bs:List Nat) (ks:List fQ) (zs:List Yt) (k:Nat):Prop where
 mem:rD F n d w wr lv kv lets bs ks zs (λ_=>False)
 zk:zs.length<=k
 lk:lets.length<=k
 inv:∃m lt lt' lvs lvs',sU (cQ n) lets m lt lt' lvs lvs' fl/\pd d lt (xs.drop k)/\nX m (xs.drop k)
 eq:ks++uj (cQ n) d lets (xs.drop k)=uj (cQ n) d [] xs
theorem M0 {F:Nat->Prop} {n:Int} {d:Nat} {fl:List Int} {xs:List fQ} {w:World} (z:∀g,F g->g<w.heap.size) (A:pd d eB xs) (D:nX 0 xs):Rn F n d fl xs w (w.alloc (.cells #[Iq n,.slice none 0 0] 237)) (.slice none 0 0) (.slice none 0 0) [] [] [] [] 0:=by
 have q:∀i,eB.getD i 0≠0->False:=λi h=>h (gX i)
 refine⟨⟨RO w _,rfl,SC _ _ _ _,SC _ _ _ _,(RP _ _).alloc (RL _) _,λj E=>by simp at E,iW.nil,z,λg e=>e.elim⟩,RL _,RL _,⟨0,eB,eB,jM,jM,⟨⟨λi h=>(q i h).elim,λi h=>(q i h).elim⟩,λi h=>(q i h).elim,λi h=>(q i h).elim,rfl,λi _=>gX i,rfl,rfl,rfl,rfl,λi h=>(q i h).elim⟩,A,D⟩,rfl⟩
theorem GV {F:Nat->Prop} {n:Int} {d:Nat} {w z q:World} {lv V:Value} {lets:List Tr} {Y:List Nat} {ks:List fQ} {Z:List Yt} {E:Nat->Prop} {o:Obj} (h:rD F n d w z lv V lets Y ks Z E) (A:(z.alloc o).grownBy q lv.ownBlock):Cq q w.heap.size 1 lv/\q.frozen? ⟨w.heap.size,1,none⟩=false:=by
 have O:=((cK.refl (λg=>lv.ownBlock=some g) z).alloc _).grown A (λk hk=> .inl hk)
 have R:=(O.block _ (cq h.blk) (λe=>by have:=(h.lrow.lt _ e).1;omega)).trans h.blk
 exact⟨RM q _ 1 _ _ _ R,Rb R⟩
theorem M3 {F:Nat->Prop} {n:Int} {d:Nat} {w q A:World} {lv G:Value} {lets:List Tr} {I:List Nat} {ks:List fQ} {J:List Yt} {E:Nat->Prop} {o:Obj} (_h:rD F n d w q lv G lets I ks J E) (z:(q.alloc o).grownBy A lv.ownBlock) {it:Nat} (O:it<q.heap.size) (R:lv.ownBlock≠some it):A.heap[it]?=q.heap[it]?:=by
 have D:=((cK.refl (λg=>lv.ownBlock=some g) q).alloc _).grown z (λk U=> .inl U)
 exact D.block it O R
theorem M4 {F:Nat->Prop} {n:Int} {d:Nat} {w z:World} {lv A:Value} {lets:List Tr} {q:List Nat} {ks:List fQ} {D:List Yt} {E:Nat->Prop} {c:Tr} {b:Nat} (h:rD F n d w z lv A (lets++[c]) (q++[b]) ks D E):gG (Gx F w.heap.size lv A E) d z b c:=by
 have:=h.ltr lets.length (by simp)
 have G:q.length=lets.length:=by have:=h.len;simpa using this
 have I:(q++[b]).getD lets.length 0=b:=by rw[<-G];exact iJ
 rw[iJ,I] at this;exact this
theorem uE {d:Nat}:∀{l:List fQ} {lt:List Nat},pd d lt l->lt.length=10-> ∀j,j<l.length->hY d (l.getD j mV).c/\(∃lt:List Nat,lt.length=10/\cP lt d (l.getD j mV).c≠0)/\((l.getD j mV).kind=11->(l.getD j mV).wh<10)
 |[],lt,_,_,j,D=>by simp at D
 |x::r,lt,h,z,j,D=>by
  obtain⟨J,E,G⟩:=h;cases j with
  |zero=>
   refine⟨J,⟨lt,z,E⟩,λI=>?_⟩
   have O:x.kind=11:=I;rcases G with⟨_,q,_⟩|⟨q,_⟩
   ·rw[z] at q;exact q
   omega
  |succ j=>
   have A:j<r.length:=by simpa using D
   rcases G with⟨_,_,q⟩|⟨_,_,_,q⟩
   ·exact uE q (by simpa using z) j A
   exact uE q z j A
theorem DC {F:Nat->Prop} {n:Int} {d:Nat} {fl:List Int} (hF:dI fl) {xs:List fQ} {ys:List Yt} {v:Value} {w:World} (hv:lF w v ys) (hI:iW F d w xs ys) (aT:∀g,F g->g<w.heap.size) (hl:ys.length<=1000) (U:pd d eB xs) (hS:nX 0 xs):
 Calls prog 91 #[v,Iq n] w λe w'=> ∃v' aH,e= .returned v'/\lF w' v' aH/\iW F d w' (o9 (cQ n) d xs) aH/\Bl w w'/\aH.length<=ys.length:=by
 obtain⟨a,cap,rfl,hq⟩:=hv;have HQ:=Hi hq;have HI:Hid (iW F d w xs ys):=hI;have HF:Hid (dI fl):=hF;have H0:Hid (Rn F n d fl xs w (w.alloc (.cells #[Iq n,.slice none 0 0] 237)) (.slice none 0 0) (.slice none 0 0) [] [] [] [] 0):=M0 aT U hS;have aU:=Hi (And.intro U hS);obtain⟨i0,hi,aV,aW,aX⟩:=Tz oG;obtain⟨j0,hj,br,bt,bu⟩:=Tz zP;clear hq hI U hS hF aT;go_enter func91,ntmps91;go_wp2_with fail;go_loopw [6,14] (λkv iv wr=> ∃(k:Nat) (lv:Value) (lets:List Tr) (bs:List Nat) (ks:List fQ) (V:List Yt),k<=ys.length/\iv= Iq k/\Hid (Rn F n d fl xs w wr lv kv lets bs ks V k)) (λ_ iv _=>ys.length - (intOf iv).toNat)
 case atStart=>exact⟨0,_,_,_,_,_,R0 _,rfl,H0.out⟩
 case round=>
  obtain⟨k,lv,lets,bs,ks,V,bG,rfl,HX⟩:=hrel;by_cases aI:k<ys.length
  ·have G:=HX.out;have hE:=G.eq;obtain⟨mm,lt,lt',bH,bF,aw,U,aJ⟩:=G.inv;obtain⟨g,rfl,aY,ao⟩:=HQ.out k aI;have ap:=HI.out.2 k aI;have bI:=G.lk;have bJ:=G.zk;rw[A6 (by rw[HI.out.1];exact aI) mV] at hE U aJ
   obtain⟨aK,aZ⟩:∃aK,∃aq ai aB aj,sU (cQ n) (if(xs.getD k mV).kind=11 then lets++[kW (cQ n) lets d (xs.getD k mV).c] else lets) aK aq ai aB aj fl/\pd d aq (xs.drop (k+1))/\nX aK (xs.drop (k+1)):=⟨_,OE HF.out aw U aJ⟩;have a0:=Hi aZ;generalize xs.getD k mV=x at*;generalize ys.getD k Dx=y at*;obtain⟨z,u0,b,wh⟩:=y;have bK:=Hi ap;have aL:=ap.kd;have a8:=ap.wh;simp only[] at aL a8;subst a8;have ah:=Hi aL;clear aL;obtain⟨va,ax,ev⟩:=rC G.mem.krow;obtain rfl:=ev;obtain⟨la,ak,ev⟩:=rC G.mem.lrow;obtain rfl:=ev;have a9:=G.mem.bel;have I:∀j,j<10->wr.cell? ⟨g,k*10+j,none⟩=(ff (z,u0,b,(x.wh:Int)))[j]?:=λj hj=>by
    rw[a9.cell (p:=⟨g,k*10+j,none⟩) aY];exact ao j hj
   have c0:wr.cell? ⟨g,k*10,none⟩=some (Iq (cz z)):=I 0 (by omega)
   have c1:wr.cell? ⟨g,k*10+1,none⟩=some (Iq z.pl):=I 1 (by omega)
   have c2:wr.cell? ⟨g,k*10+2,none⟩=some (Iq (cY z)):=I 2 (by omega)
   have c3:wr.cell? ⟨g,k*10+3,none⟩=some (S (cG z)):=I 3 (by omega)
   have c4:wr.cell? ⟨g,k*10+4,none⟩=some (Iq (cz u0)):=I 4 (by omega)
   have c5:wr.cell? ⟨g,k*10+5,none⟩=some (Iq u0.pl):=I 5 (by omega)
   have c6:wr.cell? ⟨g,k*10+6,none⟩=some (Iq (cY u0)):=I 6 (by omega)
   have c7:wr.cell? ⟨g,k*10+7,none⟩=some (S (cG u0)):=I 7 (by omega)
   have c8:wr.cell? ⟨g,k*10+8,none⟩=some (Iq (x.wh:Nat)):=I 8 (by omega)
   have c9:wr.cell? ⟨g,k*10+9,none⟩=some (Pq b):=I 9 (by omega)
   have bL:(0:Int)<=(k:Int)/\(k:Int)<(ys.length:Int):=by omega
   have am:(wr.alloc (oF z u0 (x.wh:Int) (Pq b))).heap[wr.heap.size]?=some (oF z u0 (x.wh:Int) (Pq b)):=RO wr _;have ac:=G.mem.item (oF z u0 (x.wh:Int) (Pq b));unfold oF at am ac;generalize ba:wr.alloc (.cells #[Iq (cz z),Iq z.pl,Iq (cY z),S (cG z),Iq (cz u0),Iq u0.pl,Iq (cY u0),S (cG u0),Iq (x.wh:Nat),Pq b] 163 (0,0))=w1 at*;have bb:=Hi ba;have bc:gG (Gx F w.heap.size (.slice la lets.length ak) (.slice va V.length ax) (λg=>g=wr.heap.size)) d w1 b x.c:=(ap.tr.more (λg hg hx=>by rcases ac.ge g hx with q|q;omega;exact q)).below ac.bel
   have W1:=MW (Qa HF.out aw (by omega)) d d ac.lt ac.rw U.1 U.2.1 bc
   have bd:=Hi ac;have ad:=Hi am;have HE:=Hi hE;obtain⟨⟨z0,z1,z2,z3,z4,z5,z6,z7,z8,z9⟩,zf⟩:=dY am;clear I ao G a9 ap am HX aY ba hE aZ aw U aJ ac bc;go_upto_region 6 with fail;rw[bb.out];go_upto_region 7 with(first|(go_at_call 128;refine W1.mono ?_;rintro e w2 ⟨⟨b',rfl,bf⟩,ar⟩;have q9:w2.cell? ⟨wr.heap.size,9,none⟩=some (Pq b):=by{rw[ar.cell (p:=⟨wr.heap.size,9,none⟩) (cq ad.out)];exact z9};have qf:w2.frozen? ⟨wr.heap.size,9,none⟩=false:=by{rw[SO (w:=w1) (a:=⟨wr.heap.size,9,none⟩) (ar.block _ (cq ad.out))];exact zf 9}))
   have aa:=(bd.out.below ar).only ((cK.refl (λg=>g=wr.heap.size) w2).setCell (o:=9) (.inl rfl) (Pq b'))
   have au:=bf.only (((cK.refl (λg=>g=wr.heap.size) w2).setCell (o:=9) (.inl rfl) (Pq b')).weak (λi _ hi=>Or.inl hi))
   have ae:(w2.setCell ⟨wr.heap.size,9,none⟩ (Pq b')).heap[wr.heap.size]?=some (.cells #[Iq (cz z),Iq z.pl,Iq (cY z),S (cG z),Iq (cz u0),Iq u0.pl,Iq (cY u0),S (cG u0),Iq (x.wh:Nat),Pq b'] 163 (0,0)):=by
    rw[R3 w2 wr.heap.size 9 _ _ _ ((ar.block _ (cq ad.out)).trans ad.out)];rfl
   generalize w2.setCell ⟨wr.heap.size,9,none⟩ (Pq b')=J at*;clear z0 z1 z2 z3 z4 z5 z6 z7 z8 z9 zf c0 c1 c2 c3 c4 c5 c6 c7 c8 c9 q9 qf W1 bf ar bd ad bb;obtain⟨⟨s0,s1,s2,s3,s4,s5,s6,s7,s8,s9⟩,sf⟩:=dY ae;have bv:=Hi aa;have bw:=Hi au;have an:=Hi ae;by_cases O:x.kind=11
   ·have bx:((cz z:Int)==11)=true:=by rw[ah.out,O];rfl
    have Z:=Hi a0.out;rw[RK O] at Z;have hD:Bl J J.drew:=(RP _ _).drew;have R:=Hi (aa.below hD);have bp:=Hi (au.below hD);have bz:Hid (J.drew.ownsRow (w.heap.size+1) 161 1 (.slice la lets.length ak) lets.length (vx bs)):=R.out.lrow;have r1:=RM J _ 1 _ _ _ aa.blk;have rf:J.frozen? ⟨w.heap.size,1,none⟩=false:=Rb aa.blk;have bM:=aa.big;have aC:Hid (uj (cQ n) d lets (x::List.drop (k+1) xs)=if iV n 1=true/\(kW (cQ n) lets d x.c).kids=[] then uj (cQ n) d (lets++[kW (cQ n) lets d x.c]) (List.drop (k+1) xs) else⟨x.kind,x.wh,kW (cQ n) lets d x.c⟩::uj (cQ n) d (lets++[kW (cQ n) lets d x.c]) (List.drop (k+1) xs)):=by
     show _=_;rw[uj,RK O];by_cases q:iV n 1=true/\(kW (cQ n) lets d x.c).kids=[]
     ·rw[RK q,RK ⟨q.1,O,q.2⟩]
     rw[RH q,RH (λe=>q ⟨e.1,e.2.2⟩)]
    have aM:Hid (decide (cz z=11)=true):=by show _=_;rw[ah.out];exact Sr O
    have pa:w.heap.size<J.heap.size:=by omega
    have ia:=cq ae;clear aa au ae O hD;go_upto_region 8 with fail;go_region_law (first
     |(refine step_append_lies _ (by rfl) _ _ _ (by rfl) (w.heap.size+1) 161 j0 _ 1 8 underlying227 hj br bt bu (by rfl) (by decide) (.slice la lets.length ak) lets.length (vx bs) (by rfl) (World.ownsRow.alloc bz.out _) ⟨J.heap.size,0,none⟩ 1 1 [Pq b'] (by rfl) (by rfl) (World.news_of_block (RO J.drew _)) (λx hx=>by simp at hx;rcases hx with rfl;rfl) (by decide) (by unfold maxLen;omega) (by omega) (by simp;omega) (J.heap.size+1) (by simp) ?_;intro aN ay w5 D A ab af;have y1:=(GV R.out A).1;have yf:=(GV R.out A).2;have bA:Hid _:=M3 R.out A (cq an.out) (R.out.off _ rfl).2.2.1;have aD:Hid _:=R.out.addLet bp.out D A (by rcases ab with h|h;exact .inl h;right;rw[h];rfl);clear D A ab af))
    all_goals
     have az:(w5.setCell ⟨w.heap.size,1,none⟩ (Sq aN (lets.length+1) ay)).heap[wr.heap.size]?=_:=(RQ _ _ _ _ (by have:=(R.out.off _ rfl).1;simp only[];omega)).trans (bA.out.trans an.out)
     have aO:=Hi az;generalize w5.setCell ⟨w.heap.size,1,none⟩ (Sq aN (lets.length+1) ay)=w6 at*;generalize Value.slice (some ⟨aN,0,none⟩) (lets.length+1) ay=bN at*;have bg:=Hi (M4 aD.out);have W2:=uZ (kd:=cz z) (wh:=x.wh) (a1:= Iq z.pl) (a2:= Iq (cY z)) (a3:=S (cG z)) (a4:= Iq (cz u0)) (a5:= Iq u0.pl) (a6:= Iq (cY u0)) (a7:=S (cG u0)) rfl rfl rfl rfl rfl rfl rfl aD.out.rw bg.out;rw[aM.out,TC] at W2;clear s0 s1 s2 s3 s4 s5 s6 s7 s8 s9 sf r1 rf y1 yf;obtain⟨⟨s0,s1,s2,s3,s4,s5,s6,s7,s8,s9⟩,sf⟩:=dY az;clear az;by_cases hq:iV n 1=true/\(kW (cQ n) lets d x.c).kids=[]
     ·have av:Hid (uj (cQ n) d lets (x::List.drop (k+1) xs)=uj (cQ n) d (lets++[kW (cQ n) lets d x.c]) (List.drop (k+1) xs)):=by
       show _=_;rw[aC.out,RK hq]
      rw[hq.1,TC,Sr hq.2] at W2;clear aC aM hq;go_wp2_with (first|(go_at_call 129;refine W2.mono ?_;rintro e w7 ⟨rfl,E⟩))
      have Y:=Hi (aD.out.below E).free;clear E W2;go_roundw
      case rel=>
       obtain⟨aq,ai,aB,aj,i1,i2,i3⟩:=Z.out;exact⟨k+1,_,_,_,_,_,by omega,by go_num,⟨Y.out,by omega,by simp;omega,⟨_,_,_,_,_,i1,i2,i3⟩,by rw[<-HE.out,av.out]⟩⟩
      case measure=>simp[intOf];omega
     have av:Hid (uj (cQ n) d lets (x::List.drop (k+1) xs)=⟨x.kind,x.wh,kW (cQ n) lets d x.c⟩::uj (cQ n) d (lets++[kW (cQ n) lets d x.c]) (List.drop (k+1) xs)):=by
      show _=_;rw[aC.out,RH hq]
     rw[show(iV n 1&&decide ((kW (cQ n) lets d x.c).kids=[]))=false by cases h:iV n 1<;>simp_all] at W2
     clear aC aM hq;go_upto_region 9 with fail;go_upto_region 10 with(first|(go_at_call 129;refine W2.mono ?_;rintro e w7 ⟨rfl,E⟩))
     have Y:=Hi (aD.out.below E);have aP:=Hi (bg.out.below E);have ag:=(E.block _ (cq aO.out)).trans aO.out;obtain⟨⟨p0,p1,p2,p3,p4,p5,p6,p7,p8,p9⟩,pf⟩:=dY ag;have aQ:Hid (w7.ownsRow (w.heap.size+1) 163 10 (.slice va V.length ax) V.length (dE V)):=Y.out.krow;have bB:=Y.out.big;clear ag E W2 s0 s1 s2 s3 s4 s5 s6 s7 s8 s9 sf;go_wp2_with (at_builtin;go_must (refine wpList_append_lies _ (by rfl) _ _ 84 (by rfl) (w.heap.size+1) 163 i0 (.agg #[Iq 0,Iq 0,Iq 0,.string ⟨#[]⟩,Iq 0,Iq 0,Iq 0,.string ⟨#[]⟩,Iq 0,.pointer none]) 10 96 underlying84 hi aV aW aX (by rfl) (by decide) _ _ _ (by rfl) (aQ.out.alloc _) ⟨w7.heap.size,0,none⟩ 1 1 [Iq (cz z),Iq z.pl,Iq (cY z),S (cG z),Iq (cz u0),Iq u0.pl,Iq (cY u0),S (cG u0),Iq (x.wh:Nat),Pq b'] (by rfl) (by rfl) (World.news_of_block (RO w7 _)) (λx hx=>by simp at hx;rcases hx with rfl|rfl|rfl|rfl|rfl|rfl|rfl|rfl|rfl|rfl<;>rfl) (by decide) (by unfold maxLen;omega) (by omega) (by simp;omega) _ rfl ?_);intro gg bq w8 D A ab af;have HN:Hid _:=(Y.out.keep (x:=⟨x.kind,x.wh,kW (cQ n) lets d x.c⟩) (y:=(z,u0,b',(x.wh:Int))) ⟨ah.out,rfl,aP.out⟩ D A (by rcases ab with h|h;exact .inl h;right;rw[h,RW])).free;clear D A ab af)
     go_roundw
     case rel=>
      obtain⟨aq,ai,aB,aj,i1,i2,i3⟩:=Z.out;exact⟨k+1,_,_,_,_,_,by omega,by go_num,⟨HN.out,by simp;omega,by simp;omega,⟨_,_,_,_,_,i1,i2,i3⟩,by rw[<-HE.out,av.out];simp⟩⟩
     case measure=>simp[intOf];omega
   have bx:((cz z:Int)==11)=false:=by rw[ah.out];simp;omega
   have av:Hid (uj (cQ n) d lets (x::List.drop (k+1) xs)=⟨x.kind,x.wh,kW (cQ n) lets d x.c⟩::uj (cQ n) d lets (List.drop (k+1) xs)):=by
    show _=_;rw[uj,RH O,RH (λe=>O e.2.1)]
   have Z:=Hi a0.out;rw[RH O] at Z;have W2:=uZ (kd:=cz z) (wh:=x.wh) (a1:= Iq z.pl) (a2:= Iq (cY z)) (a3:=S (cG z)) (a4:= Iq (cz u0)) (a5:= Iq u0.pl) (a6:= Iq (cY u0)) (a7:=S (cG u0)) rfl rfl rfl rfl rfl rfl rfl aa.rw au;have bh:decide (cz z=11)=false:=by rw[ah.out];exact Sc O
   rw[bh,UA,Bool.and_false] at W2;clear aa au ae bh O;go_upto_region 9 with fail;go_upto_region 10 with(first|(go_at_call 129;refine W2.mono ?_;rintro e w7 ⟨rfl,E⟩))
   have Y:=Hi (bv.out.below E);have aP:=Hi (bw.out.below E);have ag:=(E.block _ (cq an.out)).trans an.out;obtain⟨⟨p0,p1,p2,p3,p4,p5,p6,p7,p8,p9⟩,pf⟩:=dY ag;have aQ:Hid (w7.ownsRow (w.heap.size+1) 163 10 (.slice va V.length ax) V.length (dE V)):=Y.out.krow;have bB:=Y.out.big;clear ag E W2 s0 s1 s2 s3 s4 s5 s6 s7 s8 s9 sf;go_wp2_with (at_builtin;go_must (refine wpList_append_lies _ (by rfl) _ _ 84 (by rfl) (w.heap.size+1) 163 i0 (.agg #[Iq 0,Iq 0,Iq 0,.string ⟨#[]⟩,Iq 0,Iq 0,Iq 0,.string ⟨#[]⟩,Iq 0,.pointer none]) 10 96 underlying84 hi aV aW aX (by rfl) (by decide) _ _ _ (by rfl) (aQ.out.alloc _) ⟨w7.heap.size,0,none⟩ 1 1 [Iq (cz z),Iq z.pl,Iq (cY z),S (cG z),Iq (cz u0),Iq u0.pl,Iq (cY u0),S (cG u0),Iq (x.wh:Nat),Pq b'] (by rfl) (by rfl) (World.news_of_block (RO w7 _)) (λx hx=>by simp at hx;rcases hx with rfl|rfl|rfl|rfl|rfl|rfl|rfl|rfl|rfl|rfl<;>rfl) (by decide) (by unfold maxLen;omega) (by omega) (by simp;omega) _ rfl ?_);intro gg bq w8 D A ab af;have HN:Hid _:=(Y.out.keep (x:=⟨x.kind,x.wh,kW (cQ n) lets d x.c⟩) (y:=(z,u0,b',(x.wh:Int))) ⟨ah.out,rfl,aP.out⟩ D A (by rcases ab with h|h;exact .inl h;right;rw[h,RW])).free;clear D A ab af)
   go_roundw
   case rel=>
    obtain⟨aq,ai,aB,aj,i1,i2,i3⟩:=Z.out;exact⟨k+1,_,_,_,_,_,by omega,by go_num,⟨HN.out,by simp;omega,by omega,⟨_,_,_,_,_,i1,i2,i3⟩,by rw[<-HE.out,av.out];simp⟩⟩
   case measure=>simp[intOf];omega
  obtain rfl:k=ys.length:=by omega
  have G:=HX.out;have hE:ks=uj (cQ n) d [] xs:=by
   have:=G.eq;rw[R8 (by rw[HI.out.1];exact RL _)] at this
   simpa [uj] using this
  have bi:Hid (iW F d wr ks V):=G.mem.its.map (λ_ _ t=>t.more (λ_ _ e=> .inr (.inr (.inr (.inr e)))))
  have HR:Hid (lF wr u6 V):=lF.of_row G.mem.krow;have HB:Hid (Bl w wr):=G.mem.bel;have HZ:Hid (V.length<=ys.length):=G.zk;have bj:Hid (pd d eB (jG ks)):=by
   have hz:∀i,eB.getD i 0≠0->False:=λi h=>h (gX i)
   have i1:=(xa (p:=cQ n) (d:=d) HF.out (lets:=[]) (m:=0) (lt:=eB) (lt':=eB) (lv:=jM) (lv':=jM) ⟨⟨λi h=>(hz i h).elim,λi h=>(hz i h).elim⟩,λi h=>(hz i h).elim,λi h=>(hz i h).elim,rfl,λi _=>gX i,rfl,rfl,rfl,rfl,λi h=>(hz i h).elim⟩ aU.out.1 aU.out.2).1
   rw[<-hE] at i1;exact(sW (fl:=fl) (lv:=jM) i1).1
  have aE:Hid (o9 (cQ n) d xs=if iV n 4=true then(iQ d (jG ks)).1 else ks):=by
   show _=_;rw[hE];rfl
  have D1:=qe 4 (RM wr _ 0 _ _ _ G.mem.blk:Cq wr w.heap.size 0 (Iq n));clear G HX hE;cases h4:iV n 4
  ·rw[h4] at D1;have aA:Hid (o9 (cQ n) d xs=ks):=by show _=_;rw[aE.out,RH (by rw[h4];decide)]
   clear aE bj h4;go_wp2_with fail;apply D1.mono;rintro e w' ⟨rfl,aR⟩;subst aR;clear D1;go_wp2;go_ret;exact⟨_,V,rfl,HR.out,by rw[aA.out];exact bi.out,HB.out,HZ.out⟩
  rw[h4] at D1;have aA:Hid (o9 (cQ n) d xs=(iQ d (jG ks)).1):=by show _=_;rw[aE.out,RK h4]
  have V1:=λ(_:Unit)=>Dy HR.out bi.out (by have:=HZ.out;omega)
  clear aE h4;go_wp2_with fail;apply D1.mono;rintro e w' ⟨rfl,aR⟩;subst aR;clear D1;go_wp2_with fail;apply(V1 ()).mono;rintro e w7 ⟨v7,bC,rfl,kp,bk⟩;have V2:=Ke (F:=F) (lF.of_row kp.row) (kp.its.map (λ_ _ t=>t.below kp.bel)) (by have:=HZ.out;omega) (λj hj=>uE bj.out rfl j (by rw[kp.its.1];exact hj))
  have bl:Hid (Bl w w7):=HB.out.trans (kp.bel.mono HB.out.size);have bD:Hid (bC.length<=V.length):=bk;clear V1 kp bk;go_wp2_with fail;apply V2.mono;rintro e w8 ⟨v8,aF,rfl,bm,bo,aS,bE⟩;have aG:Hid (lF w8 v8 aF/\iW F d w8 (iQ d (jG ks)).1 aF/\Bl w w8/\aF.length<=ys.length):=⟨bm,bo.map (λ_ _ t=>t.below aS),bl.out.trans (aS.mono bl.out.size),by have:=HZ.out;have:=bD.out;omega⟩
  clear V2 bm bo aS bE;go_wp2;go_ret;exact⟨_,aF,rfl,aG.out.1,by rw[aA.out];exact aG.out.2.1,aG.out.2.2.1,aG.out.2.2.2⟩
theorem lF.only {w w':World} {v:Value} {ys:List Yt} {lp:Nat} {j:Bool} {a b c:Value} {T:TypeId} {z:Nat×Nat} (h:lF w v ys) (E:cK (λg=>g=lp) w w') (O:w.heap[lp]?=some (.cells #[.bool j,a,b,c] T z)):lF w' v ys:=by
 obtain⟨q,cap,e,R⟩:=h;refine⟨q,cap,e,λk U=>?_⟩
 obtain⟨g,e,V,G⟩:=R k U;have I: ¬g=lp:=λe=>by
  subst e;have D:=G 0 (by omega)
  have Y:=RM w g (k*10+0) _ _ _ O;rw[Y] at D;cases k with
  |zero=>
   have D:=D;cases D
  |succ k=>
   rw[RY,R2 (by simp;omega)] at D
   have D:=D;cases D
 refine⟨g,e,by have:=E.size;omega,λj J=>?_⟩
 rw[R1 (E.block g V I)];exact G j J
theorem xX {d:Nat}:∀{l:List fQ} {lt:List Nat},pd d lt l->lt.length=10-> ∀x∈l,(x.kind=11\/x.kind=12\/x.kind=13)/\x.wh<=255
 |[],_,_,_=>by simp
 |x::r,lt,h,G=>by
  obtain⟨J,O,h3⟩:=h;intro y z;simp only[Sm] at z;rcases h3 with⟨D,I,E⟩|⟨D,_,I,E⟩
  ·rcases z with rfl|z
   ·exact⟨.inl D,by omega⟩
   exact xX E (by simpa using G) y z
  rcases z with rfl|z
  ·exact⟨.inr D,I⟩
  exact xX E G y z
structure M5 (d:Nat) (L:List fQ) (w2 wr:World) (lp:Nat) (jmp:Bool) (vi:Value) (k:Nat):Prop where
 ly:Bj (λg=>g=lp) w2 wr lp jmp vi (kh jmp d (L.take k) []) (sh jmp d (L.take k) 0) (uB (L.take k) 0)
theorem M5.below {d:Nat} {L:List fQ} {z wr w':World} {lp:Nat} {jmp:Bool} {D:Value} {k:Nat} (h:M5 d L z wr lp jmp D k) (E:Bl wr w'):M5 d L z w' lp jmp D k:=⟨h.ly.below E⟩
theorem M5.next {d:Nat} {L:List fQ} {E wr w':World} {lp:Nat} {jmp:Bool} {G:Value} {k:Nat} {x:fQ} (h:M5 d L E wr lp jmp G k) (z:L[k]?=some x) (I:dH wr w' lp jmp G (kh jmp d (L.take k) []++iE jmp d x (kh jmp d (L.take k) []).length) (max (sh jmp d (L.take k) 0) (iD jmp d x)) (if x.kind=11 then x.wh+1 else uB (L.take k) 0)):∃D,M5 d L E w' lp jmp D (k+1):=by
 obtain⟨D,J,_⟩:=h.ly.next I;refine⟨D,⟨?_⟩⟩;rw[FP z,J5 z,J6 z];exact J
theorem M5.lay {d:Nat} (hd:d<=24) {L:List fQ} {D wr:World} {lp b:Nat} {jmp:Bool} {U:Value} {k:Nat} {x:fQ} (h:M5 d L D wr lp jmp U k) (E:L[k]?=some x) (I:pd d eB L) (hn:gH d L<=200) (hl:L.length<=30) (V:gG (λg=>g=lp) d D b x.c) {a1 a2 a3 a4 a5 a6 a7:Value} (Y:a1.oneCell'=true) (Z:a2.oneCell'=true) (o3:a3.oneCell'=true) (o4:a4.oneCell'=true) (o5:a5.oneCell'=true) (o6:a6.oneCell'=true) (o7:a7.oneCell'=true):
 Calls prog 92 #[Pq lp,.agg #[Iq x.kind,a1,a2,a3,a4,a5,a6,a7,Iq x.wh,Pq b]] wr λe w'=>e= .returned (.tuple #[])/\ ∃v',M5 d L D w' lp jmp v' (k+1):=by
 have G:x∈L:=UJ E;obtain⟨hk,hw⟩:=xX I rfl x G;have z:=A8 I;have hs:=uD (jmp:=jmp) (d:=d) (L:=L.take k) (l:=[]) (λy hy=>z y (Um hy))
 have hi:=MY (jmp:=jmp) (z x G);have J:=J7 (d:=d) L (k+1);rw[qL E] at J;have e2:gH d (L.take k++[x])=gH d (L.take k)+eR d x.c:=by simp[gH]
 have ab:(L.take k).length<=30:=by rw[Up];omega
 have ac:sh jmp d (L.take k) 0<=24:=by rw[A7];have:=AE jmp d (L.take k);omega
 simp only[Sx] at hs;exact(Dw Y Z o3 o4 o5 o6 o7 hk hw (z x G) V h.ly (by omega) (by omega) (by omega)).mono λe w' O=>⟨O.1,h.next E O.2⟩
theorem Ba {n:Int} {d:Nat} (hd:d<=24) {l:List fQ} {ys:List Yt} {v:Value} {w:World} (hv:lF w v ys) (hI:iW (λg=>w.heap.size<=g) d w l ys) (hT:pd d eB l) (hS:nX 0 l) (hn:gH d l<=200) (hl:l.length<=30):
 Calls prog 44 #[v,Iq n] w λe w'=>e= .returned (S (kY (cQ n) d l))/\Bl w w':=by
 have aI:l.length=ys.length:=hI.1;obtain⟨L,hL⟩:∃L,o9 (cQ n) d l=L:=⟨_,rfl⟩;obtain⟨ls,ad⟩:∃ls,kh (cQ n).jmp d L []++[⟨18,0,0⟩]=ls:=⟨_,rfl⟩;obtain⟨Y,R,I,J,U,aw,ax,ay⟩:=J8 hd hT hS hn hl hL ad;have ej:(cQ n).jmp=iV n 8:=rfl;have eb:iV n 8=(bits .and .i64 n 8 !=0):=rfl;have G:Bl w (w.alloc (.cells #[.bool (iV n 8),.slice none 0 0,Iq 0,Iq 0] 194)):=(RP _ _).alloc (RL _) _;have aa:(w.alloc (.cells #[.bool (iV n 8),.slice none 0 0,Iq 0,Iq 0] 194)).heap[w.heap.size]?=some (.cells #[.bool (iV n 8),.slice none 0 0,Iq 0,Iq 0] 194 (0,0)):=RO w _;generalize ag:w.alloc (.cells #[.bool (iV n 8),.slice none 0 0,Iq 0,Iq 0] 194)=wA at*;have Z:=cq aa;have W1:=DC (F:=λg=>g=w.heap.size) (n:=n) lV (hv.below G) (hI.map λ_ _ t=>(t.more (λg _ (e:g=w.heap.size)=>by omega)).below G) (λg (e:g=w.heap.size)=>by omega) (by omega) hT hS
 have HW:=Hi ag;rw[hL] at W1;clear ag hI hv;have HB:=Hi aa;go_enter func44,ntmps44;go_wp2_with fail;rw[<-eb,HW.out];apply W1.mono;rintro e w2 ⟨v',E,rfl,hr,hi,ae,aL⟩;obtain⟨a,cap,rfl,hq⟩:=hr;go_wp2_with fail;have V:=(ae.block _ Z).trans HB.out;have az:Hid (lF w2 (.slice a E.length cap) E):=⟨a,cap,rfl,hq⟩;have aA:=Hi hi;have au:=Hi V;have ah:Hid (Bl w w2):=G.trans (ae.mono G.size);have aB:Hid (M5 d L w2 w2 w.heap.size (iV n 8) (.slice none 0 0) 0):=⟨⟨⟨V,SC _ _ _ _⟩,.inl rfl,λg hg=>by simp[Value.ownBlock] at hg,cK.refl _ _⟩⟩
 have ai:=Hi (And.intro Y (And.intro R (And.intro I (And.intro J U))));have aj:=Hi ad;have aM:L.length=E.length:=hi.1;clear V hq hi W1 ae G aa HW HB Y I R J U ad Z;go_wp2_with fail;go_loopw [17] (λiv wr=> ∃k vi,k<=E.length/\iv= Iq k/\Hid (M5 d L w2 wr w.heap.size (iV n 8) vi k)) (λiv _=>E.length - (intOf iv).toNat)
 case atStart=>exact⟨0,_,R0 _,rfl,aB.out⟩
 case round=>
  obtain⟨k,vi,hk,rfl,HX⟩:=hrel;by_cases Z:k<E.length
  ·have hX:=HX.out;obtain⟨a2,aJ,e2,ak⟩:=lF.only az.out hX.ly.bel au.out;simp only[Sb,TV] at e2;obtain⟨rfl,rfl⟩:=e2;obtain⟨g,rfl,aC,z⟩:=ak k Z;have ab:=aA.out.2 k Z;have am:L[k]?=some (L.getD k mV):=by rw[RG,RI (by omega)];rfl
   generalize L.getD k mV=x at*;generalize E.getD k Dx=y at*;obtain⟨O,u0,b,wh⟩:=y;have an:cz O=x.kind:=ab.kd;have aD:wh=x.wh:=ab.wh;have ao:gG (λg=>g=w.heap.size) d w2 b x.c:=ab.tr
   subst aD;have c0:Cq wr g (k*10) (Iq x.kind):=by rw[<-an];exact z 0 (by omega)
   have c1:Cq wr g (k*10+1) (Iq O.pl):=z 1 (by omega)
   have c2:Cq wr g (k*10+2) (Iq (cY O)):=z 2 (by omega)
   have c3:Cq wr g (k*10+3) (S (cG O)):=z 3 (by omega)
   have c4:Cq wr g (k*10+4) (Iq (cz u0)):=z 4 (by omega)
   have c5:Cq wr g (k*10+5) (Iq u0.pl):=z 5 (by omega)
   have c6:Cq wr g (k*10+6) (Iq (cY u0)):=z 6 (by omega)
   have c7:Cq wr g (k*10+7) (S (cG u0)):=z 7 (by omega)
   have c8:Cq wr g (k*10+8) (Iq x.wh):=z 8 (by omega)
   have c9:Cq wr g (k*10+9) (Pq b):=z 9 (by omega)
   have aN:0<=k/\k<E.length:=by omega
   have G:Bl wr (wr.alloc (.cells #[Iq x.kind,Iq O.pl,Iq (cY O),S (cG O),Iq (cz u0),Iq u0.pl,Iq (cY u0),S (cG u0),Iq x.wh,Pq b] 163)):=(RP _ _).alloc (RL _) _;have W2:=(hX.below G).lay hd am aw ax ay ao (a1:= Iq O.pl) (a2:= Iq (cY O)) (a3:=S (cG O)) (a4:= Iq (cz u0)) (a5:= Iq u0.pl) (a6:= Iq (cY u0)) (a7:=S (cG u0)) rfl rfl rfl rfl rfl rfl rfl;clear z ab am ao hX HX G ak aC an;go_wp2_with fail;apply W2.mono;rintro e D ⟨rfl,v3,h3⟩;have HN:=Hi h3;clear W2 h3 c0 c1 c2 c3 c4 c5 c6 c7 c8 c9;go_wp2;go_roundw
   case rel=>exact⟨k+1,v3,by omega,by go_num,HN.out⟩
   case measure=>simp[intOf];omega
  obtain rfl:k=E.length:=by omega
  have hX:=HX.out;have ac:=hX.ly;rw[Sz (by omega)] at ac
  obtain⟨Y,R,I,J,U⟩:=ai.out;have af:(kh (iV n 8) d L []).length+1=ls.length:=by rw[<-aj.out];simp[ej]
  have W2:=jR 18 0 ac.at_ (by omega)
  have ap:=Hi ac;clear hX HX ac Y R I J U;go_wp2_with fail;apply W2.mono;rintro e D ⟨rfl,aq⟩;obtain⟨v3,h3,_⟩:=ap.out.next aq;have e3:kh (iV n 8) d L []++[⟨18,0,0⟩]=ls:=aj.out;rw[e3] at h3;obtain⟨Y,R,I,J,U⟩:=ai.out;rw[ej] at Y J;have W3:=λW (hb:Bl D W)=>J0 (dep:=sh (iV n 8) d L 0) (cells:=uB L 0) (h3.below hb).at_.ins (by omega) I (by omega) (by omega)
  rw[Y] at W3;obtain⟨va,av,aE⟩:=rC h3.at_.row;subst aE;have P1:∀W,Bl D W->Cq W w.heap.size 1 (.slice va ls.length av):=λW hb=>RM W _ 1 _ _ _ (h3.below hb).at_.blk
  have P2:∀W,Bl D W->Cq W w.heap.size 2 (Iq (sh (iV n 8) d L 0)):=λW hb=>RM W _ 2 _ _ _ (h3.below hb).at_.blk
  have P3:∀W,Bl D W->Cq W w.heap.size 3 (Iq (uB L 0)):=λW hb=>RM W _ 3 _ _ _ (h3.below hb).at_.blk
  have HF:Hid (Bl w D):=ah.out.trans (h3.bel.below ah.out.size (λk _ hk=>by have hk:k=w.heap.size:=hk;omega))
  have aF:Bl D D:=RP _ _;have KD:Hid (∀W,Bl D W->Bl D W.drew):=λW h=>h.drew
  have KB:Hid (∀W W',Bl D W->Bl W W'->Bl D W'):=λW W' h h'=>h.trans (h'.mono h.size)
  clear W2 aq h3 e3 Y R I J U ap af;generalize ar:kY (cQ n) d l=cb at*;have aG:=Hi ar;clear ar;generalize sh (iV n 8) d L 0=dp at*;generalize uB L 0=cl at*;go_wp2;go_region_held3 (λW=>Bl D W) (first|assumption|exact KB.out _ _ (by assumption) aH|exact KD.out _ aF|exact KD.out _ (by assumption)|go_keep)
   (first
    |(go_at_call 94;refine(W3 _ (by assumption)).mono ?_;rintro e w4 ⟨rfl,aH⟩))
  all_goals
   rename_i hHeld;go_wp2;go_ret;exact⟨by rw[aG.out];rfl,HF.out.trans (hHeld.mono HF.out.size)⟩
theorem Bb {z:Nat} {L:List Pt} {xs:List dk} {base:Nat} {v:Value} {ys:List Yt} {w:World} {n:Int} (h:zz z L xs base v ys w) (D:pX L xs):
 Calls prog 44 #[v,Iq n] w λe w'=>e= .returned (S (kY (cQ n) 24 (rX L xs)))/\Bl w w':=by
 obtain⟨E,G,h3⟩:=OD h D;exact Ba (RL _) E G h3.ty h3.seq (by rw[h3.cnt];exact h3.few.1) (by rw[h3.len];exact h3.few.2)
def iC (l:List UInt8) (n:Int):List UInt8:=if(cF l).1.1=0 then kY (cQ n) 24 (rX (cF l).2.1 (cF l).2.2) else[]
theorem oY (l:List UInt8) (m:Int) (w:World) (hW:Wd w) (hm:l.length<=maxLen):Calls prog 23 #[S l,Iq m] w λe w'=>e= .returned (.tuple #[S (iC l m),Iq (cF l).1.1,Iq (cF l).1.2])/\Below w.heap.size w w':=by
 have U:=Ja l w hW hm;have J:Hid ((cF l).1.1=0->pX (cF l).2.1 (cF l).2.2):=oS l;have E:Hid (iC l m=if(cF l).1.1=0 then kY (cQ m) 24 (rX (cF l).2.1 (cF l).2.2) else[]):=rfl
 have O:Hid ((cF l).1.1=0->(cF l).1.2=0):=zC l;have hb:=xr l;generalize iC l m=r at*;generalize (cF l).1.1=n at*;generalize (cF l).1.2=k at*;generalize (cF l).2.1=L at*;generalize (cF l).2.2=xs at*;go_enter func23,ntmps23;go_wp2_with fail;apply U.mono;rintro e w1 ⟨G,v,rfl,R⟩
 by_cases z:n=0
 ·obtain⟨bs,ys,ac,V⟩:=R z
  have Y:=J.out z;have Z:=Bb (n:=m) V Y;have D:Hid (r=kY (cQ m) 24 (rX L xs)):=by show _=_;rw[E.out,RK z]
  have aa:=Hi (O.out z);have I:=Hi G;subst z;generalize kY (cQ m) 24 (rX L xs)=pr at*;go_wp2_with fail;apply Z.mono;rintro e w2 ⟨rfl,ab⟩;go_wp2;refine RU (v:= .tuple #[S pr,Iq 0,Iq 0]) (by simp[results,results23,go_sem]) rfl ?_
  exact⟨by rw[D.out,aa.out];rfl,I.out.trans (ab.mono I.out.size)⟩
 ·have e1:((n:Int)==0)=false:=by
   have: ¬(n:Int)=0:=by omega
   simpa using this
  have e2:((n:Int) !=0)=true:=by
   have: ¬(n:Int)=0:=by omega
   simpa using this
  have D:Hid (r=[]):=by show _=_;rw[E.out,RH z]
  have I:=Hi G;go_wp2;refine RU (v:= .tuple #[S [],Iq n,Iq k]) (by simp[results,results23,go_sem]) rfl ?_
  exact⟨by rw[D.out],I.out⟩
theorem GW (n:Int) (k:Nat) (J:BitVec.ofInt 64 15&&&BitVec.ofInt 64 k=BitVec.ofInt 64 k):bits .and .i64 (bits .and .i64 n 15) k=bits .and .i64 n k:=by
 have h:BitVec.ofInt 64 (bits .and .i64 n 15)=BitVec.ofInt 64 n&&&BitVec.ofInt 64 15:=by
  have e:bits .and .i64 n 15=IntKind.i64.wrap ((BitVec.ofInt 64 n&&&BitVec.ofInt 64 15).toNat):=rfl;have R:(BitVec.ofInt 64 n&&&BitVec.ofInt 64 15).toNat<=15:=by
   rw[BitVec.toNat_and];exact SF Nat.and_le_right (by decide)
  have O:IntKind.i64.wrap ((BitVec.ofInt 64 n&&&BitVec.ofInt 64 15).toNat)=(((BitVec.ofInt 64 n&&&BitVec.ofInt 64 15).toNat:Nat):Int):=by
   rw[Ss];omega
  rw[e,O,BitVec.ofInt_natCast,BitVec.ofNat_toNat,BitVec.setWidth_eq]
 have e:bits .and .i64 (bits .and .i64 n 15) k=IntKind.i64.wrap ((BitVec.ofInt 64 (bits .and .i64 n 15)&&&BitVec.ofInt 64 k).toNat):=rfl;rw[e,h,BitVec.and_assoc,J];rfl
theorem Qb (n:Int):cQ (bits .and .i64 n 15)=cQ n:=by
 unfold cQ iV;rw[GW n 1 (by decide),GW n 2 (by decide),GW n 4 (by decide),GW n 8 (by decide)]
theorem Qc (l:List UInt8) (n:Int):iC l (bits .and .i64 n 15)=iC l n:=by
 unfold iC;rw[Qb]
theorem FQ (l:List UInt8) (n:Int) (z:(cF l).1.1=0) (D:(fU l).length<=1000):iC (fU l) n=iC l n:=by
 have O:=(xu l z D).1;unfold iC;rw[RK z,RK (by rw[O]),Ji l z D]
theorem Kf (l:List UInt8) (n:Int) (D:(cF l).1.1=0):∃ins,fE (iC l n)=some ins/\(iC l n).length<=13*(cF l).2.1.length+2*(cF l).2.2.length+5/\ ∀fl,gh fl-> ∃s,jx (iC l n) ins fl=some ((nB l fl).1,(nB l fl).2,s):=by
 have z:=Mg (oS l D) (xy l D);obtain⟨ins,Z,I,h3⟩:=IU (p:=cQ n) (d:=24) (RL _) z.ty z.seq (by rw[z.cnt];exact z.few.1) (by rw[z.len];exact z.few.2)
 unfold iC nB;rw[RK D];refine⟨ins,Z,by rw[z.cnt,z.len] at I;exact I,λfl J=>?_⟩
 obtain⟨s,hs⟩:=h3 fl (xv J);refine⟨s,?_⟩;rw[RK D,hs,z.mean fl J]
end
end Go.Proofs.YtfkdailfcmnjlaaGreatDoor
