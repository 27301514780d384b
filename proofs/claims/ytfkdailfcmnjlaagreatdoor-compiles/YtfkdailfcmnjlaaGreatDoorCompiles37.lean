/-
  A part.
-/
import Derived.Test.YtfkdailfcmnjlaaGreatDoorCompiles36
set_option linter.all false
set_option maxHeartbeats 40000000
set_option maxRecDepth 1000000
namespace Go.Proofs.YtfkdailfcmnjlaaGreatDoor
open Go Go.RowKit Tryz
section
attribute [local go_sem ↓] Go.wp_at_zero Go.wp_at_succ
variable {w v p cs T z wr w' A l k q g i lv}
def Dt (l:List L3) (i:Nat) (x:L3):Int:=if x.op=15\/x.op=16 then(tD l x.tj:Int) - (tD l i:Int) - ((1+dt x.op:Nat):Int) else x.n
def JY (l:List L3) (i:Nat) (x:L3):List UInt8:=UInt8.ofNat x.op::nY (Dt l i x) (dt x.op)
def JZ (l:List L3) (k:Nat):List UInt8:=(List.range k).flatMap λi=>JY l i (l.getD i gk)
theorem Du (l) (k:Nat):JZ l (k+1)=JZ l k++JY l k (l.getD k gk):=by
 unfold JZ;rw[Vf,List.flatMap_append];simp
theorem GS (l) (k):(JZ l k).length<=9*k:=by
 induction k with
 |zero=>simp[JZ]
 |succ k ih=>
  rw[Du,RT];have:(JY l k (l.getD k gk)).length<=9:=by
   unfold JY;rw[R7,mQ];have:=mh (l.getD k gk).op;omega
  omega
def QX (dep cells:Nat) (l:List L3):List UInt8:=[71,UInt8.ofNat dep,UInt8.ofNat cells]++JZ l l.length
structure O3 (w wr) (pg:Nat) (bv) (dep cells:Nat) (l) (k):Prop where
 row:BR wr bv ([71,UInt8.ofNat dep,UInt8.ofNat cells]++JZ l k)
 bel:Below w.heap.size w wr
 pl:wr.heap[pg]?=some (.cells ((oW l l.length).map (Value.int .i64)).toArray 3 (0,0))
 own:∀b,bv.ownBlock=some b->w.heap.size<=b
theorem O4 {l:LB} (h:BR w v l) (A:w.heap[p]?=some (.cells cs T z)) (D:T≠5):v.ownBlock≠some p:=λe=>by
 obtain⟨E,q⟩:=cM h e;rw[A] at q;simp at q;exact D q.2.1
theorem O3.below {dep cells:Nat} (h:O3 w wr z A dep cells l k) (q:Bl wr w'):O3 w w' z A dep cells l k:=
 ⟨cH h.row q,h.bel.trans (q.mono h.bel.size),(q.block _ (cq h.pl)).trans h.pl,h.own⟩
theorem O3.more {dep cells} (h:O3 w wr A z dep cells l k) {D:LB} (J:BR w' q D) (E:cK (λb=>z.ownBlock=some b) wr w') (O:∀b,q.ownBlock=some b->z.ownBlock=some b\/wr.heap.size<=b):
 BR w' q D/\Bl w w'/\w'.heap[A]?=some (.cells ((oW l l.length).map (Value.int .i64)).toArray 3 (0,0))/\ ∀b,q.ownBlock=some b->w.heap.size<=b:=by
 refine⟨J,h.bel.trans (E.below h.bel.size (λk _ R=>h.own k R)),(E.block _ (cq h.pl) (O4 h.row h.pl (by decide))).trans h.pl,λb U=>?_⟩
 rcases O b U with G|G
 ·exact h.own b G
 have:=h.bel.size;omega
theorem Ot {cap} {z:LB} (A:((UInt8.ofNat q).toNat)=(q:Int)) (h:w.ownsRow 0 5 1 (Sq g (z.length+1) cap) (z.length+1) ((z.map λc=>Value.int .u8 c.toNat)++[.int .u8 q])):BR w (Sq g (z.length+1) cap) (z++[UInt8.ofNat q]):=by
 unfold BR;rw[RT,Sv];have e:List.map (λc=>Value.int .u8 c.toNat) [UInt8.ofNat q]=[.int .u8 q]:=by simp only[Sa,SA,A]
 rw[e];exact h
theorem vN (l) (h:i<l.length):((oW l l.length).map (Value.int .i64)).toArray[i]?=some (Iq (tD l i)):=by
 rw[RY,Se];unfold oW;rw[Se,TJ h];simp[h]
set_option maxHeartbeats 8000000 in
theorem J0 {dep cells : Nat} (h : Dq w lv l) (hl : l.length <= 1000) (hop :∀ x ∈ l, x.op < 256 /\ ((x.op = 15 \/ x.op = 16) -> x.tj < l.length)) (hd : dep <= 255) (hc : cells <= 255) :
    Calls prog 94 #[Iq dep, Iq cells, lv] w λe w' => e = .returned (S (QX dep cells l)) /\ Below w.heap.size w w' := by
  have W0 := Ds h (by omega)
  have HI : Hid _ := h;have HOP : Hid (∀ i, i < l.length -> (l.getD i gk).op < 256 /\ (((l.getD i gk).op = 15 \/ (l.getD i gk).op = 16) -> (l.getD i gk).tj < l.length)) := λi hi => by
    have := hop (l.getD i gk) (by rw [RG, RI hi]; exact R4 _)
    exact this
  obtain ⟨i0, hi, hz⟩ := Su.1 GR;simp only [Sj] at hz;obtain ⟨hz0, hz1, hz2⟩ := hz;obtain ⟨a, cap, rfl, _⟩ := h;clear hop;go_enter func94, ntmps94;go_wp2_with fail;apply W0.mono;rintro e w1 ⟨⟨pg, rfl, hpg, hpl⟩, hb1⟩;have ed : ((UInt8.ofNat dep).toNat : Int) = (dep : Int) := by rw [S7]; omega
  have ec : ((UInt8.ofNat cells).toNat : Int) = (cells : Int) := by rw [S7]; omega
  have HI0 : Hid (O3 w (w1.alloc (.cells #[.int .u8 71, .int .u8 (dep : Nat), .int .u8 (cells : Nat)] 5)) pg (Sq w1.heap.size 3 3) dep cells l 0) := by
    have hbA : Below w1.heap.size w1 (w1.alloc (.cells #[.int .u8 71, .int .u8 (dep : Nat), .int .u8 (cells : Nat)] 5)) := (RP _ _).alloc (RL _) _;refine ⟨?_, hb1.trans (hbA.mono hb1.size), (hbA.block _ (cq hpl)).trans hpl, λb hb => ?_⟩
    · refine ⟨rfl, .inr ⟨w1.heap.size, 3, #[.int .u8 71, .int .u8 (dep : Nat), .int .u8 (cells : Nat)], rfl, R0 _, RO w1 _, RL _, by unfold maxLen; omega, rfl, ?_⟩⟩
      simp [JZ]; omega
    · simp [Value.ownBlock] at hb
      have := hb1.size;omega
  clear ed ec hpl hb1 W0;go_wp2
  go_loopw [8, 21] (λbv iv wr => ∃ k : Nat, k <= l.length /\ iv = Iq k /\ Hid (O3 w wr pg bv dep cells l k)) (λ_ iv _ => l.length - (intOf iv).toNat)
  case atStart => exact ⟨0, R0 _, rfl, HI0.out⟩
  case round =>
    obtain ⟨k, hk, rfl, HX⟩ := hrel
    by_cases hlt : k < l.length
    · have hX := HX.out
      obtain ⟨bs, hbs⟩ :∃ bs : List UInt8, [71, UInt8.ofNat dep, UInt8.ofNat cells] ++ JZ l k = bs := ⟨_, rfl⟩;have hrow := hX.row;rw [hbs] at hrow;have hbl : bs.length <= 9003 := by rw [<- hbs]; have := GS l k; simp; omega
      have HBS : Hid _ := hbs;clear hbs;obtain ⟨ba, bcap, rfl⟩ := BR.sl hrow;have HROW : Hid (BR wr (.slice ba bs.length bcap) bs) := hrow;clear hrow;obtain ⟨a', cap', e', hcl⟩ := Dq.below (w := w) HI.out hX.bel;simp only [Sb, TV] at e';obtain ⟨rfl, rfl⟩ := e';obtain ⟨g, rfl, c0, c1, c2, c3⟩ := hcl k hlt;obtain ⟨ho1, ho2⟩ := HOP.out k hlt;have hkb : (0 : Int) <= (k : Int) /\ (k : Int) < (l.length : Int) := by omega
      have HNX : Hid (JZ l (k + 1) = JZ l k ++ (UInt8.ofNat (l.getD k gk).op :: nY (Dt l k (l.getD k gk)) (dt (l.getD k gk).op))) := Du l k;have HNL : Hid (Dt l k (l.getD k gk) = if (l.getD k gk).op = 15 \/ (l.getD k gk).op = 16 then (tD l (l.getD k gk).tj : Int) - (tD l k : Int) - ((1 + dt (l.getD k gk).op : Nat) : Int) else (l.getD k gk).n) := rfl
      have hwb := GS l k;have hp0 := (RM wr _ k _ _ _ hX.pl).trans (vN l hlt);have hpT : (l.getD k gk).tj < l.length -> wr.cell? ⟨pg, (l.getD k gk).tj, none⟩ = some (Iq ((tD l (l.getD k gk).tj : Nat) : Int)) := λht => (RM wr _ _ _ _ _ hX.pl).trans (vN l ht)
      have hpb := FJ l k;have hpb2 := λ(ht : (l.getD k gk).tj < l.length) => FJ l (l.getD k gk).tj
      generalize Dt l k (l.getD k gk) = nL at *;generalize (l.getD k gk).op = op at *;generalize (l.getD k gk).n = nn at *;generalize (l.getD k gk).tj = tj at *;have hfl := mh op;have W1 := λw => zK op nn tj 0 w
      have W2 := λw => qJ op nn tj 0 w
      have W3 := λw => rB op w
      unfold fV at W1 W2;have ho8 : ((UInt8.ofNat op).toNat : Int) = (op : Int) := by rw [S7]; omega
      have HO8 : Hid _ := ho8;have hgl : g < wr.heap.size := RN wr _ c0;have g1 : g ≠ wr.heap.size := by omega
      have g2 : wr.heap.size ≠ g := by omega
      have hA : Below wr.heap.size wr (wr.alloc (.cells #[Iq (op : Nat), Iq nn, Iq (tj : Nat), Iq 0] 247)) := (RP _ _).alloc (RL _) _;have hxA : (wr.alloc (.cells #[Iq (op : Nat), Iq nn, Iq (tj : Nat), Iq 0] 247)).heap[wr.heap.size]? = some (.cells #[Iq (op : Nat), Iq nn, Iq (tj : Nat), Iq 0] 247 (0, 0)) := RO wr _;have HXA : Hid _ := hxA;have HA : Hid _ := hA;have HBX : Hid _ := hX;clear hX HX ho8 hcl hA hxA
      by_cases hj : op = 15 \/ op = 16 <;> first
        | (have ht := ho2 hj
           have hb2 := hpb2 ht;have ej : decide (op = 15 \/ op = 16) = true := Sr hj;rw [ej] at W1;rw [RK hj] at HNL;clear hpT hpb2 ho2 ej hj;go_wp2_with fail;apply(W1 _).mono;rintro e w2 ⟨rfl, hbc⟩;have hB2 : Below wr.heap.size wr w2 := HA.out.trans (hbc.mono HA.out.size);have h2 := HBX.out.below hB2;have x2 := (hbc.block _ (by simp)).trans HXA.out
           have P0 :∀ W, Below w2.heap.size w2 W -> W.cell? ⟨pg, k, none⟩ = some (Iq ((tD l k : Nat) : Int)) := λW hb => by rw [hb.cell (p := ⟨pg, k, none⟩) (cq h2.pl)]; exact (RM w2 _ k _ _ _ h2.pl).trans (vN l hlt)
           have P1 :∀ W, Below w2.heap.size w2 W -> W.cell? ⟨pg, tj, none⟩ = some (Iq ((tD l tj : Nat) : Int)) := λW hb => by rw [hb.cell (p := ⟨pg, tj, none⟩) (cq h2.pl)]; exact (RM w2 _ tj _ _ _ h2.pl).trans (vN l ht)
           have X0 :∀ W, Below w2.heap.size w2 W -> W.cell? ⟨wr.heap.size, 0, none⟩ = some (Iq (op : Nat)) := λW hb => by rw [hb.cell (p := ⟨wr.heap.size, 0, none⟩) (cq x2)]; exact RM w2 _ 0 _ _ _ x2
           have X1 :∀ W, Below w2.heap.size w2 W -> W.cell? ⟨wr.heap.size, 1, none⟩ = some (Iq nn) := λW hb => by rw [hb.cell (p := ⟨wr.heap.size, 1, none⟩) (cq x2)]; exact RM w2 _ 1 _ _ _ x2
           have X2 :∀ W, Below w2.heap.size w2 W -> W.cell? ⟨wr.heap.size, 2, none⟩ = some (Iq (tj : Nat)) := λW hb => by rw [hb.cell (p := ⟨wr.heap.size, 2, none⟩) (cq x2)]; exact RM w2 _ 2 _ _ _ x2
           have X3 :∀ W, Below w2.heap.size w2 W -> W.cell? ⟨wr.heap.size, 3, none⟩ = some (Iq 0) := λW hb => by rw [hb.cell (p := ⟨wr.heap.size, 3, none⟩) (cq x2)]; exact RM w2 _ 3 _ _ _ x2
           have hS0 : Below w2.heap.size w2 w2 := RP _ _;have KD : Hid (∀ W : World, Below w2.heap.size w2 W -> Below w2.heap.size w2 W.drew) := λW h => h.drew
           have KB : Hid (∀ W W' : World, Below w2.heap.size w2 W -> Below W.heap.size W W' -> Below w2.heap.size w2 W') := λW W' h h' => h.trans (h'.mono h.size)
           have htb : (0 : Int) <= (tj : Int) /\ (tj : Int) < (l.length : Int) := by omega
           have hso : 1 + dt op <= 9 := by omega
           generalize 1 + dt op = so at *;generalize tD l tj = pt at *;generalize tD l k = pk at *;have hr1 : IntKind.i64.wrap ((pt : Int) - (pk : Int)) = (pt : Int) - (pk : Int) := by rw [Ss]; omega
           have hr2 : IntKind.i64.wrap ((pt : Int) - (pk : Int) - (so : Int)) = nL := by rw [HNL.out, Ss]; omega
           have HH2 : Hid _ := h2;have HX2 : Hid _ := x2;have HB2 : Hid _ := hB2;clear W1 hbc h2 x2 hB2 c0 c1 c2 c3 hp0 hwb HXA HA HBX;go_wp2
           go_region_held3 (λW => Below w2.heap.size w2 W) (first | assumption | exact KB.out _ _ (by assumption) hb3 | exact KD.out _ hS0 | exact KD.out _ (by assumption) | go_keep)
             (first
               | (go_at_call 139; refine (W2 _).mono ?_; rintro e w3 ⟨rfl, hb3⟩))
           all_goals
             rename_i hHeld
             have hB3 : Below wr.heap.size wr w3 := HB2.out.trans (hHeld.mono HB2.out.size);have h3 := HH2.out.below hHeld;have x3 := (hHeld.block _ (cq HX2.out)).trans HX2.out
             try rw [hr1, hr2]
             clear P0 P1 X0 X1 X2 X3 hHeld hb3 hS0 KD KB HNL hr1 hr2 hb2 ht htb hso W2)
        | (have ej : decide (op = 15 \/ op = 16) = false := Sc hj
           rw [ej] at W1;rw [RH hj] at HNL;have HNL2 : Hid (nn = nL) := HNL.out.symm;clear hpT hpb2 ho2 ej hj HNL W2;go_wp2_with fail;apply(W1 _).mono;rintro e w3 ⟨rfl, hbc⟩;have hB3 : Below wr.heap.size wr w3 := HA.out.trans (hbc.mono HA.out.size);have h3 := HBX.out.below hB3;have x3 := (hbc.block _ (by simp)).trans HXA.out
           rw [HNL2.out]
           clear hbc W1 c0 c1 c2 c3 hp0 hwb HXA HA HBX HNL2)
      all_goals
        have HR : Hid (w3.ownsRow 0 5 1 (.slice ba bs.length bcap) bs.length (bs.map λc => Value.int .u8 (c.toNat : Nat))) := cH HROW.out hB3
        have y0 : w3.cell? ⟨wr.heap.size, 0, none⟩ = some (Iq (op : Nat)) := RM w3 _ 0 _ _ _ x3;have hxl := cq x3;have HXL : Hid _ := x3;have HWL : Hid _ := h3;have HBR : Hid (BR w3 (.slice ba bs.length bcap) bs) := cH HROW.out hB3;have W5 := λ(w' : World) (v : Value) (b2 : List UInt8) (hb : BR w' v b2) (hl : b2.length <= 10000) => uy nL (dt op) hfl hb hl
        clear hB3 h3 x3 hpb
        go_wp2_with (first
          | (at_builtin; go_must (refine wpList_append_lies _ (by rfl) _ _ 155 (by rfl) 0 5 i0 (.int .u8 0) 1 1 underlying155 hi hz0 hz1 hz2 (by rfl) (by decide) _ _ _ (by rfl) (HR.out.alloc _) ⟨w3.heap.size, 0, none⟩ 1 1 [.int .u8 (op : Nat)] (by rfl) (by rfl) (World.news_of_block (RO w3 _)) (λx hx => by simp at hx; rcases hx with rfl; rfl) (by decide) (by unfold maxLen; omega) (by omega) (by simp) _ rfl ?_); intro gg cap2 w5 hown3 hgrow hat hlt3; have hr5 : BR w5 (Sq gg (bs.length + 1) cap2) (bs ++ [UInt8.ofNat op]) := Ot HO8.out hown3; have ho5 : cK (λb => (Value.slice ba bs.length bcap).ownBlock = some b) w3 w5 := ((cK.refl (λb => (Value.slice ba bs.length bcap).ownBlock = some b) w3).alloc _).grown hgrow (λk hk => .inl hk); have x5 := (ho5.block _ hxl (O4 HBR.out HXL.out (by decide))).trans HXL.out; have z0 : w5.cell? ⟨wr.heap.size, 0, none⟩ = some (Iq (op : Nat)) := RM w5 _ 0 _ _ _ x5; have hf5 :∀ b, (Value.slice (some ⟨gg, 0, none⟩) (bs.length + 1) cap2).ownBlock = some b -> (Value.slice ba bs.length bcap).ownBlock = some b \/ w3.heap.size <= b := λb hb => (by simp [Value.ownBlock] at hb; subst hb; rcases hat with h | h; exact .inl h; right; rw [h, RW]; omega); have H5 : Hid _ := hr5; have HO5 : Hid _ := ho5; have HF5 : Hid _ := hf5; clear hown3 hgrow hat hlt3 hr5 ho5 x5 hf5)
          | (go_at_call 141; refine (W3 _).mono ?_; rintro e w' ⟨rfl, hw'⟩; have hw2 := hw'.symm; clear hw'; subst hw2))
        apply(W5 _ _ _ H5.out (by simp; omega)).mono
        rintro e w6 ⟨⟨v6, rfl, hr6, hf6⟩, ho6⟩;have HN : Hid (O3 w w6 pg v6 dep cells l (k + 1)) := by
          obtain ⟨m1, m2, m3, m4⟩ := HWL.out.more hr6 (HO5.out.trans ho6 (λ_ _ h => h) (λi hi h => (HF5.out i h).resolve_right (by omega))) (λb hb => by
            rcases hf6 b hb with h | h
            · exact HF5.out b h
            · right; have := HO5.out.size; omega)
          refine ⟨?_, m2, m3, m4⟩;rw [HNX.out, <- Sk, HBS.out];have e : bs ++ UInt8.ofNat op :: nY nL (dt op) = bs ++ [UInt8.ofNat op] ++ nY nL (dt op) := by simp
          rw [e];exact m1
        clear hr6 hf6 ho6 W5 H5 HO5 HF5;go_wp2
        go_roundw
        case rel => exact ⟨k + 1, by omega, by go_num, HN.out⟩
        case measure => simp [intOf]; omega
    · obtain rfl : k = l.length := by omega
      have hX := HX.out;obtain ⟨bs, hbs⟩ :∃ bs : List UInt8, [71, UInt8.ofNat dep, UInt8.ofNat cells] ++ JZ l l.length = bs := ⟨_, rfl⟩;have hrow := hX.row;rw [hbs] at hrow;have HE : Hid (bs = QX dep cells l) := hbs.symm;have h0 : 0 < bs.length := by rw [<- hbs]; simp
      obtain ⟨g, bcap, rfl, _, _⟩ := World.ownsRow.form hrow h0;have hcv : (convert 155 9 (Sq g bs.length bcap)).run prog wr = .ok (S bs) wr := by
        refine Ua wr 155 9 5 ⟨g, 0, none⟩ bcap bs underlying155 underlying5 underlying9 λj hj => ?_
        have hc := TB hrow j (by omega)
        rw [Addr.add_mid];simp only [Sw];rw [hc];simp [Se, RI hj]
      have HBL : Hid _ := hX.bel;clear hbs hX HX hrow;go_wp2;go_ret;exact ⟨by show Ending.returned (S bs) = _; rw [HE.out], HBL.out⟩
end
variable {u n z F d w w' b k pl l nm t}
def AZ (F:Nat->Prop) (w:World) (u:Value) (n:Nat) (E:Nat->Nat):Prop:= ∃a cap,u= .slice a n cap/\ ∀j,j<n-> ∃g,a=some ⟨g,0,none⟩/\ ¬F g/\w.cell? ⟨g,j,none⟩=some (Pq (E j))
def gG (F:Nat->Prop):Nat->World->Nat->Tr->Prop
 |0,_,_,_=>False
 |d+1,w,b,t=> ∃(pl:Int) (nm:List UInt8) (u:Value) (D:Nat->Nat),¬F b/\mS w b t.k pl t.n nm u t.l/\AZ F w u t.kids.length D/\ ∀j,j<t.kids.length->gG F d w (D j) (t.kid j)
theorem AZ.un {F:Nat->Prop} {w:World} (h:AZ F w u n z):oR w u n z:=by
 obtain⟨a,cap,e,h⟩:=h;refine⟨a,cap,e,λj D=>?_⟩
 obtain⟨g,e,_,c⟩:=h j D;exact⟨g,e,c⟩
theorem gG.tr:∀{w b t},gG F d w b t->ph d w b t:=by
 induction d with
 |zero=>intro w b t h;exact h.elim
 |succ d ih=>
  intro w b t h;obtain⟨pl,nm,u,z,_,D,E,h3⟩:=h;exact⟨pl,nm,u,z,D,E.un,λj G=>ih (h3 j G)⟩
theorem AZ.only {w w':World} (h:AZ F w u n z) (E:cK F w w'):AZ F w' u n z:=by
 obtain⟨a,cap,e,h⟩:=h;refine⟨a,cap,e,λj G=>?_⟩
 obtain⟨g,e,D,c⟩:=h j G;exact⟨g,e,D,by rw[R1 (w:=w) (a:=⟨g,j,none⟩) (E.block g (RN w _ c) D)];exact c⟩
theorem xO (h:mS w b k pl n nm u l) (z: ¬F b) (D:cK F w w'):mS w' b k pl n nm u l:=by
 have e:∀j,w'.cell? ⟨b,j,none⟩=w.cell? ⟨b,j,none⟩:=λj=>R1 (w:=w) (a:=⟨b,j,none⟩) (D.block b (RN w _ h.c0) z)
 exact⟨(e 0).trans h.c0,(e 1).trans h.c1,(e 2).trans h.c2,(e 3).trans h.c3,(e 4).trans h.c4,(e 5).trans h.c5⟩
theorem gG.only {F d}:∀{w w' b t},gG F d w b t->cK F w w'->gG F d w' b t:=by
 induction d with
 |zero=>intro w w' b t h;exact h.elim
 |succ d ih=>
  intro w w' b t h z;obtain⟨pl,nm,u,E,D,G,I,h3⟩:=h;exact⟨pl,nm,u,E,D,xO G D z,I.only z,λj J=>ih (h3 j J) z⟩
theorem gG.below (h:gG F d w b t) (z:Below w.heap.size w w'):gG F d w' b t:=h.only (cK.of_below z)
theorem AZ.below {w w':World} (h:AZ F w u n z) (D:Below w.heap.size w w'):AZ F w' u n z:=h.only (cK.of_below D)
theorem AZ.more {F G:Nat->Prop} {w:World} (h:AZ F w u n z) (D:∀g,g<w.heap.size->G g->F g):AZ G w u n z:=by
 obtain⟨a,cap,e,h⟩:=h;refine⟨a,cap,e,λj E=>?_⟩
 obtain⟨g,e,I,c⟩:=h j E;exact⟨g,e,λx=>I (D g (RN w _ c) x),c⟩
theorem gG.more {F G d}:∀{w b t},gG F d w b t->(∀g,g<w.heap.size->G g->F g)->gG G d w b t:=by
 induction d with
 |zero=>intro w b t h;exact h.elim
 |succ d ih=>
  intro w b t h z;obtain⟨pl,nm,u,O,R,I,U,h3⟩:=h;exact⟨pl,nm,u,O,λx=>R (z b (RN w _ I.c0) x),I,U.more z,λj V=>ih (h3 j V) z⟩
theorem gG.up:∀{w b t},gG F d w b t-> ∀{e},d<=e->gG F e w b t:=by
 induction d with
 |zero=>intro w b t h;exact h.elim
 |succ d ih=>
  intro w b t h e J;obtain⟨e,rfl⟩:∃q,e=q+1:=⟨e - 1,by omega⟩
  obtain⟨pl,nm,u,z,D,E,G,h3⟩:=h;exact⟨pl,nm,u,z,D,E,G,λj I=>ih (h3 j I) (by omega)⟩
theorem ph.off:∀{w b t},ph d w b t->gG (λg=>w.heap.size<=g) d w b t:=by
 induction d with
 |zero=>intro w b t h;exact h.elim
 |succ d ih=>
  intro w b t h;obtain⟨pl,nm,u,R,G,z,h3⟩:=h;obtain⟨a,cap,e,z⟩:=z;refine⟨pl,nm,u,R,λx=>?_,G,⟨a,cap,e,λj D=>?_⟩,λj D=>ih (h3 j D)⟩
  ·have:=RN w _ G.c0;simp only[] at this;omega
  ·obtain⟨g,e,c⟩:=z j D
   exact⟨g,e,λx=>by have:=RN w _ c;simp only[] at this;omega,c⟩
section
attribute [local go_sem ↓] Go.wp_at_zero Go.wp_at_succ
variable {jmp p J lp v l' D G E c2}
def gE (jmp:Bool) (d:Nat) (m:Option Bool) (t:Tr) (p:Nat):List L3:=(fP jmp d m t ⟨[],[]⟩ p 0).map er
theorem jI (jmp) (d) (m) (t) (p):(gE jmp d m t p).length=cX jmp d m t:=jX _ _ _ _ _ _ _
theorem Ou (z:t.k≠14) (D:t.k≠19) (E:t.kids.length≠2):gE jmp (d+1) none t p=[⟨eU t,iR t,0⟩]:=by
 unfold gE;simp only[fP];rw[RH z,RH D,RH E];rfl
theorem PW (z:t.k=19):gE jmp (d+1) none t p=gE jmp d none (t.kid 0) p++[⟨12,0,0⟩]:=by
 unfold gE;simp only[fP];rw[RH (by omega),RK z];simp[er]
theorem PX (z:t.k≠14) (D:t.k≠19) (E:t.kids.length=2):gE jmp (d+1) none t p=gE jmp d none (t.kid 0) p++(gE jmp d none (t.kid 1) (p+cX jmp d none (t.kid 0))++[⟨jH t.k,0,0⟩]):=by
 unfold gE;simp only[fP];rw[RH z,RH D,RK E];simp only[Sv,Sa,SA,er];rw[xN jmp d none (t.kid 1) _ ⟨[],[]⟩]
theorem xP (l) (j T):fM l [j] T=od l j T:=rfl
structure Bj (F:Nat->Prop) (w0 w:World) (lp) (jmp) (v) (l) (dep cells):Prop where
 at_:lE w lp jmp v l dep cells
 lp0:F lp\/w0.heap.size<=lp
 own:∀g,v.ownBlock=some g->F g\/w0.heap.size<=g
 bel:cK F w0 w
theorem Bj.next {dep cells} (h:Bj F J w lp jmp v l dep cells) (ho:dH w w' lp jmp v l' D z):
 ∃G,Bj F J w' lp jmp G l' D z/\(∀{jv js},IR w 3 jv js->IR w' 3 jv js)/\w.heap.size<=w'.heap.size/\(∀{O R U c2},dH w' O lp jmp G R U c2->dH w O lp jmp v R U c2):=by
 obtain⟨G,a1,E,V⟩:=ho;have Y:cK F J w':=h.bel.trans E (λ_ _ h=>h) (λk aa Z=>by
  rcases Z with rfl|Z
  ·exact h.lp0.resolve_right (by omega)
  exact(h.own k Z).resolve_right (by omega))
 refine⟨G,⟨a1,h.lp0,λg I=>?_,Y⟩,λ{jv js} hj=>hj.only E (λg I hF=>?_),E.size,λ{O R U c2} h2=>?_⟩
 ·rcases V g I with h1|h1
  ·exact h.own g h1
  right;have:=h.bel.size;omega
 ·rcases hF with rfl|hF
  ·exact hj.ne h.at_.blk (by decide) I
  obtain⟨cs,hc⟩:=cM h.at_.row hF;exact hj.ne hc (by decide) I
 obtain⟨v2,a2,o2,f2⟩:=h2;refine⟨v2,a2,E.trans o2 (λ_ _ h=>h) (λi hi h=>?_),λb Y=>?_⟩
 ·rcases h with h|h
  ·exact .inl h
  rcases V i h with h|h
  ·exact .inr h
  omega
 rcases f2 b Y with h|h
 ·exact V b h
 right;have:=E.size;omega
theorem Bj.below {dep cells} (h:Bj F G w lp jmp v l dep cells) (z:Bl w w'):Bj F G w' lp jmp v l dep cells:=
 ⟨⟨(z.block _ (cq h.at_.blk)).trans h.at_.blk,cH h.at_.row z⟩,h.lp0,h.own,h.bel.trans (cK.of_below z) (λ_ _ h=>h) (λ_ _ h=>h)⟩
theorem dH.from (I:Bl w z) (h:dH z D lp jmp v E G c2):dH w D lp jmp v E G c2:=by
 obtain⟨O,a2,R,U⟩:=h;refine⟨O,a2,(cK.of_below I).trans R (λ_ _ h=>h) (λ_ _ h=>h),λb J=>?_⟩
 rcases U b J with h|h
 ·exact .inl h
 right;have:=I.size;omega
structure ML (W) (b) (t:Tr) (pl) (nm) (u) (bl):Prop where
 cc:mS W b t.k pl t.n nm u t.l
 un:oR W u t.kids.length bl
theorem qK (h:gG F (d+1) D b t):∃pl nm u z,(∀W,cK F D W->ML W b t pl nm u z)/\ ∀j,j<t.kids.length->gG F d D (z j) (t.kid j):=by
 obtain⟨pl,nm,u,z,G,I,J,h3⟩:=h;exact⟨pl,nm,u,z,λW E=>⟨xO I G E,(J.only E).un⟩,h3⟩
def zO (jmp:Bool) (d:Nat):Prop:= ∀{F:Nat->Prop} {t:Tr} {E w:World} {lp b bn dep cells:Nat} {v:Value} {l:List L3},hY d t->gG F d E b t->Bj F E w lp jmp v l dep cells->l.length+cX jmp d none t<=4900->bn+d<=1000->dep<=1000->
 Calls prog 133 #[Pq lp,Pq b,Iq bn] w λe w'=>e= .returned (.tuple #[])/\dH w w' lp jmp v (l++gE jmp d none t l.length) (max dep (gn jmp d none t bn)) cells
def se (jmp:Bool) (d:Nat):Prop:= ∀{F:Nat->Prop} {t:Tr} {z w:World} {lp b bn dep cells:Nat} {v:Value} {l:List L3} {this:Bool},hY d t->gG F d z b t->Bj F z w lp jmp v l dep cells->l.length+cX jmp d (some this) t<=4900->bn+d<=1000->dep<=1000->
 Calls prog 134 #[Pq lp,.bool this,Pq b,Iq bn] w λe w'=> ∃jv,e= .returned jv/\IR w' 3 jv ((og jmp d this t l.length).map λj=>((j:Nat):Int))/\(∀g,jv.ownBlock=some g->w.heap.size<=g)/\dH w w' lp jmp v (l++gE jmp d (some this) t l.length) (max dep (gn jmp d (some this) t bn)) cells
end
section
variable {jmp a c m p}
theorem GU (z:l.length=p) (U:hY d a):
 od (fM (l++gE jmp d (some false) a p++gE jmp d m b (p+cX jmp d (some false) a)++[⟨16,0,0⟩]) (og jmp d false a p) (p+cX jmp d (some false) a+cX jmp d m b+1)++gE jmp d m c (p+cX jmp d (some false) a+cX jmp d m b+1)) (p+cX jmp d (some false) a+cX jmp d m b) (p+cX jmp d (some false) a+cX jmp d m b+1+cX jmp d m c)
  =l++((fP jmp d (some false) a ⟨[],[]⟩ p (p+cX jmp d (some false) a+cX jmp d m b+1)).map er++(gE jmp d m b (p+cX jmp d (some false) a)++(⟨16,0,p+cX jmp d (some false) a+cX jmp d m b+1+cX jmp d m c⟩::gE jmp d m c (p+cX jmp d (some false) a+cX jmp d m b+1)))):=by
 have V:=AY (jmp:=jmp) d (t:=a) (k:=⟨[],[]⟩) (this:=false) (pre:=l) (post:=gE jmp d m b (p+cX jmp d (some false) a)++[⟨16,0,0⟩]) (p+cX jmp d (some false) a+cX jmp d m b+1) U z;have Y:l++gE jmp d (some false) a p++gE jmp d m b (p+cX jmp d (some false) a)++[⟨16,0,0⟩]=l++((fP jmp d (some false) a ⟨[],[]⟩ p 0).map er++(gE jmp d m b (p+cX jmp d (some false) a)++[⟨16,0,0⟩])):=by
  show l++(fP jmp d (some false) a ⟨[],[]⟩ p 0).map er++_++_=_;simp
 rw[Y,V];have D:=oV (l++((fP jmp d (some false) a ⟨[],[]⟩ p (p+cX jmp d (some false) a+cX jmp d m b+1)).map er++gE jmp d m b (p+cX jmp d (some false) a))) (gE jmp d m c (p+cX jmp d (some false) a+cX jmp d m b+1)) ⟨16,0,0⟩ (p+cX jmp d (some false) a+cX jmp d m b+1+cX jmp d m c);rw[RT,RT,jX,jI,z,<-Th] at D;have Z:l++((fP jmp d (some false) a ⟨[],[]⟩ p (p+cX jmp d (some false) a+cX jmp d m b+1)).map er++(gE jmp d m b (p+cX jmp d (some false) a)++[⟨16,0,0⟩]))++gE jmp d m c (p+cX jmp d (some false) a+cX jmp d m b+1)=l++((fP jmp d (some false) a ⟨[],[]⟩ p (p+cX jmp d (some false) a+cX jmp d m b+1)).map er++gE jmp d m b (p+cX jmp d (some false) a))++(⟨16,0,0⟩::gE jmp d m c (p+cX jmp d (some false) a+cX jmp d m b+1)):=by simp
 rw[Z,D];simp
section
variable {jmp : Bool} {d : Nat} {t : Tr} {p : Nat} {this : Bool}
theorem PY (I:oN jmp t.k=false):gE jmp (d+1) (some this) t p=gE jmp (d+1) none t p++((if this then[⟨12,0,0⟩] else[])++[⟨15,0,0⟩]):=by
 have z:fP jmp (d+1) (some this) t ⟨[],[]⟩ p 0=fP jmp (d+1) none t ⟨[],[]⟩ p 0++((if this then[⟨12,0,0,⟨2::[],[]⟩⟩] else[])++[⟨15,0,0,⟨2::[],[]⟩⟩]):=by
  simp only[fP,I];rfl
 unfold gE;rw[z];simp only[Sv];cases this<;>rfl
theorem FK (z:oN jmp t.k=false):cX jmp (d+1) (some this) t=cX jmp (d+1) none t+(if this then 2 else 1):=by simp only[cX,z];rfl
theorem PZ {b:Nat} (z:oN jmp t.k=false):gn jmp (d+1) (some this) t b=gn jmp (d+1) none t b:=by simp only[gn,z];rfl
theorem A0 (z:oN jmp t.k=false):og jmp (d+1) this t p=[p+cX jmp (d+1) none t+(if this then 1 else 0)]:=by simp only[og,z];rfl
theorem A1 (z:oN jmp t.k=true) (D:t.k=20\/t.k=21):gE jmp (d+1) (some this) t p=(if this=decide (t.k=20) then[⟨16,0,0⟩] else[])/\cX jmp (d+1) (some this) t=(if this=decide (t.k=20) then 1 else 0)/\(∀b,gn jmp (d+1) (some this) t b=0)/\og jmp (d+1) this t p=(if this=decide (t.k=20) then[p] else[]):=by
 refine⟨?_,?_,λb=>?_,?_⟩
 ·unfold gE;simp only[fP,z,Td,RK D];split<;>rfl
 ·simp only[cX,z,Td,RK D]
 ·simp only[gn,z,Td,RK D]
 simp only[og,z,Td,RK D]
theorem FL (z:oN jmp t.k=true) (D:t.k=19):gE jmp (d+1) (some this) t p=gE jmp d (some (!this)) (t.kid 0) p/\cX jmp (d+1) (some this) t=cX jmp d (some (!this)) (t.kid 0)/\(∀b,gn jmp (d+1) (some this) t b=gn jmp d (some (!this)) (t.kid 0) b)/\og jmp (d+1) this t p=og jmp d (!this) (t.kid 0) p:=by
 have E: ¬(t.k=20\/t.k=21):=by omega
 refine⟨?_,?_,λb=>?_,?_⟩
 ·unfold gE;simp only[fP,z,Td,RH E,RK D]
 ·simp only[cX,z,Td,RH E,RK D]
 ·simp only[gn,z,Td,RH E,RK D]
 simp only[og,z,Td,RH E,RK D]
theorem MM (z:oN jmp t.k=true) (D:t.k=14):
 gE jmp (d+1) (some this) t p=(fP jmp d (some false) (t.kid 0) ⟨[],[]⟩ p (p+cX jmp d (some false) (t.kid 0)+cX jmp d (some this) (t.kid 1)+1)).map er++(gE jmp d (some this) (t.kid 1) (p+cX jmp d (some false) (t.kid 0))++(⟨16,0,p+cX jmp d (some false) (t.kid 0)+cX jmp d (some this) (t.kid 1)+1+cX jmp d (some this) (t.kid 2)⟩::gE jmp d (some this) (t.kid 2) (p+cX jmp d (some false) (t.kid 0)+cX jmp d (some this) (t.kid 1)+1)))
 /\cX jmp (d+1) (some this) t=cX jmp d (some false) (t.kid 0)+cX jmp d (some this) (t.kid 1)+1+cX jmp d (some this) (t.kid 2)
 /\(∀b,gn jmp (d+1) (some this) t b=max (gn jmp d (some false) (t.kid 0) b) (max (gn jmp d (some this) (t.kid 1) b) (gn jmp d (some this) (t.kid 2) b)))
 /\og jmp (d+1) this t p=og jmp d this (t.kid 1) (p+cX jmp d (some false) (t.kid 0))++og jmp d this (t.kid 2) (p+cX jmp d (some false) (t.kid 0)+cX jmp d (some this) (t.kid 1)+1):=by
 have E: ¬(t.k=20\/t.k=21):=by omega
 have h3: ¬t.k=19:=by omega
 refine⟨?_,?_,λb=>?_,?_⟩
 ·unfold gE;simp only[fP,z,Td,RH E,RH h3,RK D,Sv,Sa,er]
 ·simp only[cX,z,Td,RH E,RH h3,RK D]
 ·simp only[gn,z,Td,RH E,RH h3,RK D]
 simp only[og,z,Td,RH E,RH h3,RK D]
theorem A2 (z:oN jmp t.k=true) (G:t.k=17\/t.k=18):
 gE jmp (d+1) (some this) t p=(fP jmp d (some (decide (t.k=17))) (t.kid 0) ⟨[],[]⟩ p (if this=decide (t.k=17) then 0 else p+cX jmp d (some (decide (t.k=17))) (t.kid 0)+cX jmp d (some this) (t.kid 1))).map er++gE jmp d (some this) (t.kid 1) (p+cX jmp d (some (decide (t.k=17))) (t.kid 0))
 /\cX jmp (d+1) (some this) t=cX jmp d (some (decide (t.k=17))) (t.kid 0)+cX jmp d (some this) (t.kid 1)
 /\(∀b,gn jmp (d+1) (some this) t b=max (gn jmp d (some (decide (t.k=17))) (t.kid 0) b) (gn jmp d (some this) (t.kid 1) b))
 /\og jmp (d+1) this t p=(if this=decide (t.k=17) then og jmp d (decide (t.k=17)) (t.kid 0) p else[])++og jmp d this (t.kid 1) (p+cX jmp d (some (decide (t.k=17))) (t.kid 0)):=by
 have D: ¬(t.k=20\/t.k=21):=by omega
 have h3: ¬t.k=19:=by omega
 have E: ¬t.k=14:=by omega
 refine⟨?_,?_,λb=>?_,?_⟩
 ·unfold gE;simp only[fP,z,Td,RH D,RH h3,RH E,Sv]
 ·simp only[cX,z,Td,RH D,RH h3,RH E]
 ·simp only[gn,z,Td,RH D,RH h3,RH E]
 simp only[og,z,Td,RH D,RH h3,RH E]
theorem P4 (z:t.k=14):cX jmp (d+1) none t=cX jmp d (some false) (t.kid 0)+cX jmp d none (t.kid 1)+1+cX jmp d none (t.kid 2)/\(∀b,gn jmp (d+1) none t b=max (gn jmp d (some false) (t.kid 0) b) (max (gn jmp d none (t.kid 1) b) (gn jmp d none (t.kid 2) b)))
 /\gE jmp (d+1) none t p=(fP jmp d (some false) (t.kid 0) ⟨[],[]⟩ p (p+cX jmp d (some false) (t.kid 0)+cX jmp d none (t.kid 1)+1)).map er++(gE jmp d none (t.kid 1) (p+cX jmp d (some false) (t.kid 0))++(⟨16,0,p+cX jmp d (some false) (t.kid 0)+cX jmp d none (t.kid 1)+1+cX jmp d none (t.kid 2)⟩::gE jmp d none (t.kid 2) (p+cX jmp d (some false) (t.kid 0)+cX jmp d none (t.kid 1)+1))):=by
 refine⟨by simp only[cX,RK z],λb=>by simp only[gn,RK z],?_⟩
 unfold gE;simp only[fP,RK z,Sv,Sa,er]
theorem Ov (z:t.k=19):cX jmp (d+1) none t=cX jmp d none (t.kid 0)+1/\ ∀b,gn jmp (d+1) none t b=gn jmp d none (t.kid 0) b:=by
 have h: ¬t.k=14:=by omega
 exact⟨by simp only[cX,RH h,RK z],λb=>by simp only[gn,RH h,RK z]⟩
theorem Ow (z:t.k≠14) (D:t.k≠19) (E:t.kids.length=2):cX jmp (d+1) none t=cX jmp d none (t.kid 0)+cX jmp d none (t.kid 1)+1/\ ∀b,gn jmp (d+1) none t b=max (gn jmp d none (t.kid 0) b) (gn jmp d none (t.kid 1) (b+1)):=
 ⟨by simp only[cX,RH z,RH D,RK E],λb=>by simp only[gn,RH z,RH D,RK E]⟩
theorem MN (z:t.k≠14) (D:t.k≠19) (E:t.kids.length≠2):cX jmp (d+1) none t=1/\ ∀b,gn jmp (d+1) none t b=b+1:=
 ⟨by simp only[cX,RH z,RH D,RH E],λb=>by simp only[gn,RH z,RH D,RH E]⟩
theorem A3 (d):∀{t this p},∀j∈og jmp d this t p,p<=j/\j<p+cX jmp d (some this) t:=by
 induction d with
 |zero=>intro t this p j z;simp[og] at z
 |succ d ih=>
  intro t this p j z;cases D:oN jmp t.k with
  |false=>
   rw[A0 D] at z;rw[FK D];simp at z;subst z;cases this<;>simp<;>omega
  |true=>
   by_cases R:t.k=20\/t.k=21
   ·obtain⟨_,E,_,G⟩:=A1 D R;rw[G] at z;rw[E];split at z
    ·rename_i h;rw[RK h];simp at z;omega
    simp at z
   by_cases h3:t.k=19
   ·obtain⟨_,E,_,G⟩:=FL D h3;rw[G] at z;rw[E];exact ih j z
   by_cases U:t.k=14
   ·obtain⟨_,E,_,G⟩:=MM D U;rw[G] at z;rw[E];rcases SV.1 z with z|z
    ·have:=ih j z;omega
    have:=ih j z;omega
   have V:t.k=17\/t.k=18:=by unfold oN at D;simp at D;omega
   obtain⟨_,E,_,G⟩:=A2 D V;rw[G] at z;rw[E];rcases SV.1 z with z|z
   ·split at z
    ·have:=ih j z;omega
    simp at z
   have:=ih j z;omega
theorem oX (d):∀{t this p},(og jmp d this t p).length<=cX jmp d (some this) t:=by
 induction d with
 |zero=>intro t this p;simp[og]
 |succ d ih=>
  intro t this p;cases z:oN jmp t.k with
  |false=>rw[A0 z,FK z];cases this<;>simp
  |true=>
   by_cases G:t.k=20\/t.k=21
   ·obtain⟨_,D,_,E⟩:=A1 z G;rw[E,D];split<;>simp
   by_cases h3:t.k=19
   ·obtain⟨_,D,_,E⟩:=FL z h3;rw[E,D];exact ih
   by_cases I:t.k=14
   ·obtain⟨_,D,_,E⟩:=MM z I;rw[E,D,RT];have a1:= @ih (t.kid 1) this (p+cX jmp d (some false) (t.kid 0));have a2:= @ih (t.kid 2) this (p+cX jmp d (some false) (t.kid 0)+cX jmp d (some this) (t.kid 1)+1);omega
   have J:t.k=17\/t.k=18:=by unfold oN at z;simp at z;omega
   obtain⟨_,D,_,E⟩:=A2 z J;rw[E,D,RT];have a1:= @ih (t.kid 0) (decide (t.k=17)) p;have a2:= @ih (t.kid 1) this (p+cX jmp d (some (decide (t.k=17))) (t.kid 0));split
   ·omega
   simp;omega
end
end
section
attribute [local go_sem ↓] Go.wp_at_zero Go.wp_at_succ
variable {D I jmp w0 lp bn v j}
theorem xQ (w:World) (x):IR (w.alloc (.cells #[Iq x] 3)) 3 (Sq w.heap.size 1 1) [x]:=by
 refine⟨rfl,.inr ⟨w.heap.size,1,#[Iq x],rfl,R0 _,RO w _,RL _,by unfold maxLen;omega,rfl,rfl⟩⟩
theorem lh {t:Tr} (h:∀W,cK F D W->ML W b t pl nm u I) (h0:0<t.kids.length):
 ∃g cap,∀W,cK F D W->W.cell? ⟨b,0,none⟩=some (Iq t.k)/\W.cell? ⟨b,4,none⟩=some (Sq g t.kids.length cap)/\ ∀j,j<t.kids.length->W.cell? ⟨g,j,none⟩=some (Pq (I j)):=by
 obtain⟨a,cap,e,hc⟩:=(h D (cK.refl _ _)).un;obtain⟨g,J,_⟩:=hc 0 h0;refine⟨g,cap,λW O=>?_⟩
 obtain⟨a',aa,E,R⟩:=(h W O).un;have U:=(h W O).cc;rw[e] at E;simp only[Sb,TV] at E;obtain⟨rfl,rfl⟩:=E;refine⟨U.c0,by rw[U.c4,e,J],λj hj=>?_⟩
 obtain⟨g',z,c⟩:=R j hj;rw[J] at z;simp only[R6,Tx,Uj] at z;rw[z];exact c
theorem A4 (HL:zO jmp d) (HJ:se jmp d) {dep cells} (hw:hY (d+1) t) (hk:t.k=14) (hT:gG F (d+1) w0 b t) (h:Bj F w0 w lp jmp v l dep cells) (ar:l.length+cX jmp (d+1) none t<=4900) (aD:bn+(d+1)<=1000) (au:dep<=1000):
 Calls prog 179 #[Pq lp,Pq b,Iq bn] w λe w'=>e= .returned (.tuple #[])/\dH w w' lp jmp v (l++gE jmp (d+1) none t l.length) (max dep (gn jmp (d+1) none t bn)) cells:=by
 obtain⟨es,ed,eg⟩:=P4 (jmp:=jmp) (d:=d) (p:=l.length) hk;rw[es] at ar;rw[ed,eg];obtain⟨ka,kb,kc,D⟩:∃ka kb kc,t.kids=[ka,kb,kc]:=by
  rcases hw.1 with⟨z,_⟩|⟨z,_⟩|⟨_,h2⟩|⟨z,_⟩
  ·unfold dy at z;omega
  ·omega
  ·exact h2
  ·unfold fh at z;omega
 have aa:t.kids.length=3:=by rw[D];rfl
 obtain⟨pl,nm,u,bl,HN,HK⟩:=qK hT;obtain⟨g,cap,Y⟩:=lh HN (by omega)
 have E:∀j,j<3->hY d (t.kid j):=λj Z=>hw.2 _ (by
  unfold Tr.kid;rw[RG,RI (by omega)]
  exact R4 _)
 have HT:=λj (Z:j<3)=>HK j (by omega)
 rw[aa] at Y;have FC:Hid (∀W,cK F w0 W->Cq W b 4 (Sq g 3 cap)/\Cq W g 0 (Pq (bl 0))/\Cq W g 1 (Pq (bl 1))/\Cq W g 2 (Pq (bl 2))):=λW hb=>⟨(Y W hb).2.1,(Y W hb).2.2 0 (by omega),(Y W hb).2.2 1 (by omega),(Y W hb).2.2 2 (by omega)⟩
 have aE:=rQ jmp d (some false) (t.kid 0) bn;have aF:=rQ jmp d none (t.kid 1) bn;have av:=Hi (GU (jmp:=jmp) (d:=d) (a:=t.kid 0) (b:=t.kid 1) (c:=t.kid 2) (m:=none) (l:=l) (p:=l.length) rfl (E 0 (by omega)))
 have ag:= @A3 jmp d (t.kid 0) false l.length;have aH:= @oX jmp d (t.kid 0) false l.length;have lA:=jI jmp d (some false) (t.kid 0) l.length;have lB:=jI jmp d none (t.kid 1) (l.length+cX jmp d (some false) (t.kid 0));have HB:=Hi h;have W1:=HJ (this:=false) (bn:=bn) (E 0 (by omega)) (HT 0 (by omega)) h (by omega) (by omega) au
 obtain⟨c4,c0,_,_⟩:=FC.out w h.bel;have ah:=Hi E;have ai:=Hi HT;have aw:=Hi ag;go_enter func179,ntmps179;go_wp2_with fail;apply W1.mono;rintro e w1 ⟨jv,rfl,ab,_,G⟩;obtain⟨v1,z,k1,z1,g1⟩:=HB.out.next G;have W2:=HL (bn:=bn) (ah.out 1 (by omega)) (ai.out 1 (by omega)) z (by rw[RT,lA];omega) (by omega) (by omega)
 rw[RT,lA] at W2;obtain⟨d4,_,d1,_⟩:=FC.out w1 z.bel;have aj:=Hi z;have ax:Hid _:= @g1;have ak:=Hi ab;go_wp2_with fail;apply W2.mono;rintro e w2 ⟨rfl,I⟩;obtain⟨v2,h2,k2,z2,g2⟩:=aj.out.next I;have am:=Hi (k2 ak.out);have W3:=jR 16 0 h2.at_ (by simp only[RT,lA,lB];omega)
 obtain⟨ix,ac⟩:∃ix:Nat,l.length+cX jmp d (some false) (t.kid 0)+cX jmp d none (t.kid 1)=ix:=⟨_,rfl⟩;have hJ:(l++gE jmp d (some false) (t.kid 0) l.length++gE jmp d none (t.kid 1) (l.length+cX jmp d (some false) (t.kid 0))).length=ix:=by
  simp only[RT,lA,lB];exact ac
 rw[hJ] at W3;have an:=Hi ac;have ao:=Hi h2;have ay:Hid _:= @g2;go_wp2_with fail;apply W3.mono;rintro e w3 ⟨rfl,J⟩;obtain⟨v3,h3,k3,z3,g3⟩:=ao.out.next J;have O:(l++gE jmp d (some false) (t.kid 0) l.length++gE jmp d none (t.kid 1) (l.length+cX jmp d (some false) (t.kid 0))++[(⟨16,0,0⟩:L3)]).length=l.length+cX jmp d (some false) (t.kid 0)+cX jmp d none (t.kid 1)+1:=by
  simp only[RT,lA,lB,R7,Sx]
 have W4:=jA (jv:=jv) (js:=og jmp d false (t.kid 0) l.length) h3.at_ (by rw[O];omega) (by omega) (k3 am.out) (λj Z=>by have:=aw.out j Z;rw[O];omega)
 rw[O] at W4;have ap:=Hi h3;have az:Hid _:= @g3;go_wp2_with fail;apply W4.mono;rintro e w4 ⟨rfl,R⟩;obtain⟨v4,h4,k4,z4,g4⟩:=ap.out.next R;have U:=r9 (og jmp d false (t.kid 0) l.length) (l++gE jmp d (some false) (t.kid 0) l.length++gE jmp d none (t.kid 1) (l.length+cX jmp d (some false) (t.kid 0))++[(⟨16,0,0⟩:L3)]) (l.length+cX jmp d (some false) (t.kid 0)+cX jmp d none (t.kid 1)+1);rw[O] at U;have W5:=HL (bn:=bn) (ah.out 2 (by omega)) (ai.out 2 (by omega)) h4 (by rw[U];omega) (by omega) (by omega)
 rw[U] at W5;obtain⟨d4,_,_,d2⟩:=FC.out w4 h4.bel;have aq:=Hi h4;have aA:Hid _:= @g4;go_wp2_with fail;apply W5.mono;rintro e w5 ⟨rfl,V⟩;obtain⟨v5,h5,k5,z5,g5⟩:=aq.out.next V;have ad:Below w5.heap.size w5 (w5.alloc (.cells #[Iq (ix:Nat)] 3)):=(RP _ _).alloc (RL _) _;have ae:(fM (l++gE jmp d (some false) (t.kid 0) l.length++gE jmp d none (t.kid 1) (l.length+cX jmp d (some false) (t.kid 0))++[(⟨16,0,0⟩:L3)]) (og jmp d false (t.kid 0) l.length) (l.length+cX jmp d (some false) (t.kid 0)+cX jmp d none (t.kid 1)+1)++gE jmp d none (t.kid 2) (l.length+cX jmp d (some false) (t.kid 0)+cX jmp d none (t.kid 1)+1)).length=l.length+cX jmp d (some false) (t.kid 0)+cX jmp d none (t.kid 1)+1+cX jmp d none (t.kid 2):=by
  rw[RT,U,jI]
 have W6:=jA (js:=[ix]) (h5.below ad).at_ (by rw[ae];omega) (by simp) (xQ w5 _) (λj Z=>by simp only[TQ] at Z;have:=an.out;rw[Z,ae];omega)
 have aB:Hid _:= @g5;have aC:=Hi ad;go_wp2_with fail;apply W6.mono;rintro e w6 ⟨rfl,af⟩;go_wp2
 go_end0
 refine⟨rfl,?_⟩;have hf:=ax.out (ay.out (az.out (aA.out (aB.out (dH.from aC.out af)))));rw[xP,ae,<-an.out,av.out] at hf;have em:max (max (max dep (gn jmp d (some false) (t.kid 0) bn)) (gn jmp d none (t.kid 1) bn)) (gn jmp d none (t.kid 2) bn)=max dep (max (gn jmp d (some false) (t.kid 0) bn) (max (gn jmp d none (t.kid 1) bn) (gn jmp d none (t.kid 2) bn))):=by omega
 rw[em] at hf;exact hf
theorem dH.dep {dep cells} (h:dH w z lp jmp v l dep cells) (x):dH w (z.setCell ⟨lp,2,none⟩ (Iq (x:Nat))) lp jmp v l x cells:=by
 obtain⟨I,a1,J,O⟩:=h;refine⟨I,⟨?_,?_⟩,J.setCell (.inl (.inl rfl)) _,O⟩
 ·rw[R3 z lp 2 _ _ _ a1.blk];rfl
 ·exact Tn a1.row (a:=⟨lp,2,none⟩) a1.ne _
theorem lM (z:hY (d+1) t) (D:j<t.kids.length):hY d (t.kid j):=z.2 _ (by
 unfold Tr.kid;rw[RG,RI D];exact R4 _)
theorem MO (HL:zO jmp d) (HJ:se jmp d):zO jmp (d+1):=by
 intro F t w0 w lp b bn dep cells v l Y hT h Z ah ab;obtain⟨pl,nm,u,bl,U,HK⟩:=qK hT;have c0:=(U w h.bel).cc.c0;rcases Y.1 with⟨E,D,_⟩|⟨E,ka,D⟩|⟨E,_⟩|⟨E,ka,kb,D⟩
 ·have J:t.k≠14:=by unfold dy at E;omega
  have O:t.k≠19:=by unfold dy at E;omega
  have R:t.kids.length≠2:=by rw[D];decide
  obtain⟨es,ed⟩:=MN (jmp:=jmp) (d:=d) J O R;rw[Ou J O R,ed];have I:=Dl h.at_ (by omega) E (U w h.bel).cc
  have ew:eU ⟨t.k,t.n,t.l,[]⟩=eU t/\iR ⟨t.k,t.n,t.l,[]⟩=iR t:=⟨rfl,rfl⟩;rw[ew.1,ew.2] at I;obtain⟨a,cap,eu,_⟩:=(U w h.bel).un;have c4:w.cell? ⟨b,4,none⟩=some (.slice a t.kids.length cap):=by rw[(U w h.bel).cc.c4,eu]
  rw[D] at c4;have af:((t.k:Int)==14)=false:=by simp;omega
  have ag:((t.k:Int)==19)=false:=by simp;omega
  generalize eU t=op at*;generalize iR t=n at*;generalize t.k=k at*;go_enter func133,ntmps133;go_wp2_with fail;apply I.mono;rintro e w1 ⟨rfl,z⟩;have HO:Hid (dH w w1 lp jmp v (l++[⟨op,n,0⟩]) dep cells):=z;obtain⟨v1,a1,_,_⟩:=z;have p2:=RM w1 lp 2 _ _ _ a1.blk;have pf:w1.frozen? ⟨lp,2,none⟩=false:=by simp[World.frozen?,a1.blk]
  by_cases hm:bn+1<=dep
  ·have i1:max (dep:Int) ((bn:Int)+1)=(dep:Int):=by omega
   have i2: ¬(dep:Int)<(bn:Int)+1:=by omega
   have EM:Hid (max dep (bn+1)=dep):=by show _=_;omega
   go_wp2
   go_end0
   refine⟨rfl,?_⟩;rw[EM.out];exact dH.dep HO.out dep
  ·have i1:max (dep:Int) ((bn:Int)+1)=(bn:Int)+1:=by omega
   have i3: ¬(bn:Int)+1<=(dep:Int):=by omega
   have EM:Hid (max dep (bn+1)=bn+1):=by show _=_;omega
   go_wp2
   go_end0
   refine⟨rfl,?_⟩;rw[EM.out];exact dH.dep HO.out (bn+1)
 ·have ai:t.kids.length=1:=by rw[D];rfl
  obtain⟨es,ed⟩:=Ov (jmp:=jmp) (d:=d) E;rw[PW E,ed];rw[es] at Z;obtain⟨g,cap,V⟩:=lh U (by omega)
  rw[ai] at V;have I:=HL (bn:=bn) (lM Y (j:=0) (by omega)) (HK 0 (by omega)) h (by omega) (by omega) ab
  obtain⟨_,c4,hg⟩:=V w h.bel;have q0:=hg 0 (by omega)
  have lA:=jI jmp d none (t.kid 0) l.length;rw[E] at c0;have HB:=Hi h;go_enter func133,ntmps133;go_wp2_with fail;apply I.mono;rintro e w1 ⟨rfl,z⟩;obtain⟨v1,h1,_,_,g1⟩:=HB.out.next z;have W2:=jR 12 0 h1.at_ (by rw[RT,lA];omega)
  have ac:Hid _:= @g1;generalize (l++gE jmp d none (t.kid 0) l.length).length=ix at*;go_wp2_with fail;apply W2.mono;rintro e w2 ⟨rfl,G⟩;have aj:=Hi G;go_wp2;refine RU (v:= .tuple #[]) (by simp[results,results133,go_sem]) rfl ?_
  refine⟨rfl,?_⟩;have hf:=ac.out aj.out;rw[Sk] at hf;exact hf
 ·have I:=A4 HL HJ Y E hT h Z ah ab
  rw[E] at c0;go_enter func133,ntmps133;go_wp2_with fail;apply I.mono;rintro e w1 ⟨rfl,z⟩;have HO:=Hi z;go_wp2;refine RU (v:= .tuple #[]) (by simp[results,results133,go_sem]) rfl ?_
  exact⟨rfl,HO.out⟩
 ·have J:t.k≠14:=by unfold fh at E;omega
  have O:t.k≠19:=by unfold fh at E;omega
  have R:t.kids.length=2:=by rw[D];rfl
  obtain⟨es,ed⟩:=Ow (jmp:=jmp) (d:=d) J O R;rw[PX J O R,ed];rw[es] at Z;obtain⟨g,cap,V⟩:=lh U (by omega)
  rw[R] at V;have FC:Hid (∀W,cK F w0 W->Cq W b 0 (Iq t.k)/\Cq W b 4 (Sq g 2 cap)/\Cq W g 0 (Pq (bl 0))/\Cq W g 1 (Pq (bl 1))):=λW hb=>⟨(V W hb).1,(V W hb).2.1,(V W hb).2.2 0 (by omega),(V W hb).2.2 1 (by omega)⟩
  have I:=HL (bn:=bn) (lM Y (j:=0) (by omega)) (HK 0 (by omega)) h (by omega) (by omega) ab
  have ak:=Hi (lM Y (j:=1) (by omega))
  have am:=Hi (HK 1 (by omega))
  obtain⟨_,c4,q0,_⟩:=FC.out w h.bel;have lA:=jI jmp d none (t.kid 0) l.length;have lB:=jI jmp d none (t.kid 1) (l.length+cX jmp d none (t.kid 0));have av:=rQ jmp d none (t.kid 0) bn;have W4:=λW=>MC t.k E W
  have af:((t.k:Int)==14)=false:=by simp;omega
  have ag:((t.k:Int)==19)=false:=by simp;omega
  have HB:=Hi h;generalize t.k=k at*;go_enter func133,ntmps133;go_wp2_with fail;apply I.mono;rintro e w1 ⟨rfl,z⟩;obtain⟨v1,h1,_,_,g1⟩:=HB.out.next z;have W2:=HL (bn:=bn+1) ak.out am.out h1 (by rw[RT,lA];omega) (by omega) (by omega)
  rw[RT,lA] at W2;have an:=Hi W2;have eb:((bn+1:Nat):Int)=(bn:Int)+1:=by omega
  rw[eb] at W2;obtain⟨_,d4,_,d1⟩:=FC.out w1 h1.bel;have ac:Hid _:= @g1;have ao:=Hi h1;go_wp2_with fail;apply W2.mono;rintro e w2 ⟨rfl,G⟩;obtain⟨v2,h2,_,_,g2⟩:=ao.out.next G;have W3:=jR (jH k) 0 h2.at_ (by simp only[RT,lA,lB];omega)
  obtain⟨e0,_,_,_⟩:=FC.out w2 h2.bel;have ap:Hid _:= @g2;generalize (l++gE jmp d none (t.kid 0) l.length++gE jmp d none (t.kid 1) (l.length+cX jmp d none (t.kid 0))).length=ix at*;generalize ad:jH k=op at*;have aq:=Hi ad
  go_wp2_with (first
   |(go_at_call 180;refine(W4 _).mono ?_;rintro e w' ⟨rfl,ae⟩;have ar:=ae.symm;clear ae;subst ar)
   |fail)
  apply W3.mono;rintro e w3 ⟨rfl,aa⟩;have au:=Hi aa;go_wp2;refine RU (v:= .tuple #[]) (by simp[results,results133,go_sem]) rfl ?_
  refine⟨rfl,?_⟩;have hf:=ac.out (ap.out au.out);rw[Sk,Sk] at hf;have em:max (max dep (gn jmp d none (t.kid 0) bn)) (gn jmp d none (t.kid 1) (bn+1))=max dep (max (gn jmp d none (t.kid 0) bn) (gn jmp d none (t.kid 1) (bn+1))):=by omega
  rw[em,<-aq.out] at hf;exact hf
end
end Go.Proofs.YtfkdailfcmnjlaaGreatDoor
