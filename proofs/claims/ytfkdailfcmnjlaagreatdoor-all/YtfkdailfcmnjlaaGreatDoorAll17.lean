/-
  A part.
-/
import Derived.Test.YtfkdailfcmnjlaaGreatDoorAll16
import Derived.Test.YtfkdailfcmnjlaaGreatDoorLays2
import Derived.Lib.LaidTab
import Derived.Lib.AppendIntMem
set_option linter.all false
set_option maxHeartbeats 40000000
set_option maxRecDepth 1000000
namespace Go.Proofs.YtfkdailfcmnjlaaGreatDoor
open Go Go.RowKit Tryz
section
attribute [local go_sem ↓] Go.wp_at_zero Go.wp_at_succ
variable {bs : Nat}
variable {w w'}
theorem Kt (f n) (h:n<10^f) (G:0<f):Lib.decDigits n=ko f n:=by
 induction f generalizing n with
 |zero=>omega
 |succ f ih=>
  rw[Lib.decDigits,ko]
  by_cases z:n<10
  ·rw[dif_pos z,Qo z]
  ·rw[dif_neg z,Qj z]
   have D:0<f:=by
    rcases Tm f with rfl|E
    ·simp at h;omega
    ·exact E
   rw[Tl] at h;rw[ih (n / 10) (by omega) D]
def Tb (w:World):Prop:=Lib.TabIs prog w "internal/strconv.uint64pow10" .u64 Lib.pow10Tab
theorem Pf:prog.globalNamed "internal/strconv.uint64pow10"=some 2:=by kernel_rfl
theorem Tb.below (h:Tb w) (E:Below w.heap.size w w'):Tb w':=by
 unfold Tb Lib.TabIs World.var? at*;rw[Pf] at*;simp only[Option.bind_some] at*;have D:2<w.heap.size:=by
  rcases Rq 2 w.heap.size with z|z
  ·exact z
  ·rw[RY z] at h;simp at h
 rw[E.block _ D];exact h
theorem xO (n : Nat) (h : n <= 9223372036854775807) (w : World) (hT : Tb w) : Calls prog 120 #[Iq n, Iq 10] w λe w' => e = .returned (S (rI n)) /\ Below w.heap.size w w' := by
  apply(Any.strconv_FormatInt_10 laysM173 (n : Int) (by omega) (by omega) w hT).mono
  rintro e w' ⟨rfl, k, os, rfl⟩;refine ⟨?_, Lib.below_grow _ _ (Qn _) _ _⟩;have e1 : Lib.itoa (n : Int) = rI n := by
    unfold Lib.itoa rI;rw [Qj (by omega), Rr]
    exact Kt 20 n (by have:(10:Nat)^20=100000000000000000000:=(by decide);omega) (by decide)
  rw [e1]
end
section
attribute [local go_sem ↓] Go.wp_at_zero Go.wp_at_succ
variable {bs : Nat}
variable {L N i b w}
structure kO (L:List Pt):Prop where
 tokw:∀k,k<L.length->hY (L.getD k cz).tok
 short:∀k,k<L.length->(L.getD k cz).tok.text.length<=1000
 num:∀k,k<L.length->(L.getD k cz).tok.k=110->dW (L.getD k cz).tok.text<=9223372036854775807
 few:L.length<=5000
theorem DO (D:dh bs L N w i b) (hk:cy (L.getD i cz).tok=19) (hl:(L.getD i cz).subs.length=1) (r) (hr:r.length<=100000000)
 (E:∀G z,dh bs L N z ((L.getD i cz).subs.getD 0 0) G->Below w.heap.size w z->Calls prog 67 #[Pq G] z λe w'=>e= .returned (S r)/\Below z.heap.size z w'):
 Calls prog 67 #[Pq b] w λe w'=>e= .returned (S (kr [] [r]))/\Below w.heap.size w w':=by
 obtain⟨u,n,bl,hi,aa,hn,I,J,O⟩:=D.inv;obtain⟨⟨c0,c1,c2,c3,c4,c5⟩,cf⟩:=gx I;obtain⟨au,rfl,R⟩:=J.slice;obtain⟨g,rfl,U⟩:=R 0 (by omega)
 have Z:=gy U 0 (by omega)
 have V:=E (bl 0) w (O 0 (by omega)) (Qq _ _)
 rw[hk] at c0;rw[hl] at c4;have HE:Hid (kr [] [r]=ud++r++[41]):=rfl;generalize kr [] [r]=q at*;go_enter func67,ntmps67;go_wp2_with fail;apply V.mono;rintro e z ⟨rfl,Y⟩;go_wp2;go_ret;refine⟨?_,Y⟩;rw[HE.out];have e1:=je ud r;have e2:=je (ud++r) [41];exact RK (λs=>Ending.returned (Value.string s)) (by rw[<-e2,<-e1];rfl)
theorem DP (D:dh bs L N w i b) (z:(L.getD i cz).tok.k=110) (U:dW (L.getD i cz).tok.text<=9223372036854775807) (E:Tb w):
 Calls prog 67 #[Pq b] w λe w'=>e= .returned (S (rI (dW (L.getD i cz).tok.text)))/\Below w.heap.size w w':=by
 obtain⟨u,n,bl,hi,Z,_,G,V,Y⟩:=D.inv;obtain⟨⟨c0,c1,c2,c3,c4,c5⟩,cf⟩:=gx G;have I:cy (L.getD i cz).tok=1:=by unfold cy;rw[Qo z]
 have J:cV (L.getD i cz).tok=dW (L.getD i cz).tok.text:=by unfold cV;rw[Qo z]
 rw[I] at c0;rw[J] at c2;have O:=xO (dW (L.getD i cz).tok.text) U w E;generalize rI (dW (L.getD i cz).tok.text)=q at*;generalize dW (L.getD i cz).tok.text=m at*;go_enter func67,ntmps67;go_wp2_with fail;apply O.mono;rintro e w1 ⟨rfl,R⟩;go_wp2;go_ret;exact⟨rfl,R⟩
theorem DQ (hC:dh bs L N w i b) (hk:(L.getD i cz).tok.k=111):
 Calls prog 67 #[Pq b] w λe w'=>e= .returned (S (L.getD i cz).tok.text)/\Below w.heap.size w w':=by
 obtain⟨u,n,bl,hi,hlo,_,hb,hu,hs⟩:=hC.inv;obtain⟨⟨c0,c1,c2,c3,c4,c5⟩,cf⟩:=gx hb;have e1:=iK.2 hk;have e2:cE (L.getD i cz).tok=(L.getD i cz).tok.text:=by unfold cE;rw[Qo hk]
 rw[e1] at c0;rw[e2] at c3;clear hC hb hu hs hk e1 e2;generalize (L.getD i cz).tok.text=q at*;go_enter func67,ntmps67;go_wp2;go_ret;exact⟨rfl,Qq _ _⟩
set_option maxHeartbeats 4000000 in
theorem BF (hC : dh bs L N w i b) (hs0 : (L.getD i cz).subs = []) (hk : 20 <= cy (L.getD i cz).tok /\ cy (L.getD i cz).tok <= 35) (hS : Sp w) :
    Calls prog 67 #[Pq b] w λe w' => e = .returned (S (cU.getD (cy (L.getD i cz).tok) [])) /\ Below w.heap.size w w' := by
  obtain ⟨u, n, bl, hi, hlo, _, hb, hu, hs⟩ := hC.inv
  obtain ⟨⟨c0, c1, c2, c3, c4, c5⟩, cf⟩ := gx hb
  have hu0 : u = .slice none 0 0 := by
    rw [hs0] at hu; rcases hu with hu | hu
    · exact hu.2
    · simp at hu
  subst hu0
  have W1 := gK (cy (L.getD i cz).tok) w hS (by omega)
  clear hC hb hu hs hs0 hS
  generalize cU.getD (cy (L.getD i cz).tok) [] = q at *
  generalize cy (L.getD i cz).tok = kd at *
  have n1 : ((kd : Int) == (1 : Int)) = false := by have : ¬ ((kd : Int) = 1) := by omega
                                                    simpa using this
  have n2 : ((kd : Int) == (2 : Int)) = false := by have : ¬ ((kd : Int) = 2) := by omega
                                                    simpa using this
  have n3 : ((kd : Int) == (19 : Int)) = false := by have : ¬ ((kd : Int) = 19) := by omega
                                                     simpa using this
  have n4 : ((kd : Int) == (14 : Int)) = false := by have : ¬ ((kd : Int) = 14) := by omega
                                                     simpa using this
  go_enter func67, ntmps67
  go_wp2_with fail
  apply W1.mono
  rintro e w1 ⟨rfl, rfl⟩
  clear W1
  go_wp2
  go_ret
  exact ⟨rfl, Qq _ _⟩
end
section
attribute [local go_sem ↓] Go.wp_at_zero Go.wp_at_succ
variable {bs : Nat}
variable {L N i b w}
set_option maxHeartbeats 1000000 in
theorem DR (hC : dh bs L N w i b) (hk : cy (L.getD i cz).tok ≠ 1 /\ cy (L.getD i cz).tok ≠ 2 /\ cy (L.getD i cz).tok ≠ 19 /\ cy (L.getD i cz).tok ≠ 14 /\ cy (L.getD i cz).tok < 36) (hl : (L.getD i cz).subs.length = 2) (r1 r2 : List UInt8) (hr1 : r1.length <= 100000000) (hr2 : r2.length <= 100000000) (hS : Sp w) (hsp : (cU.getD (cy (L.getD i cz).tok) []).length <= 100)
    (HI1 :∀ bj  w1 , dh bs L N w1 ((L.getD i cz).subs.getD 0 0) bj -> Below w.heap.size w w1 -> Calls prog 67 #[Pq bj] w1 λe w' => e = .returned (S r1) /\ Below w1.heap.size w1 w')
    (HI2 :∀ bj  w1 , dh bs L N w1 ((L.getD i cz).subs.getD 1 0) bj -> Below w.heap.size w w1 -> Calls prog 67 #[Pq bj] w1 λe w' => e = .returned (S r2) /\ Below w1.heap.size w1 w') :
    Calls prog 67 #[Pq b] w λe w' => e = .returned (S (kr (cU.getD (cy (L.getD i cz).tok) []) [r1, r2])) /\ Below w.heap.size w w' := by
  obtain ⟨u, n, bl, hi, hlo, hn, hb, hu, hs⟩ := hC.inv
  obtain ⟨⟨c0, c1, c2, c3, c4, c5⟩, cf⟩ := gx hb
  obtain ⟨au, rfl, ha⟩ := hu.slice
  obtain ⟨g, rfl, hg⟩ := ha 0 (by omega)
  have d0 := gy hg 0 (by omega)
  have d1 := gy hg 1 (by omega)
  rw [hl] at c4
  have HE : Hid (kr (cU.getD (cy (L.getD i cz).tok) []) [r1, r2] = [40] ++ r1 ++ [32] ++ cU.getD (cy (L.getD i cz).tok) [] ++ [32] ++ r2 ++ [41]) := rfl
  generalize kr (cU.getD (cy (L.getD i cz).tok) []) [r1, r2] = q at *
  have W1 := λw1 (h : Below w.heap.size w w1) => HI1 (bl 0) w1 ((hs 0 (by omega)).grow h) h
  have W2 := λw1 (h : Below w.heap.size w w1) => HI2 (bl 1) w1 ((hs 1 (by omega)).grow h) h
  have W3 := λw1 (h : Below w.heap.size w w1) => gK (cy (L.getD i cz).tok) w1 (hS.below hS.pos h) hk.2.2.2.2
  clear hC hb hu hs ha hg hn HI1 HI2 hS
  obtain ⟨k1, k2, k3, k4, k5⟩ := hk
  generalize cU.getD (cy (L.getD i cz).tok) [] = sp at *
  generalize cy (L.getD i cz).tok = kd at *
  have n1 : ((kd : Int) == (1 : Int)) = false := by have : ¬ ((kd : Int) = 1) := by omega
                                                    simpa using this
  have n2 : ((kd : Int) == (2 : Int)) = false := by have : ¬ ((kd : Int) = 2) := by omega
                                                    simpa using this
  have n3 : ((kd : Int) == (19 : Int)) = false := by have : ¬ ((kd : Int) = 19) := by omega
                                                     simpa using this
  have n4 : ((kd : Int) == (14 : Int)) = false := by have : ¬ ((kd : Int) = 14) := by omega
                                                     simpa using this
  go_enter func67, ntmps67
  go_wp2
  have keepF :∀ w', Below w.heap.size w w' -> (w'.cell? ⟨b, 4, none⟩ = some (Sq g 2 2) /\ w'.cell? ⟨g, 0, none⟩ = some (Pq (bl 0)) /\ w'.cell? ⟨g, 1, none⟩ = some (Pq (bl 1)) /\ w'.cell? ⟨b, 0, none⟩ = some (Iq kd)) := λw' h => by
    rw [h.cell (p := ⟨b, 4, none⟩) (Qk w _ c4), h.cell (p := ⟨g, 0, none⟩) (Qk w _ d0), h.cell (p := ⟨g, 1, none⟩) (Qk w _ d1), h.cell (p := ⟨b, 0, none⟩) (Qk w _ c0)]
    exact ⟨c4, d0, d1, c0⟩
  have KF : Hid _ := keepF
  clear keepF c1 c2 c3 c5 cf
  have s1 : ¬ 9223372036854775807 < 1 + r1.length := by omega
  have s2 : ¬ 9223372036854775807 < 1 + r1.length + 1 := by omega
  have s3 : ¬ 9223372036854775807 < 1 + r1.length + 1 + sp.length := by omega
  have s4 : ¬ 9223372036854775807 < 1 + r1.length + 1 + sp.length + 1 := by omega
  have s5 : ¬ 9223372036854775807 < 1 + r1.length + 1 + sp.length + 1 + r2.length := by omega
  have s6 : ¬ 9223372036854775807 < 1 + r1.length + 1 + sp.length + 1 + r2.length + 1 := by omega
  go_region_held3 (λw' => w'.cell? ⟨b, 4, none⟩ = some (Sq g 2 2) /\ w'.cell? ⟨g, 0, none⟩ = some (Pq (bl 0)) /\ w'.cell? ⟨g, 1, none⟩ = some (Pq (bl 1)) /\ w'.cell? ⟨b, 0, none⟩ = some (Iq kd)) (first | exact KF.out _ hB7 | exact KF.out _ hB5 | go_keep) ((first | (go_at_call 119; refine (W3 _ hB5).mono ?_; rintro e w6 ⟨rfl, hw6⟩; subst hw6) | (go_at_call 67; refine (W2 _ hB5).mono ?_; rintro e w7 ⟨rfl, hb7⟩; have hB7 := hB5.trans (hb7.mono hB5.size)) | (go_at_call 67; refine (W1 _ (Qq _ _).drew).mono ?_; rintro e w5 ⟨rfl, hb5⟩; have hB5 : Below w.heap.size w w5 := (Qq _ _).drew.trans hb5)))
  all_goals rename_i hHeld
  all_goals clear hHeld
  all_goals go_wp2_with fail
  all_goals go_ret
  all_goals refine ⟨?_, hB7⟩
  all_goals rw [HE.out]
  all_goals have e1 := je [40] r1
  all_goals have e2 := je ([40] ++ r1) [32]
  all_goals have e3 := je ([40] ++ r1 ++ [32]) sp
  all_goals have e4 := je ([40] ++ r1 ++ [32] ++ sp) [32]
  all_goals have e5 := je ([40] ++ r1 ++ [32] ++ sp ++ [32]) r2
  all_goals have e6 := je ([40] ++ r1 ++ [32] ++ sp ++ [32] ++ r2) [41]
  all_goals exact RK (λs => Ending.returned (Value.string s)) (by rw [<- e6, <- e5, <- e4, <- e3, <- e2, <- e1])
end
section
attribute [local go_sem ↓] Go.wp_at_zero Go.wp_at_succ
variable {bs : Nat}
variable {L N i b w}
theorem G1 (hC:dh bs L N w i b) (hk:cy (L.getD i cz).tok=14) (hl:(L.getD i cz).subs.length=3) (tx D E G) (ag:D.length<=100000000) (ah:E.length<=100000000) (ai:G.length<=100000000)
 (Z:∀J z,dh bs L N z ((L.getD i cz).subs.getD 0 0) J->Below w.heap.size w z->Calls prog 67 #[Pq J] z λe w'=>e= .returned (S D)/\Below z.heap.size z w')
 (aa:∀J z,dh bs L N z ((L.getD i cz).subs.getD 1 0) J->Below w.heap.size w z->Calls prog 67 #[Pq J] z λe w'=>e= .returned (S E)/\Below z.heap.size z w')
 (ab:∀J z,dh bs L N z ((L.getD i cz).subs.getD 2 0) J->Below w.heap.size w z->Calls prog 67 #[Pq J] z λe w'=>e= .returned (S G)/\Below z.heap.size z w'):
 Calls prog 67 #[Pq b] w λe w'=>e= .returned (S (kr tx [D,E,G]))/\Below w.heap.size w w':=by
 obtain⟨u,n,I,hi,aj,hn,hb,hu,V⟩:=hC.inv;obtain⟨⟨c0,c1,c2,c3,c4,c5⟩,cf⟩:=gx hb;obtain⟨au,rfl,ha⟩:=hu.slice;obtain⟨g,rfl,Y⟩:=ha 0 (by omega)
 have d0:=gy Y 0 (by omega)
 have d1:=gy Y 1 (by omega)
 have d2:=gy Y 2 (by omega)
 rw[hl] at c4;rw[hk] at c0;have HE:Hid (kr tx [D,E,G]=qu++D++jX++E++mV++G++[41]):=rfl;generalize kr tx [D,E,G]=q at*;have W1:=λz (h:Below w.heap.size w z)=>Z (I 0) z ((V 0 (by omega)).grow h) h
 have W2:=λz (h:Below w.heap.size w z)=>aa (I 1) z ((V 1 (by omega)).grow h) h
 have W3:=λz (h:Below w.heap.size w z)=>ab (I 2) z ((V 2 (by omega)).grow h) h
 have O:∀w',Below w.heap.size w w'->(w'.cell? ⟨b,4,none⟩=some (Sq g 3 3)/\w'.cell? ⟨g,0,none⟩=some (Pq (I 0))/\w'.cell? ⟨g,1,none⟩=some (Pq (I 1))/\w'.cell? ⟨g,2,none⟩=some (Pq (I 2))):=λw' h=>by
  rw[h.cell (p:=⟨b,4,none⟩) (Qk w _ c4),h.cell (p:=⟨g,0,none⟩) (Qk w _ d0),h.cell (p:=⟨g,1,none⟩) (Qk w _ d1),h.cell (p:=⟨g,2,none⟩) (Qk w _ d2)];exact⟨c4,d0,d1,d2⟩
 have KF:=Hi O;have s1: ¬9223372036854775807<4+D.length:=by omega
 have s2: ¬9223372036854775807<4+D.length+6:=by omega
 have s3: ¬9223372036854775807<4+D.length+6+E.length:=by omega
 have s4: ¬9223372036854775807<4+D.length+6+E.length+6:=by omega
 have s5: ¬9223372036854775807<4+D.length+6+E.length+6+G.length:=by omega
 have s6: ¬9223372036854775807<4+D.length+6+E.length+6+G.length+1:=by omega
 go_enter func67,ntmps67;go_wp2
 go_region_held3 (λw'=>w'.cell? ⟨b,4,none⟩=some (Sq g 3 3)/\w'.cell? ⟨g,0,none⟩=some (Pq (I 0))/\w'.cell? ⟨g,1,none⟩=some (Pq (I 1))/\w'.cell? ⟨g,2,none⟩=some (Pq (I 2))) (first|exact KF.out _ ac|exact KF.out _ R|exact KF.out _ U|go_keep) ((first|(go_at_call 67;refine(W3 _ R).mono ?_;rintro e w9 ⟨rfl,ad⟩;have ac:=R.trans (ad.mono R.size))|(go_at_call 67;refine(W2 _ U).mono ?_;rintro e w7 ⟨rfl,ae⟩;have R:=U.trans (ae.mono U.size))|(go_at_call 67;refine(W1 _ (Qq _ _).drew).mono ?_;rintro e w5 ⟨rfl,af⟩;have U:Below w.heap.size w w5:=(Qq _ _).drew.trans af)))
 all_goals rename_i hHeld
 all_goals clear hHeld
 all_goals go_wp2_with fail
 all_goals go_ret
 all_goals refine⟨?_,ac⟩
 all_goals rw[HE.out]
 all_goals have e1:=je qu D
 all_goals have e2:=je (qu++D) jX
 all_goals have e3:=je (qu++D++jX) E
 all_goals have e4:=je (qu++D++jX++E) mV
 all_goals have e5:=je (qu++D++jX++E++mV) G
 all_goals have e6:=je (qu++D++jX++E++mV++G) [41]
 all_goals exact RK (λs=>Ending.returned (Value.string s)) (by rw[<-e6,<-e5,<-e4,<-e3,<-e2,<-e1];rfl)
end
section
variable {bs : Nat}
variable {j L N}
theorem DS:∀x∈cU.drop 3,cU.getD (kn x) []=x/\kn x<36/\x.length<=100:=by decide
theorem DT:∀x∈([[43],[45],[60],[60,61],[61],[111,114],[97,110,100]]),kn x≠1/\kn x≠2/\kn x≠19/\kn x≠14/\kn x<36/\(cU.getD (kn x) []).length<=100/\cU.getD (kn x) []=x:=by decide
theorem Ku {α:Type} {F:Nat->α} {l:List Nat} (h:l.length=2):l.map F=[F (l.getD 0 0),F (l.getD 1 0)]:=by
 match l,h with
 |[a,b],_=>rfl
theorem DU {α:Type} {F:Nat->α} {l:List Nat} (h:l.length=3):l.map F=[F (l.getD 0 0),F (l.getD 1 0),F (l.getD 2 0)]:=by
 match l,h with
 |[a,b,c],_=>rfl
theorem Kv {α:Type} {F:Nat->α} {l:List Nat} (h:l.length=1):l.map F=[F (l.getD 0 0)]:=by
 match l,h with
 |[a],_=>rfl
theorem mQ {l:List Nat} (h:j<l.length):l.getD j 0∈l:=by rw[Qi,Ql h];exact QD h
theorem DV (hL:kO L) (f):∀{lo i b w},dN f L lo i->dh bs L N w i b->Sp w->Tb w->
 Calls prog 67 #[Pq b] w λe w'=>e= .returned (S (gk f L i))/\Below w.heap.size w w':=by
 induction f with
 |zero=>intro lo i b w h;exact h.elim
 |succ f ih=>
  intro lo i b w hT R hS ac;have ad:=hT.lt;have Y:=fY _ hT.2.2;have D:∀j∈(L.getD i cz).subs,(gk f L j).length<=100000000:=λj Z=>by
   obtain⟨ae,G,z,h3⟩:=Y j Z;have:=dN.plain_len hL.short h3;have h5:=hL.few;have:1100*(j+1 - ae)<=1100*5000:=RV _ (by omega)
   omega
  have E:∀j,j<(L.getD i cz).subs.length-> ∀(bj:Nat) (U:World),dh bs L N U ((L.getD i cz).subs.getD j 0) bj->Below w.heap.size w U->Calls prog 67 #[Pq bj] U λe w'=>e= .returned (S (gk f L ((L.getD i cz).subs.getD j 0)))/\Below U.heap.size U w':=λj Z bj U ag hb=>by
   obtain⟨ae,G,z,h3⟩:=Y _ (mQ Z);exact ih h3 ag (hS.below hS.pos hb) (ac.below hb)
  rw[gk]
  by_cases J:(L.getD i cz).tok.k=110
  ·rw[Qo J];exact DP R J (hL.num i ad J) ac
  ·rw[Qj J]
   rcases hT.2.1 with⟨ha,af⟩|⟨hw,O⟩|⟨hw,O⟩|⟨m,hm,Z,O⟩
   ·rw[af]
    show Calls _ _ _ _ λe w'=>e= .returned (S (L.getD i cz).tok.text)/\_
    by_cases V:(L.getD i cz).tok.k=111
    ·exact DQ R V
    ·have aa:=hL.tokw i ad
     rw[pT aa] at ha;have I:20<=cy (L.getD i cz).tok/\cy (L.getD i cz).tok<=35:=by
      unfold mL at ha;simp only[SO,SK,SY] at ha;rcases ha with(G|G)|G
      ·exfalso
       rcases aa.cases with z|z|z|⟨z,hm⟩
       ·exact J z
       ·exact V z
       ·unfold cy at G;rw[Qj J,Qj V,Qo z] at G;simp at G
       ·rw[dU z] at G;have:=lT _ hm;unfold kn at G;omega
      ·exact absurd (iK.1 G) V
      ·exact G
     have hx:(L.getD i cz).tok.text∈cU.drop 3/\cy (L.getD i cz).tok=kn (L.getD i cz).tok.text:=by
      rcases aa.cases with z|z|z|⟨z,hm⟩
      ·exact absurd z J
      ·exact absurd z V
      ·exfalso;unfold cy at I;rw[Qj J,Qj V,Qo z] at I;omega
      ·exact⟨hm,dU z⟩
     have h3:=BF R af I hS;rw[hx.2,(DS _ hx.1).1] at h3;exact h3
   ·obtain⟨e,I⟩:=gX hw
    rw[Kv O];have h3:=DO R (by rw[dU I,e];decide) O (gk f L ((L.getD i cz).subs.getD 0 0)) (D _ (mQ (by omega))) (E 0 (by omega))
    exact h3
   ·obtain⟨e,I⟩:=gX hw
    rw[DU O];exact G1 R (by rw[dU I,e];decide) O _ _ _ _ (D _ (mQ (by omega))) (D _ (mQ (by omega))) (D _ (mQ (by omega))) (E 0 (by omega)) (E 1 (by omega)) (E 2 (by omega))
   ·obtain⟨e,I⟩:=mi Z
    obtain⟨a1,a2,a3,a4,a5,a6,a7⟩:=DT _ e;rw[Ku O];have ab:=dU I;have h3:=DR R (by rw[ab];exact⟨a1,a2,a3,a4,a5⟩) O _ _ (D _ (mQ (by omega))) (D _ (mQ (by omega))) hS (by rw[ab];exact a6) (E 0 (by omega)) (E 1 (by omega))
    rw[ab,a7] at h3;exact h3
end
end Go.Proofs.YtfkdailfcmnjlaaGreatDoor
