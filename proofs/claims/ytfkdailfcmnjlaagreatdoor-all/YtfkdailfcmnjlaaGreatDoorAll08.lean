/-
  A part.
-/
import Derived.Test.YtfkdailfcmnjlaaGreatDoorAll07
import Derived.Deep.RegionLaw
set_option linter.all false
set_option maxHeartbeats 40000000
set_option maxRecDepth 1000000
namespace Go.Proofs.YtfkdailfcmnjlaaGreatDoor
open Go Go.RowKit Tryz
section
attribute [local go_sem ↓] Go.wp_at_zero Go.wp_at_succ
variable {p D E b w w' B rb gl cl ts s U o2 gg}
theorem FQ:(prog.info? 169).map (λi=>(i.zero,i.size,i.bytes))=some (some (.agg #[.int .u8 0,.string ⟨#[]⟩,Iq 0,.slice none 0 0,Iq 0]),5,64):=by kernel_rfl
def Nk (p:ey):Value:= .agg #[.int .u8 p.tok.k,S p.tok.text,Iq p.tok.pl,p.sv,Iq p.n]
theorem k7.one {w:World} (h:k7 w p):p.sv.oneCell'=true:=by
 rcases h with⟨_,e⟩|⟨z,e,_⟩<;>rw[e]<;>rfl
theorem PR (k:Nat) (t:LB) (pl:Nat) (z) (n) (h:z.oneCell'=true):∀u∈[Value.int .u8 k,S t,Iq pl,z,Iq n],u.oneCell'=true:=by
 intro u D;simp at D;rcases D with rfl|rfl|rfl|rfl|rfl
 ·rfl
 ·rfl
 ·rfl
 ·exact h
 rfl
theorem Pa {w z:World} {row} (I:(((w.alloc D).alloc E).drew).grownBy z row) (J:b<w.heap.size) (G:some b≠row) (j):
 z.cell? ⟨b,j,none⟩=w.cell? ⟨b,j,none⟩/\z.frozen? ⟨b,j,none⟩=w.frozen? ⟨b,j,none⟩:=by
 have h:z.heap[b]?=w.heap[b]?:=by
  rw[I.block b (by simp;omega) G]
  exact(Qu (w.alloc D) E b (by simp;omega)).trans (Qu w D b J)
 exact⟨Qz h,Re h⟩
theorem Jr (w:World) (o:Obj) (cs:List Value) (t):∀j u,cs[j]?=some u->(((w.alloc o).alloc (.cells cs.toArray t)).drew).cell? ((⟨w.heap.size+1,0,none⟩:Addr).add j)=some u:=by
 have h:=World.news_of_block (by have e:=Qp (w.alloc o) (.cells cs.toArray t);rw[Qw] at e;exact e)
 simpa using h
theorem k7.of {p:ey} (h:k7 w p) (E:∀(k:Nat) cs,w.heap[k]?=some (.cells cs 3 (0,0))->w'.heap[k]?=w.heap[k]?):k7 w' p:=by
 rcases h with e|⟨z,e,D⟩
 ·exact .inl e
 exact .inr ⟨z,e,by rw[E z _ D];exact D⟩
theorem RS.added (h:RS B rb gl cl ts s w) (p) (hp:k7 w p) (hs:s.ps.length+1<=s.i) {cap}
 (I:(((w.alloc U).alloc o2).drew).grownBy D s.pv.ownBlock)
 (V:D.ownsRow B 169 5 (Sq gg (s.ps.length+1) cap) (s.ps.length+1) (eI s.ps++[.int .u8 p.tok.k,S p.tok.text,Iq p.tok.pl,p.sv,Iq p.n]))
 (aa:s.pv.ownBlock=some gg\/gg=w.heap.size+2):
 RS B rb gl cl ts {s with ps:=s.ps++[p],pv:= Sq gg (s.ps.length+1) cap} (D.setCell ⟨rb,2,none⟩ (Sq gg (s.ps.length+1) cap))/\
 Fr rb s.pv (Sq gg (s.ps.length+1) cap) w (D.setCell ⟨rb,2,none⟩ (Sq gg (s.ps.length+1) cap)):=by
 have Y:∀k,k<w.heap.size->some k≠s.pv.ownBlock->D.heap[k]?=w.heap[k]?:=λk z ab=>by
  rw[I.block k (by simp;omega) ab]
  exact(Qu (w.alloc U) o2 k (by simp;omega)).trans (Qu w U k z)
 have ht:∀k cs e,w.heap[k]?=some (.cells cs e (0,0))->e≠169->some k≠s.pv.ownBlock:=λk cs e z Z hh=>by
  obtain⟨af,E⟩:=cK h.parts hh.symm;rw[z] at E;simp at E;exact Z E.2
 have ac:=be h.rd;have J:D.heap[rb]?=some (.cells #[Sq gl ts.length cl,Iq s.i,s.pv,.bool s.bad] 149 (0,0)):=by
  rw[Y rb ac (ht rb _ _ h.rd (by decide))];exact h.rd
 have ho:∀k v,k≠rb->(D.setCell ⟨rb,2,none⟩ v).heap[k]?=D.heap[k]?:=λk v z=>Qr _ _ _ _ z
 have O:∀(v:Value) (k:Nat) (cs:Array Value) (e:TypeId),w.heap[k]?=some (.cells cs e (0,0))->e≠169->e≠149->(D.setCell ⟨rb,2,none⟩ v).heap[k]?=w.heap[k]?:=λv k cs e z Z ad=>by
  rw[ho k v (λhh=>by subst hh;rw[h.rd] at z;simp at z;exact ad z.2.symm),Y k (be z) (ht k cs e z Z)]
 refine⟨⟨?_,?_,?_,?_,h.hb,h.hi,h.hn,h.fin,by simpa using hs⟩,⟨I.os,I.tape,I.output,?_,?_,?_⟩⟩
 ·rw[QB D rb 2 _ _ _ J];simp
 ·obtain⟨cs,E⟩:=cK h.words rfl;refine cM h.words λk z=>?_
  simp[Value.ownBlock] at z;subst z;exact O _ _ cs _ E (by decide) (by decide)
 ·have R:D.ownsRow B 169 5 (Sq gg (s.ps.length+1) cap) (s.ps++[p]).length (eI (s.ps++[p])):=by
   rw[vp];simpa using V
  refine cM R λk z=>ho k _ λe=>?_
  subst e;obtain⟨cs,E⟩:=cK R z;rw[J] at E;simp at E
 ·intro q G;have ae:k7 w q:=by
   simp at G;rcases G with G|G
   ·exact h.subs q G
   rw[G];exact hp
  exact ae.of λk cs z=>O _ k cs _ z (by decide) (by decide)
 ·have:=I.size;simp at this⊢;omega
 ·intro k z h1 R;rw[ho k _ h1,Y k z R]
 rcases aa with e|e
 ·exact .inl e.symm
 exact .inr ⟨gg,rfl,by omega⟩
theorem jY (h:RS B rb gl cl ts s w) (p) (O:k7 w p) (hB:B<=w.heap.size) (hs:s.ps.length+1<=s.i):
 Calls prog 160 #[Pq rb,Nk p] w λe w'=>e= .returned (Iq s.ps.length)/\ ∃E,RS B rb gl cl ts {s with ps:=s.ps++[p],pv:=E} w'/\Fr rb s.pv E w w':=by
 obtain⟨i0,hi,R,U,V⟩:=Ry FQ;have G:=be h.rd;obtain⟨c0,c1,c2,c3⟩:=h.cells;have hf:=h.free;have J:=O.one;have aa:s.ps.length<=2000:=by have:=h.hi;have:=h.hn;omega
 have I:some rb≠s.pv.ownBlock:=λe=>by
  obtain⟨cs,Y⟩:=cK h.parts e.symm;rw[h.rd] at Y;simp at Y
 have ad:some w.heap.size≠s.pv.ownBlock:=λe=>by
  have:=(h.parts.lt _ e.symm).2;omega
 have ab:rb<w.heap.size+1:=by omega
 unfold Nk;go_enter func160,ntmps160;go_wp2;go_region_law
  ((refine step_append_lies _ (by rfl) _ _ _ (by rfl) B 169 i0 _ 5 64 underlying88 hi R U V rfl (by omega) s.pv s.ps.length (eI s.ps) (by rfl) (((h.parts.alloc _).alloc _).drew) ⟨w.heap.size+1,0,none⟩ 1 1 [.int .u8 p.tok.k,S p.tok.text,Iq p.tok.pl,p.sv,Iq p.n] (by rfl) (by rfl) (Jr w _ _ _) (PR _ _ _ _ _ J) (by omega) (by unfold maxLen;omega) (by omega) (by simp;omega) (w.heap.size+2) (by simp) ?_;intro gg cap w1 D z Z ae;have e1:=(Pa z G I 2).1.trans c2;have e2:=(Pa z G I 2).2.trans (hf 2)))
 all_goals
  go_wp2;go_ret;exact⟨da (by omega),Sq gg (s.ps.length+1) cap,h.added p O hs z D Z⟩
end
variable {a b w w' s k}
theorem FT (n:Nat) (w) (G:n<=10):Calls prog 221 #[Iq n] w (λe w'=>rJ (iO n) e w w'):=by
 by_cases z:n=0
 ·subst z
  go_enter func221,ntmps221
  go_wp2
  go_ret;exact gO w _ _ _ rfl rfl
 by_cases D:n=1
 ·subst D
  go_enter func221,ntmps221
  go_wp2
  go_ret;exact gO w _ _ _ rfl rfl
 by_cases h3:n=3
 ·subst h3
  go_enter func221,ntmps221
  go_wp2
  go_ret;exact gO w _ _ _ rfl rfl
 ·have E:Hid (iO n=[[43],[45]]):=by show _=_;unfold iO;rw[Qj z,Qj D,Qj h3]
  have I:((n:Int)==0)=false:=by simp;omega
  have J:((n:Int)==1)=false:=by simp;omega
  have O:((n:Int)==3)=false:=by simp;omega
  go_enter func221,ntmps221
  go_wp2
  go_ret;rw[E.out];exact gO w _ _ _ rfl rfl
theorem EY {k:IntKind} (h:a=b):Value.int k a= .int k b:=by rw[h]
theorem L5 (l:List UInt8) (k):dv 0 (l.take k)<=dv 0 l:=by
 induction l generalizing k with
 |nil=>simp
 |cons c l ih=>
  cases k with
  |zero=>simp[dv]
  |succ k=>
   rw[RA,kN,kN,qZ (l.take k),qZ l (0*10+(c.toNat - 48))];have z:(10:Nat)^(l.take k).length<=10^l.length:=R7 (by decide) (List.length_take_le' _ _)
   have D:=ih k;have h3:=RV (0*10+(c.toNat - 48)) z;omega
theorem L6 (l:List UInt8) (c):dv 0 (l++[c])=dv 0 l*10+(c.toNat - 48):=by
 unfold dv;rw[RH];rfl
theorem L7 (l:List UInt8) (k) (h:k<l.length):dv 0 (l.take (k+1))=dv 0 (l.take k)*10+(l[k].toNat - 48):=by
 rw[Rw h,L6]
theorem FU (s:List UInt8) (w) (hl:s.length<=1000) (I:∀c∈s,jk c=true) (E:dW s<=9223372036854775807):
 Calls prog 248 #[S s] w λe w'=>e= .returned (Iq (dW s))/\w'=w:=by
 have J:Hid (dv 0 s<=9223372036854775807):=E;go_enter func248,ntmps248
 go_wp2
 go_loop [3,4] (λn i=> ∃k:Nat,k<=s.length/\i= Iq k/\n= Iq (dv 0 (s.take k))) (λ_ i=>s.length - (intOf i).toNat)
 case atStart=>exact⟨0,QA _,rfl,by simp[dv]⟩
 case round=>
  obtain⟨k,hk,rfl,rfl⟩:=hrel
  by_cases z:k<s.length
  ·have G:=L7 s k z
   have O:=L5 s (k+1);have D:=re (I s[k] (QD z));have R:=J.out;have c1:(48:Int)<=(((ByteArray.mk s.toArray)[k]'z).toNat:Int):=Int.ofNat_le.2 D.1;have c2:(((ByteArray.mk s.toArray)[k]'z).toNat:Int)<=57:=Int.ofNat_le.2 D.2;generalize U:dv 0 (s.take k)=v at*;have Y:(v:Int)<=922337203685477580:=by omega
   have Z:(v:Int)*10+((((ByteArray.mk s.toArray)[k]'z).toNat:Int) - 48)<=9223372036854775807:=by
    have:(((ByteArray.mk s.toArray)[k]'z).toNat:Int)=(s[k].toNat:Int):=rfl;omega
   have V:Hid (dv 0 (s.take (k+1))=v*10+(s[k].toNat - 48)):=G
   go_wp2
   refine⟨⟨k+1,by omega,by go_num,?_⟩,by simp[intOf];omega⟩
   rw[V.out];refine EY ?_;have e:(((ByteArray.mk s.toArray)[k]'z).toNat:Int)=(s[k].toNat:Int):=rfl;omega
  ·go_wp2
   go_ret;refine⟨da ?_,rfl⟩;rw[Q4 (by omega)];rfl
def cU:List (List UInt8):=[[],[],[],[40],[41],[59],[43],[45],[61],[60,61],[60],[108,101,116],[97,108,108,111,119],[100,101,110,121],[105,102],[116,104,101,110],[101,108,115,101],[111,114],[97,110,100],[110,111,116],[116,114,117,101],[102,97,108,115,101],[110,111,110,101],[105,110,118,105,116,101],[106,111,105,110],[108,101,97,118,101],[98,97,110],[108,101,118,101,108],[114,97,110,107],[110,101,101,100],[119,104,101,110],[115,101,110,100,101,114],[116,97,114,103,101,116],[119,97,110,116,115],[115,101,108,102],[111,112,101,110]]
def Sp (w:World):Prop:= ∀k,k<36->w.cell? ⟨0,k,none⟩=some (S (cU.getD k []))
theorem Sp.pos {w:World} (h:Sp w):0<w.heap.size:=Qk w _ (h 0 (by decide))
theorem Sp.below (h:Sp w) {B:Nat} (z:0<B) (D:Below B w w'):Sp w':=λk E=>by rw[D.cell z];exact h k E
theorem gK (k:Nat) (w) (h:Sp w) (z:k<36):Calls prog 119 #[Iq k] w λe w'=>e= .returned (S (cU.getD k []))/\w'=w:=by
 have D:=h k z;have E:0<=k:=by omega
 have G:k<36:=by omega
 generalize cU.getD k []=t at*;go_enter func119,ntmps119;go_wp2;go_ret;exact⟨rfl,rfl⟩
theorem oR (c:UInt8) (w):Calls prog 145 #[.int .u8 c.toNat] w λe w'=>e= .returned (.bool (jk c))/\w'=w:=by
 have h:=c.toNat_lt;have z:Hid (jk c=(decide (48<=c.toNat)&&decide (c.toNat<=57))):=rfl;go_enter func145,ntmps145;go_wp2
 all_goals go_ret
 all_goals refine⟨iG ?_,rfl⟩
 all_goals rw[z.out,RE]
 all_goals simp
 all_goals omega
theorem oc (c:UInt8) (w):Calls prog 148 #[.int .u8 c.toNat] w λe w'=>e= .returned (.bool (jn c))/\w'=w:=by
 have h:=c.toNat_lt;have z:Hid (jn c=(decide (97<=c.toNat)&&decide (c.toNat<=122))):=rfl;go_enter func148,ntmps148;go_wp2
 all_goals go_ret
 all_goals refine⟨iG ?_,rfl⟩
 all_goals rw[z.out,RE]
 all_goals simp
 all_goals omega
set_option maxHeartbeats 1000000 in
theorem oS (l : List UInt8) (a : Nat) (w : World) (hl : l.length <= 1000) (ha : a <= l.length) : Calls prog 101 #[S l, Iq a] w λe w' => e = .returned (Iq (dm kM l a)) /\ w' = w := by
  go_enter func101, ntmps101;go_wp2
  go_loop [1] (λi => ∃ j : Nat, a <= j /\ j <= l.length /\ i = Iq j /\ Hid (dm kM l a = dm kM l j)) (λi => l.length - (intOf i).toNat)
  case atStart => exact ⟨a, by omega, by omega, rfl, rfl⟩
  case round =>
    obtain ⟨j, hkj, hj, rfl, HB⟩ := hrel
    by_cases hlt : j < l.length
    · go_wp2
      case roundEnd =>
        refine ⟨⟨j + 1, by omega, by omega, by go_num, ?_⟩, by simp [intOf]; omega⟩
        show _ = _; rw [HB.out]; exact fJ kM l j hlt (Jn ‹_›)
      case roundEnd =>
        refine ⟨⟨j + 1, by omega, by omega, by go_num, ?_⟩, by simp [intOf]; omega⟩
        show _ = _; rw [HB.out]; exact fJ kM l j hlt (NL ‹_›)
      go_ret;refine ⟨da ?_, rfl⟩;rw [HB.out, lL kM l j hlt (Jo ‹_›)]
    · go_wp2
      go_ret;refine ⟨da ?_, rfl⟩;rw [HB.out, lY kM l j (by omega)]
theorem CT (l:LB) (w) (I:l.length<=1000):Calls prog 147 #[S l,.func (.func 145) #[] #[]] w λe w'=>e= .returned (Iq (dm jk l 0))/\w'=w:=by
 go_enter func147,ntmps147;go_wp2;go_loop [5] (λi=> ∃j,j<=l.length/\i= Iq j/\Hid (dm jk l 0=dm jk l j)) (λi=>l.length - (intOf i).toNat)
 case atStart=>exact⟨0,by omega,rfl,rfl⟩
 case round=>
  obtain⟨j,J,rfl,G⟩:=hrel;by_cases E:j<l.length
  ·cases D:jk l[j] with
   |true=>
    have z:=Hi D;go_wp2_with fail;apply(oR l[j] _).mono;rintro e w' ⟨rfl,rfl⟩;rw[z.out];go_wp2;refine⟨⟨j+1,by omega,by go_num,?_⟩,by simp[intOf];omega⟩
    show _=_;rw[G.out];exact fJ jk l j E z.out
   |false=>
    have z:=Hi D;go_wp2_with fail;apply(oR l[j] _).mono;rintro e w' ⟨rfl,rfl⟩;rw[z.out];go_wp2;go_ret;refine⟨da ?_,rfl⟩;rw[G.out,lL jk l j E z.out]
  go_wp2;go_ret;refine⟨da ?_,rfl⟩;rw[G.out,lY jk l j (by omega)]
theorem AQ (l:LB) (w) (I:l.length<=1000):Calls prog 147 #[S l,.func (.func 148) #[] #[]] w λe w'=>e= .returned (Iq (dm jn l 0))/\w'=w:=by
 go_enter func147,ntmps147;go_wp2;go_loop [5] (λi=> ∃j,j<=l.length/\i= Iq j/\Hid (dm jn l 0=dm jn l j)) (λi=>l.length - (intOf i).toNat)
 case atStart=>exact⟨0,by omega,rfl,rfl⟩
 case round=>
  obtain⟨j,J,rfl,G⟩:=hrel;by_cases E:j<l.length
  ·cases D:jn l[j] with
   |true=>
    have z:=Hi D;go_wp2_with fail;apply(oc l[j] _).mono;rintro e w' ⟨rfl,rfl⟩;rw[z.out];go_wp2;refine⟨⟨j+1,by omega,by go_num,?_⟩,by simp[intOf];omega⟩
    show _=_;rw[G.out];exact fJ jn l j E z.out
   |false=>
    have z:=Hi D;go_wp2_with fail;apply(oc l[j] _).mono;rintro e w' ⟨rfl,rfl⟩;rw[z.out];go_wp2;go_ret;refine⟨da ?_,rfl⟩;rw[G.out,lL jn l j E z.out]
  go_wp2;go_ret;refine⟨da ?_,rfl⟩;rw[G.out,lY jn l j (by omega)]
def cy (t:Tok):Nat:=if t.k=110 then 1 else if t.k=111 then 2 else if t.k=101 then 0 else(dx cU t.text).toNat
theorem FV (l:List (List UInt8)) (s) (k) (D:k<l.length) (E:∀q,q<k->l.getD q []≠s) (z:l.getD k []=s):dx l s=k:=by
 induction l generalizing k with
 |nil=>simp at D
 |cons x r ih=>
  unfold dx
  cases k with
  |zero=>simp at z;rw[z];simp
  |succ k=>
   have G:(x==s)=false:=by have:=E 0 (by omega);simpa using this
   have:=ih k (by simpa using D) (λq I=>by have:=E (q+1) (by omega);simpa using this) (by simpa using z)
   rw[G,this];simp;omega
theorem uN {l:List (List UInt8)} (h:0<=dx l s):s∈l:=by
 induction l with
 |nil=>simp[dx] at h
 |cons x r ih=>
  unfold dx at h
  by_cases e:(x==s)=true
  ·simp at e;simp[e]
  ·rw[Qj e] at h
   by_cases z:dx r s<0
   ·rw[Qo z] at h;omega
   ·exact S7 _ (ih (by omega))
theorem uO {l:List (List UInt8)} (h:s∈l):0<=dx l s:=by
 induction l with
 |nil=>simp at h
 |cons x r ih=>
  unfold dx
  by_cases e:(x==s)=true
  ·rw[Qo e];omega
  ·rw[Qj e]
   have:s∈r:=by simp at h e;rcases h with h|h;exact absurd h.symm e;exact h
   have:=ih this;rw[Qj (by omega)];omega
theorem Js:cU.drop 11=nW++dy++dC:=by decide
theorem rL (s:List UInt8):qU s=true↔s∈cU.drop 11:=by
 rw[Js];unfold qU;simp only[SO,SY,Rn];constructor
 ·rintro((h|h)|h)
  ·exact .inl (.inr (uN h))
  ·exact .inr (uN h)
  ·exact .inl (.inl (uN h))
 ·rintro((h|h)|h)
  ·exact .inr (uO h)
  ·exact .inl (.inl (uO h))
  ·exact .inl (.inr (uO h))
theorem CU {s:List UInt8} (D:s≠[]) (E:∀c∈s,jn c=true):∀q,q<11->cU.getD q []≠s:=by
 intro q G e;have z:∀q,q<11->(cU.getD q []).all jn=true->cU.getD q []=[]:=by decide
 have:=z q G (by rw[e];exact Sk.2 E)
 rw[e] at this;exact D this
def qD (s:List UInt8):Value×Nat:=if qU s then(.agg #[Iq (dx cU s),Iq 0,Iq 0,S []],s.length) else if s.length<=8 then(.agg #[Iq 2,Iq 0,Iq 0,S s],s.length) else(.agg #[Iq 0,Iq 0,Iq 0,S []],0)
set_option maxHeartbeats 2000000 in
theorem Jt (s : List UInt8) (w : World) (hS : Sp w) (hs : s.length <= 1000) (h0 : s ≠ []) (hl :∀ c ∈ s, jn c = true) :
    Calls prog 149 #[S s] w λe w' => e = .returned (.tuple #[(qD s).1, Iq (qD s).2]) /\ Below w.heap.size w w' := by
  have hB := (Qq w.heap.size w).alloc (Qn _) (.cells #[Iq 0, Iq 0, Iq 0, S []] 160);have hSp := hS.below hS.pos hB;have HB : Hid _ := hB;have HL : Hid _ := CU h0 hl;clear hB h0 hl hS;go_enter func149, ntmps149;go_wp2
  go_loop [4] (λi => ∃ k : Nat, 11 <= k /\ k <= 36 /\ i = Iq k /\ Hid (∀ q, q < k -> cU.getD q [] ≠ s)) (λi => 36 - (intOf i).toNat)
  case atStart => exact ⟨11, by omega, by omega, rfl, HL.out⟩
  case round =>
    obtain ⟨k, hk1, hk2, rfl, HQ⟩ := hrel
    by_cases hlt : k < 36
    · cases he : (s == cU.getD k []) with
      | true =>
        have HE : Hid (cU.getD k [] = s) := by exact (show s = cU.getD k [] by simpa using he).symm
        have hix : Hid (dx cU s = k) := FV cU s k (by exact hlt) HQ.out HE.out
        have hkw : Hid (qU s = true) := (rL s).2 (by
          rw [<- HE.out, Qi, Ql (by exact hlt)]
          exact List.mem_drop_iff_getElem.2 ⟨k - 11, by have : cU.length = 36 := rfl; omega, by simp only [RZ]; congr 1; omega⟩)
        clear he;go_wp2_with fail;apply(gK k _ hSp hlt).mono;rintro e w' ⟨rfl, rfl⟩;rw [HE.out];go_wp2;exact Qs (v := .tuple #[.agg #[Iq k, Iq 0, Iq 0, S []], Iq s.length]) (by simp [results, results149, go_sem]) rfl ⟨by unfold qD; rw [Qo hkw.out, hix.out], (Qq _ _).alloc (Qn _) _⟩
      | false =>
        have HE : Hid (cU.getD k [] ≠ s) := λe => by rw [e] at he; simp at he
        have he' := he;generalize hg : cU.getD k [] = sp at *;have HG : Hid _ := hg;clear he hg;go_wp2_with fail;apply(gK k _ hSp hlt).mono;rintro e w' ⟨rfl, rfl⟩;rw [HG.out];go_wp2;refine ⟨⟨k + 1, by omega, by omega, by go_num, λq hq => ?_⟩, by simp [intOf]; omega⟩
        by_cases e : q = k
        · subst e; rw [HG.out]; exact HE.out
        · exact HQ.out q (by omega)
    · have hkw : Hid (qU s = false) := by
        show _ = _
        cases e : qU s with
        | false => rfl
        | true =>
          obtain ⟨i, hi, hi2⟩ := RG.1 ((rL s).1 e);have hsl : cU.length = 36 := rfl;have hi' : i < 25 := by simp at hi; omega
          exact absurd (by rw [List.getElem_drop] at hi2; rw [Qi, Ql (by omega)]; exact hi2) (HQ.out (11 + i) (by omega))
      by_cases h8 : s.length <= 8
      · go_wp2
        exact Qs (v := .tuple #[.agg #[Iq 2, Iq 0, Iq 0, S s], Iq s.length]) (by simp [results, results149, go_sem]) rfl ⟨by unfold qD; rw [Qj (by simp [hkw.out]), Qo h8], (Qq _ _).alloc (Qn _) _⟩
      · go_wp2
        exact Qs (v := .tuple #[.agg #[Iq 0, Iq 0, Iq 0, S []], Iq 0]) (by simp [results, results149, go_sem]) rfl ⟨by unfold qD; rw [Qj (by simp [hkw.out]), Qj h8]; rfl, (Qq _ _).alloc (Qn _) _⟩
theorem AR (s p:List UInt8):(((ByteArray.mk s.toArray).extract 0 p.length).toList==p)=p.isPrefixOf s:=by
 rw[gm,Sf,RE,Tj,SN];simp only[cut,S0,Nat.sub_zero,Td];exact eq_comm
theorem qE (s p:List UInt8) (w) (D:s.length<=1000) (E:p.length<=1000):Calls prog 209 #[S s,S p] w λe w'=>e= .returned (.bool (p.isPrefixOf s))/\w'=w:=by
 by_cases h:p.length<=s.length
 ·go_enter func209,ntmps209
  go_wp2
  all_goals go_ret
  all_goals refine⟨iG ?_,rfl⟩
  all_goals exact AR s p
 ·have z:Hid (p.isPrefixOf s=false):=by
   show _=_
   rw[RU];intro e
   rw[Tj] at e;exact h e.length_le
  rw[z.out];go_enter func209,ntmps209
  go_wp2
  all_goals go_ret
  all_goals refine⟨iG ?_,rfl⟩
  all_goals rfl
def lG (s:List UInt8):Option Nat:=(List.range' 3 8).find? (λk=>(cU.getD k []).isPrefixOf s)
theorem FW {s:List UInt8} (h3:3<=k) (I:k<11) (z:∀q,3<=q->q<k->(cU.getD q []).isPrefixOf s=false) (D:(cU.getD k []).isPrefixOf s=true):lG s=some k:=by
 unfold lG;rw[List.find?_range'_eq_some];refine⟨D,by simp;omega,λj E G=>?_⟩
 rw[z j E G];rfl
theorem Ju {s:List UInt8} (z:∀q,3<=q->q<11->(cU.getD q []).isPrefixOf s=false):lG s=none:=by
 unfold lG;rw[List.find?_eq_none];intro x D;rw[List.mem_range'_1] at D;rw[z x (by omega) (by omega)];simp
def oT (s:List UInt8):Value×Nat:=match lG s with
 |some k=>(.agg #[Iq k,Iq 0,Iq 0,S []],(cU.getD k []).length)
 |none=>(.agg #[Iq 0,Iq 0,Iq 0,S []],0)
theorem AS:∀k,k<36->(cU.getD k []).length<=1000:=by decide
theorem Jv (s:List UInt8) (w) (O:Sp w) (Y:s.length<=1000):
 Calls prog 150 #[S s] w λe w'=>e= .returned (.tuple #[(oT s).1,Iq (oT s).2])/\Below w.heap.size w w':=by
 have R:=(Qq w.heap.size w).alloc (Qn _) (.cells #[Iq 0,Iq 0,Iq 0,S []] 160);have E:=O.below O.pos R;go_enter func150,ntmps150;go_wp2
 go_loop [4] (λi=> ∃k:Nat,3<=k/\k<=11/\i= Iq k/\Hid (∀q,3<=q->q<k->(cU.getD q []).isPrefixOf s=false)) (λi=>11 - (intOf i).toNat)
 case atStart=>exact⟨3,by omega,by omega,rfl,λq Z h2=>by omega⟩
 case round=>
  obtain⟨k,aa,ad,rfl,U⟩:=hrel
  by_cases ab:k<11
  ·have z:=AS k (by omega)
   cases D:(cU.getD k []).isPrefixOf s with
   |true=>
    have V:Hid (oT s=(.agg #[Iq k,Iq 0,Iq 0,S []],(cU.getD k []).length)):=by
     show _=_;unfold oT;rw[FW aa ab U.out D]
    have I:=Hi D;generalize G:cU.getD k []=sp at*;have J:=Hi G;go_wp2_with fail;apply(gK k _ E (by omega)).mono
    rintro e w' ⟨rfl,rfl⟩;rw[J.out];go_wp2_with fail;apply(qE s sp _ Y z).mono;rintro e w' ⟨rfl,rfl⟩;rw[I.out];go_wp2_with fail;apply(gK k _ E (by omega)).mono
    rintro e w' ⟨rfl,rfl⟩;rw[J.out];go_wp2;exact Qs (v:= .tuple #[.agg #[Iq k,Iq 0,Iq 0,S []],Iq sp.length]) (by simp[results,results150,go_sem]) rfl ⟨by rw[V.out],(Qq _ _).alloc (Qn _) _⟩
   |false=>
    have I:=Hi D;have ac:=Hi D;generalize G:cU.getD k []=sp at z I;have J:=Hi G;go_wp2_with fail;apply(gK k _ E (by omega)).mono
    rintro e w' ⟨rfl,rfl⟩;rw[J.out];go_wp2_with fail;apply(qE s sp _ Y z).mono;rintro e w' ⟨rfl,rfl⟩;rw[I.out];go_wp2;refine⟨⟨k+1,by omega,by omega,by go_num,λq h3 hq=>?_⟩,by simp[intOf];omega⟩
    by_cases e:q=k
    ·rw[e];exact ac.out
    ·exact U.out q h3 (by omega)
  ·have V:Hid (oT s=(.agg #[Iq 0,Iq 0,Iq 0,S []],0)):=by
    show _=_;unfold oT;rw[Ju (λq Z h2=>U.out q Z (by omega))]
   go_wp2;exact Qs (v:= .tuple #[.agg #[Iq 0,Iq 0,Iq 0,S []],Iq 0]) (by simp[results,results150,go_sem]) rfl ⟨by rw[V.out];rfl,(Qq _ _).alloc (Qn _) _⟩
section
attribute [local go_sem ↓] Go.wp_at_zero Go.wp_at_succ
variable {B rb gl cl ts r f E x pv I o e s' n p G D v g z J U t V cs q y}
def cL (p:ey):Pt:=⟨p.tok,p.subs⟩
def eV (s:St):Prop:= ∀p∈s.ps,p.n=iC p.tok
def Left (B rb gl cl:Nat) (ts:List Tok) (s:St) (w:World) (r:Rd) (e:Ending) (w':World):Prop:=
 ∃s':St,RS B rb gl cl ts s' w'/\Fr rb s.pv s'.pv w w'/\(s.ps.length<=s'.ps.length/\s'.ps.length+s.i<=s.ps.length+s'.i)/\s'.i=r.i/\
  ((r.ok=true/\s'.bad=false/\eV s'/\s'.ps.map cL=r.L/\e= .returned (Iq r.top))\/(r.ok=false/\s'.bad=true/\ ∃n:Nat,e= .returned (Iq n)))
theorem gG (h:RS B rb gl cl ts s w):
 Cq w gl (s.i*3) (.int .u8 (cq ts s.i).k)/\Cq w gl (s.i*3+1) (S (cq ts s.i).text)/\Cq w gl (s.i*3+2) (Iq (cq ts s.i).pl):=h.word s.i h.hi
theorem FX (h:RS B rb gl cl ts s w) (I:s.bad=true) (n:Nat):
 Calls prog 159 #[Pq rb,Iq n] w λe w'=>e= .returned (Iq 0)/\w'=w:=by
 obtain⟨c0,c1,c2,c3⟩:=h.cells;rw[I] at c3;go_enter func159,ntmps159;go_wp2;go_ret;exact⟨rfl,rfl⟩
abbrev dK (t:Tok):Obj:= .cells #[.int .u8 t.k,S t.text,.int .i64 t.pl] 151
theorem ez (w:World) (o):Below w.heap.size w (w.alloc o).drew:=((Qq _ _).alloc (Qn _) _).drew
theorem qG (h:RS B rb gl cl ts s w) (D:s.bad=true):
 Calls prog 115 #[Pq rb] w λe w'=>e= .returned (Iq 0)/\Below w.heap.size w w':=by
 obtain⟨c0,c1,c2,c3⟩:=h.cells;obtain⟨E,G,I⟩:=gG h;have hi:=h.hi;have b1:(0:Int)<=(s.i:Int):=by omega
 have b2:(s.i:Int)<(ts.length:Int):=by omega
 have J:=Hi D;go_enter func115,ntmps115;go_wp2
 go_region_held (λw'=>w'.cell? ⟨rb,0,none⟩=some (Sq gl ts.length cl)/\w'.cell? ⟨rb,1,none⟩=some (Iq s.i)/\w'.cell? ⟨gl,s.i*3,none⟩=some (.int .u8 (cq ts s.i).k)/\w'.cell? ⟨gl,s.i*3+1,none⟩=some (S (cq ts s.i).text)/\w'.cell? ⟨gl,s.i*3+2,none⟩=some (Iq (cq ts s.i).pl)) (go_keep) (fail)
 rename_i hHeld
 have O:=h.below (ez w (dK (cq ts s.i)));go_wp2_with fail;apply(iI O oI).mono;rintro e w2 ⟨rfl,z⟩;have h2:=O.below z;have R:gJ s.bad (cq ts s.i) oI=false:=by unfold gJ;rw[J.out];rfl
 rw[R];go_wp2_with fail;apply(FX h2 J.out 0).mono;rintro e w3 ⟨rfl,rfl⟩;go_wp2;go_ret;exact⟨rfl,(ez w _).trans (z.mono (by simp))⟩
def PS (f:Nat) (ts:List Tok) (s:St) (r:Rd):Prop:=(s.bad=true/\r.ok=false/\r.i=s.i)\/(s.bad=false/\eV s/\P f 6 ts s.i (s.ps.map cL) 0=some r)
def mI (f:Nat):Prop:= ∀(B rb gl cl:Nat) (ts:List Tok) (s:St) (w:World) (r:Rd),RS B rb gl cl ts s w->(∀t∈ts,lE t)->B<=w.heap.size->
 (PS f ts s r->Calls prog 115 #[Pq rb] w (Left B rb gl cl ts s w r))/\
 (∀n,n<=5->s.bad=false->eV s->P f n ts s.i (s.ps.map cL) 0=some r->Calls prog 159 #[Pq rb,Iq n] w (Left B rb gl cl ts s w r))
theorem AT {w w':World} (h:RS B rb gl cl ts s w) (D:s.bad=true) (E:r.ok=false) (G:r.i=s.i) (n:Nat) (z:Below w.heap.size w w'):Left B rb gl cl ts s w r (.returned (Iq n)) w':=
 ⟨s,h.below z,Fr.of_below z,⟨Qn _,Qn _⟩,G.symm,.inr ⟨E,D,n,rfl⟩⟩
theorem AU (O:E.i=a.i) (Z:(a.ok=true/\E.bad=false/\eV E/\E.ps.map cL=a.L)\/(a.ok=false/\E.bad=true)) (D:Nx f ts a b x):PS f ts (eO ts E x) b:=by
 unfold Nx at D;unfold eO gJ;rcases Z with⟨I,J,h3,h4⟩|⟨I,J⟩
 ·rw[J,O]
  by_cases G:eJ (cq ts a.i) x=true
  ·rw[Qo ⟨I,G⟩] at D
   rw[Qo (by simp[G])]
   exact .inr ⟨rfl,h3,by simp only;rw[h4];exact D⟩
  ·rw[Qj (λe=>G e.2)] at D
   rw[Qj (by simpa using G)]
   exact .inl ⟨rfl,D.1,by simp[D.2]⟩
 ·rw[Qj (λe=>by rw[I] at e;simp at e)] at D
  rw[J,Qj (by simp)]
  exact .inl ⟨rfl,D.1,by simp[D.2,O]⟩
theorem rM (ts:List Tok) (s) (x):(eO ts s x).ps=s.ps/\(eO ts s x).pv=s.pv/\s.i<=(eO ts s x).i:=by
 unfold eO;split<;>simp
theorem Fr.far (h:Fr rb pv I w w') (J:w.heap[k]?=some o) (U:k≠rb) (V:some k≠pv.ownBlock):w'.heap[k]?=some o:=by
 rw[h.block k (be J) U V];exact J
theorem jZ {r:Rd} (h:Left B rb gl cl ts s w r e w'):
 ∃(s':St) (n:Nat),e= .returned (Iq n)/\RS B rb gl cl ts s' w'/\Fr rb s.pv s'.pv w w'/\(s.ps.length<=s'.ps.length/\s'.ps.length+s.i<=s.ps.length+s'.i)/\Hid (s'.i=r.i)/\
  Hid ((r.ok=true/\s'.bad=false/\eV s'/\s'.ps.map cL=r.L)\/(r.ok=false/\s'.bad=true))/\Hid (r.ok=true->n=r.top):=by
 obtain⟨s',z,D,h3,E,I⟩:=h;rcases I with⟨a,b,c,d,rfl⟩|⟨a,b,n,rfl⟩
 ·exact⟨s',r.top,rfl,z,D,h3,E,.inl ⟨a,b,c,d⟩,λ_=>rfl⟩
 exact⟨s',n,rfl,z,D,h3,E,.inr ⟨a,b⟩,λG=>by rw[a] at G;simp at G⟩
theorem k9 (h:RS B rb gl cl ts s w) (O:w.heap[k]?=some o) (R:∀cs,o≠ .cells cs 169 (0,0)):some k≠s.pv.ownBlock:=λe=>by
 obtain⟨cs,D⟩:=cK h.parts e.symm;rw[O] at D;simp at D;exact R cs D
theorem vq {r:Rd} (st:(r.ok=true/\s'.bad=false/\eV s'/\s'.ps.map cL=r.L)\/(r.ok=false/\s'.bad=true)) (z:r.ok=true->n=r.top):
 (r.ok=true/\s'.bad=false/\eV s'/\s'.ps.map cL=r.L/\Ending.returned (Iq n)= .returned (Iq r.top))\/(r.ok=false/\s'.bad=true/\ ∃m:Nat,Ending.returned (Iq n)= .returned (Iq m)):=by
 rcases st with⟨a,b,c,d⟩|⟨a,b⟩
 ·exact .inl ⟨a,b,c,d,by rw[z a]⟩
 exact .inr ⟨a,b,n,rfl⟩
theorem EZ {t:Tok} {x:LB} (h:eJ t x=true):iC t=0:=by
 unfold eJ at h;simp at h;unfold iC;rw[Qj (by omega)]
theorem nA {ps:List ey} (h:∀q∈ps,q.n=iC q.tok) (D:p.n=iC p.tok):∀q∈ps++[p],q.n=iC q.tok:=by
 intro q z;simp at z;rcases z with z|rfl
 ·exact h q z
 exact D
theorem zg (ih:mI f) {w:World} (h:RS B rb gl cl ts s w) (Y:∀t∈ts,lE t) (hB:B<=w.heap.size)
 (E:s.bad=false) (ae:eV s) (hP:P (f+1) 6 ts s.i (s.ps.map cL) 0=some r) (hw:eJ (cq ts s.i) oI=true):
 Calls prog 115 #[Pq rb] w (Left B rb gl cl ts s w r):=by
 obtain⟨a,b,c,aa,ak,am,ab,ac,ad⟩:=nr hP hw;obtain⟨c0,c1,c2,c3⟩:=h.cells;obtain⟨k0,k1,k2⟩:=gG h;have hi:=h.hi;have hn:=h.hn;have b1:0<=s.i:=by omega
 have b2:s.i<ts.length:=by omega
 have n1:=World.new_ne w _ c1;have e0:Hid (gJ s.bad (cq ts s.i) oI=true):=by show _=_;unfold gJ;rw[E,hw];rfl
 have an:=nx h e0.out;have H1:=Hi aa;have H2:=Hi E;have H3:=Hi hw;have H4:=Hi ab;have H5:=Hi ac;have H6:=Hi ad;go_enter func115,ntmps115;go_wp2_with fail;go_region_held (λw'=>w'.cell? ⟨rb,0,none⟩=some (Sq gl ts.length cl)/\w'.cell? ⟨rb,1,none⟩=some (Iq s.i)/\w'.cell? ⟨gl,s.i*3,none⟩=some (.int .u8 (cq ts s.i).k)/\w'.cell? ⟨gl,s.i*3+1,none⟩=some (S (cq ts s.i).text)/\w'.cell? ⟨gl,s.i*3+2,none⟩=some (Iq (cq ts s.i).pl)) (go_keep) (fail)
 rename_i hHeld;have h1:=h.below (ez w (dK (cq ts s.i)));have Z:((w.alloc (dK (cq ts s.i))).drew).heap[w.heap.size]?=some (dK (cq ts s.i)):=Qp w _;go_wp2_with fail;apply(iI h1 oI).mono;rintro e w2 ⟨rfl,U⟩;have h2:=h1.below U;rw[e0.out];obtain⟨c0,c1,c2,c3⟩:=h2.cells;have hf:=h2.free;have hx:s.i+1<=2000:=by omega
 go_wp2_with fail;have ao:=be h.rd;have h3:=h2.next an.1;have af:w.heap.size+1<=w2.heap.size:=by have:=U.size;simpa using this
 have F3:Fr rb s.pv s.pv w (w2.setCell ⟨rb,1,none⟩ (Iq (s.i+1))):=(Fr.of_below ((ez w _).trans (U.mono (by simp)))).set ao _ _
 have G:(w2.setCell ⟨rb,1,none⟩ (Iq (s.i+1))).heap[w.heap.size]?=some (dK (cq ts s.i)):=by
  rw[Qr _ _ _ _ (by simp;omega),U.block _ (by simp)];exact Z
 have au:w.heap.size<(w2.setCell ⟨rb,1,none⟩ (Iq (s.i+1))).heap.size:=by simp;omega
 generalize w2.setCell ⟨rb,1,none⟩ (Iq (s.i+1))=w3 at*;apply((ih B rb gl cl ts {s with i:=s.i+1} w3 a h3 Y (by omega)).1 (.inr ⟨H2.out,ae,H1.out⟩)).mono
 rintro e w4 D;obtain⟨s4,n4,rfl,h4,F4,g4,i4,ap,ag⟩:=jZ D;have av:=F4.size;have I:=F4.far G (by omega) (k9 h3 G (by simp))
 go_wp2_with fail;apply(ny h4 lC).mono;rintro e w5 ⟨rfl,h5,F5⟩;have aw:=F5.size;have J:=F5.far I (by omega) (k9 h4 I (by simp))
 go_wp2_with fail;apply((ih B rb gl cl ts _ w5 b h5 Y (by omega)).1 (AU i4.out ap.out ak)).mono
 rintro e w6 D;obtain⟨s6,n6,rfl,h6,F6,g6,i6,aq,ah⟩:=jZ D;have ax:=F6.size;have O:=F6.far J (by omega) (k9 h5 J (by simp))
 go_wp2_with fail;apply(ny h6 lD).mono;rintro e w7 ⟨rfl,h7,F7⟩;have ay:=F7.size;have R:=F7.far O (by omega) (k9 h6 O (by simp))
 go_wp2_with fail;apply((ih B rb gl cl ts _ w7 c h7 Y (by omega)).1 (AU i6.out aq.out am)).mono
 rintro e V D;obtain⟨s8,n8,rfl,h8,F8,g8,i8,ar,ai⟩:=jZ D;have az:=F8.size;have z:=F8.far R (by omega) (k9 h7 R (by simp))
 have q0:=Qm V w.heap.size 0 _ _ _ z;have q1:=Qm V w.heap.size 1 _ _ _ z;have q2:=Qm V w.heap.size 2 _ _ _ z;obtain⟨p5,v5,j5⟩:=rM ts s4 lC;obtain⟨p7,v7,j7⟩:=rM ts s6 lD;have F:=(((F3.trans F4).trans F5).trans ((v5▸F6).trans F7)).trans (v7▸F8);have g:s.ps.length<=s8.ps.length/\s8.ps.length+(s.i+1)<=s.ps.length+s8.i:=by rw[p5] at g6;rw[p7] at g8;omega
 go_wp2_with fail;apply(jY (h8.below ((Qq _ _).alloc (Qn _) _)) ⟨cq ts s.i,[n4,n6,n8],0,Sq V.heap.size 3 3⟩ (.inr ⟨V.heap.size,rfl,Qp V _⟩) (by simp;omega) (by have:=h.few;omega)).mono
 rintro e w9 ⟨rfl,aA,h9,F9⟩;go_wp2;go_ret;refine⟨_,h9,F.trans ((Fr.of_below ((Qq _ _).alloc (Qn _) _)).trans F9),by simp;omega,?_,?_⟩
 ·exact i8.out.trans H5.out.symm
 rcases ar.out with⟨ok,good,aj,D⟩|⟨ok,bad⟩
 ·obtain⟨ha,hb,rfl⟩:=H6.out ok;refine .inl ⟨rfl,good,nA aj (by rw[EZ H3.out]),?_,?_⟩
  ·simp[mT,cL,D,ag.out ha,ah.out hb,ai.out ok]
  exact da (by simp[mT,<-D])
 exact .inr ⟨H4.out.trans ok,bad,s8.ps.length,rfl⟩
theorem zh (ih:mI f) {w:World} (h:RS B rb gl cl ts s w) (O:∀t∈ts,lE t) (hB:B<=w.heap.size)
 (z:s.bad=false) (G:eV s) (R:P (f+1) 6 ts s.i (s.ps.map cL) 0=some r) (I: ¬eJ (cq ts s.i) oI=true):
 Calls prog 115 #[Pq rb] w (Left B rb gl cl ts s w r):=by
 have HP:=Hi (qW R I);have e0:Hid (gJ s.bad (cq ts s.i) oI=false):=by show _=_;unfold gJ;rw[z];simpa using I
 have H2:=Hi z;obtain⟨c0,c1,c2,c3⟩:=h.cells;obtain⟨U,V,Y⟩:=gG h;have hi:=h.hi;have b1:0<=s.i:=by omega
 have b2:s.i<(ts.length:Int):=by omega
 go_enter func115,ntmps115;go_wp2_with fail;go_region_held (λw'=>w'.cell? ⟨rb,0,none⟩=some (Sq gl ts.length cl)/\w'.cell? ⟨rb,1,none⟩=some (Iq s.i)/\w'.cell? ⟨gl,s.i*3,none⟩=some (.int .u8 (cq ts s.i).k)/\w'.cell? ⟨gl,s.i*3+1,none⟩=some (S (cq ts s.i).text)/\w'.cell? ⟨gl,s.i*3+2,none⟩=some (Iq (cq ts s.i).pl)) (go_keep) (fail)
 rename_i hHeld;have Z:=h.below (ez w (dK (cq ts s.i)));go_wp2_with fail;apply(iI Z oI).mono;rintro e w2 ⟨rfl,D⟩;have h2:=Z.below D;have E:=(ez w _).trans (D.mono (by simp))
 rw[e0.out];go_wp2_with fail;have ab:=E.size;apply((ih B rb gl cl ts s w2 r h2 O (by omega)).2 0 (by omega) H2.out G HP.out).mono
 rintro e w3 hL;obtain⟨s3,n3,rfl,h3,F3,g3,i3,aa,J⟩:=jZ hL;go_wp2;go_ret;refine⟨s3,h3,(Fr.of_below E).trans F3,g3,i3.out,?_⟩;exact vq aa.out J.out
theorem vr (ih:mI f) {w:World} (h:RS B rb gl cl ts s w) (G:∀t∈ts,lE t) (I:B<=w.heap.size)
 (R:PS (f+1) ts s r):Calls prog 115 #[Pq rb] w (Left B rb gl cl ts s w r):=by
 rcases R with⟨J,U,V⟩|⟨z,D,O⟩
 ·refine(qG h J).mono ?_;rintro e w' ⟨rfl,E⟩;exact AT h J U V 0 E
 by_cases E:eJ (cq ts s.i) oI=true
 ·exact zg ih h G I z D O E
 exact zh ih h G I z D O E
theorem mJ (w:World) (a b i j) (v) (h:a≠b):(w.setCell ⟨a,i,none⟩ v).cell? ⟨b,j,none⟩=w.cell? ⟨b,j,none⟩:=R5 _ _ _ _ (by simp[h])
theorem FY (ih:mI f) {w:World} (h:RS B rb gl cl ts s w) (ae:∀t∈ts,lE t) (hB:B<=w.heap.size)
 (z:s.bad=false) (Z:eV s) (hP:P (f+1) 5 ts s.i (s.ps.map cL) 0=some r) (I:eJ (cq ts s.i) [40]=true):
 Calls prog 220 #[Pq rb] w (Left B rb gl cl ts s w r):=by
 obtain⟨a,V,hr⟩:=ns hP I;have H1:=Hi V;have H2:=Hi z;have HR:=Hi hr;have e0:Hid (gJ s.bad (cq ts s.i) [40]=true):=by show _=_;unfold gJ;rw[z,I];rfl
 have af:=nx h e0.out;clear hP V hr z I;obtain⟨c0,c1,c2,c3⟩:=h.cells;obtain⟨k0,k1,k2⟩:=gG h;have hn:=h.hn;have b1:0<=s.i:=by omega
 have b2:s.i<ts.length:=by omega
 have n0:=World.new_ne w _ c0;have n1:=World.new_ne w _ c1;have m0:=World.new_ne w _ k0;have m1:=World.new_ne w _ k1;have m2:=World.new_ne w _ k2;clear c2 c3;go_enter func220,ntmps220;go_wp2_with fail;go_region_held (λw'=>w'.cell? ⟨rb,0,none⟩=some (Sq gl ts.length cl)/\w'.cell? ⟨rb,1,none⟩=some (Iq s.i)/\w'.cell? ⟨gl,s.i*3,none⟩=some (.int .u8 (cq ts s.i).k)/\w'.cell? ⟨gl,s.i*3+1,none⟩=some (S (cq ts s.i).text)/\w'.cell? ⟨gl,s.i*3+2,none⟩=some (Iq (cq ts s.i).pl)) (go_keep) (fail)
 rename_i hHeld;clear hHeld;have h1:=h.below (ez w (dK (cq ts s.i)));have aa:((w.alloc (dK (cq ts s.i))).drew).heap[w.heap.size]?=some (dK (cq ts s.i)):=Qp w _;clear c0 c1 k0 k1 k2 n0 n1 m0 m1 m2;go_wp2_with fail;apply(iI h1 [40]).mono;rintro e w2 ⟨rfl,J⟩;have R:=h1.below J;have O:Bl w w2:=(ez w _).trans (J.mono (by simp))
 have ag:=O.size;rw[e0.out];obtain⟨c0,c1,c2,c3⟩:=R.cells;have hf:=R.free;have hx:s.i+1<=2000:=by omega
 go_wp2_with fail;have ah:=be h.rd;have h3:=R.next af.1;have F3:Fr rb s.pv s.pv w (w2.setCell ⟨rb,1,none⟩ (Iq (s.i+1))):=(Fr.of_below O).set ah _ _;have an:=F3.size;clear h1 R aa c0 c1 c2 c3 hf J O ag;generalize w2.setCell ⟨rb,1,none⟩ (Iq (s.i+1))=w3 at*;apply((ih B rb gl cl ts {s with i:=s.i+1} w3 a h3 ae (by omega)).1 (.inr ⟨H2.out,Z,H1.out⟩)).mono
 rintro e w4 U;obtain⟨E,n4,rfl,h4,F4,g4,i4,ai,ab⟩:=jZ U;clear U;go_wp2_with fail;apply(ny h4 [41]).mono;rintro e w5 ⟨rfl,h5,F5⟩;go_wp2_with fail;go_ret;obtain⟨p5,v5,j5⟩:=rM ts E [41];refine⟨_,h5,(F3.trans F4).trans (v5.symm▸F5),by rw[p5];omega,?_⟩
 have D:=i4.out;have Y:=ai.out;have ac:=ab.out;rcases HR.out with⟨G,I,rfl⟩|⟨aj,ak,am⟩
 ·rcases Y with⟨_,good,ad,U⟩|⟨hh,_⟩
  ·have e5:eO ts E [41]={E with i:=E.i+1}:=by unfold eO gJ;rw[good,D,Qo (by simp[I])]
   rw[e5];refine⟨by simp[D],.inl ⟨G,good,ad,U,?_⟩⟩
   exact da (by rw[ac G])
  rw[hh] at G;simp at G
 have e5:eO ts E [41]={E with bad:=true}:=by
  unfold eO gJ;rw[Qj];rcases Y with⟨G,good,_,_⟩|⟨_,hb⟩
  ·rw[good,D];simp;simpa using λe=>aj ⟨G,e⟩
  rw[hb];simp
 rw[e5];exact⟨by simp[D,am],.inr ⟨ak,rfl,n4,rfl⟩⟩
theorem pR {n:Int} (E:eV s) (I:s.bad=false) (J:eH (cq ts s.i)=true) (O:n=iC (cq ts s.i))
 (R:(eH (cq ts s.i)=true/\r=⟨true,s.i+1,s.ps.map cL++[⟨cq ts s.i,[]⟩],(s.ps.map cL).length⟩)\/(eH (cq ts s.i)=false/\r=⟨false,s.i,[],0⟩))
 (U:RS B rb gl cl ts {i:=s.i+1,pv:=pv,ps:=s.ps++[⟨cq ts s.i,[],n,v⟩],bad:=s.bad} D) (V:Fr rb s.pv s.pv w G) (Y:Fr rb s.pv pv (G.alloc o) D):
 Left B rb gl cl ts s w r (.returned (Iq s.ps.length)) D:=by
 rcases R with⟨_,rfl⟩|⟨z,_⟩
 ·refine⟨_,U,(V.trans (Fr.of_below ((Qq _ _).alloc (Qn _) _))).trans Y,by simp;omega,rfl,.inl ⟨rfl,I,nA E O,by simp[cL],?_⟩⟩
  exact da (by simp)
 rw[J] at z;simp at z
theorem E6 {s:St} {r:Rd} (E:eH (cq ts s.i)=false)
 (G:(eH (cq ts s.i)=true/\r=⟨true,s.i+1,s.ps.map cL++[⟨cq ts s.i,[]⟩],(s.ps.map cL).length⟩)\/(eH (cq ts s.i)=false/\r=⟨false,s.i,[],0⟩))
 (I:RS B rb gl cl ts {s with bad:=true} D) (J:Fr rb s.pv s.pv w D):Left B rb gl cl ts s w r (.returned (Iq 0)) D:=by
 rcases G with⟨z,_⟩|⟨_,rfl⟩
 ·rw[E] at z;simp at z
 exact⟨_,I,J,by simp,rfl,.inr ⟨rfl,rfl,0,rfl⟩⟩
theorem Jw {r:Rd} (h:RS B rb gl cl ts s w) (aG:∀t∈ts,lE t) (hB:B<=w.heap.size)
 (aa:s.bad=false) (G:eV s) (hw: ¬eJ (cq ts s.i) [40]=true)
 (hr:(eH (cq ts s.i)=true/\r=⟨true,s.i+1,s.ps.map cL++[⟨cq ts s.i,[]⟩],(s.ps.map cL).length⟩)\/(eH (cq ts s.i)=false/\r=⟨false,s.i,[],0⟩)):
 Calls prog 220 #[Pq rb] w (Left B rb gl cl ts s w r):=by
 have H2:=Hi aa;have HR:=Hi hr;have e0:Hid (gJ s.bad (cq ts s.i) [40]=false):=by show _=_;unfold gJ;rw[aa];simpa using hw
 clear hr aa hw;obtain⟨c0,c1,c2,c3⟩:=h.cells;obtain⟨k0,k1,k2⟩:=gG h;have hi:=h.hi;have hn:=h.hn;have b1:(0:Int)<=(s.i:Int):=by omega
 have b2:(s.i:Int)<(ts.length:Int):=by omega
 have n0:=World.new_ne w _ c0;have n1:=World.new_ne w _ c1;have m0:=World.new_ne w _ k0;have m1:=World.new_ne w _ k1;have m2:=World.new_ne w _ k2;clear c2 c3;go_enter func220,ntmps220;go_wp2_with fail
 go_region_held (λw'=>w'.cell? ⟨rb,0,none⟩=some (Sq gl ts.length cl)/\w'.cell? ⟨rb,1,none⟩=some (Iq s.i)/\w'.cell? ⟨gl,s.i*3,none⟩=some (.int .u8 (cq ts s.i).k)/\w'.cell? ⟨gl,s.i*3+1,none⟩=some (S (cq ts s.i).text)/\w'.cell? ⟨gl,s.i*3+2,none⟩=some (Iq (cq ts s.i).pl)) (go_keep) (fail)
 rename_i hHeld
 clear hHeld;have h1:=h.below (ez w (dK (cq ts s.i)));have am:((w.alloc (dK (cq ts s.i))).drew).heap[w.heap.size]?=some (dK (cq ts s.i)):=Qp w _;clear c0 c1 k0 k1 k2 n0 n1 m0 m1 m2;go_wp2_with fail;apply(iI h1 [40]).mono;rintro e w2 ⟨rfl,ai⟩;have h2:=h1.below ai;have aA:Below w.heap.size w w2:=(ez w _).trans (ai.mono (by simp))
 have aH:=aA.size;rw[e0.out];have I:w2.heap[w.heap.size]?=some (dK (cq ts s.i)):=by rw[ai.block _ (by simp)];exact am
 have q0:=Qm w2 w.heap.size 0 _ _ _ I;have q1:=Qm w2 w.heap.size 1 _ _ _ I;have q2:=Qm w2 w.heap.size 2 _ _ _ I;have an:=be I;clear h1 am ai;simp only[Qx,Qy,Qv] at q0 q1 q2;go_wp2_with fail
 go_region_held3 (λw'=>w'.cell? ⟨w.heap.size,1,none⟩=some (S (cq ts s.i).text))
  (first|go_keep|(rw[ao.cell (p:=⟨w.heap.size,1,none⟩) (by simp<;>omega)];first|assumption|(simp[*];done)))
  (first
   |(go_at_call 89;refine(mH _).mono ?_;rintro e w1 ⟨x1,rfl,aB,ao,aI,aJ⟩)
   |(go_at_call 87;refine(iL dy _ x1 _ (by decide) aB).mono ?_;rintro e w1 ⟨rfl,rfl⟩))
 rename_i hHeld
 clear hHeld;have aj:Below w2.heap.size w2 w1:=(Qq _ _).drew.trans ao;have h3:=h2.below aj;have ab:w1.heap[w.heap.size]?=some (dK (cq ts s.i)):=by rw[aj.block _ an];exact I
 have q1:=Qm w1 w.heap.size 1 _ _ _ ab;have ap:=be ab;have ah:=aA.trans (aj.mono aH);clear q0 q2 h2 I an ao aB aI aJ aj;simp only[Qx,Qy,Qv] at q1;go_wp2_with fail
 go_region_held3 (λw'=>w'.cell? ⟨w.heap.size,1,none⟩=some (S (cq ts s.i).text))
  (first|go_keep|(rw[aq.cell (p:=⟨w.heap.size,1,none⟩) (by simp<;>omega)];first|assumption|(simp[*];done)))
  (first
   |(go_at_call 88;refine(oa _).mono ?_;rintro e D ⟨x5,rfl,aC,aq,aK,aL⟩)
   |(go_at_call 87;refine(iL dC _ x5 _ (by decide) aC).mono ?_;rintro e D ⟨rfl,rfl⟩))
 rename_i hHeld
 clear hHeld;have ak:Below w1.heap.size w1 D:=(Qq _ _).drew.trans aq;have Y:=h3.below ak;have ac:D.heap[w.heap.size]?=some (dK (cq ts s.i)):=by rw[ak.block _ ap];exact ab
 have q0:=Qm D w.heap.size 0 _ _ _ ac;have q1:=Qm D w.heap.size 1 _ _ _ ac;have q2:=Qm D w.heap.size 2 _ _ _ ac;have ad:=ah.trans (ak.mono ah.size);obtain⟨c0,c1,c2,c3⟩:=Y.cells;have hf:=Y.free;have i1:=jx dy (cq ts s.i).text;have i2:=jx dC (cq ts s.i).text;have hx:(s.i:Int)+1<=2000:=by omega
 clear h3 ab aq aC aK aL ak ah ap;simp only[Qx,Qy,Qv] at q0 q1 q2;generalize hM:dx dy (cq ts s.i).text=m at*;generalize hF:dx dC (cq ts s.i).text=n at*;have HM:=Hi hM;have HF:=Hi hF;clear hM hF;have aT:=be ac;have ar:=be h.rd;have aU:∀v j,(D.setCell ⟨rb,1,none⟩ v).cell? ⟨w.heap.size,j,none⟩=D.cell? ⟨w.heap.size,j,none⟩:=λv j=>mJ D rb w.heap.size 1 j v (by omega)
 have J:Hid ((cq ts s.i).k≠101->s.i+1<ts.length):=λhk=>by
  rcases Rq (s.i+1) ts.length with h3|h3
  ·exact h3
  ·exact absurd (h.fin s.i (by omega)) hk
 have au:Hid (lE (cq ts s.i)):=aG _ (by unfold cq;rw[Qi,Ql hi];exact QD hi)
 have aD:(cq ts s.i).k=110->eH (cq ts s.i)=true:=λe=>by unfold eH;rw[e];rfl
 have av:(cq ts s.i).k=111->eH (cq ts s.i)=true:=λe=>by unfold eH;rw[e];rfl
 have aw:(cq ts s.i).k=107->eH (cq ts s.i)=(decide (0<=m)||decide (0<=n)||(cq ts s.i).text==mG||(cq ts s.i).text==mS):=λe=>by unfold eH;rw[e,HM.out,HF.out];rfl
 have ax:(cq ts s.i).k≠107->(cq ts s.i).k≠110->(cq ts s.i).k≠111->eH (cq ts s.i)=false:=λe1 e2 e3=>by unfold eH;simp[e1,e2,e3]
 have aM:=Hi aD;have aN:=Hi av;have aO:=Hi aw;have aP:=Hi ax;clear aD av aw ax;have F6:Hid (Fr rb s.pv s.pv w (D.setCell ⟨rb,1,none⟩ (Iq ((s.i:Int)+1)))):=(Fr.of_below ad).set ar _ _
 by_cases hk:(cq ts s.i).k=110
 ·have ay:(((cq ts s.i).k:Int)==107)=false:=by simp;omega
  have aE:(((cq ts s.i).k:Int)==110)=true:=by simp;omega
  have az:(((cq ts s.i).k:Int) !=110)=false:=by simp;omega
  have z:=Hi hk;clear hk;have O:Hid (RS B rb gl cl ts {s with i:=s.i+1} (D.setCell ⟨rb,1,none⟩ (Iq ((s.i:Int)+1)))):=Y.next (J.out (by rw[z.out];decide))
  have hd:=au.out.2 z.out;go_wp2_with fail;apply(FU _ _ au.out.1 hd.1 hd.2).mono;rintro e w6 ⟨rfl,rfl⟩;clear hd;go_wp2_with fail;apply(jY (O.out.below ((Qq _ _).alloc (Qn _) _)) ⟨cq ts s.i,[],dW (cq ts s.i).text,.slice none 0 0⟩ (.inl ⟨rfl,rfl⟩) (by simp;omega) (by have:=h.few;simp;omega)).mono
  rintro e w9 ⟨rfl,ae,R,U⟩;go_wp2_with fail;go_ret;exact pR G H2.out (aM.out z.out) (by unfold iC;rw[Qo z.out]) HR.out R F6.out U
 ·by_cases af:(cq ts s.i).k=111
  ·have ay:(((cq ts s.i).k:Int)==107)=false:=by simp;omega
   have aE:(((cq ts s.i).k:Int)==110)=false:=by simp;omega
   have az:(((cq ts s.i).k:Int) !=110)=true:=by simp;omega
   have aF:(((cq ts s.i).k:Int) !=111)=false:=by simp;omega
   have z:=Hi af;clear af hk;have O:Hid (RS B rb gl cl ts {s with i:=s.i+1} (D.setCell ⟨rb,1,none⟩ (Iq ((s.i:Int)+1)))):=Y.next (J.out (by rw[z.out];decide))
   go_wp2_with fail;apply(jY (O.out.below ((Qq _ _).alloc (Qn _) _)) ⟨cq ts s.i,[],0,.slice none 0 0⟩ (.inl ⟨rfl,rfl⟩) (by simp;omega) (by have:=h.few;simp;omega)).mono
   rintro e w9 ⟨rfl,ae,R,U⟩;go_wp2_with fail;go_ret;exact pR G H2.out (aN.out z.out) (by unfold iC;rw[Qj (by rw[z.out];decide)]) HR.out R F6.out U
  ·by_cases ag:(cq ts s.i).k=107
   ·have ay:(((cq ts s.i).k:Int)==107)=true:=by simp;omega
    have aE:(((cq ts s.i).k:Int)==110)=false:=by simp;omega
    have az:(((cq ts s.i).k:Int) !=110)=true:=by simp;omega
    have aF:(((cq ts s.i).k:Int) !=111)=true:=by simp;omega
    have z:=Hi ag;have E:=aO.out ag;clear ag af hk
    by_cases hm:0<=m
    ·have V:Hid (eH (cq ts s.i)=true):=by show _=_;rw[E];simp[hm]
     clear E;have O:Hid (RS B rb gl cl ts {s with i:=s.i+1} (D.setCell ⟨rb,1,none⟩ (Iq ((s.i:Int)+1)))):=Y.next (J.out (by rw[z.out];decide))
     go_wp2_with fail;apply(jY (O.out.below ((Qq _ _).alloc (Qn _) _)) ⟨cq ts s.i,[],0,.slice none 0 0⟩ (.inl ⟨rfl,rfl⟩) (by simp;omega) (by have:=h.few;simp;omega)).mono
     rintro e w9 ⟨rfl,ae,R,U⟩;go_wp2_with fail;go_ret;exact pR G H2.out V.out (by unfold iC;rw[Qj (by rw[z.out];decide)]) HR.out R F6.out U
    by_cases aQ:0<=n
    ·have V:Hid (eH (cq ts s.i)=true):=by show _=_;rw[E];simp[aQ]
     clear E;have O:Hid (RS B rb gl cl ts {s with i:=s.i+1} (D.setCell ⟨rb,1,none⟩ (Iq ((s.i:Int)+1)))):=Y.next (J.out (by rw[z.out];decide))
     go_wp2_with fail;apply(jY (O.out.below ((Qq _ _).alloc (Qn _) _)) ⟨cq ts s.i,[],0,.slice none 0 0⟩ (.inl ⟨rfl,rfl⟩) (by simp;omega) (by have:=h.few;simp;omega)).mono
     rintro e w9 ⟨rfl,ae,R,U⟩;go_wp2_with fail;go_ret;exact pR G H2.out V.out (by unfold iC;rw[Qj (by rw[z.out];decide)]) HR.out R F6.out U
    cases ht:((cq ts s.i).text==mG) with
    |true=>
     have V:Hid (eH (cq ts s.i)=true):=by show _=_;rw[E,ht];simp
     have aR:((cq ts s.i).text==[116,114,117,101])=true:=ht;clear E ht;have O:Hid (RS B rb gl cl ts {s with i:=s.i+1} (D.setCell ⟨rb,1,none⟩ (Iq ((s.i:Int)+1)))):=Y.next (J.out (by rw[z.out];decide))
     go_wp2_with fail;apply(jY (O.out.below ((Qq _ _).alloc (Qn _) _)) ⟨cq ts s.i,[],0,.slice none 0 0⟩ (.inl ⟨rfl,rfl⟩) (by simp;omega) (by have:=h.few;simp;omega)).mono
     rintro e w9 ⟨rfl,ae,R,U⟩;go_wp2_with fail;go_ret;exact pR G H2.out V.out (by unfold iC;rw[Qj (by rw[z.out];decide)]) HR.out R F6.out U
    |false=>
     have aR:((cq ts s.i).text==[116,114,117,101])=false:=ht
     cases Z:((cq ts s.i).text==mS) with
     |true=>
      have V:Hid (eH (cq ts s.i)=true):=by show _=_;rw[E,Z];simp
      have aS:((cq ts s.i).text==[102,97,108,115,101])=true:=Z;clear E ht Z;have O:Hid (RS B rb gl cl ts {s with i:=s.i+1} (D.setCell ⟨rb,1,none⟩ (Iq ((s.i:Int)+1)))):=Y.next (J.out (by rw[z.out];decide))
      go_wp2_with fail;apply(jY (O.out.below ((Qq _ _).alloc (Qn _) _)) ⟨cq ts s.i,[],0,.slice none 0 0⟩ (.inl ⟨rfl,rfl⟩) (by simp;omega) (by have:=h.few;simp;omega)).mono
      rintro e w9 ⟨rfl,ae,R,U⟩;go_wp2_with fail;go_ret;exact pR G H2.out V.out (by unfold iC;rw[Qj (by rw[z.out];decide)]) HR.out R F6.out U
     |false=>
      have V:Hid (eH (cq ts s.i)=false):=by show _=_;rw[E,ht,Z];simp;omega
      have aS:((cq ts s.i).text==[102,97,108,115,101])=false:=Z;clear E ht Z;go_wp2_with fail;go_ret;exact E6 V.out HR.out Y.fails ((Fr.of_below ad).set ar _ _)
   ·have ay:(((cq ts s.i).k:Int)==107)=false:=by simp;omega
    have az:(((cq ts s.i).k:Int) !=110)=true:=by simp;omega
    have aF:(((cq ts s.i).k:Int) !=111)=true:=by simp;omega
    have V:Hid (eH (cq ts s.i)=false):=aP.out ag hk af;clear ag af hk;go_wp2_with fail;go_ret;exact E6 V.out HR.out Y.fails ((Fr.of_below ad).set ar _ _)
theorem Jx (ih:mI f) {w:World} (h:RS B rb gl cl ts s w) (E:∀t∈ts,lE t) (I:B<=w.heap.size)
 (z:s.bad=false) (D:eV s) (J:P (f+1) 5 ts s.i (s.ps.map cL) 0=some r):
 Calls prog 220 #[Pq rb] w (Left B rb gl cl ts s w r):=by
 by_cases G:eJ (cq ts s.i) [40]=true
 ·exact FY ih h E I z D J G
 exact Jw h E I z D G (lQ J G)
theorem CV (ih:mI f) {w:World} (h:RS B rb gl cl ts s w) (G:∀t∈ts,lE t) (O:B<=w.heap.size)
 (z:s.bad=false) (D:eV s) (I:P (f+1) 5 ts s.i (s.ps.map cL) 0=some r):
 Calls prog 159 #[Pq rb,Iq 5] w (Left B rb gl cl ts s w r):=by
 obtain⟨c0,c1,c2,c3⟩:=h.cells;rw[z] at c3;have R:=Hi z;have U:=Hi I;go_enter func159,ntmps159;go_wp2_with fail;apply(Jx ih h G O R.out D U.out).mono;rintro e w3 V;obtain⟨Y,n3,rfl,h3,Z,g3,i3,J,E⟩:=jZ V;go_wp2;go_ret;exact⟨Y,h3,Z,g3,i3.out,vq J.out E.out⟩
theorem zi (ih:mI f) {w:World} (h:RS B rb gl cl ts s w) (O:∀t∈ts,lE t) (hB:B<=w.heap.size)
 (z:s.bad=false) (G:eV s) (R:P (f+1) 2 ts s.i (s.ps.map cL) 0=some r) (I: ¬eJ (cq ts s.i) km=true):
 Calls prog 159 #[Pq rb,Iq 2] w (Left B rb gl cl ts s w r):=by
 have HP:=Hi (qV R I);have e0:Hid (gJ s.bad (cq ts s.i) km=false):=by show _=_;unfold gJ;rw[z];simpa using I
 have U:=Hi z;obtain⟨c0,c1,c2,c3⟩:=h.cells;obtain⟨V,Y,Z⟩:=gG h;have hi:=h.hi;have hn:=h.hn;have b1:0<=s.i:=by omega
 have b2:s.i<ts.length:=by omega
 have n0:=World.new_ne w _ c0;have n1:=World.new_ne w _ c1;have m0:=World.new_ne w _ V;have m1:=World.new_ne w _ Y;have m2:=World.new_ne w _ Z;rw[U.out] at c3;go_enter func159,ntmps159;go_wp2_with fail;go_region_held (λw'=>w'.cell? ⟨rb,0,none⟩=some (Sq gl ts.length cl)/\w'.cell? ⟨rb,1,none⟩=some (Iq s.i)/\w'.cell? ⟨gl,s.i*3,none⟩=some (.int .u8 (cq ts s.i).k)/\w'.cell? ⟨gl,s.i*3+1,none⟩=some (S (cq ts s.i).text)/\w'.cell? ⟨gl,s.i*3+2,none⟩=some (Iq (cq ts s.i).pl)) (go_keep) (fail)
 rename_i hHeld;have h1:=h.below (ez w (dK (cq ts s.i)));go_wp2_with fail;apply(iI h1 km).mono;rintro e w2 ⟨rfl,D⟩;have h2:=h1.below D;have E:=(ez w _).trans (D.mono (by simp))
 have ac:=E.size;rw[e0.out];go_wp2_with fail;apply((ih B rb gl cl ts s w2 r h2 O (by omega)).2 3 (by omega) U.out G HP.out).mono
 rintro e w3 hL;obtain⟨s3,n3,rfl,h3,F3,g3,i3,aa,J⟩:=jZ hL;go_wp2;go_ret;exact⟨s3,h3,(Fr.of_below E).trans F3,g3,i3.out,vq aa.out J.out⟩
theorem xD (ih:mI f) {w:World} (h:RS B rb gl cl ts s w) (ah:∀t∈ts,lE t) (hB:B<=w.heap.size)
 (D:s.bad=false) (ae:eV s) (hP:P (f+1) 2 ts s.i (s.ps.map cL) 0=some r) (R:eJ (cq ts s.i) km=true):
 Calls prog 159 #[Pq rb,Iq 2] w (Left B rb gl cl ts s w r):=by
 obtain⟨a,aa,ab,ac,ad⟩:=pN hP R;have e0:Hid (gJ s.bad (cq ts s.i) km=true):=by show _=_;unfold gJ;rw[D,R];rfl
 have ai:=nx h e0.out;have H1:=Hi aa;have H2:=Hi D;have H3:=Hi R;have H4:=Hi ab;have H5:=Hi ac;have H6:=Hi ad;obtain⟨c0,c1,c2,c3⟩:=h.cells;obtain⟨k0,k1,k2⟩:=gG h;have hi:=h.hi;have hn:=h.hn;have b1:0<=s.i:=by omega
 have b2:s.i<ts.length:=by omega
 have n0:=World.new_ne w _ c0;have n1:=World.new_ne w _ c1;have m0:=World.new_ne w _ k0;have m1:=World.new_ne w _ k1;have m2:=World.new_ne w _ k2;rw[H2.out] at c3;go_enter func159,ntmps159;go_wp2_with fail;go_region_held (λw'=>w'.cell? ⟨rb,0,none⟩=some (Sq gl ts.length cl)/\w'.cell? ⟨rb,1,none⟩=some (Iq s.i)/\w'.cell? ⟨gl,s.i*3,none⟩=some (.int .u8 (cq ts s.i).k)/\w'.cell? ⟨gl,s.i*3+1,none⟩=some (S (cq ts s.i).text)/\w'.cell? ⟨gl,s.i*3+2,none⟩=some (Iq (cq ts s.i).pl)) (go_keep) (fail)
 rename_i hHeld;have h1:=h.below (ez w (dK (cq ts s.i)));have I:((w.alloc (dK (cq ts s.i))).drew).heap[w.heap.size]?=some (dK (cq ts s.i)):=Qp w _;go_wp2_with fail;apply(iI h1 km).mono;rintro e U ⟨rfl,G⟩;have V:=h1.below G;have J:Bl w U:=(ez w _).trans (G.mono (by simp))
 rw[e0.out];obtain⟨c0,c1,c2,c3⟩:=V.cells;have hf:=V.free;have hx:s.i+1<=2000:=by omega
 go_wp2_with fail;have ak:=be h.rd;have h3:=V.next ai.1;have F3:Fr rb s.pv s.pv w (U.setCell ⟨rb,1,none⟩ (Iq (s.i+1))):=(Fr.of_below J).set ak _ _;have E:(U.setCell ⟨rb,1,none⟩ (Iq (s.i+1))).heap[w.heap.size]?=some (dK (cq ts s.i)):=by
  rw[Qr _ _ _ _ (by simp;omega),G.block _ (by simp)];exact I
 have an:=F3.size;generalize U.setCell ⟨rb,1,none⟩ (Iq (s.i+1))=w3 at*;apply((ih B rb gl cl ts {s with i:=s.i+1} w3 a h3 ah (by omega)).2 2 (by omega) H2.out ae H1.out).mono
 rintro e w4 O;obtain⟨s4,n4,rfl,h4,Y,g4,i4,am,af⟩:=jZ O;have ao:=Y.size;have z:=Y.far E (by omega) (k9 h3 E (by simp))
 have q0:=Qm w4 w.heap.size 0 _ _ _ z;have q1:=Qm w4 w.heap.size 1 _ _ _ z;have q2:=Qm w4 w.heap.size 2 _ _ _ z;have F:=F3.trans Y;go_wp2_with fail;apply(jY (h4.below ((Qq _ _).alloc (Qn _) _)) ⟨cq ts s.i,[n4],0,Sq w4.heap.size 1 1⟩ (.inr ⟨w4.heap.size,rfl,Qp w4 _⟩) (by simp;omega) (by have:=h.few;omega)).mono
 rintro e w9 ⟨rfl,ap,h9,F9⟩;go_wp2;go_ret;refine⟨_,h9,F.trans ((Fr.of_below ((Qq _ _).alloc (Qn _) _)).trans F9),by simp;omega,?_,?_⟩
 ·exact i4.out.trans H5.out.symm
 rcases am.out with⟨Z,good,ag,O⟩|⟨Z,bad⟩
 ·have hr:=H6.out Z;subst hr;refine .inl ⟨rfl,good,nA ag (by rw[EZ H3.out]),?_,?_⟩
  ·simp[mT,cL,O,af.out Z]
  exact da (by simp[mT,<-O])
 exact .inr ⟨H4.out.trans Z,bad,s4.ps.length,rfl⟩
def PI (rb:Nat) (w:World):Nat:=match w.cell? ⟨rb,1,none⟩ with
 |some v=>(intOf v).toNat
 |none=>0
theorem zj (h:RS B rb gl cl ts s w):PI rb w=s.i:=by
 unfold PI;rw[h.cells.2.1];simp[intOf]
theorem AV (n:Nat):(iO n).length<=1000:=by unfold iO;split;decide;split;decide;split<;>decide
def CW (f:Nat) (B rb gl cl:Nat) (ts:List Tok) (s:St) (w:World) (n:Nat) (r:Rd) (v:Value) (wr:World):Prop:=
 ∃(s':St) (x:Nat),v= Iq x/\RS B rb gl cl ts s' wr/\Fr rb s.pv s'.pv w wr/\(s.ps.length<=s'.ps.length/\s'.ps.length+s.i<=s.ps.length+s'.i)/\
  ((s'.bad=false/\eV s'/\ ∃g,g<=f/\P g (10+n) ts s'.i (s'.ps.map cL) x=some r)\/(s'.bad=true/\r.ok=false/\r.i=s'.i))
theorem AW {b r:Rd} {G v:Value} (h3:n=3)
 (Z:(b.ok=false/\r=b)\/(b.ok=true/\((n=3/\r=mT b t [x,b.top])\/(n≠3/\P g (10+n) ts b.i (b.L++[⟨t,[x,b.top]⟩]) b.L.length=some r))))
 (hk:iC t=0) (V:z.i=b.i) (I:(b.ok=true/\z.bad=false/\eV z/\z.ps.map cL=b.L)\/(b.ok=false/\z.bad=true)) (O:b.ok=true->U=b.top)
 (h9:RS B rb gl cl ts {z with ps:=z.ps++[⟨t,[x,U],0,v⟩],pv:=G} J) (F:Fr rb s.pv G w J) (gg:s.ps.length<=z.ps.length+1/\z.ps.length+1+s.i<=s.ps.length+z.i):
 Left B rb gl cl ts s w r (.returned (Iq z.ps.length)) J:=by
 refine⟨_,h9,F,by simpa using gg,?_⟩
 rcases Z with⟨E,rfl⟩|⟨E,D⟩
 ·rcases I with⟨D,_⟩|⟨_,bad⟩
  ·rw[E] at D;simp at D
  exact⟨V,.inr ⟨E,bad,_,rfl⟩⟩
 rcases D with⟨_,rfl⟩|⟨D,_⟩
 ·rcases I with⟨_,good,R,Y⟩|⟨D,_⟩
  ·refine⟨V,.inl ⟨rfl,good,nA R (by rw[hk]),?_,?_⟩⟩
   ·simp[mT,cL,Y,O E]
   exact da (by simp[mT,<-Y])
  rw[E] at D;simp at D
 exact absurd h3 D
theorem CX (hg:g+1<=f) (h3: ¬n=3)
 (Z:(b.ok=false/\r=b)\/(b.ok=true/\((n=3/\r=mT b t [x,b.top])\/(n≠3/\P g (10+n) ts b.i (b.L++[⟨t,[x,b.top]⟩]) b.L.length=some r))))
 (hk:iC t=0) (Y:z.i=b.i) (I:(b.ok=true/\z.bad=false/\eV z/\z.ps.map cL=b.L)\/(b.ok=false/\z.bad=true)) (O:b.ok=true->V=b.top)
 (h9:RS B rb gl cl ts {z with ps:=z.ps++[⟨t,[x,V],0,v⟩],pv:=G} J) (F:Fr rb s.pv G w J) (gg:s.ps.length<=z.ps.length+1/\z.ps.length+1+s.i<=s.ps.length+z.i):
 CW f B rb gl cl ts s w n r (Iq z.ps.length) J:=by
 refine⟨_,z.ps.length,rfl,h9,F,by simpa using gg,?_⟩
 rcases Z with⟨E,rfl⟩|⟨E,D⟩
 ·rcases I with⟨D,_⟩|⟨_,bad⟩
  ·rw[E] at D;simp at D
  exact .inr ⟨bad,E,Y.symm⟩
 rcases D with⟨D,_⟩|⟨_,R⟩
 ·exact absurd D h3
 rcases I with⟨_,good,U,hl⟩|⟨D,_⟩
 ·refine .inl ⟨good,nA U (by rw[hk]),g,by omega,?_⟩
  rw[<-hl] at R;simp only[QU,QL,Q9,cL,O E,Y];rw[Ro] at R;exact R
 rw[E] at D;simp at D
theorem AX (ih:∀g,g<=f->mI g) (h:RS B rb gl cl ts s w) (an:∀t∈ts,lE t) (hB:B<=w.heap.size)
 (R:s.bad=false) (aB:eV s) (n:Nat) (O:dD n) (hP:P (f+1) n ts s.i (s.ps.map cL) 0=some r):
 Calls prog 159 #[Pq rb,Iq n] w (Left B rb gl cl ts s w r):=by
 obtain⟨a,ao,ap⟩:=jN O hP;obtain⟨c0,c1,c2,c3⟩:=h.cells;rw[R] at c3;have H1:=Hi ao;have H2:=Hi R;have H3:=Hi ap;have HC:=Hi O;have aO:(n:Int)<=4:=by unfold dD at O;omega
 have aP:((n:Int)==5)=false:=by unfold dD at O;simp;omega
 have aQ:((n:Int)==2)=false:=by unfold dD at O;simp;omega
 go_enter func159,ntmps159;go_wp2_with fail;apply((ih f (Qn _) B rb gl cl ts s w a h an hB).2 (n+1) (by omega) H2.out aB H1.out).mono
 rintro e w1 hL;obtain⟨s1,x1,rfl,h1,F1,g1,i1,ae,af⟩:=jZ hL;have ag:CW f B rb gl cl ts s w n r (Iq x1) w1:=by
  refine⟨s1,x1,rfl,h1,F1,g1,?_⟩;rcases H3.out with⟨ok,I⟩|⟨ok,rfl⟩
  ·rcases ae.out with⟨_,good,U,hl⟩|⟨hh,_⟩
   ·exact .inl ⟨good,U,f,Qn _,by rw[i1.out,hl,af.out ok];exact I⟩
   ·rw[ok] at hh;simp at hh
  ·rcases ae.out with⟨hh,_⟩|⟨_,bad⟩
   ·rw[ok] at hh;simp at hh
   ·exact .inr ⟨bad,ok,i1.out.symm⟩
 go_wp2
 go_loopw [8] (λv wr=>CW f B rb gl cl ts s w n r v wr) (λ_ wr=>ts.length - PI rb wr)
 case atStart=>exact ag
 case round=>
  obtain⟨s',x,rfl,J,ah,gr,aq⟩:=hrel;obtain⟨c0,c1,c2,c3⟩:=J.cells;obtain⟨k0,k1,k2⟩:=gG J;have hi:=J.hi;have hn:=J.hn;have b1:(0:Int)<=(s'.i:Int):=by omega
  have b2:(s'.i:Int)<(ts.length:Int):=by omega
  have n1:=World.new_ne wr _ c1;have aD:=Hi aq;go_wp2_with fail
  go_region_held (λw'=>w'.cell? ⟨rb,0,none⟩=some (Sq gl ts.length cl)/\w'.cell? ⟨rb,1,none⟩=some (Iq s'.i)/\w'.cell? ⟨gl,s'.i*3,none⟩=some (.int .u8 (cq ts s'.i).k)/\w'.cell? ⟨gl,s'.i*3+1,none⟩=some (S (cq ts s'.i).text)/\w'.cell? ⟨gl,s'.i*3+2,none⟩=some (Iq (cq ts s'.i).pl)) (go_keep) (fail)
  rename_i hHeld
  have h2:=J.below (ez wr (dK (cq ts s'.i)));have V:((wr.alloc (dK (cq ts s'.i))).drew).heap[wr.heap.size]?=some (dK (cq ts s'.i)):=Qp wr _;have ab:=ez wr (dK (cq ts s'.i));generalize hW:(wr.alloc (dK (cq ts s'.i))).drew=w2 at*;have q1:=Qm w2 wr.heap.size 1 _ _ _ V;have ai:=be V;simp only[Qx,Qy,Qv] at q1;go_wp2_with fail
  go_region_held3 (λw'=>w'.cell? ⟨wr.heap.size,1,none⟩=some (S (cq ts s'.i).text))
   (first|go_keep|(rw[aj.cell (p:=⟨wr.heap.size,1,none⟩) (by simp<;>omega)];first|assumption|(simp[*];done)))
   (first
    |(go_at_call 221;refine(FT n _ (by omega)).mono ?_;rintro e E ⟨x5,rfl,ar,aj,aE,aF⟩)
    |(go_at_call 87;refine(iL (iO n) _ x5 _ (AV n) ar).mono ?_;rintro e E ⟨rfl,rfl⟩))
  rename_i hHeld
  have ac:=(Qq _ _).drew.trans aj;have h5:=h2.below ac;have z:E.heap[wr.heap.size]?=some (dK (cq ts s'.i)):=by rw[ac.block _ ai];exact V
  have q0:=Qm E wr.heap.size 0 _ _ _ z;have q1:=Qm E wr.heap.size 1 _ _ _ z;have q2:=Qm E wr.heap.size 2 _ _ _ z;have Y:Below wr.heap.size wr E:=ab.trans (ac.mono ab.size);obtain⟨c0,c1,c2,c3⟩:=h5.cells;have hf:=h5.free;have i2:=jx (iO n) (cq ts s'.i).text;have hx:(s'.i:Int)+1<=2000:=by omega
  have aG:=be J.rd;simp only[Qx,Qy,Qv] at q0 q1 q2;have hj:iB n (cq ts s'.i)=(decide (0<=dx (iO n) (cq ts s'.i).text)&&((cq ts s'.i).k==107||(cq ts s'.i).k==115)):=rfl;generalize hM:dx (iO n) (cq ts s'.i).text=m at*;have HJ:=Hi hj;rcases aD.out with⟨good,U,g,hg,I⟩|⟨bad,au,ri⟩
  ·rw[good] at c3
   have HG:=Hi good
   by_cases G:iB n (cq ts s'.i)=true
   ·obtain⟨g,rfl⟩:∃g',g=g'+1:=by
     cases g with
     |zero=>rw[P] at I;simp at I
     |succ g=>exact⟨g,rfl⟩
    obtain⟨b,av,ak⟩:=oM HC.out I G;have hm:0<=m/\((cq ts s'.i).k=107\/(cq ts s'.i).k=115):=by
     rw[HJ.out] at G;simpa using G
    have aH:s'.i+1<ts.length:=by
     rcases Rq (s'.i+1) ts.length with h3|h3
     ·exact h3
     ·have h4:(cq ts s'.i).k=101:=J.fin s'.i (by omega)
      omega
    have HK:Hid (iC (cq ts s'.i)=0):=by show _=_;unfold iC;rw[Qj (by omega)]
    have aI:=Hi av;have HR:=Hi ak;have h6:=h5.next aH;have F6:Fr rb s.pv s'.pv w (E.setCell ⟨rb,1,none⟩ (Iq ((s'.i:Int)+1))):=ah.trans ((Fr.of_below Y).set aG _ _);have D:(E.setCell ⟨rb,1,none⟩ (Iq ((s'.i:Int)+1))).heap[wr.heap.size]?=some (dK (cq ts s'.i)):=by
     rw[Qr _ _ _ _ (by simp;omega)];exact z
    have H6:=Hi h6;have aw:=Hi F6;have ax:=Hi D;obtain⟨aR,hk⟩:=hm;have aJ:((((cq ts s'.i).k:Int) !=107)=false)\/((((cq ts s'.i).k:Int) !=107)=true/\(((cq ts s'.i).k:Int) !=115)=false):=by
     rcases hk with hk|hk<;>simp[hk]
    rcases aJ with ay|⟨ay,aK⟩
    all_goals
     go_wp2_with fail;have h6:=H6.out;have F6:=aw.out;have D:=ax.out;generalize E.setCell ⟨rb,1,none⟩ (Iq ((s'.i:Int)+1))=w6 at*;have aS:=F6.size;apply((ih g (by omega) B rb gl cl ts {s' with i:=s'.i+1} w6 b h6 an (by omega)).2 (n+1) (by omega) HG.out U aI.out).mono
     rintro e w7 hL;obtain⟨s7,n7,rfl,h7,F7,g7,i7,az,am⟩:=jZ hL;have aT:=F7.size;have Z:=F7.far D (by omega) (k9 h6 D (by simp))
     have q0:=Qm w7 wr.heap.size 0 _ _ _ Z;have q1:=Qm w7 wr.heap.size 1 _ _ _ Z;have q2:=Qm w7 wr.heap.size 2 _ _ _ Z;have F:=F6.trans F7;go_wp2_with fail;apply(jY (h7.below ((Qq _ _).alloc (Qn _) _)) ⟨cq ts s'.i,[x,n7],0,Sq w7.heap.size 2 2⟩ (.inr ⟨w7.heap.size,rfl,Qp w7 _⟩) (by simp;omega) (by have:=J.few;omega)).mono
     rintro e w9 ⟨rfl,aU,h9,F9⟩;have aA:=F.trans ((Fr.of_below ((Qq _ _).alloc (Qn _) _)).trans F9);have gg:s.ps.length<=s7.ps.length+1/\s7.ps.length+1+s.i<=s.ps.length+s7.i:=by have:=J.few;omega
     have aN:s'.i<s7.i:=by omega
     by_cases h3:n=3
    all_goals
     try (
      have H3:=Hi h3;go_wp2;go_ret;exact AW H3.out HR.out HK.out i7.out az.out am.out h9 aA gg)
    all_goals
     have aL:((n:Int)==3)=false:=by simp;omega
     have H3:=Hi h3;go_wp2
     go_roundw
     case rel=>exact CX hg H3.out HR.out HK.out i7.out az.out am.out h9 aA gg
     case measure=>rw[zj h9,zj J];have:=h7.hi;simp;omega
   ·have ad:Hid (r=⟨true,s'.i,s'.ps.map cL,x⟩):=by
     cases g with
     |zero=>rw[P] at I;simp at I
     |succ g=>exact pO HC.out I (by simpa using G)
    have aa:Left B rb gl cl ts s w r (.returned (Iq x)) E:=
     ⟨s',h5,ah.trans (Fr.of_below Y),gr,by rw[ad.out],.inl ⟨by rw[ad.out],HG.out,U,by rw[ad.out],by rw[ad.out]⟩⟩
    by_cases hm:m<0
    ·go_wp2
     go_ret;exact aa
    ·have hk:(((cq ts s'.i).k:Int) !=107)=true/\(((cq ts s'.i).k:Int) !=115)=true:=by
      rw[HJ.out] at G;simp at G⊢;omega
     obtain⟨ay,aK⟩:=hk;go_wp2;go_ret;exact aa
  ·have aa:Left B rb gl cl ts s w r (.returned (Iq x)) E:=
    ⟨s',h5,ah.trans (Fr.of_below Y),gr,ri.symm,.inr ⟨au,bad,x,rfl⟩⟩
   rw[bad] at c3;go_wp2;go_ret;exact aa
theorem CY:mI 0:=by
 intro B rb gl cl ts s w r h I J;refine⟨λA=>?_,λn _ _ _ q=>by rw[P] at q;simp at q⟩
 rcases A with⟨z,D,E⟩|⟨_,_,q⟩
 ·refine(qG h z).mono ?_;rintro e w' ⟨rfl,G⟩;exact AT h z D E 0 G
 rw[P] at q;simp at q
theorem CZ (f:Nat) (ih:∀g,g<=f->mI g):mI (f+1):=by
 intro B rb gl cl ts s w r h A D;refine⟨λI=>vr (ih f (Qn _)) h A D I,λn R q z E=>?_⟩
 by_cases J:n=5
 ·subst J;exact CV (ih f (Qn _)) h A D q z E
 by_cases O:n=2
 ·subst O;by_cases G:eJ (cq ts s.i) km=true
  ·exact xD (ih f (Qn _)) h A D q z E G
  exact zi (ih f (Qn _)) h A D q z E G
 exact AX ih h A D q z n (by unfold dD;omega) E
theorem C1 (f:Nat):∀g,g<=f->mI g:=by
 induction f with
 |zero=>intro g q;rw[Nat.le_zero.1 q];exact CY
 |succ f ih=>
  intro g q;rcases Rq g (f+1) with h|h
  ·exact ih g (by omega)
  rw[show g=f+1 from by omega];exact CZ f ih
theorem FZ (f:Nat):mI f:=C1 f f (Qn _)
def vt (x:dw):Value:= .agg #[S x.name,.bool x.allow,Iq x.top,Iq x.pl,Iq x.named,Iq x.parts]
abbrev gD (x:dw):Obj:= .cells #[S x.name,.bool x.allow,.int .i64 x.top,.int .i64 x.pl,.int .i64 x.named,.int .i64 x.parts] 95
def Nl (B rb gl cl:Nat) (ts:List Tok) (s:St) (w:World) (r:At) (e:Ending) (w':World):Prop:=
 ∃(s':St) (x:dw),e= .returned (vt x)/\RS B rb gl cl ts s' w'/\Fr rb s.pv s'.pv w w'/\(s.ps.length<=s'.ps.length/\s'.ps.length+s.i<=s.ps.length+s'.i)/\s'.i=r.i/\
  ((r.ok=true/\s'.bad=false/\eV s'/\s'.ps.map cL=r.L/\x=r.it)\/(r.ok=false/\s'.bad=true))
theorem RS.but (h:RS B rb gl cl ts s w) {b:Nat} (E:w.heap[b]?=some (.cells cs 95 (0,0))) (G:∀k,k≠b->w'.heap[k]?=w.heap[k]?):RS B rb gl cl ts s w':=by
 have A:∀(k:Nat) (q:Array Value) (e:TypeId),w.heap[k]?=some (.cells q e (0,0))->e≠95->w'.heap[k]?=w.heap[k]?:=λk q e z I=>G k λJ=>by
  subst J;rw[E] at z;simp at z;exact I z.2.symm
 refine⟨?_,?_,?_,?_,h.hb,h.hi,h.hn,h.fin,h.few⟩
 ·rw[A _ _ _ h.rd (by decide)];exact h.rd
 ·refine cM h.words λk z=>?_
  obtain⟨q,D⟩:=cK h.words z;exact A k q _ D (by decide)
 ·refine cM h.parts λk z=>?_
  obtain⟨q,D⟩:=cK h.parts z;exact A k q _ D (by decide)
 intro p O;exact(h.subs p O).of λk q z=>A k q _ z (by decide)
theorem Fr.new (h:Fr rb pv q w w') (E:w.heap.size<=b) (j) (v):Fr rb pv q w (w'.setCell ⟨b,j,none⟩ v):=
 ⟨h.os,h.tape,h.output,by simpa using h.size,λk z A D=>by rw[Qr _ _ _ _ (by simp;omega)];exact h.block k z A D,h.own⟩
def L8 (w:World) (b:Nat) (x:dw):World:=
 (((((w.setCell ⟨b,0,none⟩ (S x.name)).setCell ⟨b,1,none⟩ (.bool x.allow)).setCell ⟨b,2,none⟩ (Iq x.top)).setCell ⟨b,3,none⟩ (Iq x.pl)).setCell ⟨b,4,none⟩ (Iq x.named)).setCell ⟨b,5,none⟩ (Iq x.parts)
theorem Jy (w) (b:Nat) (x) (k) (q:k≠b):(L8 w b x).heap[k]?=w.heap[k]?:=by
 unfold L8;rw[Qr _ _ _ _ q,Qr _ _ _ _ q,Qr _ _ _ _ q,Qr _ _ _ _ q,Qr _ _ _ _ q,Qr _ _ _ _ q]
theorem L9 (h:Fr rb pv z w w') (q:w.heap.size<=b) (x):Fr rb pv z w (L8 w' b x):=
 (((((h.new q _ _).new q _ _).new q _ _).new q _ _).new q _ _).new q _ _
theorem gH {w:World} (h:w.heap[b]?=some (gD x)):(Cq w b 0 (S x.name)/\Cq w b 1 (.bool x.allow)/\Cq w b 2 (Iq x.top)/\Cq w b 3 (Iq x.pl)/\Cq w b 4 (Iq x.named)/\Cq w b 5 (Iq x.parts))/\ ∀j,w.frozen? ⟨b,j,none⟩=false:=by
 have q:=λj=>Qm w b j _ _ _ h
 exact⟨⟨q 0,q 1,q 2,q 3,q 4,q 5⟩,λj=>by simp[World.frozen?,h]⟩
theorem Ga (w:World) (q A z):Bl w (((w.alloc q).alloc A).alloc z).drew/\(((w.alloc q).alloc A).alloc z).drew.heap[w.heap.size]?=some q/\(((w.alloc q).alloc A).alloc z).drew.heap[w.heap.size+1+1]?=some z:=by
 refine⟨((((Qq _ _).alloc (Qn _) _).alloc (by simp) _).alloc (by simp;omega) _).drew,?_,?_⟩
 ·show(((w.alloc q).alloc A).alloc z).heap[w.heap.size]?=some q;rw[Qu _ _ _ (by simp;omega),Qu _ _ _ (by simp)];exact Qp w q
 have e:=Qp ((w.alloc q).alloc A) z;simp only[Qw] at e;exact e
theorem rN {b:Nat} (h:RS B rb gl cl ts s' w') (q:Fr rb s.pv s'.pv w w') (z:w.heap.size<=b) (A:w'.heap[b]?=some (gD y))
 (D:s.ps.length<=s'.ps.length/\s'.ps.length+s.i<=s.ps.length+s'.i) (E:s'.i=r.i) (G:(r.ok=true/\s'.bad=false/\eV s'/\s'.ps.map cL=r.L/\x=r.it)\/(r.ok=false/\s'.bad=true)):
 Nl B rb gl cl ts s w r (.returned (vt x)) (L8 w' b x):=
 ⟨s',x,rfl,h.but A (Jy w' b x),L9 q z x,D,E,G⟩
end
end Go.Proofs.YtfkdailfcmnjlaaGreatDoor
