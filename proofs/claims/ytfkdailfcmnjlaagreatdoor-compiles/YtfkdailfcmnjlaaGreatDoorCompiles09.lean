/-
  A part.
-/
import Derived.Test.YtfkdailfcmnjlaaGreatDoorCompiles08
import Derived.Deep.RegionLaw
set_option linter.all false
set_option maxHeartbeats 40000000
set_option maxRecDepth 1000000
namespace Go.Proofs.YtfkdailfcmnjlaaGreatDoor
open Go Go.RowKit Tryz
section
attribute [local go_sem ↓] Go.wp_at_zero Go.wp_at_succ
variable {w p D E b w' B rb gl cl ts s U o2 gg}
theorem Hg:(prog.info? 169).map (λi=>(i.zero,i.size,i.bytes))=some (some (.agg #[.int .u8 0,.string ⟨#[]⟩,Iq 0,.slice none 0 0,Iq 0]),5,64):=by kernel_rfl
def OO (p:eC):Value:= .agg #[.int .u8 p.tok.k,S p.tok.text,Iq p.tok.pl,p.sv,Iq p.n]
theorem lI.one (h:lI w p):p.sv.oneCell'=true:=by
 rcases h with⟨_,e⟩|⟨z,e,_⟩<;>rw[e]<;>rfl
theorem Re (k:Nat) (t:LB) (pl:Nat) (z) (n) (h:z.oneCell'=true):∀u∈[Value.int .u8 k,S t,Iq pl,z,Iq n],u.oneCell'=true:=by
 intro u D;simp at D;rcases D with rfl|rfl|rfl|rfl|rfl
 ·rfl
 ·rfl
 ·rfl
 ·exact h
 rfl
theorem QI {w z:World} {row} (I:(((w.alloc D).alloc E).drew).grownBy z row) (J:b<w.heap.size) (G:some b≠row) (j):
 z.cell? ⟨b,j,none⟩=w.cell? ⟨b,j,none⟩/\z.frozen? ⟨b,j,none⟩=w.frozen? ⟨b,j,none⟩:=by
 have h:z.heap[b]?=w.heap[b]?:=by
  rw[I.block b (by simp;omega) G]
  exact(RV (w.alloc D) E b (by simp;omega)).trans (RV w D b J)
 exact⟨R1 h,SO h⟩
theorem K2 (w:World) (o) (cs:List Value) (t):∀j u,cs[j]?=some u->(((w.alloc o).alloc (.cells cs.toArray t)).drew).cell? ((⟨w.heap.size+1,0,none⟩:Addr).add j)=some u:=by
 have h:=World.news_of_block (by have e:=RO (w.alloc o) (.cells cs.toArray t);rw[RW] at e;exact e)
 simpa using h
theorem lI.of (h:lI w p) (E:∀(k:Nat) cs,w.heap[k]?=some (.cells cs 3 (0,0))->w'.heap[k]?=w.heap[k]?):lI w' p:=by
 rcases h with e|⟨z,e,D⟩
 ·exact .inl e
 exact .inr ⟨z,e,by rw[E z _ D];exact D⟩
theorem RS.added (h:RS B rb gl cl ts s w) (p) (hp:lI w p) (hs:s.ps.length+1<=s.i) {cap}
 (I:(((w.alloc U).alloc o2).drew).grownBy D s.pv.ownBlock)
 (V:D.ownsRow B 169 5 (Sq gg (s.ps.length+1) cap) (s.ps.length+1) (eS s.ps++[.int .u8 p.tok.k,S p.tok.text,Iq p.tok.pl,p.sv,Iq p.n]))
 (aa:s.pv.ownBlock=some gg\/gg=w.heap.size+2):
 RS B rb gl cl ts {s with ps:=s.ps++[p],pv:= Sq gg (s.ps.length+1) cap} (D.setCell ⟨rb,2,none⟩ (Sq gg (s.ps.length+1) cap))/\
 Fr rb s.pv (Sq gg (s.ps.length+1) cap) w (D.setCell ⟨rb,2,none⟩ (Sq gg (s.ps.length+1) cap)):=by
 have Y:∀k,k<w.heap.size->some k≠s.pv.ownBlock->D.heap[k]?=w.heap[k]?:=λk z ab=>by
  rw[I.block k (by simp;omega) ab]
  exact(RV (w.alloc U) o2 k (by simp;omega)).trans (RV w U k z)
 have ht:∀k cs e,w.heap[k]?=some (.cells cs e (0,0))->e≠169->some k≠s.pv.ownBlock:=λk cs e z Z hh=>by
  obtain⟨af,E⟩:=cM h.parts hh.symm;rw[z] at E;simp at E;exact Z E.2
 have ac:=cq h.rd;have J:D.heap[rb]?=some (.cells #[Sq gl ts.length cl,Iq s.i,s.pv,.bool s.bad] 149 (0,0)):=by
  rw[Y rb ac (ht rb _ _ h.rd (by decide))];exact h.rd
 have ho:∀k v,k≠rb->(D.setCell ⟨rb,2,none⟩ v).heap[k]?=D.heap[k]?:=λk v z=>RQ _ _ _ _ z
 have O:∀(v:Value) (k:Nat) (cs:Array Value) (e:TypeId),w.heap[k]?=some (.cells cs e (0,0))->e≠169->e≠149->(D.setCell ⟨rb,2,none⟩ v).heap[k]?=w.heap[k]?:=λv k cs e z Z ad=>by
  rw[ho k v (λhh=>by subst hh;rw[h.rd] at z;simp at z;exact ad z.2.symm),Y k (cq z) (ht k cs e z Z)]
 refine⟨⟨?_,?_,?_,?_,h.hb,h.hi,h.hn,h.fin,by simpa using hs⟩,⟨I.os,I.tape,I.output,?_,?_,?_⟩⟩
 ·rw[R3 D rb 2 _ _ _ J];simp
 ·obtain⟨cs,E⟩:=cM h.words rfl;refine cO h.words λk z=>?_
  simp[Value.ownBlock] at z;subst z;exact O _ _ cs _ E (by decide) (by decide)
 ·have R:D.ownsRow B 169 5 (Sq gg (s.ps.length+1) cap) (s.ps++[p]).length (eS (s.ps++[p])):=by
   rw[wo];simpa using V
  refine cO R λk z=>ho k _ λe=>?_
  subst e;obtain⟨cs,E⟩:=cM R z;rw[J] at E;simp at E
 ·intro q G;have ae:lI w q:=by
   simp at G;rcases G with G|G
   ·exact h.subs q G
   rw[G];exact hp
  exact ae.of λk cs z=>O _ k cs _ z (by decide) (by decide)
 ·have:=I.size;simp at this⊢;omega
 ·intro k z h1 R;rw[ho k _ h1,Y k z R]
 rcases aa with e|e
 ·exact .inl e.symm
 exact .inr ⟨gg,rfl,by omega⟩
theorem ko (h:RS B rb gl cl ts s w) (p) (O:lI w p) (hB:B<=w.heap.size) (hs:s.ps.length+1<=s.i):
 Calls prog 160 #[Pq rb,OO p] w λe w'=>e= .returned (Iq s.ps.length)/\ ∃E,RS B rb gl cl ts {s with ps:=s.ps++[p],pv:=E} w'/\Fr rb s.pv E w w':=by
 obtain⟨i0,hi,R,U,V⟩:=Tz Hg;have G:=cq h.rd;obtain⟨c0,c1,c2,c3⟩:=h.cells;have hf:=h.free;have J:=O.one;have aa:s.ps.length<=2000:=by have:=h.hi;have:=h.hn;omega
 have I:some rb≠s.pv.ownBlock:=λe=>by
  obtain⟨cs,Y⟩:=cM h.parts e.symm;rw[h.rd] at Y;simp at Y
 have ad:some w.heap.size≠s.pv.ownBlock:=λe=>by
  have:=(h.parts.lt _ e.symm).2;omega
 have ab:rb<w.heap.size+1:=by omega
 unfold OO;go_enter func160,ntmps160;go_wp2;go_region_law
  ((refine step_append_lies _ (by rfl) _ _ _ (by rfl) B 169 i0 _ 5 64 underlying88 hi R U V rfl (by omega) s.pv s.ps.length (eS s.ps) (by rfl) (((h.parts.alloc _).alloc _).drew) ⟨w.heap.size+1,0,none⟩ 1 1 [.int .u8 p.tok.k,S p.tok.text,Iq p.tok.pl,p.sv,Iq p.n] (by rfl) (by rfl) (K2 w _ _ _) (Re _ _ _ _ _ J) (by omega) (by unfold maxLen;omega) (by omega) (by simp;omega) (w.heap.size+2) (by simp) ?_;intro gg cap w1 D z Z ae;have e1:=(QI z G I 2).1.trans c2;have e2:=(QI z G I 2).2.trans (hf 2)))
 all_goals
  go_wp2;go_ret;exact⟨dh (by omega),Sq gg (s.ps.length+1) cap,h.added p O hs z D Z⟩
end
variable {k a b w w' B l s}
theorem Hh (n:Nat) (w) (G:n<=10):Calls prog 221 #[Iq n] w (λe w'=>sx (fY n) e w w'):=by
 by_cases z:n=0
 ·subst z
  go_enter func221,ntmps221
  go_wp2
  go_ret;exact gT w _ _ _ rfl rfl
 by_cases D:n=1
 ·subst D
  go_enter func221,ntmps221
  go_wp2
  go_ret;exact gT w _ _ _ rfl rfl
 by_cases h3:n=3
 ·subst h3
  go_enter func221,ntmps221
  go_wp2
  go_ret;exact gT w _ _ _ rfl rfl
 ·have E:Hid (fY n=[[43],[45]]):=by show _=_;unfold fY;rw[RH z,RH D,RH h3]
  have I:((n:Int)==0)=false:=by simp;omega
  have J:((n:Int)==1)=false:=by simp;omega
  have O:((n:Int)==3)=false:=by simp;omega
  go_enter func221,ntmps221
  go_wp2
  go_ret;rw[E.out];exact gT w _ _ _ rfl rfl
theorem Gi (h:a=b):Value.int k a= .int k b:=by rw[h]
theorem Nu (l) (k):dv 0 (l.take k)<=dv 0 l:=by
 induction l generalizing k with
 |nil=>simp
 |cons c l ih=>
  cases k with
  |zero=>simp[dv]
  |succ k=>
   rw[Tj,ln,ln,rL (l.take k),rL l (0*10+(c.toNat - 48))];have z:(10:Nat)^(l.take k).length<=10^l.length:=TU (by decide) (List.length_take_le' _ _)
   have D:=ih k;have h3:=Ur (0*10+(c.toNat - 48)) z;omega
theorem Nv (l) (c):dv 0 (l++[c])=dv 0 l*10+(c.toNat - 48):=by
 unfold dv;rw[Tl];rfl
theorem Nw (l:List UInt8) (k) (h:k<l.length):dv 0 (l.take (k+1))=dv 0 (l.take k)*10+(l[k].toNat - 48):=by
 rw[Ta h,Nv]
theorem Hj (s) (w) (hl:s.length<=1000) (I:∀c∈s,im c=true) (E:dG s<=9223372036854775807):
 Calls prog 248 #[S s] w λe w'=>e= .returned (Iq (dG s))/\w'=w:=by
 have J:Hid (dv 0 s<=9223372036854775807):=E;go_enter func248,ntmps248
 go_wp2
 go_loop [3,4] (λn i=> ∃k:Nat,k<=s.length/\i= Iq k/\n= Iq (dv 0 (s.take k))) (λ_ i=>s.length - (intOf i).toNat)
 case atStart=>exact⟨0,R0 _,rfl,by simp[dv]⟩
 case round=>
  obtain⟨k,hk,rfl,rfl⟩:=hrel
  by_cases z:k<s.length
  ·have G:=Nw s k z
   have O:=Nu s (k+1);have D:=rM (I s[k] (R4 z));have R:=J.out;have c1:(48:Int)<=(((ByteArray.mk s.toArray)[k]'z).toNat:Int):=Int.ofNat_le.2 D.1;have c2:(((ByteArray.mk s.toArray)[k]'z).toNat:Int)<=57:=Int.ofNat_le.2 D.2;generalize U:dv 0 (s.take k)=v at*;have Y:(v:Int)<=922337203685477580:=by omega
   have Z:(v:Int)*10+((((ByteArray.mk s.toArray)[k]'z).toNat:Int) - 48)<=9223372036854775807:=by
    have:(((ByteArray.mk s.toArray)[k]'z).toNat:Int)=(s[k].toNat:Int):=rfl;omega
   have V:Hid (dv 0 (s.take (k+1))=v*10+(s[k].toNat - 48)):=G
   go_wp2
   refine⟨⟨k+1,by omega,by go_num,?_⟩,by simp[intOf];omega⟩
   rw[V.out];refine Gi ?_;have e:(((ByteArray.mk s.toArray)[k]'z).toNat:Int)=(s[k].toNat:Int):=rfl;omega
  ·go_wp2
   go_ret;refine⟨dh ?_,rfl⟩;rw[Sz (by omega)];rfl
def cZ:List (List UInt8):=[[],[],[],[40],[41],[59],[43],[45],[61],[60,61],[60],[108,101,116],[97,108,108,111,119],[100,101,110,121],[105,102],[116,104,101,110],[101,108,115,101],[111,114],[97,110,100],[110,111,116],[116,114,117,101],[102,97,108,115,101],[110,111,110,101],[105,110,118,105,116,101],[106,111,105,110],[108,101,97,118,101],[98,97,110],[108,101,118,101,108],[114,97,110,107],[110,101,101,100],[119,104,101,110],[115,101,110,100,101,114],[116,97,114,103,101,116],[119,97,110,116,115],[115,101,108,102],[111,112,101,110]]
def Sp (w:World):Prop:= ∀k,k<36->w.cell? ⟨0,k,none⟩=some (S (cZ.getD k []))
theorem Sp.pos (h:Sp w):0<w.heap.size:=RN w _ (h 0 (by decide))
theorem Sp.below (h:Sp w) (z:0<B) (D:Below B w w'):Sp w':=λk E=>by rw[D.cell z];exact h k E
theorem kr (k:Nat) (w) (h:Sp w) (z:k<36):Calls prog 119 #[Iq k] w λe w'=>e= .returned (S (cZ.getD k []))/\w'=w:=by
 have D:=h k z;have E:0<=k:=by omega
 have G:k<36:=by omega
 generalize cZ.getD k []=t at*;go_enter func119,ntmps119;go_wp2;go_ret;exact⟨rfl,rfl⟩
theorem pE (c) (w):Calls prog 145 #[.int .u8 c.toNat] w λe w'=>e= .returned (.bool (im c))/\w'=w:=by
 have h:=c.toNat_lt;have z:Hid (im c=(decide (48<=c.toNat)&&decide (c.toNat<=57))):=rfl;go_enter func145,ntmps145;go_wp2
 all_goals go_ret
 all_goals refine⟨iN ?_,rfl⟩
 all_goals rw[z.out,Ts]
 all_goals simp
 all_goals omega
theorem oz (c) (w):Calls prog 148 #[.int .u8 c.toNat] w λe w'=>e= .returned (.bool (ig c))/\w'=w:=by
 have h:=c.toNat_lt;have z:Hid (ig c=(decide (97<=c.toNat)&&decide (c.toNat<=122))):=rfl;go_enter func148,ntmps148;go_wp2
 all_goals go_ret
 all_goals refine⟨iN ?_,rfl⟩
 all_goals rw[z.out,Ts]
 all_goals simp
 all_goals omega
set_option maxHeartbeats 1000000 in
theorem pF (l : List UInt8) (a : Nat) (w : World) (hl : l.length <= 1000) (ha : a <= l.length) : Calls prog 101 #[S l, Iq a] w λe w' => e = .returned (Iq (de jB l a)) /\ w' = w := by
  go_enter func101, ntmps101;go_wp2
  go_loop [1] (λi => ∃ j : Nat, a <= j /\ j <= l.length /\ i = Iq j /\ Hid (de jB l a = de jB l j)) (λi => l.length - (intOf i).toNat)
  case atStart => exact ⟨a, by omega, by omega, rfl, rfl⟩
  case round =>
    obtain ⟨j, hkj, hj, rfl, HB⟩ := hrel
    by_cases hlt : j < l.length
    · go_wp2
      case roundEnd =>
        refine ⟨⟨j + 1, by omega, by omega, by go_num, ?_⟩, by simp [intOf]; omega⟩
        show _ = _; rw [HB.out]; exact fX jB l j hlt (KW ‹_›)
      case roundEnd =>
        refine ⟨⟨j + 1, by omega, by omega, by go_num, ?_⟩, by simp [intOf]; omega⟩
        show _ = _; rw [HB.out]; exact fX jB l j hlt (Pl ‹_›)
      go_ret;refine ⟨dh ?_, rfl⟩;rw [HB.out, lR jB l j hlt (KY ‹_›)]
    · go_wp2
      go_ret;refine ⟨dh ?_, rfl⟩;rw [HB.out, mj jB l j (by omega)]
theorem D8 (l:LB) (w) (I:l.length<=1000):Calls prog 147 #[S l,.func (.func 145) #[] #[]] w λe w'=>e= .returned (Iq (de im l 0))/\w'=w:=by
 go_enter func147,ntmps147;go_wp2;go_loop [5] (λi=> ∃j,j<=l.length/\i= Iq j/\Hid (de im l 0=de im l j)) (λi=>l.length - (intOf i).toNat)
 case atStart=>exact⟨0,by omega,rfl,rfl⟩
 case round=>
  obtain⟨j,J,rfl,G⟩:=hrel;by_cases E:j<l.length
  ·cases D:im l[j] with
   |true=>
    have z:=Hi D;go_wp2_with fail;apply(pE l[j] _).mono;rintro e w' ⟨rfl,rfl⟩;rw[z.out];go_wp2;refine⟨⟨j+1,by omega,by go_num,?_⟩,by simp[intOf];omega⟩
    show _=_;rw[G.out];exact fX im l j E z.out
   |false=>
    have z:=Hi D;go_wp2_with fail;apply(pE l[j] _).mono;rintro e w' ⟨rfl,rfl⟩;rw[z.out];go_wp2;go_ret;refine⟨dh ?_,rfl⟩;rw[G.out,lR im l j E z.out]
  go_wp2;go_ret;refine⟨dh ?_,rfl⟩;rw[G.out,mj im l j (by omega)]
theorem BJ (l:LB) (w) (I:l.length<=1000):Calls prog 147 #[S l,.func (.func 148) #[] #[]] w λe w'=>e= .returned (Iq (de ig l 0))/\w'=w:=by
 go_enter func147,ntmps147;go_wp2;go_loop [5] (λi=> ∃j,j<=l.length/\i= Iq j/\Hid (de ig l 0=de ig l j)) (λi=>l.length - (intOf i).toNat)
 case atStart=>exact⟨0,by omega,rfl,rfl⟩
 case round=>
  obtain⟨j,J,rfl,G⟩:=hrel;by_cases E:j<l.length
  ·cases D:ig l[j] with
   |true=>
    have z:=Hi D;go_wp2_with fail;apply(oz l[j] _).mono;rintro e w' ⟨rfl,rfl⟩;rw[z.out];go_wp2;refine⟨⟨j+1,by omega,by go_num,?_⟩,by simp[intOf];omega⟩
    show _=_;rw[G.out];exact fX ig l j E z.out
   |false=>
    have z:=Hi D;go_wp2_with fail;apply(oz l[j] _).mono;rintro e w' ⟨rfl,rfl⟩;rw[z.out];go_wp2;go_ret;refine⟨dh ?_,rfl⟩;rw[G.out,lR ig l j E z.out]
  go_wp2;go_ret;refine⟨dh ?_,rfl⟩;rw[G.out,mj ig l j (by omega)]
def cz (t:Tok):Nat:=if t.k=110 then 1 else if t.k=111 then 2 else if t.k=101 then 0 else(du cZ t.text).toNat
theorem Hk (l) (s) (k:Nat) (D:k<l.length) (E:∀q,q<k->l.getD q []≠s) (z:l.getD k []=s):du l s=k:=by
 induction l generalizing k with
 |nil=>simp at D
 |cons x r ih=>
  unfold du
  cases k with
  |zero=>simp at z;rw[z];simp
  |succ k=>
   have G:(x==s)=false:=by have:=E 0 (by omega);simpa using this
   have:=ih k (by simpa using D) (λq I=>by have:=E (q+1) (by omega);simpa using this) (by simpa using z)
   rw[G,this];simp;omega
theorem vB (h:0<=du l s):s∈l:=by
 induction l with
 |nil=>simp[du] at h
 |cons x r ih=>
  unfold du at h
  by_cases e:(x==s)=true
  ·simp at e;simp[e]
  ·rw[RH e] at h
   by_cases z:du r s<0
   ·rw[RK z] at h;omega
   ·exact UG _ (ih (by omega))
theorem vC (h:s∈l):0<=du l s:=by
 induction l with
 |nil=>simp at h
 |cons x r ih=>
  unfold du
  by_cases e:(x==s)=true
  ·rw[RK e];omega
  ·rw[RH e]
   have:s∈r:=by simp at h e;rcases h with h|h;exact absurd h.symm e;exact h
   have:=ih this;rw[RH (by omega)];omega
theorem K3:cZ.drop 11=lS++dw++dz:=by decide
theorem sB (s:List UInt8):ml s=true↔s∈cZ.drop 11:=by
 rw[K3];unfold ml;simp only[Uv,U1,SV];constructor
 ·rintro((h|h)|h)
  ·exact .inl (.inr (vB h))
  ·exact .inr (vB h)
  ·exact .inl (.inl (vB h))
 ·rintro((h|h)|h)
  ·exact .inr (vC h)
  ·exact .inl (.inl (vC h))
  ·exact .inl (.inr (vC h))
theorem D9 {s:List UInt8} (D:s≠[]) (E:∀c∈s,ig c=true):∀q,q<11->cZ.getD q []≠s:=by
 intro q G e;have z:∀q,q<11->(cZ.getD q []).all ig=true->cZ.getD q []=[]:=by decide
 have:=z q G (by rw[e];exact TL.2 E)
 rw[e] at this;exact D this
def q6 (s:List UInt8):Value×Nat:=if ml s then(.agg #[Iq (du cZ s),Iq 0,Iq 0,S []],s.length) else if s.length<=8 then(.agg #[Iq 2,Iq 0,Iq 0,S s],s.length) else(.agg #[Iq 0,Iq 0,Iq 0,S []],0)
set_option maxHeartbeats 2000000 in
theorem K4 (s : List UInt8) (w : World) (hS : Sp w) (hs : s.length <= 1000) (h0 : s ≠ []) (hl :∀ c ∈ s, ig c = true) :
    Calls prog 149 #[S s] w λe w' => e = .returned (.tuple #[(q6 s).1, Iq (q6 s).2]) /\ Below w.heap.size w w' := by
  have hB := (RP w.heap.size w).alloc (RL _) (.cells #[Iq 0, Iq 0, Iq 0, S []] 160);have hSp := hS.below hS.pos hB;have HB : Hid _ := hB;have HL : Hid _ := D9 h0 hl;clear hB h0 hl hS;go_enter func149, ntmps149;go_wp2
  go_loop [4] (λi => ∃ k : Nat, 11 <= k /\ k <= 36 /\ i = Iq k /\ Hid (∀ q, q < k -> cZ.getD q [] ≠ s)) (λi => 36 - (intOf i).toNat)
  case atStart => exact ⟨11, by omega, by omega, rfl, HL.out⟩
  case round =>
    obtain ⟨k, hk1, hk2, rfl, HQ⟩ := hrel
    by_cases hlt : k < 36
    · cases he : (s == cZ.getD k []) with
      | true =>
        have HE : Hid (cZ.getD k [] = s) := by exact (show s = cZ.getD k [] by simpa using he).symm
        have hix : Hid (du cZ s = k) := Hk cZ s k (by exact hlt) HQ.out HE.out
        have hkw : Hid (ml s = true) := (sB s).2 (by
          rw [<- HE.out, RG, RI (by exact hlt)]
          exact List.mem_drop_iff_getElem.2 ⟨k - 11, by have : cZ.length = 36 := rfl; omega, by simp only [TM]; congr 1; omega⟩)
        clear he;go_wp2_with fail;apply(kr k _ hSp hlt).mono;rintro e w' ⟨rfl, rfl⟩;rw [HE.out];go_wp2;exact RU (v := .tuple #[.agg #[Iq k, Iq 0, Iq 0, S []], Iq s.length]) (by simp [results, results149, go_sem]) rfl ⟨by unfold q6; rw [RK hkw.out, hix.out], (RP _ _).alloc (RL _) _⟩
      | false =>
        have HE : Hid (cZ.getD k [] ≠ s) := λe => by rw [e] at he; simp at he
        have he' := he;generalize hg : cZ.getD k [] = sp at *;have HG : Hid _ := hg;clear he hg;go_wp2_with fail;apply(kr k _ hSp hlt).mono;rintro e w' ⟨rfl, rfl⟩;rw [HG.out];go_wp2;refine ⟨⟨k + 1, by omega, by omega, by go_num, λq hq => ?_⟩, by simp [intOf]; omega⟩
        by_cases e : q = k
        · subst e; rw [HG.out]; exact HE.out
        · exact HQ.out q (by omega)
    · have hkw : Hid (ml s = false) := by
        show _ = _
        cases e : ml s with
        | false => rfl
        | true =>
          obtain ⟨i, hi, hi2⟩ := Tt.1 ((sB s).1 e);have hsl : cZ.length = 36 := rfl;have hi' : i < 25 := by simp at hi; omega
          exact absurd (by rw [List.getElem_drop] at hi2; rw [RG, RI (by omega)]; exact hi2) (HQ.out (11 + i) (by omega))
      by_cases h8 : s.length <= 8
      · go_wp2
        exact RU (v := .tuple #[.agg #[Iq 2, Iq 0, Iq 0, S s], Iq s.length]) (by simp [results, results149, go_sem]) rfl ⟨by unfold q6; rw [RH (by simp [hkw.out]), RK h8], (RP _ _).alloc (RL _) _⟩
      · go_wp2
        exact RU (v := .tuple #[.agg #[Iq 0, Iq 0, Iq 0, S []], Iq 0]) (by simp [results, results149, go_sem]) rfl ⟨by unfold q6; rw [RH (by simp [hkw.out]), RH h8]; rfl, (RP _ _).alloc (RL _) _⟩
theorem BK (s p:List UInt8):(((ByteArray.mk s.toArray).extract 0 p.length).toList==p)=p.isPrefixOf s:=by
 rw[gC,T3,Ts,US,Uu];simp only[cut,Un,Nat.sub_zero,Uh];exact eq_comm
theorem re (s p) (w) (D:s.length<=1000) (E:p.length<=1000):Calls prog 209 #[S s,S p] w λe w'=>e= .returned (.bool (p.isPrefixOf s))/\w'=w:=by
 by_cases h:p.length<=s.length
 ·go_enter func209,ntmps209
  go_wp2
  all_goals go_ret
  all_goals refine⟨iN ?_,rfl⟩
  all_goals exact BK s p
 ·have z:Hid (p.isPrefixOf s=false):=by
   show _=_
   rw[Tv];intro e
   rw[US] at e;exact h e.length_le
  rw[z.out];go_enter func209,ntmps209
  go_wp2
  all_goals go_ret
  all_goals refine⟨iN ?_,rfl⟩
  all_goals rfl
def lP (s:List UInt8):Option Nat:=(List.range' 3 8).find? (λk=>(cZ.getD k []).isPrefixOf s)
theorem Hl (h3:3<=k) (I:k<11) (z:∀q,3<=q->q<k->(cZ.getD q []).isPrefixOf s=false) (D:(cZ.getD k []).isPrefixOf s=true):lP s=some k:=by
 unfold lP;rw[List.find?_range'_eq_some];refine⟨D,by simp;omega,λj E G=>?_⟩
 rw[z j E G];rfl
theorem K5 {s:List UInt8} (z:∀q,3<=q->q<11->(cZ.getD q []).isPrefixOf s=false):lP s=none:=by
 unfold lP;rw[List.find?_eq_none];intro x D;rw[List.mem_range'_1] at D;rw[z x (by omega) (by omega)];simp
def pG (s:List UInt8):Value×Nat:=match lP s with
 |some k=>(.agg #[Iq k,Iq 0,Iq 0,S []],(cZ.getD k []).length)
 |none=>(.agg #[Iq 0,Iq 0,Iq 0,S []],0)
theorem BL:∀k,k<36->(cZ.getD k []).length<=1000:=by decide
theorem K6 (s) (w) (O:Sp w) (Y:s.length<=1000):
 Calls prog 150 #[S s] w λe w'=>e= .returned (.tuple #[(pG s).1,Iq (pG s).2])/\Below w.heap.size w w':=by
 have R:=(RP w.heap.size w).alloc (RL _) (.cells #[Iq 0,Iq 0,Iq 0,S []] 160);have E:=O.below O.pos R;go_enter func150,ntmps150;go_wp2
 go_loop [4] (λi=> ∃k:Nat,3<=k/\k<=11/\i= Iq k/\Hid (∀q,3<=q->q<k->(cZ.getD q []).isPrefixOf s=false)) (λi=>11 - (intOf i).toNat)
 case atStart=>exact⟨3,by omega,by omega,rfl,λq Z h2=>by omega⟩
 case round=>
  obtain⟨k,aa,ad,rfl,U⟩:=hrel
  by_cases ab:k<11
  ·have z:=BL k (by omega)
   cases D:(cZ.getD k []).isPrefixOf s with
   |true=>
    have V:Hid (pG s=(.agg #[Iq k,Iq 0,Iq 0,S []],(cZ.getD k []).length)):=by
     show _=_;unfold pG;rw[Hl aa ab U.out D]
    have I:=Hi D;generalize G:cZ.getD k []=sp at*;have J:=Hi G;go_wp2_with fail;apply(kr k _ E (by omega)).mono
    rintro e w' ⟨rfl,rfl⟩;rw[J.out];go_wp2_with fail;apply(re s sp _ Y z).mono;rintro e w' ⟨rfl,rfl⟩;rw[I.out];go_wp2_with fail;apply(kr k _ E (by omega)).mono
    rintro e w' ⟨rfl,rfl⟩;rw[J.out];go_wp2;exact RU (v:= .tuple #[.agg #[Iq k,Iq 0,Iq 0,S []],Iq sp.length]) (by simp[results,results150,go_sem]) rfl ⟨by rw[V.out],(RP _ _).alloc (RL _) _⟩
   |false=>
    have I:=Hi D;have ac:=Hi D;generalize G:cZ.getD k []=sp at z I;have J:=Hi G;go_wp2_with fail;apply(kr k _ E (by omega)).mono
    rintro e w' ⟨rfl,rfl⟩;rw[J.out];go_wp2_with fail;apply(re s sp _ Y z).mono;rintro e w' ⟨rfl,rfl⟩;rw[I.out];go_wp2;refine⟨⟨k+1,by omega,by omega,by go_num,λq h3 hq=>?_⟩,by simp[intOf];omega⟩
    by_cases e:q=k
    ·rw[e];exact ac.out
    ·exact U.out q h3 (by omega)
  ·have V:Hid (pG s=(.agg #[Iq 0,Iq 0,Iq 0,S []],0)):=by
    show _=_;unfold pG;rw[K5 (λq Z h2=>U.out q Z (by omega))]
   go_wp2;exact RU (v:= .tuple #[.agg #[Iq 0,Iq 0,Iq 0,S []],Iq 0]) (by simp[results,results150,go_sem]) rfl ⟨by rw[V.out];rfl,(RP _ _).alloc (RL _) _⟩
section
attribute [local go_sem ↓] Go.wp_at_zero Go.wp_at_succ
variable {rb gl cl ts r f E x pv I o e s' n t ps G D v}
def cL (p:eC):Pt:=⟨p.tok,p.subs⟩
def fw (s:St):Prop:= ∀p∈s.ps,p.n=iM p.tok
def Left (B rb gl cl:Nat) (ts:List Tok) (s:St) (w:World) (r:Rd) (e:Ending) (w':World):Prop:=
 ∃s':St,RS B rb gl cl ts s' w'/\Fr rb s.pv s'.pv w w'/\(s.ps.length<=s'.ps.length/\s'.ps.length+s.i<=s.ps.length+s'.i)/\s'.i=r.i/\
  ((r.ok=true/\s'.bad=false/\fw s'/\s'.ps.map cL=r.L/\e= .returned (Iq r.top))\/(r.ok=false/\s'.bad=true/\ ∃n:Nat,e= .returned (Iq n)))
theorem gM (h:RS B rb gl cl ts s w):
 Cq w gl (s.i*3) (.int .u8 (cr ts s.i).k)/\Cq w gl (s.i*3+1) (S (cr ts s.i).text)/\Cq w gl (s.i*3+2) (Iq (cr ts s.i).pl):=h.word s.i h.hi
theorem Hm (h:RS B rb gl cl ts s w) (I:s.bad=true) (n:Nat):
 Calls prog 159 #[Pq rb,Iq n] w λe w'=>e= .returned (Iq 0)/\w'=w:=by
 obtain⟨c0,c1,c2,c3⟩:=h.cells;rw[I] at c3;go_enter func159,ntmps159;go_wp2;go_ret;exact⟨rfl,rfl⟩
abbrev dO (t:Tok):Obj:= .cells #[.int .u8 t.k,S t.text,.int .i64 t.pl] 151
theorem eD (w) (o):Below w.heap.size w (w.alloc o).drew:=((RP _ _).alloc (RL _) _).drew
theorem rh (h:RS B rb gl cl ts s w) (D:s.bad=true):
 Calls prog 115 #[Pq rb] w λe w'=>e= .returned (Iq 0)/\Below w.heap.size w w':=by
 obtain⟨c0,c1,c2,c3⟩:=h.cells;obtain⟨E,G,I⟩:=gM h;have hi:=h.hi;have b1:(0:Int)<=(s.i:Int):=by omega
 have b2:(s.i:Int)<(ts.length:Int):=by omega
 have J:=Hi D;go_enter func115,ntmps115;go_wp2
 go_region_held (λw'=>w'.cell? ⟨rb,0,none⟩=some (Sq gl ts.length cl)/\w'.cell? ⟨rb,1,none⟩=some (Iq s.i)/\w'.cell? ⟨gl,s.i*3,none⟩=some (.int .u8 (cr ts s.i).k)/\w'.cell? ⟨gl,s.i*3+1,none⟩=some (S (cr ts s.i).text)/\w'.cell? ⟨gl,s.i*3+2,none⟩=some (Iq (cr ts s.i).pl)) (go_keep) (fail)
 rename_i hHeld
 have O:=h.below (eD w (dO (cr ts s.i)));go_wp2_with fail;apply(iP O lT).mono;rintro e w2 ⟨rfl,z⟩;have h2:=O.below z;have R:gQ s.bad (cr ts s.i) lT=false:=by unfold gQ;rw[J.out];rfl
 rw[R];go_wp2_with fail;apply(Hm h2 J.out 0).mono;rintro e w3 ⟨rfl,rfl⟩;go_wp2;go_ret;exact⟨rfl,(eD w _).trans (z.mono (by simp))⟩
def Rf (f:Nat) (ts:List Tok) (s:St) (r:Rd):Prop:=(s.bad=true/\r.ok=false/\r.i=s.i)\/(s.bad=false/\fw s/\P f 6 ts s.i (s.ps.map cL) 0=some r)
def nj (f:Nat):Prop:= ∀(B rb gl cl:Nat) (ts:List Tok) (s:St) (w:World) (r:Rd),RS B rb gl cl ts s w->(∀t∈ts,lO t)->B<=w.heap.size->
 (Rf f ts s r->Calls prog 115 #[Pq rb] w (Left B rb gl cl ts s w r))/\
 (∀n,n<=5->s.bad=false->fw s->P f n ts s.i (s.ps.map cL) 0=some r->Calls prog 159 #[Pq rb,Iq n] w (Left B rb gl cl ts s w r))
theorem BM {w w':World} (h:RS B rb gl cl ts s w) (D:s.bad=true) (E:r.ok=false) (G:r.i=s.i) (n:Nat) (z:Below w.heap.size w w'):Left B rb gl cl ts s w r (.returned (Iq n)) w':=
 ⟨s,h.below z,Fr.of_below z,⟨RL _,RL _⟩,G.symm,.inr ⟨E,D,n,rfl⟩⟩
theorem BN (O:E.i=a.i) (Z:(a.ok=true/\E.bad=false/\fw E/\E.ps.map cL=a.L)\/(a.ok=false/\E.bad=true)) (D:Nx f ts a b x):Rf f ts (eZ ts E x) b:=by
 unfold Nx at D;unfold eZ gQ;rcases Z with⟨I,J,h3,h4⟩|⟨I,J⟩
 ·rw[J,O]
  by_cases G:eE (cr ts a.i) x=true
  ·rw[RK ⟨I,G⟩] at D
   rw[RK (by simp[G])]
   exact .inr ⟨rfl,h3,by simp only;rw[h4];exact D⟩
  ·rw[RH (λe=>G e.2)] at D
   rw[RH (by simpa using G)]
   exact .inl ⟨rfl,D.1,by simp[D.2]⟩
 ·rw[RH (λe=>by rw[I] at e;simp at e)] at D
  rw[J,RH (by simp)]
  exact .inl ⟨rfl,D.1,by simp[D.2,O]⟩
theorem sC (ts) (s) (x):(eZ ts s x).ps=s.ps/\(eZ ts s x).pv=s.pv/\s.i<=(eZ ts s x).i:=by
 unfold eZ;split<;>simp
theorem Fr.far (h:Fr rb pv I w w') (J:w.heap[k]?=some o) (U:k≠rb) (V:some k≠pv.ownBlock):w'.heap[k]?=some o:=by
 rw[h.block k (cq J) U V];exact J
theorem kt {r:Rd} (h:Left B rb gl cl ts s w r e w'):
 ∃(s':St) (n:Nat),e= .returned (Iq n)/\RS B rb gl cl ts s' w'/\Fr rb s.pv s'.pv w w'/\(s.ps.length<=s'.ps.length/\s'.ps.length+s.i<=s.ps.length+s'.i)/\Hid (s'.i=r.i)/\
  Hid ((r.ok=true/\s'.bad=false/\fw s'/\s'.ps.map cL=r.L)\/(r.ok=false/\s'.bad=true))/\Hid (r.ok=true->n=r.top):=by
 obtain⟨s',z,D,h3,E,I⟩:=h;rcases I with⟨a,b,c,d,rfl⟩|⟨a,b,n,rfl⟩
 ·exact⟨s',r.top,rfl,z,D,h3,E,.inl ⟨a,b,c,d⟩,λ_=>rfl⟩
 exact⟨s',n,rfl,z,D,h3,E,.inr ⟨a,b⟩,λG=>by rw[a] at G;simp at G⟩
theorem lJ (h:RS B rb gl cl ts s w) (O:w.heap[k]?=some o) (R:∀cs,o≠ .cells cs 169 (0,0)):some k≠s.pv.ownBlock:=λe=>by
 obtain⟨cs,D⟩:=cM h.parts e.symm;rw[O] at D;simp at D;exact R cs D
theorem wq {r:Rd} (st:(r.ok=true/\s'.bad=false/\fw s'/\s'.ps.map cL=r.L)\/(r.ok=false/\s'.bad=true)) (z:r.ok=true->n=r.top):
 (r.ok=true/\s'.bad=false/\fw s'/\s'.ps.map cL=r.L/\Ending.returned (Iq n)= .returned (Iq r.top))\/(r.ok=false/\s'.bad=true/\ ∃m:Nat,Ending.returned (Iq n)= .returned (Iq m)):=by
 rcases st with⟨a,b,c,d⟩|⟨a,b⟩
 ·exact .inl ⟨a,b,c,d,by rw[z a]⟩
 exact .inr ⟨a,b,n,rfl⟩
theorem Gj {x:LB} (h:eE t x=true):iM t=0:=by
 unfold eE at h;simp at h;unfold iM;rw[RH (by omega)]
theorem nM {p:eC} (h:∀q∈ps,q.n=iM q.tok) (D:p.n=iM p.tok):∀q∈ps++[p],q.n=iM q.tok:=by
 intro q z;simp at z;rcases z with z|rfl
 ·exact h q z
 exact D
theorem zY (ih:nj f) {w:World} (h:RS B rb gl cl ts s w) (Y:∀t∈ts,lO t) (hB:B<=w.heap.size)
 (E:s.bad=false) (ae:fw s) (hP:P (f+1) 6 ts s.i (s.ps.map cL) 0=some r) (hw:eE (cr ts s.i) lT=true):
 Calls prog 115 #[Pq rb] w (Left B rb gl cl ts s w r):=by
 obtain⟨a,b,c,aa,ak,am,ab,ac,ad⟩:=mq hP hw;obtain⟨c0,c1,c2,c3⟩:=h.cells;obtain⟨k0,k1,k2⟩:=gM h;have hi:=h.hi;have hn:=h.hn;have b1:0<=s.i:=by omega
 have b2:s.i<ts.length:=by omega
 have n1:=World.new_ne w _ c1;have e0:Hid (gQ s.bad (cr ts s.i) lT=true):=by show _=_;unfold gQ;rw[E,hw];rfl
 have an:=nJ h e0.out;have H1:=Hi aa;have H2:=Hi E;have H3:=Hi hw;have H4:=Hi ab;have H5:=Hi ac;have H6:=Hi ad;go_enter func115,ntmps115;go_wp2_with fail;go_region_held (λw'=>w'.cell? ⟨rb,0,none⟩=some (Sq gl ts.length cl)/\w'.cell? ⟨rb,1,none⟩=some (Iq s.i)/\w'.cell? ⟨gl,s.i*3,none⟩=some (.int .u8 (cr ts s.i).k)/\w'.cell? ⟨gl,s.i*3+1,none⟩=some (S (cr ts s.i).text)/\w'.cell? ⟨gl,s.i*3+2,none⟩=some (Iq (cr ts s.i).pl)) (go_keep) (fail)
 rename_i hHeld;have h1:=h.below (eD w (dO (cr ts s.i)));have Z:((w.alloc (dO (cr ts s.i))).drew).heap[w.heap.size]?=some (dO (cr ts s.i)):=RO w _;go_wp2_with fail;apply(iP h1 lT).mono;rintro e w2 ⟨rfl,U⟩;have h2:=h1.below U;rw[e0.out];obtain⟨c0,c1,c2,c3⟩:=h2.cells;have hf:=h2.free;have hx:s.i+1<=2000:=by omega
 go_wp2_with fail;have ao:=cq h.rd;have h3:=h2.next an.1;have af:w.heap.size+1<=w2.heap.size:=by have:=U.size;simpa using this
 have F3:Fr rb s.pv s.pv w (w2.setCell ⟨rb,1,none⟩ (Iq (s.i+1))):=(Fr.of_below ((eD w _).trans (U.mono (by simp)))).set ao _ _
 have G:(w2.setCell ⟨rb,1,none⟩ (Iq (s.i+1))).heap[w.heap.size]?=some (dO (cr ts s.i)):=by
  rw[RQ _ _ _ _ (by simp;omega),U.block _ (by simp)];exact Z
 have au:w.heap.size<(w2.setCell ⟨rb,1,none⟩ (Iq (s.i+1))).heap.size:=by simp;omega
 generalize w2.setCell ⟨rb,1,none⟩ (Iq (s.i+1))=w3 at*;apply((ih B rb gl cl ts {s with i:=s.i+1} w3 a h3 Y (by omega)).1 (.inr ⟨H2.out,ae,H1.out⟩)).mono
 rintro e w4 D;obtain⟨s4,n4,rfl,h4,F4,g4,i4,ap,ag⟩:=kt D;have av:=F4.size;have I:=F4.far G (by omega) (lJ h3 G (by simp))
 go_wp2_with fail;apply(nK h4 iX).mono;rintro e w5 ⟨rfl,h5,F5⟩;have aw:=F5.size;have J:=F5.far I (by omega) (lJ h4 I (by simp))
 go_wp2_with fail;apply((ih B rb gl cl ts _ w5 b h5 Y (by omega)).1 (BN i4.out ap.out ak)).mono
 rintro e w6 D;obtain⟨s6,n6,rfl,h6,F6,g6,i6,aq,ah⟩:=kt D;have ax:=F6.size;have O:=F6.far J (by omega) (lJ h5 J (by simp))
 go_wp2_with fail;apply(nK h6 iY).mono;rintro e w7 ⟨rfl,h7,F7⟩;have ay:=F7.size;have R:=F7.far O (by omega) (lJ h6 O (by simp))
 go_wp2_with fail;apply((ih B rb gl cl ts _ w7 c h7 Y (by omega)).1 (BN i6.out aq.out am)).mono
 rintro e V D;obtain⟨s8,n8,rfl,h8,F8,g8,i8,ar,ai⟩:=kt D;have az:=F8.size;have z:=F8.far R (by omega) (lJ h7 R (by simp))
 have q0:=RM V w.heap.size 0 _ _ _ z;have q1:=RM V w.heap.size 1 _ _ _ z;have q2:=RM V w.heap.size 2 _ _ _ z;obtain⟨p5,v5,j5⟩:=sC ts s4 iX;obtain⟨p7,v7,j7⟩:=sC ts s6 iY;have F:=(((F3.trans F4).trans F5).trans ((v5▸F6).trans F7)).trans (v7▸F8);have g:s.ps.length<=s8.ps.length/\s8.ps.length+(s.i+1)<=s.ps.length+s8.i:=by rw[p5] at g6;rw[p7] at g8;omega
 go_wp2_with fail;apply(ko (h8.below ((RP _ _).alloc (RL _) _)) ⟨cr ts s.i,[n4,n6,n8],0,Sq V.heap.size 3 3⟩ (.inr ⟨V.heap.size,rfl,RO V _⟩) (by simp;omega) (by have:=h.few;omega)).mono
 rintro e w9 ⟨rfl,aA,h9,F9⟩;go_wp2;go_ret;refine⟨_,h9,F.trans ((Fr.of_below ((RP _ _).alloc (RL _) _)).trans F9),by simp;omega,?_,?_⟩
 ·exact i8.out.trans H5.out.symm
 rcases ar.out with⟨ok,good,aj,D⟩|⟨ok,bad⟩
 ·obtain⟨ha,hb,rfl⟩:=H6.out ok;refine .inl ⟨rfl,good,nM aj (by rw[Gj H3.out]),?_,?_⟩
  ·simp[lN,cL,D,ag.out ha,ah.out hb,ai.out ok]
  exact dh (by simp[lN,<-D])
 exact .inr ⟨H4.out.trans ok,bad,s8.ps.length,rfl⟩
theorem zZ (ih:nj f) {w:World} (h:RS B rb gl cl ts s w) (O:∀t∈ts,lO t) (hB:B<=w.heap.size)
 (z:s.bad=false) (G:fw s) (R:P (f+1) 6 ts s.i (s.ps.map cL) 0=some r) (I: ¬eE (cr ts s.i) lT=true):
 Calls prog 115 #[Pq rb] w (Left B rb gl cl ts s w r):=by
 have HP:=Hi (rF R I);have e0:Hid (gQ s.bad (cr ts s.i) lT=false):=by show _=_;unfold gQ;rw[z];simpa using I
 have H2:=Hi z;obtain⟨c0,c1,c2,c3⟩:=h.cells;obtain⟨U,V,Y⟩:=gM h;have hi:=h.hi;have b1:0<=s.i:=by omega
 have b2:s.i<(ts.length:Int):=by omega
 go_enter func115,ntmps115;go_wp2_with fail;go_region_held (λw'=>w'.cell? ⟨rb,0,none⟩=some (Sq gl ts.length cl)/\w'.cell? ⟨rb,1,none⟩=some (Iq s.i)/\w'.cell? ⟨gl,s.i*3,none⟩=some (.int .u8 (cr ts s.i).k)/\w'.cell? ⟨gl,s.i*3+1,none⟩=some (S (cr ts s.i).text)/\w'.cell? ⟨gl,s.i*3+2,none⟩=some (Iq (cr ts s.i).pl)) (go_keep) (fail)
 rename_i hHeld;have Z:=h.below (eD w (dO (cr ts s.i)));go_wp2_with fail;apply(iP Z lT).mono;rintro e w2 ⟨rfl,D⟩;have h2:=Z.below D;have E:=(eD w _).trans (D.mono (by simp))
 rw[e0.out];go_wp2_with fail;have ab:=E.size;apply((ih B rb gl cl ts s w2 r h2 O (by omega)).2 0 (by omega) H2.out G HP.out).mono
 rintro e w3 hL;obtain⟨s3,n3,rfl,h3,F3,g3,i3,aa,J⟩:=kt hL;go_wp2;go_ret;refine⟨s3,h3,(Fr.of_below E).trans F3,g3,i3.out,?_⟩;exact wq aa.out J.out
theorem wu (ih:nj f) {w:World} (h:RS B rb gl cl ts s w) (G:∀t∈ts,lO t) (I:B<=w.heap.size)
 (R:Rf (f+1) ts s r):Calls prog 115 #[Pq rb] w (Left B rb gl cl ts s w r):=by
 rcases R with⟨J,U,V⟩|⟨z,D,O⟩
 ·refine(rh h J).mono ?_;rintro e w' ⟨rfl,E⟩;exact BM h J U V 0 E
 by_cases E:eE (cr ts s.i) lT=true
 ·exact zY ih h G I z D O E
 exact zZ ih h G I z D O E
theorem nr (w:World) (a b i j) (v) (h:a≠b):(w.setCell ⟨a,i,none⟩ v).cell? ⟨b,j,none⟩=w.cell? ⟨b,j,none⟩:=TR _ _ _ _ (by simp[h])
theorem Hn (ih:nj f) {w:World} (h:RS B rb gl cl ts s w) (ae:∀t∈ts,lO t) (hB:B<=w.heap.size)
 (z:s.bad=false) (Z:fw s) (hP:P (f+1) 5 ts s.i (s.ps.map cL) 0=some r) (I:eE (cr ts s.i) [40]=true):
 Calls prog 220 #[Pq rb] w (Left B rb gl cl ts s w r):=by
 obtain⟨a,V,hr⟩:=mr hP I;have H1:=Hi V;have H2:=Hi z;have HR:=Hi hr;have e0:Hid (gQ s.bad (cr ts s.i) [40]=true):=by show _=_;unfold gQ;rw[z,I];rfl
 have af:=nJ h e0.out;clear hP V hr z I;obtain⟨c0,c1,c2,c3⟩:=h.cells;obtain⟨k0,k1,k2⟩:=gM h;have hn:=h.hn;have b1:0<=s.i:=by omega
 have b2:s.i<ts.length:=by omega
 have n0:=World.new_ne w _ c0;have n1:=World.new_ne w _ c1;have m0:=World.new_ne w _ k0;have m1:=World.new_ne w _ k1;have m2:=World.new_ne w _ k2;clear c2 c3;go_enter func220,ntmps220;go_wp2_with fail;go_region_held (λw'=>w'.cell? ⟨rb,0,none⟩=some (Sq gl ts.length cl)/\w'.cell? ⟨rb,1,none⟩=some (Iq s.i)/\w'.cell? ⟨gl,s.i*3,none⟩=some (.int .u8 (cr ts s.i).k)/\w'.cell? ⟨gl,s.i*3+1,none⟩=some (S (cr ts s.i).text)/\w'.cell? ⟨gl,s.i*3+2,none⟩=some (Iq (cr ts s.i).pl)) (go_keep) (fail)
 rename_i hHeld;clear hHeld;have h1:=h.below (eD w (dO (cr ts s.i)));have aa:((w.alloc (dO (cr ts s.i))).drew).heap[w.heap.size]?=some (dO (cr ts s.i)):=RO w _;clear c0 c1 k0 k1 k2 n0 n1 m0 m1 m2;go_wp2_with fail;apply(iP h1 [40]).mono;rintro e w2 ⟨rfl,J⟩;have R:=h1.below J;have O:Bl w w2:=(eD w _).trans (J.mono (by simp))
 have ag:=O.size;rw[e0.out];obtain⟨c0,c1,c2,c3⟩:=R.cells;have hf:=R.free;have hx:s.i+1<=2000:=by omega
 go_wp2_with fail;have ah:=cq h.rd;have h3:=R.next af.1;have F3:Fr rb s.pv s.pv w (w2.setCell ⟨rb,1,none⟩ (Iq (s.i+1))):=(Fr.of_below O).set ah _ _;have an:=F3.size;clear h1 R aa c0 c1 c2 c3 hf J O ag;generalize w2.setCell ⟨rb,1,none⟩ (Iq (s.i+1))=w3 at*;apply((ih B rb gl cl ts {s with i:=s.i+1} w3 a h3 ae (by omega)).1 (.inr ⟨H2.out,Z,H1.out⟩)).mono
 rintro e w4 U;obtain⟨E,n4,rfl,h4,F4,g4,i4,ai,ab⟩:=kt U;clear U;go_wp2_with fail;apply(nK h4 [41]).mono;rintro e w5 ⟨rfl,h5,F5⟩;go_wp2_with fail;go_ret;obtain⟨p5,v5,j5⟩:=sC ts E [41];refine⟨_,h5,(F3.trans F4).trans (v5.symm▸F5),by rw[p5];omega,?_⟩
 have D:=i4.out;have Y:=ai.out;have ac:=ab.out;rcases HR.out with⟨G,I,rfl⟩|⟨aj,ak,am⟩
 ·rcases Y with⟨_,good,ad,U⟩|⟨hh,_⟩
  ·have e5:eZ ts E [41]={E with i:=E.i+1}:=by unfold eZ gQ;rw[good,D,RK (by simp[I])]
   rw[e5];refine⟨by simp[D],.inl ⟨G,good,ad,U,?_⟩⟩
   exact dh (by rw[ac G])
  rw[hh] at G;simp at G
 have e5:eZ ts E [41]={E with bad:=true}:=by
  unfold eZ gQ;rw[RH];rcases Y with⟨G,good,_,_⟩|⟨_,hb⟩
  ·rw[good,D];simp;simpa using λe=>aj ⟨G,e⟩
  rw[hb];simp
 rw[e5];exact⟨by simp[D,am],.inr ⟨ak,rfl,n4,rfl⟩⟩
theorem qm {n:Int} (E:fw s) (I:s.bad=false) (J:dP (cr ts s.i)=true) (O:n=iM (cr ts s.i))
 (R:(dP (cr ts s.i)=true/\r=⟨true,s.i+1,s.ps.map cL++[⟨cr ts s.i,[]⟩],(s.ps.map cL).length⟩)\/(dP (cr ts s.i)=false/\r=⟨false,s.i,[],0⟩))
 (U:RS B rb gl cl ts {i:=s.i+1,pv:=pv,ps:=s.ps++[⟨cr ts s.i,[],n,v⟩],bad:=s.bad} D) (V:Fr rb s.pv s.pv w G) (Y:Fr rb s.pv pv (G.alloc o) D):
 Left B rb gl cl ts s w r (.returned (Iq s.ps.length)) D:=by
 rcases R with⟨_,rfl⟩|⟨z,_⟩
 ·refine⟨_,U,(V.trans (Fr.of_below ((RP _ _).alloc (RL _) _))).trans Y,by simp;omega,rfl,.inl ⟨rfl,I,nM E O,by simp[cL],?_⟩⟩
  exact dh (by simp)
 rw[J] at z;simp at z
theorem Gk {s:St} {r:Rd} (E:dP (cr ts s.i)=false)
 (G:(dP (cr ts s.i)=true/\r=⟨true,s.i+1,s.ps.map cL++[⟨cr ts s.i,[]⟩],(s.ps.map cL).length⟩)\/(dP (cr ts s.i)=false/\r=⟨false,s.i,[],0⟩))
 (I:RS B rb gl cl ts {s with bad:=true} D) (J:Fr rb s.pv s.pv w D):Left B rb gl cl ts s w r (.returned (Iq 0)) D:=by
 rcases G with⟨z,_⟩|⟨_,rfl⟩
 ·rw[E] at z;simp at z
 exact⟨_,I,J,by simp,rfl,.inr ⟨rfl,rfl,0,rfl⟩⟩
theorem K7 {r:Rd} (h:RS B rb gl cl ts s w) (aG:∀t∈ts,lO t) (hB:B<=w.heap.size)
 (aa:s.bad=false) (G:fw s) (hw: ¬eE (cr ts s.i) [40]=true)
 (hr:(dP (cr ts s.i)=true/\r=⟨true,s.i+1,s.ps.map cL++[⟨cr ts s.i,[]⟩],(s.ps.map cL).length⟩)\/(dP (cr ts s.i)=false/\r=⟨false,s.i,[],0⟩)):
 Calls prog 220 #[Pq rb] w (Left B rb gl cl ts s w r):=by
 have H2:=Hi aa;have HR:=Hi hr;have e0:Hid (gQ s.bad (cr ts s.i) [40]=false):=by show _=_;unfold gQ;rw[aa];simpa using hw
 clear hr aa hw;obtain⟨c0,c1,c2,c3⟩:=h.cells;obtain⟨k0,k1,k2⟩:=gM h;have hi:=h.hi;have hn:=h.hn;have b1:(0:Int)<=(s.i:Int):=by omega
 have b2:(s.i:Int)<(ts.length:Int):=by omega
 have n0:=World.new_ne w _ c0;have n1:=World.new_ne w _ c1;have m0:=World.new_ne w _ k0;have m1:=World.new_ne w _ k1;have m2:=World.new_ne w _ k2;clear c2 c3;go_enter func220,ntmps220;go_wp2_with fail
 go_region_held (λw'=>w'.cell? ⟨rb,0,none⟩=some (Sq gl ts.length cl)/\w'.cell? ⟨rb,1,none⟩=some (Iq s.i)/\w'.cell? ⟨gl,s.i*3,none⟩=some (.int .u8 (cr ts s.i).k)/\w'.cell? ⟨gl,s.i*3+1,none⟩=some (S (cr ts s.i).text)/\w'.cell? ⟨gl,s.i*3+2,none⟩=some (Iq (cr ts s.i).pl)) (go_keep) (fail)
 rename_i hHeld
 clear hHeld;have h1:=h.below (eD w (dO (cr ts s.i)));have am:((w.alloc (dO (cr ts s.i))).drew).heap[w.heap.size]?=some (dO (cr ts s.i)):=RO w _;clear c0 c1 k0 k1 k2 n0 n1 m0 m1 m2;go_wp2_with fail;apply(iP h1 [40]).mono;rintro e w2 ⟨rfl,ai⟩;have h2:=h1.below ai;have aA:Below w.heap.size w w2:=(eD w _).trans (ai.mono (by simp))
 have aH:=aA.size;rw[e0.out];have I:w2.heap[w.heap.size]?=some (dO (cr ts s.i)):=by rw[ai.block _ (by simp)];exact am
 have q0:=RM w2 w.heap.size 0 _ _ _ I;have q1:=RM w2 w.heap.size 1 _ _ _ I;have q2:=RM w2 w.heap.size 2 _ _ _ I;have an:=cq I;clear h1 am ai;simp only[RY,RZ,RX] at q0 q1 q2;go_wp2_with fail
 go_region_held3 (λw'=>w'.cell? ⟨w.heap.size,1,none⟩=some (S (cr ts s.i).text))
  (first|go_keep|(rw[ao.cell (p:=⟨w.heap.size,1,none⟩) (by simp<;>omega)];first|assumption|(simp[*];done)))
  (first
   |(go_at_call 89;refine(ni _).mono ?_;rintro e w1 ⟨x1,rfl,aB,ao,aI,aJ⟩)
   |(go_at_call 87;refine(iT dw _ x1 _ (by decide) aB).mono ?_;rintro e w1 ⟨rfl,rfl⟩))
 rename_i hHeld
 clear hHeld;have aj:Below w2.heap.size w2 w1:=(RP _ _).drew.trans ao;have h3:=h2.below aj;have ab:w1.heap[w.heap.size]?=some (dO (cr ts s.i)):=by rw[aj.block _ an];exact I
 have q1:=RM w1 w.heap.size 1 _ _ _ ab;have ap:=cq ab;have ah:=aA.trans (aj.mono aH);clear q0 q2 h2 I an ao aB aI aJ aj;simp only[RY,RZ,RX] at q1;go_wp2_with fail
 go_region_held3 (λw'=>w'.cell? ⟨w.heap.size,1,none⟩=some (S (cr ts s.i).text))
  (first|go_keep|(rw[aq.cell (p:=⟨w.heap.size,1,none⟩) (by simp<;>omega)];first|assumption|(simp[*];done)))
  (first
   |(go_at_call 88;refine(oy _).mono ?_;rintro e D ⟨x5,rfl,aC,aq,aK,aL⟩)
   |(go_at_call 87;refine(iT dz _ x5 _ (by decide) aC).mono ?_;rintro e D ⟨rfl,rfl⟩))
 rename_i hHeld
 clear hHeld;have ak:Below w1.heap.size w1 D:=(RP _ _).drew.trans aq;have Y:=h3.below ak;have ac:D.heap[w.heap.size]?=some (dO (cr ts s.i)):=by rw[ak.block _ ap];exact ab
 have q0:=RM D w.heap.size 0 _ _ _ ac;have q1:=RM D w.heap.size 1 _ _ _ ac;have q2:=RM D w.heap.size 2 _ _ _ ac;have ad:=ah.trans (ak.mono ah.size);obtain⟨c0,c1,c2,c3⟩:=Y.cells;have hf:=Y.free;have i1:=jC dw (cr ts s.i).text;have i2:=jC dz (cr ts s.i).text;have hx:(s.i:Int)+1<=2000:=by omega
 clear h3 ab aq aC aK aL ak ah ap;simp only[RY,RZ,RX] at q0 q1 q2;generalize hM:du dw (cr ts s.i).text=m at*;generalize hF:du dz (cr ts s.i).text=n at*;have HM:=Hi hM;have HF:=Hi hF;clear hM hF;have aT:=cq ac;have ar:=cq h.rd;have aU:∀v j,(D.setCell ⟨rb,1,none⟩ v).cell? ⟨w.heap.size,j,none⟩=D.cell? ⟨w.heap.size,j,none⟩:=λv j=>nr D rb w.heap.size 1 j v (by omega)
 have J:Hid ((cr ts s.i).k≠101->s.i+1<ts.length):=λhk=>by
  rcases SZ (s.i+1) ts.length with h3|h3
  ·exact h3
  ·exact absurd (h.fin s.i (by omega)) hk
 have au:Hid (lO (cr ts s.i)):=aG _ (by unfold cr;rw[RG,RI hi];exact R4 hi)
 have aD:(cr ts s.i).k=110->dP (cr ts s.i)=true:=λe=>by unfold dP;rw[e];rfl
 have av:(cr ts s.i).k=111->dP (cr ts s.i)=true:=λe=>by unfold dP;rw[e];rfl
 have aw:(cr ts s.i).k=107->dP (cr ts s.i)=(decide (0<=m)||decide (0<=n)||(cr ts s.i).text==mn||(cr ts s.i).text==mo):=λe=>by unfold dP;rw[e,HM.out,HF.out];rfl
 have ax:(cr ts s.i).k≠107->(cr ts s.i).k≠110->(cr ts s.i).k≠111->dP (cr ts s.i)=false:=λe1 e2 e3=>by unfold dP;simp[e1,e2,e3]
 have aM:=Hi aD;have aN:=Hi av;have aO:=Hi aw;have aP:=Hi ax;clear aD av aw ax;have F6:Hid (Fr rb s.pv s.pv w (D.setCell ⟨rb,1,none⟩ (Iq ((s.i:Int)+1)))):=(Fr.of_below ad).set ar _ _
 by_cases hk:(cr ts s.i).k=110
 ·have ay:(((cr ts s.i).k:Int)==107)=false:=by simp;omega
  have aE:(((cr ts s.i).k:Int)==110)=true:=by simp;omega
  have az:(((cr ts s.i).k:Int) !=110)=false:=by simp;omega
  have z:=Hi hk;clear hk;have O:Hid (RS B rb gl cl ts {s with i:=s.i+1} (D.setCell ⟨rb,1,none⟩ (Iq ((s.i:Int)+1)))):=Y.next (J.out (by rw[z.out];decide))
  have hd:=au.out.2 z.out;go_wp2_with fail;apply(Hj _ _ au.out.1 hd.1 hd.2).mono;rintro e w6 ⟨rfl,rfl⟩;clear hd;go_wp2_with fail;apply(ko (O.out.below ((RP _ _).alloc (RL _) _)) ⟨cr ts s.i,[],dG (cr ts s.i).text,.slice none 0 0⟩ (.inl ⟨rfl,rfl⟩) (by simp;omega) (by have:=h.few;simp;omega)).mono
  rintro e w9 ⟨rfl,ae,R,U⟩;go_wp2_with fail;go_ret;exact qm G H2.out (aM.out z.out) (by unfold iM;rw[RK z.out]) HR.out R F6.out U
 ·by_cases af:(cr ts s.i).k=111
  ·have ay:(((cr ts s.i).k:Int)==107)=false:=by simp;omega
   have aE:(((cr ts s.i).k:Int)==110)=false:=by simp;omega
   have az:(((cr ts s.i).k:Int) !=110)=true:=by simp;omega
   have aF:(((cr ts s.i).k:Int) !=111)=false:=by simp;omega
   have z:=Hi af;clear af hk;have O:Hid (RS B rb gl cl ts {s with i:=s.i+1} (D.setCell ⟨rb,1,none⟩ (Iq ((s.i:Int)+1)))):=Y.next (J.out (by rw[z.out];decide))
   go_wp2_with fail;apply(ko (O.out.below ((RP _ _).alloc (RL _) _)) ⟨cr ts s.i,[],0,.slice none 0 0⟩ (.inl ⟨rfl,rfl⟩) (by simp;omega) (by have:=h.few;simp;omega)).mono
   rintro e w9 ⟨rfl,ae,R,U⟩;go_wp2_with fail;go_ret;exact qm G H2.out (aN.out z.out) (by unfold iM;rw[RH (by rw[z.out];decide)]) HR.out R F6.out U
  ·by_cases ag:(cr ts s.i).k=107
   ·have ay:(((cr ts s.i).k:Int)==107)=true:=by simp;omega
    have aE:(((cr ts s.i).k:Int)==110)=false:=by simp;omega
    have az:(((cr ts s.i).k:Int) !=110)=true:=by simp;omega
    have aF:(((cr ts s.i).k:Int) !=111)=true:=by simp;omega
    have z:=Hi ag;have E:=aO.out ag;clear ag af hk
    by_cases hm:0<=m
    ·have V:Hid (dP (cr ts s.i)=true):=by show _=_;rw[E];simp[hm]
     clear E;have O:Hid (RS B rb gl cl ts {s with i:=s.i+1} (D.setCell ⟨rb,1,none⟩ (Iq ((s.i:Int)+1)))):=Y.next (J.out (by rw[z.out];decide))
     go_wp2_with fail;apply(ko (O.out.below ((RP _ _).alloc (RL _) _)) ⟨cr ts s.i,[],0,.slice none 0 0⟩ (.inl ⟨rfl,rfl⟩) (by simp;omega) (by have:=h.few;simp;omega)).mono
     rintro e w9 ⟨rfl,ae,R,U⟩;go_wp2_with fail;go_ret;exact qm G H2.out V.out (by unfold iM;rw[RH (by rw[z.out];decide)]) HR.out R F6.out U
    by_cases aQ:0<=n
    ·have V:Hid (dP (cr ts s.i)=true):=by show _=_;rw[E];simp[aQ]
     clear E;have O:Hid (RS B rb gl cl ts {s with i:=s.i+1} (D.setCell ⟨rb,1,none⟩ (Iq ((s.i:Int)+1)))):=Y.next (J.out (by rw[z.out];decide))
     go_wp2_with fail;apply(ko (O.out.below ((RP _ _).alloc (RL _) _)) ⟨cr ts s.i,[],0,.slice none 0 0⟩ (.inl ⟨rfl,rfl⟩) (by simp;omega) (by have:=h.few;simp;omega)).mono
     rintro e w9 ⟨rfl,ae,R,U⟩;go_wp2_with fail;go_ret;exact qm G H2.out V.out (by unfold iM;rw[RH (by rw[z.out];decide)]) HR.out R F6.out U
    cases ht:((cr ts s.i).text==mn) with
    |true=>
     have V:Hid (dP (cr ts s.i)=true):=by show _=_;rw[E,ht];simp
     have aR:((cr ts s.i).text==[116,114,117,101])=true:=ht;clear E ht;have O:Hid (RS B rb gl cl ts {s with i:=s.i+1} (D.setCell ⟨rb,1,none⟩ (Iq ((s.i:Int)+1)))):=Y.next (J.out (by rw[z.out];decide))
     go_wp2_with fail;apply(ko (O.out.below ((RP _ _).alloc (RL _) _)) ⟨cr ts s.i,[],0,.slice none 0 0⟩ (.inl ⟨rfl,rfl⟩) (by simp;omega) (by have:=h.few;simp;omega)).mono
     rintro e w9 ⟨rfl,ae,R,U⟩;go_wp2_with fail;go_ret;exact qm G H2.out V.out (by unfold iM;rw[RH (by rw[z.out];decide)]) HR.out R F6.out U
    |false=>
     have aR:((cr ts s.i).text==[116,114,117,101])=false:=ht
     cases Z:((cr ts s.i).text==mo) with
     |true=>
      have V:Hid (dP (cr ts s.i)=true):=by show _=_;rw[E,Z];simp
      have aS:((cr ts s.i).text==[102,97,108,115,101])=true:=Z;clear E ht Z;have O:Hid (RS B rb gl cl ts {s with i:=s.i+1} (D.setCell ⟨rb,1,none⟩ (Iq ((s.i:Int)+1)))):=Y.next (J.out (by rw[z.out];decide))
      go_wp2_with fail;apply(ko (O.out.below ((RP _ _).alloc (RL _) _)) ⟨cr ts s.i,[],0,.slice none 0 0⟩ (.inl ⟨rfl,rfl⟩) (by simp;omega) (by have:=h.few;simp;omega)).mono
      rintro e w9 ⟨rfl,ae,R,U⟩;go_wp2_with fail;go_ret;exact qm G H2.out V.out (by unfold iM;rw[RH (by rw[z.out];decide)]) HR.out R F6.out U
     |false=>
      have V:Hid (dP (cr ts s.i)=false):=by show _=_;rw[E,ht,Z];simp;omega
      have aS:((cr ts s.i).text==[102,97,108,115,101])=false:=Z;clear E ht Z;go_wp2_with fail;go_ret;exact Gk V.out HR.out Y.fails ((Fr.of_below ad).set ar _ _)
   ·have ay:(((cr ts s.i).k:Int)==107)=false:=by simp;omega
    have az:(((cr ts s.i).k:Int) !=110)=true:=by simp;omega
    have aF:(((cr ts s.i).k:Int) !=111)=true:=by simp;omega
    have V:Hid (dP (cr ts s.i)=false):=aP.out ag hk af;clear ag af hk;go_wp2_with fail;go_ret;exact Gk V.out HR.out Y.fails ((Fr.of_below ad).set ar _ _)
theorem K8 (ih:nj f) {w:World} (h:RS B rb gl cl ts s w) (E:∀t∈ts,lO t) (I:B<=w.heap.size)
 (z:s.bad=false) (D:fw s) (J:P (f+1) 5 ts s.i (s.ps.map cL) 0=some r):
 Calls prog 220 #[Pq rb] w (Left B rb gl cl ts s w r):=by
 by_cases G:eE (cr ts s.i) [40]=true
 ·exact Hn ih h E I z D J G
 exact K7 h E I z D G (kQ J G)
theorem Ea (ih:nj f) {w:World} (h:RS B rb gl cl ts s w) (G:∀t∈ts,lO t) (O:B<=w.heap.size)
 (z:s.bad=false) (D:fw s) (I:P (f+1) 5 ts s.i (s.ps.map cL) 0=some r):
 Calls prog 159 #[Pq rb,Iq 5] w (Left B rb gl cl ts s w r):=by
 obtain⟨c0,c1,c2,c3⟩:=h.cells;rw[z] at c3;have R:=Hi z;have U:=Hi I;go_enter func159,ntmps159;go_wp2_with fail;apply(K8 ih h G O R.out D U.out).mono;rintro e w3 V;obtain⟨Y,n3,rfl,h3,Z,g3,i3,J,E⟩:=kt V;go_wp2;go_ret;exact⟨Y,h3,Z,g3,i3.out,wq J.out E.out⟩
theorem Aa (ih:nj f) {w:World} (h:RS B rb gl cl ts s w) (O:∀t∈ts,lO t) (hB:B<=w.heap.size)
 (z:s.bad=false) (G:fw s) (R:P (f+1) 2 ts s.i (s.ps.map cL) 0=some r) (I: ¬eE (cr ts s.i) iw=true):
 Calls prog 159 #[Pq rb,Iq 2] w (Left B rb gl cl ts s w r):=by
 have HP:=Hi (rE R I);have e0:Hid (gQ s.bad (cr ts s.i) iw=false):=by show _=_;unfold gQ;rw[z];simpa using I
 have U:=Hi z;obtain⟨c0,c1,c2,c3⟩:=h.cells;obtain⟨V,Y,Z⟩:=gM h;have hi:=h.hi;have hn:=h.hn;have b1:0<=s.i:=by omega
 have b2:s.i<ts.length:=by omega
 have n0:=World.new_ne w _ c0;have n1:=World.new_ne w _ c1;have m0:=World.new_ne w _ V;have m1:=World.new_ne w _ Y;have m2:=World.new_ne w _ Z;rw[U.out] at c3;go_enter func159,ntmps159;go_wp2_with fail;go_region_held (λw'=>w'.cell? ⟨rb,0,none⟩=some (Sq gl ts.length cl)/\w'.cell? ⟨rb,1,none⟩=some (Iq s.i)/\w'.cell? ⟨gl,s.i*3,none⟩=some (.int .u8 (cr ts s.i).k)/\w'.cell? ⟨gl,s.i*3+1,none⟩=some (S (cr ts s.i).text)/\w'.cell? ⟨gl,s.i*3+2,none⟩=some (Iq (cr ts s.i).pl)) (go_keep) (fail)
 rename_i hHeld;have h1:=h.below (eD w (dO (cr ts s.i)));go_wp2_with fail;apply(iP h1 iw).mono;rintro e w2 ⟨rfl,D⟩;have h2:=h1.below D;have E:=(eD w _).trans (D.mono (by simp))
 have ac:=E.size;rw[e0.out];go_wp2_with fail;apply((ih B rb gl cl ts s w2 r h2 O (by omega)).2 3 (by omega) U.out G HP.out).mono
 rintro e w3 hL;obtain⟨s3,n3,rfl,h3,F3,g3,i3,aa,J⟩:=kt hL;go_wp2;go_ret;exact⟨s3,h3,(Fr.of_below E).trans F3,g3,i3.out,wq aa.out J.out⟩
theorem yh (ih:nj f) {w:World} (h:RS B rb gl cl ts s w) (ah:∀t∈ts,lO t) (hB:B<=w.heap.size)
 (D:s.bad=false) (ae:fw s) (hP:P (f+1) 2 ts s.i (s.ps.map cL) 0=some r) (R:eE (cr ts s.i) iw=true):
 Calls prog 159 #[Pq rb,Iq 2] w (Left B rb gl cl ts s w r):=by
 obtain⟨a,aa,ab,ac,ad⟩:=oj hP R;have e0:Hid (gQ s.bad (cr ts s.i) iw=true):=by show _=_;unfold gQ;rw[D,R];rfl
 have ai:=nJ h e0.out;have H1:=Hi aa;have H2:=Hi D;have H3:=Hi R;have H4:=Hi ab;have H5:=Hi ac;have H6:=Hi ad;obtain⟨c0,c1,c2,c3⟩:=h.cells;obtain⟨k0,k1,k2⟩:=gM h;have hi:=h.hi;have hn:=h.hn;have b1:0<=s.i:=by omega
 have b2:s.i<ts.length:=by omega
 have n0:=World.new_ne w _ c0;have n1:=World.new_ne w _ c1;have m0:=World.new_ne w _ k0;have m1:=World.new_ne w _ k1;have m2:=World.new_ne w _ k2;rw[H2.out] at c3;go_enter func159,ntmps159;go_wp2_with fail;go_region_held (λw'=>w'.cell? ⟨rb,0,none⟩=some (Sq gl ts.length cl)/\w'.cell? ⟨rb,1,none⟩=some (Iq s.i)/\w'.cell? ⟨gl,s.i*3,none⟩=some (.int .u8 (cr ts s.i).k)/\w'.cell? ⟨gl,s.i*3+1,none⟩=some (S (cr ts s.i).text)/\w'.cell? ⟨gl,s.i*3+2,none⟩=some (Iq (cr ts s.i).pl)) (go_keep) (fail)
 rename_i hHeld;have h1:=h.below (eD w (dO (cr ts s.i)));have I:((w.alloc (dO (cr ts s.i))).drew).heap[w.heap.size]?=some (dO (cr ts s.i)):=RO w _;go_wp2_with fail;apply(iP h1 iw).mono;rintro e U ⟨rfl,G⟩;have V:=h1.below G;have J:Bl w U:=(eD w _).trans (G.mono (by simp))
 rw[e0.out];obtain⟨c0,c1,c2,c3⟩:=V.cells;have hf:=V.free;have hx:s.i+1<=2000:=by omega
 go_wp2_with fail;have ak:=cq h.rd;have h3:=V.next ai.1;have F3:Fr rb s.pv s.pv w (U.setCell ⟨rb,1,none⟩ (Iq (s.i+1))):=(Fr.of_below J).set ak _ _;have E:(U.setCell ⟨rb,1,none⟩ (Iq (s.i+1))).heap[w.heap.size]?=some (dO (cr ts s.i)):=by
  rw[RQ _ _ _ _ (by simp;omega),G.block _ (by simp)];exact I
 have an:=F3.size;generalize U.setCell ⟨rb,1,none⟩ (Iq (s.i+1))=w3 at*;apply((ih B rb gl cl ts {s with i:=s.i+1} w3 a h3 ah (by omega)).2 2 (by omega) H2.out ae H1.out).mono
 rintro e w4 O;obtain⟨s4,n4,rfl,h4,Y,g4,i4,am,af⟩:=kt O;have ao:=Y.size;have z:=Y.far E (by omega) (lJ h3 E (by simp))
 have q0:=RM w4 w.heap.size 0 _ _ _ z;have q1:=RM w4 w.heap.size 1 _ _ _ z;have q2:=RM w4 w.heap.size 2 _ _ _ z;have F:=F3.trans Y;go_wp2_with fail;apply(ko (h4.below ((RP _ _).alloc (RL _) _)) ⟨cr ts s.i,[n4],0,Sq w4.heap.size 1 1⟩ (.inr ⟨w4.heap.size,rfl,RO w4 _⟩) (by simp;omega) (by have:=h.few;omega)).mono
 rintro e w9 ⟨rfl,ap,h9,F9⟩;go_wp2;go_ret;refine⟨_,h9,F.trans ((Fr.of_below ((RP _ _).alloc (RL _) _)).trans F9),by simp;omega,?_,?_⟩
 ·exact i4.out.trans H5.out.symm
 rcases am.out with⟨Z,good,ag,O⟩|⟨Z,bad⟩
 ·have hr:=H6.out Z;subst hr;refine .inl ⟨rfl,good,nM ag (by rw[Gj H3.out]),?_,?_⟩
  ·simp[lN,cL,O,af.out Z]
  exact dh (by simp[lN,<-O])
 exact .inr ⟨H4.out.trans Z,bad,s4.ps.length,rfl⟩
end
end Go.Proofs.YtfkdailfcmnjlaaGreatDoor
