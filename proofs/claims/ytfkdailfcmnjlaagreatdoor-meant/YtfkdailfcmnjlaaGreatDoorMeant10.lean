/-
  A part.
-/
import Derived.Test.YtfkdailfcmnjlaaGreatDoorMeant09
import Derived.Test.YtfkdailfcmnjlaaGreatDoorLays
set_option linter.unusedVariables false
set_option linter.unusedSimpArgs false
set_option maxHeartbeats 40000000
set_option maxRecDepth 1000000
namespace Go.Proofs.YtfkdailfcmnjlaaGreatDoor
open Go Go.RowKit Tryz
variable {w w':World} {b k n rb gl cl i f D g j y j2 j3 j4 j5 base:Nat} {a r:Rd} {s x its:List UInt8} {ts:List Tok} {t:Tok} {L:List Pt} {z:List (List UInt8×Int)} {c:UInt8} {l ks:List Nat} {xs:List dY} {vals fl:List Int} {v lv x0 x1 x2 x3 x4 x5 x6 x7 x8 x9:Value} {G ok2 ok3 O ae J ab:Bool} {R:Nat→World→Prop} {cs:Array Value}
theorem Bf (s:ByteArray) (z:s.size≤9223372036854775806) (v:Int) (h:Lib.parseIntB 64 s.data.toList= .ok v) (w:World):
 Calls prog 208 #[.string s,Iq 10,Iq 64] w fun e w'=>e= .returned (.tuple #[Iq v,.nilIface])∧(w'=w∨ ∃t,w'=Lib.bytesWorld w 5 t):=Any.strconv_ParseInt_10_at64_ok laysPI s z v h w
theorem wF (s:ByteArray) (D:s.size≤281474976710656) (h:Lib.parseIntB 64 s.data.toList= .range) (z:Value) (w:World) (G:Cq w 4 0 z) (E:z= .nilIface∨ ∃I J,z= .iface I J):
 Calls prog 208 #[.string s,Iq 10,Iq 64] w fun e w'=> ∃N,e= .returned (.tuple #[Iq (Lib.intSat 64 s.data.toList),.iface 346 (Pq N)])∧w.heap.size≤N∧w'.heap[N]?=some (.cells #[.string ⟨#[80,97,114,115,101,73,110,116]⟩,.string s,z] 357 (0,0))∧Below w.heap.size w w':=Any.strconv_ParseInt_10_at64_range laysPI s D h z w G E
structure Wd (w:World):Prop where
 sp:Sp w
 er:∃ev,w.cell? ⟨4,0,none⟩=some ev∧(ev= .nilIface∨ ∃te pe,ev= .iface te pe)
theorem Wd.pos {w:World} (h:Wd w):0<w.heap.size:=h.sp.pos
theorem Wd.below {w w':World} (h:Wd w) (z:Below w.heap.size w w'):Wd w':=by
 refine⟨h.sp.below h.pos z,?_⟩;obtain⟨E,D,G⟩:=h.er;exact⟨E,by rw[z.cell (p:=⟨4,0,none⟩) (Zx w _ D)];exact D,G⟩
def eR (k a n:Int) (s:List UInt8):Obj:= .cells #[Iq k,Iq a,Iq n,S s] 160 (0,0)
theorem iT {k a n:Int} (h:w.heap[b]?=some (eR k a n s)):(Cq w b 0 (Iq k)∧Cq w b 1 (Iq a)∧Cq w b 2 (Iq n)∧Cq w b 3 (S s))∧ ∀j,w.frozen? ⟨b,j,none⟩=false:=by
 have z:=fun j=>Zz w b j _ _ _ h
 exact⟨⟨z 0,z 1,z 2,z 3⟩,fun j=>by simp[World.frozen?,h,eR]⟩
theorem Dt (s:List UInt8) (w:World) (hW:Wd w) (hs:s.length≤1000) (h0:s≠[]) (hl:∀c∈s,ld c=true):
 Calls prog 146 #[S s] w fun e w'=>e= .returned (.tuple #[(wE s).1,Iq (wE s).2])∧Below w.heap.size w w':=by
 have V:=zJ s h0 hl;have ab:(ByteArray.mk s.toArray).size=s.length:=by simp[ByteArray.size]
 have Z:=(ZA w.heap.size w).alloc (Zw _) (eR 0 0 0 []);have J:(w.alloc (eR 0 0 0 [])).heap[w.heap.size]?=some (eR 0 0 0 []):=Zy w _;have G:w.heap.size<(w.alloc (eR 0 0 0 [])).heap.size:=by simp
 have aa:=hW.below Z
 cases Y:big s with
 |true=>
  rw[Y,Zu rfl] at V;have HV:Hid (wE s=(.agg #[Iq 0,Iq 0,Iq 0,S []],0)):=by show _=_;unfold wE;rw[Zu Y]
  obtain⟨ev,hv,ac⟩:=aa.er;have HI:=wF ⟨s.toArray⟩ (by omega) (by simpa using V) ev _ hv ac
  have O:=Hi Z;have E:=Hi J;have z:=Hi G;go_enter func146,ntmps146;go_wp2_with fail;apply HI.mono;rintro e w' ⟨n,rfl,hn,ae,I⟩;have R:w'.heap[w.heap.size]?=some (eR 0 0 0 []):=by rw[I.block _ z.out];exact E.out
  have HB:Hid (Below w.heap.size w w'):=O.out.trans (I.mono (abR z.out));obtain⟨⟨c0,c1,c2,c3⟩,cf⟩:=iT R;generalize U:w.heap.size=nb at c0 c1 c2 c3 cf HB⊢;have HN:=Hi U;go_wp2_with fail;have D:w.heap.size≤nb:=aa3 HN.out;exact ZH (v:= .tuple #[.agg #[Iq 0,Iq 0,Iq 0,S []],Iq 0]) (by simp[results,results146,go_sem,c0,c1,c2,c3,cf]) rfl ⟨by rw[HV.out];rfl,(((((HB.out.mono D).setCell D _).setCell D _).setCell D _).setCell D _)⟩
 |false=>
  rw[Y,Zt (by simp)] at V
  have HV:Hid (wE s=(.agg #[Iq 1,Iq 0,Iq (eP s),S []],s.length)):=by show _=_;unfold wE;rw[Zt (by simp[Y])]
  have HI:=Bf ⟨s.toArray⟩ (by omega) _ (by simpa using V) (w.alloc (eR 0 0 0 []))
  have O:=Hi Z;have E:=Hi J;have z:=Hi G;go_enter func146,ntmps146;go_wp2_with fail;apply HI.mono;rintro e w' ⟨rfl,ad⟩;have I:Below (w.alloc (eR 0 0 0 [])).heap.size (w.alloc (eR 0 0 0 [])) w':=by
   rcases ad with rfl|⟨t,rfl⟩
   ·exact ZA _ _
   ·exact Lib.bytesWorld_below _ _ _
  have R:w'.heap[w.heap.size]?=some (eR 0 0 0 []):=by rw[I.block _ z.out];exact E.out
  have HB:Hid (Below w.heap.size w w'):=O.out.trans (I.mono (abR z.out));obtain⟨⟨c0,c1,c2,c3⟩,cf⟩:=iT R;generalize U:w.heap.size=nb at c0 c1 c2 c3 cf HB⊢;have HN:=Hi U;go_wp2_with fail;have D:w.heap.size≤nb:=aa3 HN.out;exact ZH (v:= .tuple #[.agg #[Iq 1,Iq 0,Iq (eP s),S []],Iq s.length]) (by simp[results,results146,go_sem,c0,c1,c2,c3,cf]) rfl ⟨by rw[HV.out],(((((HB.out.mono D).setCell D _).setCell D _).setCell D _).setCell D _)⟩
def dz (t:Tok):Nat:=if t.k=110 then eP t.text else 0
def di (t:Tok):List UInt8:=if t.k=111 then t.text else[]
def mM (t:Tok) (a:Nat):Value:= .agg #[Iq (da t),Iq a,Iq (dz t),S (di t)]
def mN (s:List UInt8):Value×Nat:=if ld (s.getD 0 0) then wE (s.take (eA ld s 0)) else if lf (s.getD 0 0) then rz (s.take (eA lf s 0)) else pT s
theorem Du (c:UInt8) (r:List UInt8):mq (c::r)=if c=40 then some 3 else if c=41 then some 4 else if c=59 then some 5 else if c=43 then some 6 else if c=45 then some 7 else if c=61 then some 8 else if c=60 then(if(r.getD 0 0)=61 then some 9 else some 10) else none:=by
 by_cases h:40=c
 ·subst h;simp[mq,List.range',List.find?,dI,List.isPrefixOf]
 by_cases h:41=c
 ·subst h;simp[mq,List.range',List.find?,dI,List.isPrefixOf]
 by_cases h:59=c
 ·subst h;simp[mq,List.range',List.find?,dI,List.isPrefixOf]
 by_cases h:43=c
 ·subst h;simp[mq,List.range',List.find?,dI,List.isPrefixOf]
 by_cases h:45=c
 ·subst h;simp[mq,List.range',List.find?,dI,List.isPrefixOf]
 by_cases h:61=c
 ·subst h;simp[mq,List.range',List.find?,dI,List.isPrefixOf]
 by_cases h:60=c
 ·subst h
  cases r with
  |nil=>simp[mq,List.range',List.find?,dI,List.isPrefixOf]
  |cons d r=>
   by_cases h:61=d
   ·subst h;simp[mq,List.range',List.find?,dI,List.isPrefixOf]
   ·have U: ¬d=61:=fun e=>h e.symm
    have z:((61:UInt8)==d)=false:=by simpa using h
    simp[mq,List.range',List.find?,dI,List.isPrefixOf,U,z]
 have z:∀x:UInt8,¬x=c→(x==c)=false:=fun x E=>by simpa using E
 have D:∀x:UInt8,¬x=c→ ¬c=x:=fun x E e=>E e.symm
 rename_i G I h3 J O R
 simp[mq,List.range',List.find?,dI,List.isPrefixOf,z _ h,z _ G,z _ I,z _ h3,z _ J,z _ O,z _ R,D _ h,D _ G,D _ I,D _ h3,D _ J,D _ O,D _ R]
theorem yC (p:UInt8→Bool) (l:List UInt8) (a:Nat):eA p l a=a+eA p (l.drop a) 0:=by
 unfold eA;simp
theorem Bg (l:List UInt8) (a n:Nat):cut l a (a+n)=(l.drop a).take n:=by
 unfold cut;rw[show a+n - a=n from by omega]
theorem wG (p:UInt8→Bool) (c:UInt8) (r:List UInt8):0<eA p (c::r) 0↔p c=true:=by
 unfold eA
 cases h:p c<;>simp[h]
theorem oc (p:UInt8→Bool) (s:List UInt8):(s.take (eA p s 0)).length=eA p s 0:=by
 rw[abE];have:=mu p s 0 (ZL _);omega
theorem lU (c:UInt8) (n:Nat) (z:n<256):c.toNat=n↔c=UInt8.ofNat n:=by
 constructor
 ·intro h;rw[←h];simp
 ·intro h;rw[h];simp;omega
theorem Bh (l:List UInt8) (a:Nat) (V:a<l.length):
 (ji l a=none∧mN (l.drop a)=(.agg #[Iq 0,Iq 0,Iq 0,S []],0))∨ ∃t,ji l a=some t∧mN (l.drop a)=(mM t 0,t.text.length)∧0<t.text.length:=by
 have O:=Zv V;have E:=ZW V;have G:l.getD (a+1) 0=(l.drop (a+1)).getD 0 0:=by simp[Zs]
 unfold ji;rw[yC ld l a,yC lf l a,Bg,Bg,O,G];simp only[Nat.lt_add_right_iff_pos,Nat.add_sub_cancel_left];unfold mN;rw[E];generalize l[a]=c;generalize l.drop (a+1)=r;rw[show(c::r).getD 0 0=c from rfl]
 simp only[wG]
 by_cases I:ld c=true
 ·rw[Zu I,Zu I]
  have z:=oc ld (c::r);have R:=(wG ld c r).2 I;unfold wE
  cases Y:big ((c::r).take (eA ld (c::r) 0)) with
  |true=>left;exact⟨by simp,by simp⟩
  |false=>right;exact⟨_,by rw[Zt (by simp)],by simp[mM,da,dz,di],by rw[z];exact R⟩
 ·rw[Zt I,Zt I]
  by_cases J:lf c=true
  ·rw[Zu J,Zu J]
   have z:=oc lf (c::r);have R:=(wG lf c r).2 J;unfold rz
   cases Y:pL ((c::r).take (eA lf (c::r) 0)) with
   |true=>
    right;refine⟨_,by rw[Zu rfl],?_,by rw[z];exact R⟩
    have:0≤dP dI ((c::r).take (eA lf (c::r) 0)):=vH (abW ((sM _).1 Y));rw[Zu rfl];simp only[mM,da,dz,di];simp[Int.toNat_of_nonneg this]
   |false=>
    simp only[abp,abw,z]
    by_cases U:eA lf (c::r) 0≤8
    ·right
     exact⟨_,by rw[Zu U],by rw[Zu U];simp[mM,da,dz,di,z],by rw[z];exact R⟩
    ·left;exact⟨by rw[Zt U],by rw[Zt U]⟩
  ·rw[Zt J,Zt J]
   unfold pT;rw[Du];simp only[lU _ 60 (by omega),lU _ 61 (by omega),lU _ 40 (by omega),lU _ 41 (by omega),lU _ 59 (by omega),lU _ 43 (by omega),lU _ 45 (by omega)]
   by_cases h:c=60
   ·subst h
    by_cases D:r.getD 0 0=61
    ·right
     exact⟨⟨115,[60,61],a⟩,by rw[D];rfl,by rw[D];rfl,by simp⟩
    ·right
     refine⟨⟨115,[60],a⟩,?_,?_,by simp⟩
     ·show(if _ then(if r.getD 0 0=UInt8.ofNat 61 then _ else _) else _)=_
      rw[Zu (show(60:UInt8)=UInt8.ofNat 60 from rfl),Zt (show ¬r.getD 0 0=UInt8.ofNat 61 from D)]
     ·simp only[D,abw];rfl
   by_cases h:c=40
   ·subst h;right
    exact⟨⟨115,[40],a⟩,rfl,rfl,by simp⟩
   by_cases h:c=41
   ·subst h;right
    exact⟨⟨115,[41],a⟩,rfl,rfl,by simp⟩
   by_cases h:c=59
   ·subst h;right
    exact⟨⟨115,[59],a⟩,rfl,rfl,by simp⟩
   by_cases h:c=43
   ·subst h;right
    exact⟨⟨115,[43],a⟩,rfl,rfl,by simp⟩
   by_cases h:c=45
   ·subst h;right
    exact⟨⟨115,[45],a⟩,rfl,rfl,by simp⟩
   by_cases h:c=61
   ·subst h;right
    exact⟨⟨115,[61],a⟩,rfl,rfl,by simp⟩
   left
   rename_i Z D h3 h4 h5 h6
   exact⟨by simp[h,Z,D,h3,h4,h5,h6],by simp[h,Z,D,h3,h4,h5,h6]⟩
theorem Bi (p:UInt8→Bool) (s:List UInt8):∀c∈s.take (eA p s 0),p c=true:=by
 intro c z;unfold eA at z;simp only[aaq,abQ] at z;have:s.take (s.takeWhile p).length=s.takeWhile p:=(abJ.1 (List.takeWhile_prefix p)).symm;rw[this] at z;exact(abn.1 (List.all_takeWhile)) c z
theorem Bj (s:List UInt8) (n:Nat):cut s 0 n=s.take n:=by unfold cut;simp
theorem Gh (s:List UInt8):∃(k n:Int) (t:List UInt8) (z:Nat),wE s=(.agg #[Iq k,Iq 0,Iq n,S t],z):=by
 unfold wE;split<;>exact⟨_,_,_,_,rfl⟩
theorem Dv (s:List UInt8):∃(k n:Int) (t:List UInt8) (z:Nat),rz s=(.agg #[Iq k,Iq 0,Iq n,S t],z):=by
 unfold rz;split
 ·exact⟨_,_,_,_,rfl⟩
 ·split<;>exact⟨_,_,_,_,rfl⟩
theorem Dw (s:List UInt8):∃(k n:Int) (t:List UInt8) (z:Nat),pT s=(.agg #[Iq k,Iq 0,Iq n,S t],z):=by
 unfold pT;split<;>exact⟨_,_,_,_,rfl⟩
theorem yD (s:List UInt8) (w:World) (hW:Wd w) (hs:s.length≤1000) (h0:0<s.length):
 Calls prog 102 #[S s] w fun e w'=>e= .returned (.tuple #[(mN s).1,Iq (mN s).2])∧Below w.heap.size w w':=by
 have hg:s.getD 0 0=s[0]:=by simp[Zs,Zv h0]
 have HA:=(ZA w.heap.size w).alloc (Zw _) (eR 0 0 0 []);have ad:(w.alloc (eR 0 0 0 [])).heap[w.heap.size]?=some (eR 0 0 0 []):=Zy w _;have ac:w.heap.size<(w.alloc (eR 0 0 0 [])).heap.size:=by simp
 have V:=hW.below HA;have Y:=Hi HA;have J:=Hi ad;have D:=Hi ac
 by_cases Z:ld s[0]=true
 ·have HV:Hid (mN s=wE (s.take (eA ld s 0))):=by show _=_;unfold mN;rw[hg,Zu Z]
  obtain⟨k,n,t,z,G⟩:=Gh (s.take (eA ld s 0));have ae:=mu ld s 0 (ZL _);have ab:0<eA ld s 0:=by rw[mC ld s 0 h0 Z];exact sF _ _ _
  have aa:s.take (eA ld s 0)≠[]:=by intro e;have:=aaY List.length e;rw[oc] at this;simp at this;omega
  have O:=Dt (s.take (eA ld s 0)) _ V (by rw[oc];omega) aa (Bi ld s)
  rw[G] at O;have HS:=Hi G;have HD:=Hi Z;have HR:=Dr s (w.alloc (eR 0 0 0 [])) hs;rw[←Bj] at O;have HQ:Hid (eA ld s 0=eA ld s 0):=rfl;generalize hj:eA ld s 0=j at ae O HR;go_enter func102,ntmps102;go_wp2_with fail;apply(lT s[0] _).mono;rintro e w' ⟨rfl,rfl⟩;rw[HD.out];go_wp2_with fail;apply HR.mono;rintro e w' ⟨rfl,rfl⟩;go_wp2_with fail;rw[uh];apply O.mono;rintro e w' ⟨rfl,I⟩;have R:w'.heap[w.heap.size]?=some (eR 0 0 0 []):=by rw[I.block _ D.out];exact J.out
  have HB:Hid (Below w.heap.size w w'):=Y.out.trans (I.mono (abR D.out));obtain⟨⟨c0,c1,c2,c3⟩,cf⟩:=iT R;generalize U:w.heap.size=nb at c0 c1 c2 c3 cf HB⊢;have HN:=Hi U;go_wp2;have E:=aa3 HN.out;exact ZH (v:= .tuple #[.agg #[Iq k,Iq 0,Iq n,S t],Iq z]) (by simp[results,results102,go_sem,c0,c1,c2,c3,cf]) rfl ⟨by rw[HV.out,HS.out],(((((HB.out.mono E).setCell E _).setCell E _).setCell E _).setCell E _)⟩
 ·have af:ld s[0]=false:=by simpa using Z
  have HD:=Hi af
  by_cases hL:lf s[0]=true
  ·have HV:Hid (mN s=rz (s.take (eA lf s 0))):=by show _=_;unfold mN;rw[hg,Zt Z,Zu hL]
   obtain⟨k,n,t,z,G⟩:=Dv (s.take (eA lf s 0));have ae:=mu lf s 0 (ZL _);have ab:0<eA lf s 0:=by rw[mC lf s 0 h0 hL];exact sF _ _ _
   have aa:s.take (eA lf s 0)≠[]:=by intro e;have:=aaY List.length e;rw[oc] at this;simp at this;omega
   have O:=Jb (s.take (eA lf s 0)) _ V.sp (by rw[oc];omega) aa (Bi lf s)
   rw[G] at O;have HS:=Hi G;have HL:=Hi hL;have HR:=Ba s (w.alloc (eR 0 0 0 [])) hs;rw[←Bj] at O;generalize hj:eA lf s 0=j at ae O HR;go_enter func102,ntmps102;go_wp2_with fail;apply(lT s[0] _).mono;rintro e w' ⟨rfl,rfl⟩;rw[HD.out];go_wp2_with fail;apply(mw s[0] _).mono;rintro e w' ⟨rfl,rfl⟩;rw[HL.out];go_wp2_with fail;apply HR.mono;rintro e w' ⟨rfl,rfl⟩;go_wp2_with fail;rw[uh];apply O.mono;rintro e w' ⟨rfl,I⟩;have R:w'.heap[w.heap.size]?=some (eR 0 0 0 []):=by rw[I.block _ D.out];exact J.out
   have HB:Hid (Below w.heap.size w w'):=Y.out.trans (I.mono (abR D.out));obtain⟨⟨c0,c1,c2,c3⟩,cf⟩:=iT R;generalize U:w.heap.size=nb at c0 c1 c2 c3 cf HB⊢;have HN:=Hi U;go_wp2;have E:=aa3 HN.out;exact ZH (v:= .tuple #[.agg #[Iq k,Iq 0,Iq n,S t],Iq z]) (by simp[results,results102,go_sem,c0,c1,c2,c3,cf]) rfl ⟨by rw[HV.out,HS.out],(((((HB.out.mono E).setCell E _).setCell E _).setCell E _).setCell E _)⟩
  ·have HV:Hid (mN s=pT s):=by show _=_;unfold mN;rw[hg,Zt Z,Zt hL]
   obtain⟨k,n,t,z,G⟩:=Dw s;have O:=Jd s _ V.sp hs;rw[G] at O;have HS:=Hi G;have ag:lf s[0]=false:=by simpa using hL
   have HL:=Hi ag;go_enter func102,ntmps102;go_wp2_with fail;apply(lT s[0] _).mono;rintro e w' ⟨rfl,rfl⟩;rw[HD.out];go_wp2_with fail;apply(mw s[0] _).mono;rintro e w' ⟨rfl,rfl⟩;rw[HL.out];go_wp2_with fail;apply O.mono;rintro e w' ⟨rfl,I⟩;have R:w'.heap[w.heap.size]?=some (eR 0 0 0 []):=by rw[I.block _ D.out];exact J.out
   have HB:Hid (Below w.heap.size w w'):=Y.out.trans (I.mono (abR D.out));obtain⟨⟨c0,c1,c2,c3⟩,cf⟩:=iT R;generalize U:w.heap.size=nb at c0 c1 c2 c3 cf HB⊢;have HN:=Hi U;go_wp2;have E:=aa3 HN.out;exact ZH (v:= .tuple #[.agg #[Iq k,Iq 0,Iq n,S t],Iq z]) (by simp[results,results102,go_sem,c0,c1,c2,c3,cf]) rfl ⟨by rw[HV.out,HS.out],(((((HB.out.mono E).setCell E _).setCell E _).setCell E _).setCell E _)⟩
theorem Dx:(prog.info? 160).map (fun i=>(i.zero,i.size,i.bytes))=some (some (.agg #[Iq 0,Iq 0,Iq 0,.string ⟨#[]⟩]),4,40):=by kernel_rfl
def yE (t:Tok):List Value:=[Iq (da t),Iq t.pl,Iq (dz t),S (di t)]
def oM (ts:List Tok):List Value:=ts.flatMap yE
theorem uW (ts:List Tok) (t:Tok):oM (ts++[t])=oM ts++[Iq (da t),Iq t.pl,Iq (dz t),S (di t)]:=by simp[oM,yE]
theorem rB (w:World) (a b c d:Value) (t:TypeId):∀j u,[a,b,c,d][j]?=some u→(w.alloc (.cells #[a,b,c,d] t)).cell? ((⟨w.heap.size,0,none⟩:Addr).add j)=some u:=by
 intro j u z
 match j,z with
 |0,z=>simp at z;subst z;simp[Addr.add]
 |1,z=>simp at z;subst z;simp[Addr.add]
 |2,z=>simp at z;subst z;simp[Addr.add]
 |3,z=>simp at z;subst z;simp[Addr.add]
 |j+4,z=>simp at z
theorem wH (w:World) (o:Obj) (a b c d:Value) (t:TypeId):∀j u,[a,b,c,d][j]?=some u→((w.alloc o).alloc (.cells #[a,b,c,d] t)).cell? ((⟨w.heap.size+1,0,none⟩:Addr).add j)=some u:=by
 have h:=rB (w.alloc o) a b c d t;rw[ZB] at h;exact h
theorem Bk (l:List UInt8) (j:Nat):cut l j l.length=l.drop j:=by
 unfold cut;exact aay (by simp)
def wI (l:List UInt8) (w:World) (e:Ending) (w':World):Prop:=
 Below w.heap.size w w'∧match nx (l.length+1) l 0 with
 |(ts,none)=> ∃g cap,e= .returned (.tuple #[.slice (some ⟨g,0,none⟩) ts.length cap,Iq 0,.bool true])∧w'.ownsRow w.heap.size 160 4 (.slice (some ⟨g,0,none⟩) ts.length cap) ts.length (oM ts)
 |(_,some p)=>e= .returned (.tuple #[.slice none 0 0,Iq p,.bool false])
theorem yF (l:List UInt8) (w:World) (hW:Wd w) (hl:l.length≤1000):
 Calls prog 55 #[S l] w fun e w'=>wI l w e w':=by
 obtain⟨i0,hi,ac,ad,ae⟩:=abF Dx;have HP:=pS l 0 w hl (ZL _);go_enter func55,ntmps55;go_wp2_with fail;apply HP.mono;rintro e w' ⟨rfl,rfl⟩;have ao:=mu lL l 0 (ZL _);go_wp2
 go_loopw [5,6] (fun v a wr=> ∃(ts:List Tok) (k f j:Nat),k≤j∧j≤l.length∧ts.length≤k∧a= Iq j∧Hid (eA lL l k=j)∧l.length - k<f∧Hid (nx (l.length+1) l 0=(ts++(nx f l k).1,(nx f l k).2))∧wr.ownsRow w'.heap.size 160 4 v ts.length (oM ts)∧Below w'.heap.size w' wr) (fun _ a _=>l.length - (intOf a).toNat)
 case atStart=>exact⟨[],0,l.length+1,_,by omega,ao,by simp,rfl,rfl,by omega,rfl,aam _ _ _ _,ZA _ _⟩
 case round=>
  obtain⟨ts,k,f,j,ar,hj,au,rfl,HB,hf,HS,U,z⟩:=hrel;have af:=Hi (hW.below z)
  by_cases V:j<l.length
  ·have I:(l.drop j).length≤1000:=by simp;omega
   have E:0<(l.drop j).length:=by simp;omega
   rcases Bh l j V with⟨G,O⟩|⟨t,G,O,av⟩
   ·have HW:Hid _:=G
    have R:=yD (l.drop j) wr af.out I E;rw[O] at R;go_wp2_with fail;rw[uh,Bk];apply R.mono;rintro e w1 ⟨rfl,Z⟩;go_wp2;refine ZH (v:= .tuple #[.slice none 0 0,Iq j,.bool false]) (by simp[results,results55,go_sem]) rfl ?_
    refine⟨(z.trans (Z.mono z.size)).alloc (by have:=Z.size;have:=z.size;omega) _,?_⟩
    rw[HS.out,I6 l k f j (by omega) V HB.out HW.out]
   ·have HW:Hid _:=G
    have R:=yD (l.drop j) wr af.out I E;rw[O] at R;unfold mM at R;obtain⟨aw,ag,ah,ax⟩:=oJ V G;have H3:=Hi ah;have HP:=fun w=>pS l (j+t.text.length) w hl ag
    have aa:=mu lL l (j+t.text.length) ag;have ab:=sF lL l (j+t.text.length);go_wp2_with fail;rw[uh,Bk];apply R.mono;rintro e w1 ⟨rfl,Z⟩;have ak:=z.trans (Z.mono z.size);have Y:=dn U Z;have ay:=Z.size;have ap:=z.size
    go_wp2_with (
     at_builtin
     go_must (refine wpList_append_lies _ (by rfl) _ _ 137 (by rfl) w'.heap.size 160 i0 (.agg #[Iq 0,Iq 0,Iq 0,.string ⟨#[]⟩]) 4 40 underlying137 hi ac ad ae (by rfl) (by decide) _ _ _ (by rfl) ((Y.alloc _).alloc _) ⟨w1.heap.size+1,0,none⟩ 1 1 [Iq (da t),Iq j,Iq (dz t),S (di t)] (by rfl) (by rfl) (wH _ _ _ _ _ _ _) (fun x hx=>by simp at hx;rcases hx with rfl|rfl|rfl|rfl<;>rfl) (by decide) (by unfold maxLen;omega) (by omega) (by simp;omega) _ rfl ?_)
     intro g cap w3 J D ai am;have an:=Gb ak Y D
     clear D ai)
    apply(HP _).mono;rintro e w4 ⟨rfl,rfl⟩;generalize aj:eA lL l (j+t.text.length)=j2 at aa ab⊢;have HJ:=Hi aj;go_wp2
    go_roundw
    case rel=>
     obtain⟨f,rfl⟩:∃f',f=f'+1:=⟨f - 1,by omega⟩
     refine⟨ts++[t],j+t.text.length,f,_,ab,aa,by simp;omega,rfl,HJ.out,by omega,?_,?_,an⟩
     ·show _=_
      rw[HS.out,I7 l k f j t V HB.out HW.out];simp
     ·rw[uW,H3.out];simpa using J
    case measure=>simp[intOf];omega
  ·have aq:j=l.length:=by omega
   subst aq;have ap:=z.size
   go_wp2_with (
    at_builtin
    go_must (refine wpList_append_lies _ (by rfl) _ _ 137 (by rfl) w'.heap.size 160 i0 (.agg #[Iq 0,Iq 0,Iq 0,.string ⟨#[]⟩]) 4 40 underlying137 hi ac ad ae (by rfl) (by decide) _ _ _ (by rfl) (U.alloc _) ⟨wr.heap.size,0,none⟩ 1 1 [Iq 0,Iq l.length,Iq 0,S []] (by rfl) (by rfl) (rB _ _ _ _ _ _) (fun x hx=>by simp at hx;rcases hx with rfl|rfl|rfl|rfl<;>rfl) (by decide) (by unfold maxLen;omega) (by omega) (by simp;omega) _ rfl ?_)
    intro g cap w3 J D ai am)
   refine ZH (v:= .tuple #[Sq g (ts.length+1) cap,Iq 0,.bool true]) (by simp[results,results55,go_sem]) rfl ?_
   refine⟨rT z U D,?_⟩;rw[HS.out,Li l k f (by omega) HB.out]
   exact⟨g,cap,by simp,by rw[uW];simpa [da,dz,di] using J⟩
structure Q where
 i:Nat
 bad:Bool
 pl:Nat
def mO (gl n cl:Nat) (s:Q):Obj:= .cells #[.slice (some ⟨gl,0,none⟩) n cl,Iq s.i,.bool s.bad,Iq s.pl] 213 (0,0)
structure RR (rb gl cl:Nat) (ts:List Tok) (s:Q) (w:World):Prop where
 rd:w.heap[rb]?=some (mO gl ts.length cl s)
 wl:∃cs,w.heap[gl]?=some (.cells cs 160 (0,0))
 wc:∀i,i<ts.length→w.cell? ⟨gl,i*4,none⟩=some (Iq (da (dc ts i)))∧w.cell? ⟨gl,i*4+1,none⟩=some (Iq (dc ts i).pl)∧w.cell? ⟨gl,i*4+2,none⟩=some (Iq (dz (dc ts i)))∧w.cell? ⟨gl,i*4+3,none⟩=some (S (di (dc ts i)))
 lt:s.i<ts.length
 nb:ts.length≤1001
 fin:da (dc ts (ts.length - 1))=0
theorem RR.cells {rb gl cl:Nat} {ts:List Tok} {s:Q} {w:World} (h:RR rb gl cl ts s w):(Cq w rb 0 (Sq gl ts.length cl)∧Cq w rb 1 (Iq s.i)∧Cq w rb 2 (.bool s.bad)∧Cq w rb 3 (Iq s.pl))∧ ∀j,w.frozen? ⟨rb,j,none⟩=false:=by
 have z:=fun j=>Zz w rb j _ _ _ h.rd
 exact⟨⟨z 0,z 1,z 2,z 3⟩,fun j=>by simp[World.frozen?,h.rd,mO]⟩
theorem jm {s:Q} (h:RR rb gl cl ts s w):
 Calls prog 103 #[Pq rb] w fun e w'=>e= .returned (Iq (da (dc ts s.i)))∧w'=w.drew:=by
 obtain⟨⟨E,G,I,J⟩,rf⟩:=h.cells;obtain⟨c0,c1,c2,c3⟩:=h.wc s.i h.lt;have z:=h.lt;generalize da (dc ts s.i)=kd at*;go_enter func103,ntmps103
 go_wp2
 go_region_held (fun w'=>w'.cell? ⟨rb,0,none⟩=some (Sq gl ts.length cl)∧w'.cell? ⟨rb,1,none⟩=some (Iq s.i)∧w'.cell? ⟨gl,s.i*4,none⟩=some (Iq kd)) (go_keep) (fail)
 go_wp2
 go_ret;exact⟨rfl,rfl⟩
structure PF (rb:Nat) (w w':World):Prop where
 os:w'.os=w.os
 tape:w'.tape=w.tape
 output:w'.output=w.output
 size:w.heap.size≤w'.heap.size
 block:∀k,k<w.heap.size→k≠rb→w'.heap[k]?=w.heap[k]?
theorem PF.refl (rb:Nat) (w:World):PF rb w w:=⟨rfl,rfl,rfl,Zw _,fun _ _ _=>rfl⟩
theorem PF.trans {rb:Nat} {w z D:World} (h:PF rb w z) (k:PF rb z D):PF rb w D:=
 ⟨k.os.trans h.os,k.tape.trans h.tape,k.output.trans h.output,Z8 h.size k.size,fun j E G=>(k.block j (aau E h.size) G).trans (h.block j E G)⟩
theorem PF.drew {rb:Nat} {w z:World} (h:PF rb w z):PF rb w z.drew:=⟨h.os,h.tape,h.output,h.size,h.block⟩
theorem PF.of_below (h:Below w.heap.size w w'):PF rb w w':=⟨h.os,h.tape,h.output,h.size,fun k z _=>h.block k z⟩
theorem PF.set (h:PF rb w w') (j:Nat) (v:Value):PF rb w (w'.setCell ⟨rb,j,none⟩ v):=
 ⟨h.os,h.tape,h.output,by simpa using h.size,fun k D z=>by rw[ZO _ _ _ _ (by simpa using z)];exact h.block k D z⟩
theorem PF.alloc {rb:Nat} {w w':World} (h:PF rb w w') (o:Obj):PF rb w (w'.alloc o):=
 ⟨h.os,h.tape,h.output,by simp;have:=h.size;omega,fun k z D=>by rw[ZE _ _ _ (aau z h.size)];exact h.block k z D⟩
theorem RR.ne {s:Q} (h:RR rb gl cl ts s w):gl≠rb:=fun e=>by
 obtain⟨cs,z⟩:=h.wl;rw[e,h.rd] at z;simp[mO] at z
theorem RR.rlt {s:Q} (h:RR rb gl cl ts s w):rb<w.heap.size:=be h.rd
theorem RR.glt {s:Q} (h:RR rb gl cl ts s w):gl<w.heap.size:=be h.wl.choose_spec
theorem RR.move {s s':Q} (h:RR rb gl cl ts s w) (z:w'.heap[gl]?=w.heap[gl]?) (G:w'.heap[rb]?=some (mO gl ts.length cl s')) (I:s'.i<ts.length):RR rb gl cl ts s' w':=
 ⟨G,by rw[z];exact h.wl,fun i J=>by
  have e:∀j,w'.cell? ⟨gl,j,none⟩=w.cell? ⟨gl,j,none⟩:=fun j=>ZI (w:=w) z
  rw[e,e,e,e];exact h.wc i J,I,h.nb,h.fin⟩
theorem RR.below {s:Q} (h:RR rb gl cl ts s w) (z:Below w.heap.size w w'):RR rb gl cl ts s w':=
 h.move (z.block _ h.glt) (by rw[z.block _ h.rlt];exact h.rd) h.lt
theorem RR.drew {rb gl cl:Nat} {ts:List Tok} {s:Q} {w:World} (h:RR rb gl cl ts s w):RR rb gl cl ts s w.drew:=h.move rfl h.rd h.lt
theorem RR.alloc {rb gl cl:Nat} {ts:List Tok} {s:Q} {w:World} (h:RR rb gl cl ts s w) (o:Obj):RR rb gl cl ts s (w.alloc o):=
 h.below ((ZA _ _).alloc (Zw _) o)
theorem RR.set {s:Q} (h:RR rb gl cl ts s w) (s':Q) (j:Nat) (v:Value) (e:(#[Sq gl ts.length cl,Iq s.i,.bool s.bad,Iq s.pl]:Array Value).setIfInBounds j v= #[Sq gl ts.length cl,Iq s'.i,.bool s'.bad,Iq s'.pl]) (z:s'.i<ts.length):RR rb gl cl ts s' (w.setCell ⟨rb,j,none⟩ v):=
 h.move (ZO _ _ _ _ (by simpa using h.ne)) (by rw[ZK w rb j _ _ v h.rd,e];rfl) z
attribute [local go_sem ↓] Go.wp_at_zero Go.wp_at_succ
theorem RR.other {s:Q} (h:RR rb gl cl ts s w) (z:b≠rb) (D:b≠gl) (j:Nat) (v:Value):RR rb gl cl ts s (w.setCell ⟨b,j,none⟩ v):=
 h.move (ZO _ _ _ _ (by simpa using D.symm)) (by rw[ZO _ _ _ _ (by simpa using z.symm)];exact h.rd) h.lt
theorem PF.new (h:PF rb w w') (E:w.heap.size≤b) (j:Nat) (v:Value):PF rb w (w'.setCell ⟨b,j,none⟩ v):=
 ⟨h.os,h.tape,h.output,by simpa using h.size,fun k z D=>by rw[ZO _ _ _ _ (by simp;omega)];exact h.block k z D⟩
theorem wJ {s:Q} (h:RR rb gl cl ts s w) (hi:s.i+1<ts.length):
 Calls prog 212 #[Pq rb] w fun e w'=>e= .returned (mM (dc ts s.i) (dc ts s.i).pl)∧RR rb gl cl ts {s with i:=s.i+1} w'∧PF rb w w':=by
 have ag:=h.nb;have U:=h.alloc (.cells #[Iq 0,Iq 0,Iq 0,.string ⟨#[]⟩] 160);have V:(w.alloc (.cells #[Iq 0,Iq 0,Iq 0,.string ⟨#[]⟩] 160)).heap[w.heap.size]?=some (.cells #[Iq 0,Iq 0,Iq 0,.string ⟨#[]⟩] 160):=Zy w _;have hF:PF rb w (w.alloc (.cells #[Iq 0,Iq 0,Iq 0,.string ⟨#[]⟩] 160)):=(PF.refl rb w).alloc _;have ac:=h.rlt;have ad:=h.glt;clear h;go_enter func212,ntmps212
 go_wp2
 generalize w.alloc (.cells #[Iq 0,Iq 0,Iq 0,.string ⟨#[]⟩] 160)=z at*;obtain⟨⟨r0,r1,r2,r3⟩,rf⟩:=U.cells;obtain⟨c0,c1,c2,c3⟩:=U.wc s.i U.lt;have ah:=U.lt;have n0:=World.new_ne z _ r0;have n1:=World.new_ne z _ r1;have m0:=World.new_ne z _ c0;have m1:=World.new_ne z _ c1;have m2:=World.new_ne z _ c2;have m3:=World.new_ne z _ c3;have H1:=Hi U;have Z:=Hi hF;have HX:=Hi V;clear U hF V r2 r3;generalize hk:da (dc ts s.i)=D at*;generalize hp:(dc ts s.i).pl=E at*;generalize hm:dz (dc ts s.i)=G at*;generalize ho:di (dc ts s.i)=I at*;have HK:=Hi hk;have HP:=Hi hp;have HM:=Hi hm;have HO:=Hi ho;clear hk hp hm ho
 go_region_held (fun w'=>w'.cell? ⟨rb,0,none⟩=some (Sq gl ts.length cl)∧w'.cell? ⟨rb,1,none⟩=some (Iq s.i)∧w'.cell? ⟨gl,s.i*4,none⟩=some (Iq D)∧w'.cell? ⟨gl,s.i*4+1,none⟩=some (Iq E)∧w'.cell? ⟨gl,s.i*4+2,none⟩=some (Iq G)∧w'.cell? ⟨gl,s.i*4+3,none⟩=some (S I)) (go_keep) (fail)
 rename_i hHeld
 clear hHeld r0 r1 rf c0 c1 c2 c3 n0 n1 m0 m1 m2 m3;have h2:=(H1.out.alloc (eR D E G I)).drew;have F2:=(Z.out.alloc (eR D E G I)).drew;have Y:(z.alloc (eR D E G I)).drew.heap[z.heap.size]?=some (eR D E G I):=Zy z _;have aa:=be HX.out;have O:(z.alloc (eR D E G I)).drew.heap[w.heap.size]?=some (eR 0 0 0 []):=by
  show(z.alloc (eR D E G I)).heap[w.heap.size]?=_
  rw[ZE _ _ _ aa];exact HX.out
 have e1:z.heap.size≠rb:=by omega
 have J:w.heap.size≠rb:=by omega
 have e3:w.heap.size≠z.heap.size:=by omega
 unfold eR at h2 F2 Y O;clear HX Z H1
 show Exit.then _ _ _ _ ((z.alloc (.cells #[Iq D,Iq E,Iq G,S I] 160 (0,0))).drew)
 generalize (z.alloc (.cells #[Iq D,Iq E,Iq G,S I] 160 (0,0))).drew=w2 at*;generalize z.heap.size=bx at*;generalize ab:w.heap.size=bn at J e3 aa O ac ad⊢;have ae:=Hi ab;clear ab;obtain⟨⟨r0,r1,r2,r3⟩,rf⟩:=h2.cells;obtain⟨⟨x0,x1,x2,x3⟩,xf⟩:=iT Y;obtain⟨⟨y0,y1,y2,y3⟩,yf⟩:=iT O;have H2:=Hi h2;have Z:=Hi F2;clear h2 F2 Y O;have af:=J.symm
 go_wp2
 have R:=aa3 ae.out;have hg:bn≠gl:=by omega
 refine ZH (v:= .agg #[Iq D,Iq E,Iq G,S I]) (by simp[results,results212,go_sem,y0,y1,y2,y3,yf,J,af]) rfl ⟨?_,?_,?_⟩
 ·unfold mM;rw[HK.out,HP.out,HM.out,HO.out]
 ·exact(((((H2.out.set {s with i:=s.i+1} 1 _ (by simp) hi).other J hg _ _).other J hg _ _).other J hg _ _).other J hg _ _)
 ·exact((((Z.out.set 1 _).new R _ _).new R _ _).new R _ _).new R _ _
def gF (ts:List Tok) (s:Q):Q:=⟨ts.length - 1,true,if s.bad then s.pl else(dc ts s.i).pl⟩
theorem Bl {s:Q} (h:RR rb gl cl ts s w):
 Calls prog 211 #[Pq rb] w fun e w'=>e= .returned (.tuple #[])∧RR rb gl cl ts (gF ts s) w'∧PF rb w w':=by
 obtain⟨⟨J,G,D,O⟩,rf⟩:=h.cells;obtain⟨c0,c1,c2,c3⟩:=h.wc s.i h.lt;have R:=h.lt;have ac:=h.nb;have H:=Hi h
 cases I:s.bad with
 |true=>
  rw[I] at D;have HB:=Hi I;go_enter func211,ntmps211
  go_wp2
  go_end0
  refine⟨rfl,?_,(PF.refl _ _).set _ _⟩;exact H.out.set (gF ts s) 1 _ (by simp[gF,HB.out];omega) (by simp[gF];omega)
 |false=>
  rw[I] at D;have HB:=Hi I;go_enter func211,ntmps211
  go_wp2
  have U:=H.out.set {s with bad:=true} 2 (.bool true) (by simp) R
  have F1:=(PF.refl rb w).set 2 (.bool true);generalize w.setCell ⟨rb,2,none⟩ (.bool true)=V at*;obtain⟨⟨J,G,D,O⟩,rf⟩:=U.cells;obtain⟨c0,c1,c2,c3⟩:=U.wc s.i R;have Z:=U.ne;have aa:=Z.symm;have H1:=Hi U;have Y:=Hi F1;generalize hp:(dc ts s.i).pl=z at*;have HP:=Hi hp;simp only[] at G D O;have E:(V.setCell ⟨rb,3,none⟩ (Iq z)).drew.cell? ⟨rb,0,none⟩=some (Sq gl ts.length cl)∧(V.setCell ⟨rb,3,none⟩ (Iq z)).drew.cell? ⟨rb,1,none⟩=some (Iq s.i)∧(V.setCell ⟨rb,3,none⟩ (Iq z)).drew.cell? ⟨gl,s.i*4+1,none⟩=some (Iq z):=by
   simp[go_sem,J,G,c1,Z,aa]
  go_region_held (fun w'=>w'.cell? ⟨rb,0,none⟩=some (Sq gl ts.length cl)∧w'.cell? ⟨rb,1,none⟩=some (Iq s.i)∧w'.cell? ⟨gl,s.i*4+1,none⟩=some (Iq z)) (first|exact E|go_keep) (fail)
  rename_i hHeld
  have h2:=(H1.out.set {s with bad:=true,pl:=z} 3 (Iq z) (by simp) R).drew
  have F2:=(Y.out.set 3 (Iq z)).drew;generalize (V.setCell ⟨rb,3,none⟩ (Iq z)).drew=w2 at*;obtain⟨⟨J,G,D,O⟩,rf⟩:=h2.cells;have H2:=Hi h2;have Y:=Hi F2
  go_wp2
  go_end0
  refine⟨rfl,?_,Y.out.set _ _⟩;exact H2.out.set (gF ts s) 1 _ (by simp[gF,HB.out,HP.out];omega) (by simp[gF];omega)
theorem xZ (ks:List Nat) (v:Nat) (b:Nat) (w:World) (hl:ks.length≤100)
 (I:∀j,j<ks.length→Cq w b j (Iq (ks.getD j 0))):
 Calls prog 245 #[Sq b ks.length ks.length,Iq v] w fun e w'=>(∃r:Int,e= .returned (Iq r)∧ -1≤r∧r≤1000∧(decide (0≤r)=ks.contains v))∧w'=w:=by
 have Y:=Hi I;clear I;go_enter func245,ntmps245
 go_wp2
 go_loop [8] (fun i=> ∃k:Nat,k≤ks.length∧i= Iq k∧Hid (∀q,q<k→ks.getD q 0≠v)) (fun i=>ks.length - (intOf i).toNat)
 case atStart=>exact⟨0,ZL _,rfl,fun q Z=>by omega⟩
 case round=>
  obtain⟨k,hk,rfl,J⟩:=hrel
  by_cases z:k<ks.length
  ·have E:=Y.out k z
   have D:Hid (ks.getD k 0∈ks):=by rw[Zs,Zv z];exact ZV z
   have HG:Hid (∀x,ks.getD k 0=x→ks.getD k 0=x):=fun _ h=>h
   generalize O:ks.getD k 0=x at E D;have HX:=Hi O;clear O HG
   by_cases G:v=x
   ·subst G
    go_wp2
    go_ret;refine⟨⟨k,rfl,by omega,by omega,?_⟩,rfl⟩
    simp[D.out]
   ·have R: ¬((v:Int)=(x:Int)):=by omega
    have aa:((v:Int)==(x:Int))=false:=by simpa using R
    have HV:=Hi G;clear G
    go_wp2
    refine⟨⟨k+1,by omega,by go_num,fun q Z=>?_⟩,by simp[intOf];omega⟩
    by_cases e:q=k
    ·rw[e,HX.out];exact fun e=>HV.out e.symm
    ·exact J.out q (by omega)
  ·go_wp2
   go_ret;refine⟨⟨-1,rfl,by omega,by omega,?_⟩,rfl⟩
   have U:v∉ks:=fun e=>by
    obtain⟨j,hj,V⟩:=aa0.1 e;exact J.out j (by omega) (by rw[Zs,Zv hj];exact V)
   simp[U]
theorem kK (ks:List Nat) (v:Nat) (b:Nat) (w:World) (E:ks.length≤100)
 (z:∀j,j<ks.length→Cq w b j (Iq (ks.getD j 0))):
 Calls prog 210 #[Sq b ks.length ks.length,Iq v] w fun e w'=>e= .returned (.bool (ks.contains v))∧w'=w:=by
 have D:=xZ ks v b w E z;clear z;go_enter func210,ntmps210;go_wp2_with fail;apply D.mono;rintro e w' ⟨⟨r,rfl,I,J,h3⟩,rfl⟩;have G:=Hi h3;clear D h3;go_wp2;go_ret;exact⟨lQ G.out,rfl⟩
theorem RR.more {s:Q} (h:RR rb gl cl ts s w) (z:da (dc ts s.i)≠0):s.i+1<ts.length:=by
 rcases aaL (s.i+1) ts.length with D|D
 ·exact D
 ·have:=h.lt
  have e:s.i=ts.length - 1:=by omega
  rw[e] at z;exact absurd h.fin z
def pU (ts:List Tok) (s:Q) (ks:List Nat):Value:=if ks.contains (da (dc ts s.i)) then mM (dc ts s.i) (dc ts s.i).pl else .agg #[Iq 0,Iq 0,Iq 0,S []]
def od (ts:List Tok) (s:Q) (ks:List Nat):Q:=if ks.contains (da (dc ts s.i)) then{s with i:=s.i+1} else gF ts s
theorem Je {s:Q} (h:RR rb gl cl ts s w) (ks:List Nat) (b:Nat) (hl:ks.length≤100) (h0:0∉ks)
 (hc:∀j,j<ks.length→Cq w b j (Iq (ks.getD j 0))):
 Calls prog 151 #[Pq rb,Sq b ks.length ks.length] w fun e w'=>e= .returned (pU ts s ks)∧RR rb gl cl ts (od ts s ks) w'∧PF rb w w':=by
 have h1:=h.alloc (.cells #[Iq 0,Iq 0,Iq 0,.string ⟨#[]⟩] 160);have Z:(w.alloc (.cells #[Iq 0,Iq 0,Iq 0,.string ⟨#[]⟩] 160)).heap[w.heap.size]?=some (.cells #[Iq 0,Iq 0,Iq 0,.string ⟨#[]⟩] 160):=Zy w _;have hF:PF rb w (w.alloc (.cells #[Iq 0,Iq 0,Iq 0,.string ⟨#[]⟩] 160)):=(PF.refl rb w).alloc _;have ad:∀j,j<ks.length→(w.alloc (.cells #[Iq 0,Iq 0,Iq 0,.string ⟨#[]⟩] 160)).cell? ⟨b,j,none⟩=some (Iq (ks.getD j 0)):=fun j hj=>by
  rw[((ZA w.heap.size w).alloc (Zw _) _).cell (p:=⟨b,j,none⟩) (Zx w _ (hc j hj))];exact hc j hj
 have ah:=h.rlt;have ai:=h.glt;have HC:=Hi ad;have H1:=Hi h1;have HF:=Hi hF;have HX:=Hi Z;clear h hc ad h1 hF Z;go_enter func151,ntmps151;go_wp2_with fail;generalize w.alloc (.cells #[Iq 0,Iq 0,Iq 0,.string ⟨#[]⟩] 160)=w1 at*;apply(jm H1.out).mono;rintro e w' ⟨rfl,rfl⟩;have af:Hid (ks.contains (da (dc ts s.i))=true→s.i+1<ts.length):=fun e=>H1.out.more fun z=>by rw[z,aaa] at e;exact h0 e
 have HQ:Hid (od ts s ks=od ts s ks):=rfl;have J:=kK ks (da (dc ts s.i)) b w1.drew hl HC.out;have HV:Hid (pU ts s ks=if ks.contains (da (dc ts s.i)) then mM (dc ts s.i) (dc ts s.i).pl else .agg #[Iq 0,Iq 0,Iq 0,S []]):=rfl
 have HW:Hid (od ts s ks=if ks.contains (da (dc ts s.i)) then{s with i:=s.i+1} else gF ts s):=rfl
 have h2:=H1.out.drew;have F2:=HF.out.drew;have O:w1.drew.heap[w.heap.size]?=some (eR 0 0 0 []):=HX.out;have V:w.heap.size<w1.drew.heap.size:=be O;clear H1 HF HX HC HQ h0;generalize w1.drew=w2 at*;generalize ae:da (dc ts s.i)=kd at*;have aj:=Hi ae;clear ae;have z:w.heap.size≠rb:=by omega
 have I:w.heap.size≠gl:=by omega
 cases E:ks.contains kd with
 |true=>
  have HT:=Hi E;have ac:=af.out E;have Y:=wJ h2 ac;have HY:=Hi O;have HE:=Hi F2;unfold mM at Y;rw[E] at J;clear E O h2 F2;go_wp2_with fail;apply J.mono;rintro e w' ⟨rfl,rfl⟩;go_wp2_with fail;apply Y.mono;rintro e w3 ⟨rfl,h3,U⟩;have G:w3.heap[w.heap.size]?=some (eR 0 0 0 []):=by rw[U.block _ V z];exact HY.out
  have aa:=Hi (HE.out.trans U);have H3:=Hi h3;clear Y J HY HE h3 U V;generalize R:w.heap.size=bn at z I G⊢;have ab:=Hi R;clear R;obtain⟨⟨y0,y1,y2,y3⟩,yf⟩:=iT G;clear G;go_wp2;have D:=aa3 ab.out;refine ZH (v:= .agg #[Iq (da (dc ts s.i)),Iq (dc ts s.i).pl,Iq (dz (dc ts s.i)),S (di (dc ts s.i))]) (by simp[results,results151,go_sem,y0,y1,y2,y3,yf]) rfl ⟨?_,?_,?_⟩
  ·rw[HV.out,HT.out];rfl
  ·rw[HW.out,HT.out]
   exact((((H3.out.other z I _ _).other z I _ _).other z I _ _).other z I _ _)
  ·exact((((aa.out.new D _ _).new D _ _).new D _ _).new D _ _)
 |false=>
  have HT:=Hi E;have Y:=Bl h2;have HY:=Hi O;have HE:=Hi F2;rw[E] at J;clear E O h2 F2;go_wp2_with fail;apply J.mono;rintro e w' ⟨rfl,rfl⟩;go_wp2_with fail;apply Y.mono;rintro e w3 ⟨rfl,h3,U⟩;have G:w3.heap[w.heap.size]?=some (eR 0 0 0 []):=by rw[U.block _ V z];exact HY.out
  have aa:=Hi (HE.out.trans U);have H3:=Hi h3;clear Y J HY HE h3 U V;generalize R:w.heap.size=bn at z I G⊢;have ab:=Hi R;clear R;obtain⟨⟨y0,y1,y2,y3⟩,yf⟩:=iT G;clear G;go_wp2;have D:=aa3 ab.out;refine ZH (v:= .agg #[Iq 0,Iq 0,Iq 0,S []]) (by simp[results,results151,go_sem,y0,y1,y2,y3,yf]) rfl ⟨?_,?_,?_⟩
  ·rw[HV.out,HT.out];rfl
  ·rw[HW.out,HT.out]
   exact((((H3.out.other z I _ _).other z I _ _).other z I _ _).other z I _ _)
  ·exact((((aa.out.new D _ _).new D _ _).new D _ _).new D _ _)
def iK (t:Tok):Prop:=t.k=110∨t.k=111∨t.k=101∨(t.k=107∧t.text∈dI.drop 11)∨(t.k=115∧t.text∈(dI.drop 3).take 8)
theorem M5 (h:x∈dI.drop 11):x∈dI.drop 3:=by
 rw[show dI.drop 11=(dI.drop 3).drop 8 from by simp] at h
 exact abW h
theorem iK.cases (h:iK t):t.k=110∨t.k=111∨t.k=101∨((t.k=107∨t.k=115)∧t.text∈dI.drop 3):=by
 rcases h with h|h|h|⟨h,z⟩|⟨h,z⟩
 ·exact .inl h
 ·exact .inr (.inl h)
 ·exact .inr (.inr (.inl h))
 ·exact .inr (.inr (.inr ⟨.inl h,M5 z⟩))
 ·exact .inr (.inr (.inr ⟨.inr h,abB z⟩))
theorem Gi:∀x∈dI.drop 3,∀y∈dI.drop 3,(dP dI x).toNat=(dP dI y).toNat→x=y:=by decide
theorem oe:∀x∈dI.drop 3,3≤(dP dI x).toNat:=by decide
def kn (x:List UInt8):Nat:=(dP dI x).toNat
theorem fK (h:(t.k=107∨t.k=115)):da t=kn t.text:=by
 unfold da kn;rw[Zt (by omega),Zt (by omega),Zt (by omega)]
theorem sO (h:iK t) (z:x∈dI.drop 3):fX t x=true↔da t=kn x:=by
 have E:=oe x z;unfold fX;rcases h.cases with h|h|h|⟨h,D⟩
 ·unfold da;rw[Zu h,h];simp[kn];omega
 ·unfold da;rw[Zt (by omega),Zu h,h];simp[kn];omega
 ·unfold da;rw[Zt (by omega),Zt (by omega),Zu h,h];simp[kn];omega
 ·rw[fK h]
  simp only[abb,ab0,abX];constructor
  ·rintro⟨_,e⟩;rw[e]
  ·intro e;exact⟨h,Gi _ D _ z e⟩
theorem Jf (l:List UInt8) (a:Nat) (D:a<l.length) (t:Tok) (h:ji l a=some t):iK t:=by
 unfold ji at h
 split at h
 ·split at h
  ·simp at h
  ·simp at h;subst h;exact .inl rfl
 ·split at h
  ·split at h
   ·rename_i E
    simp at h;subst h
    exact .inr (.inr (.inr (.inl ⟨rfl,(sM _).1 E⟩)))
   ·split at h
    ·simp at h;subst h;exact .inr (.inl rfl)
    ·simp at h
  ·rw[Zv D] at h
   simp only at h
   split at h
   ·split at h
    ·simp at h;subst h;exact .inr (.inr (.inr (.inr ⟨rfl,show[60,61]∈(dI.drop 3).take 8 from by decide⟩)))
    ·simp at h;subst h;exact .inr (.inr (.inr (.inr ⟨rfl,show[60]∈(dI.drop 3).take 8 from by decide⟩)))
   ·split at h
    ·rename_i z
     simp at h;subst h
     refine .inr (.inr (.inr (.inr ⟨rfl,?_⟩)));have G:∀c:UInt8,(c.toNat=40∨c.toNat=41∨c.toNat=59∨c.toNat=43∨c.toNat=45∨c.toNat=61)→[c]∈(dI.drop 3).take 8:=by
      intro c z;rcases z with z|z|z|z|z|z<;>(rw[lU _ _ (by omega)] at z;subst z;decide)
     exact G _ z
    ·simp at h
def oN (k:Nat):Bool:=decide (k=1)||decide (k=2)||(decide (20≤k)&&decide (k≤35))
theorem zK:∀x∈dI.drop 11,(decide (0≤dP dX x)||decide (0≤dP dL x)||x==jL||x==ky)=oN (kn x):=by decide
theorem zL:∀x∈(dI.drop 3).take 8,oN (kn x)=false:=by decide
theorem ui (h:iK t):gR t=oN (da t):=by
 unfold gR;rcases h with h|h|h|⟨h,z⟩|⟨h,z⟩
 ·unfold da;rw[Zu h,h];rfl
 ·unfold da;rw[Zt (by omega),Zu h,h];rfl
 ·unfold da;rw[Zt (by omega),Zt (by omega),Zu h,h];rfl
 ·rw[fK (.inl h),←zK _ z,h];simp
 ·rw[fK (.inr h),zL _ z,h];rfl
theorem pG (k:Nat) (w:World) (D:k≤100):Calls prog 287 #[Iq k] w fun e w'=>e= .returned (.bool (oN k))∧w'=w:=by
 have z:Hid (oN k=(decide (k=1)||decide (k=2)||(decide (20≤k)&&decide (k≤35)))):=rfl;go_enter func287,ntmps287
 go_wp2
 all_goals go_ret
 all_goals refine⟨lQ ?_,rfl⟩
 all_goals rw[z.out,aaH]
 all_goals simp
 all_goals try simp at*
 all_goals omega
def kg (n:Nat):List Nat:=if n=0 then[17] else if n=1 then[18] else if n=3 then[8,10,9] else[6,7]
theorem Dy:∀n,n≤4→ ∀x∈dI.drop 3,decide (0≤dP (kz n) x)=(kg n).contains (kn x):=by
 intro n z;have h:∀n:Fin 5,∀x∈dI.drop 3,decide (0≤dP (kz n.1) x)=(kg n.1).contains (kn x):=by decide
 exact h ⟨n,by omega⟩
theorem pV:∀n,n≤4→ ∀x∈kg n,3≤x:=by
 intro n z;have h:∀n:Fin 5,∀x∈kg n.1,3≤x:=by decide
 exact h ⟨n,by omega⟩
theorem yG (D:n≤4) (h:iK t):gD n t=(kg n).contains (da t):=by
 have z:∀k,k<3→(kg n).contains k=false:=fun k G=>by
  rw[aa5];intro e;rw[aaa] at e
  have:=pV n D k e;omega
 unfold gD;rcases h.cases with h|h|h|⟨h,E⟩
 ·rw[show da t=1 from by unfold da;rw[Zu h],z 1 (by omega),h];simp
 ·rw[show da t=2 from by unfold da;rw[Zt (by omega),Zu h],z 2 (by omega),h];simp
 ·rw[show da t=0 from by unfold da;rw[Zt (by omega),Zt (by omega),Zu h],z 0 (by omega),h];simp
 ·rw[fK h,←Dy n D _ E]
  rcases h with h|h<;>rw[h]<;>simp
def iA (t:Tok) (u:Value) (n:Int):Obj:= .cells #[Iq (da t),Iq t.pl,Iq (dz t),S (di t),u,Iq n] 229 (0,0)
def jw (w:World) (u:Value) (n:Nat) (I:Nat→Nat):Prop:=
 (n=0∧u= .slice none 0 0)∨(0<n∧ ∃g,u= .slice (some ⟨g,0,none⟩) n n∧w.heap[g]?=some (.cells ((List.range n).map fun j=>Value.pointer (some ⟨I j,0,none⟩)).toArray 161 (0,0)))
structure dJ (L:List Pt) (lt:Nat) (w:World) (i b:Nat):Prop where
 lay::
 out:∀C:Nat→Nat→Prop,(∀(i b:Nat) (u:Value) (bl:Nat→Nat),i<L.length→lt≤b→w.heap[b]?=some (iA (L.getD i dh).tok u 0)→jw w u (L.getD i dh).subs.length bl→(∀j,j<(L.getD i dh).subs.length→(L.getD i dh).subs.getD j 0<i)→(∀j,j<(L.getD i dh).subs.length→C ((L.getD i dh).subs.getD j 0) (bl j))→C i b)→C i b
theorem dJ.mk {L:List Pt} {lt:Nat} {w:World} (i b:Nat) (u:Value) (z:Nat→Nat) (I:i<L.length) (D:lt≤b) (J:w.heap[b]?=some (iA (L.getD i dh).tok u 0))
 (O:jw w u (L.getD i dh).subs.length z) (E:∀j,j<(L.getD i dh).subs.length→(L.getD i dh).subs.getD j 0<i)
 (R:∀j,j<(L.getD i dh).subs.length→dJ L lt w ((L.getD i dh).subs.getD j 0) (z j)):dJ L lt w i b:=
 ⟨fun C G=>G i b u z I D J O E fun j U=>(R j U).out C G⟩
theorem dJ.ind {lt:Nat} (M:Nat→Nat→Prop)
 (U:∀(i b:Nat) (u:Value) (z:Nat→Nat),i<L.length→lt≤b→w.heap[b]?=some (iA (L.getD i dh).tok u 0)→jw w u (L.getD i dh).subs.length z→(∀j,j<(L.getD i dh).subs.length→(L.getD i dh).subs.getD j 0<i)→(∀j,j<(L.getD i dh).subs.length→dJ L lt w ((L.getD i dh).subs.getD j 0) (z j))→(∀j,j<(L.getD i dh).subs.length→M ((L.getD i dh).subs.getD j 0) (z j))→M i b)
 (h:dJ L lt w i b):M i b:=
 (h.out (fun i b=>dJ L lt w i b∧M i b) fun i b u z J E O R G I=>⟨.mk i b u z J E O R G fun j D=>(I j D).1,U i b u z J E O R G (fun j D=>(I j D).1) fun j D=>(I j D).2⟩).2
theorem dJ.keep {lt:Nat} (h:dJ L lt w i b)
 (E:∀(k:Nat) (cs:Array Value) (ty:TypeId),w.heap[k]?=some (Obj.cells cs ty (0,0))→ty=229∨ty=161→w'.heap[k]?=w.heap[k]?):dJ L lt w' i b:=by
 refine h.ind (fun i b=>dJ L lt w' i b) ?_
 ·intro i b u bl hi G I D J hs ih
  refine .mk i b u bl hi G ?_ ?_ J ih
  ·rw[E b _ _ I (.inl rfl)];exact I
  ·rcases D with D|⟨h0,g,h1,O⟩
   ·exact .inl D
   ·exact .inr ⟨h0,g,h1,by rw[E g _ _ O (.inr rfl)];exact O⟩
theorem dJ.pf {lt:Nat} {s:Q} (h:dJ L lt w i b) (E:RR rb gl cl ts s w) (G:PF rb w w'):dJ L lt w' i b:=
 h.keep fun k cs ty z D=>G.block k (be z) fun e=>by
  rw[e,E.rd] at z;simp only[mO,ZR,aa8] at z;have I:=z.2.1;rw[←I] at D;exact absurd D (by decide)
theorem dJ.more {z:List Pt} {lt:Nat} (h:dJ L lt w i b) (U:L.length≤z.length) (G:∀k,k<L.length→z.getD k dh=L.getD k dh):dJ z lt w i b:=by
 refine h.ind (fun i b=>dJ z lt w i b) ?_
 ·intro i b u I J D O R E V ih
  have e:=G i J;exact .mk i b u I (by omega) D (by rw[e];exact O) (by rw[e];exact R) (by rw[e];exact E) (by rw[e];exact ih)
theorem dJ.put {lt:Nat} (h:dJ L lt w i b) (p:Pt):dJ (L++[p]) lt w i b:=
 h.more (by simp) (fun k z=>by simp[Zs,aah z])
def rC (k:Nat):Nat:=if k=1∨(27≤k∧k≤30) then 1 else if k=20∨k=21∨k=34∨k=35 then 2 else if(22≤k∧k≤26)∨(31≤k∧k≤33) then 3 else 0
def gq (E:List Nat) (z D:Nat):Nat:=if E.all (fun u=>u==z) then D else 0
def fU (k:Nat) (z:List Nat):Nat:=
 if k=6∨k=7 then gq z 1 1 else if k=10∨k=9 then gq z 1 2 else if k=8 then gq z (z.getD 0 0) 2
 else if k=17∨k=18∨k=19 then gq z 2 2
 else if k=14 then(if z.getD 0 0=2 then gq (z.drop 1) (z.getD 1 0) (z.getD 1 0) else 0) else 0
abbrev me (c:UInt8):Prop:=c=110∨c=116∨c=109
theorem og (h:me c):c∈([110,116,109]:List UInt8):=by
 rcases h with rfl|rfl|rfl<;>decide
theorem mP (h:c=0∨me c):fh c=0↔c=0:=by
 rcases h with rfl|rfl|rfl|rfl<;>decide
def yH (x s:List UInt8):UInt8:=UInt8.ofNat (fY [] [] ⟨107,x,0⟩ s)
theorem rU (xs:List dY) (its:List UInt8) (z:t.k≠110) (D:t.k≠111) (s:List UInt8):UInt8.ofNat (fY xs its t s)=yH t.text s:=by
 unfold yH fY;rw[Zt z,Zt D];simp only[];rw[Zt (show ¬(107:Nat)=110 by decide),Zt (show ¬(107:Nat)=111 by decide)]
theorem Ln:∀x∈dI.drop 11,(decide (0≤dP dX x)||decide (0≤dP dL x)||x==jL||x==ky)=true→fh (yH x [])=rC (kn x)∧me (yH x []):=by decide
theorem Jg:∀x∈([[43],[45],[60],[60,61],[61],[111,114],[97,110,100]]:List (List UInt8)),∀a∈([110,116,109]:List UInt8),∀b∈([110,116,109]:List UInt8),fh (yH x [a,b])=fU (kn x) [fh a,fh b]∧(yH x [a,b]=0∨me (yH x [a,b])):=by decide
theorem Jh:∀a∈([110,116,109]:List UInt8),fh (yH iq [a])=fU (kn iq) [fh a]∧(yH iq [a]=0∨me (yH iq [a])):=by decide
theorem Ji:∀a∈([110,116,109]:List UInt8),∀b∈([110,116,109]:List UInt8),∀c∈([110,116,109]:List UInt8),fh (yH l9 [a,b,c])=fU (kn l9) [fh a,fh b,fh c]∧(yH l9 [a,b,c]=0∨me (yH l9 [a,b,c])):=by decide
theorem zM (h:l.length=2):∃a b,l=[a,b]:=by
 match l,h with
 |[a,b],_=>exact⟨a,b,rfl⟩
theorem uj (h:l.length=3):∃a b c,l=[a,b,c]:=by
 match l,h with
 |[a,b,c],_=>exact⟨a,b,c,rfl⟩
theorem oO (h:gD n t=true):t.text∈([[43],[45],[60],[60,61],[61],[111,114],[97,110,100]]:List (List UInt8))∧(t.k=107∨t.k=115):=by
 unfold gD at h;simp only[abb,acj,ab0,abX] at h;refine⟨?_,h.2⟩;have z:=vG h.1;unfold kz at z
 split at z
 ·simp at z;rw[z];decide
 ·split at z
  ·simp at z;rw[z];decide
  ·split at z
   ·simp at z;rcases z with z|z|z<;>rw[z]<;>decide
   ·simp at z;rcases z with z|z<;>rw[z]<;>decide
theorem jP (h:fX t x=true):t.text=x∧(t.k=107∨t.k=115):=by
 unfold fX at h;simp at h;exact⟨h.2,h.1⟩
theorem zN (xs:List dY) (its:List UInt8) (O:iK t) (z:gR t=true) (R:t.k≠111):fh (UInt8.ofNat (fY xs its t []))=rC (da t)∧me (UInt8.ofNat (fY xs its t [])):=by
 rcases O with h|h|h|⟨h,G⟩|⟨h,G⟩
 ·have e:fY xs its t []=110:=by unfold fY;rw[Zu h]
  rw[e];unfold da;rw[Zu h];decide
 ·exact absurd h R
 ·rw[gR,h] at z;simp at z
 ·have U:(decide (0≤dP dX t.text)||decide (0≤dP dL t.text)||t.text==jL||t.text==ky)=true:=by
   rw[gR,h] at z;simpa using z
  rw[rU xs its (by omega) (by omega),fK (.inl h)]
  exact Ln _ G U
 ·rw[gR,h] at z;simp at z
theorem zO {p:Pt} (I:rq p) (J:p.subs≠[]) {F:Nat→UInt8} (D:∀j∈p.subs,me (F j)):
 fh (UInt8.ofNat (fY xs its p.tok (p.subs.map F)))=fU (da p.tok) (p.subs.map fun j=>fh (F j))∧(UInt8.ofNat (fY xs its p.tok (p.subs.map F))=0∨me (UInt8.ofNat (fY xs its p.tok (p.subs.map F)))):=by
 rcases I with⟨_,h⟩|⟨h,E⟩|⟨h,E⟩|⟨n,_,h,E⟩
 ·exact absurd h J
 ·obtain⟨e,G⟩:=jP h
  obtain⟨a,z⟩:∃a,p.subs=[a]:=aaP.1 E;rw[rU xs its (by omega) (by omega),fK G,e,z]
  exact Jh _ (og (D a (by simp[z])))
 ·obtain⟨e,G⟩:=jP h
  obtain⟨a,b,c,z⟩:∃a b c,p.subs=[a,b,c]:=uj E;rw[rU xs its (by omega) (by omega),fK G,e,z]
  exact Ji _ (og (D a (by simp[z]))) _ (og (D b (by simp[z]))) _ (og (D c (by simp[z])))
 ·obtain⟨e,G⟩:=oO h
  obtain⟨a,b,z⟩:∃a b,p.subs=[a,b]:=zM E;rw[rU xs its (by omega) (by omega),fK G,z]
  exact Jg _ e _ (og (D a (by simp[z]))) _ (og (D b (by simp[z])))
def pW (xs:List dY) (n:Nat) (L:List Pt) (I J:Nat):Prop:= ∀q,I≤q→q<J→(L.getD q dh).tok.k=111→(L.getD q dh).tok.text≠[]∧0≤dN xs (L.getD q dh).tok.text n
theorem lM (js:List Nat):∀{E G},kA (eK f L) E js G→ ∀j∈js,∃D,E≤D∧j<G∧eK f L D j:=by
 induction js with
 |nil=>intro E G _ j z;simp at z
 |cons x js ih=>
  intro E G h j z;have I:=h.1.le;have J:=nY (T:=eK f L) (fun E j z=>z.le) js h.2
  simp at z;rcases z with rfl|z
  ·exact⟨E,Zw _,by omega,h.1⟩
  ·obtain⟨D,a,b,c⟩:=ih h.2 j z
   exact⟨D,by omega,b,c⟩
theorem Gj (D:∀c∈its,me c) (s:List UInt8) (E:0≤dN xs s its.length):me (its.getD (dN xs s its.length).toNat 0):=by
 have G:=(AN xs s its.length).1;have z:(dN xs s its.length).toNat<its.length:=by omega
 rw[Zs,Zv z];exact D _ (ZV z)
theorem qy (hW:∀k,k<L.length→iK (L.getD k dh).tok) (R:∀c∈its,me c) (f:Nat):∀{D i:Nat},eK f L D i→pW xs its.length L D (i+1)→eU xs its L f i=0∨me (eU xs its L f i):=by
 induction f with
 |zero=>intro D i h;exact h.elim
 |succ f ih=>
  intro D i h J;rw[eU]
  split
  ·exact .inl rfl
  ·rename_i U
   by_cases E:(L.getD i dh).tok.k=111
   ·right
    have:=Gj R _ (J i h.le (by omega) E).2
    have e:fY xs its (L.getD i dh).tok ((L.getD i dh).subs.map (eU xs its L f))=(its.getD (dN xs (L.getD i dh).tok.text its.length).toNat 0).toNat:=by
     unfold fY;rw[Zt (by omega),Zu E]
    rw[e,abi];exact this
   ·by_cases G:(L.getD i dh).subs=[]
    ·rw[G]
     have V:gR (L.getD i dh).tok=true:=by
      rcases h.2.1 with⟨z,_⟩|⟨_,z⟩|⟨_,z⟩|⟨n,_,_,z⟩
      ·exact z
      all_goals (rw[G] at z;simp at z)
     exact .inr (zN xs its (hW i h.1) V E).2
    ·refine(zO h.2.1 G fun j O=>?_).2
     obtain⟨Y,a,b,c⟩:=lM _ h.2.2 j O;rcases ih c (fun q z Z=>J q (by omega) (by omega)) with I|I
     ·exact absurd (by rw[aaa,←I];exact aaS O) U
     ·exact I
def mr (xs:List dY) (vals fl:List Int) (t:Tok):Int:=
 if t.k=110 then eP t.text else if t.k=111 then vals.getD (dN xs t.text vals.length).toNat 0
 else if 0≤dP dL t.text then fl.getD (dP dL t.text).toNat 0 else if 0≤dP dX t.text then dP dX t.text else dq (t.text==jL)
def rD (s:List UInt8) (w:Int):List Int→Int
 |[]=>w
 |[a]=>1 - a
 |[a,b]=>n9 s a b
 |a::b::c::_=>if a=1 then b else c
def iH (xs:List dY) (vals fl:List Int) (L:List Pt):Nat→Nat→Int
 |0,_=>0
 |f+1,k=>rD (L.getD k dh).tok.text (mr xs vals fl (L.getD k dh).tok) ((L.getD k dh).subs.map (iH xs vals fl L f))
def ya (c:UInt8) (v:Int):Prop:=dG v∧(c=116→v=0∨v=1)
theorem fm (c:UInt8) (b:Bool):ya c (dq b):=by
 unfold dq ya dG;cases b<;>simp
def OP:List UInt8:=[110,110,110,110,109,109,109,116,116]
structure gG (fl:List Int):Prop where
 len:fl.length=9
 has:∀i,i<9→ya (OP.getD i 0) (fl.getD i 0)
structure oP (its:List UInt8) (vals:List Int):Prop where
 len:vals.length=its.length
 has:∀i,i<its.length→ya (its.getD i 0) (vals.getD i 0)
theorem oP.snoc (h:oP its vals) {v:Int} (D:ya c v):oP (its++[c]) (vals++[v]):=by
 refine⟨by simp[h.len],fun i E=>?_⟩
 have G:=h.len;rcases aaL i its.length with z|z
 ·have:=h.has i z
  rw[Zs,Zs] at this⊢;rw[aah (by omega),aah (by omega)];exact this
 ·have e:i=its.length:=by simp at E;omega
  subst e;rw[Zs,Zs,aaf (by omega),aaf (by omega),G]
  simpa using D
theorem Lo (s:List UInt8) {a b:Int} (c:UInt8) (h:s=[43]∨s=[45]→c≠116):ya c (n9 s a b):=by
 unfold n9
 by_cases z:s=[43]
 ·rw[Zu z];exact⟨lS _,fun e=>absurd e (h (.inl z))⟩
 rw[Zt z]
 by_cases D:s=[45]
 ·rw[Zu D];exact⟨lS _,fun e=>absurd e (h (.inr D))⟩
 rw[Zt D]
 split
 ·exact fm _ _
 split
 ·exact fm _ _
 split
 ·exact fm _ _
 split
 ·exact fm _ _
 ·exact fm _ _
theorem Dz (x:List UInt8) (h:0≤dP dL x):∃n:Nat,dP dL x=n∧n<9:=by
 have:=I9 dL x;have e:(dL.length:Int)=9:=rfl;exact⟨(dP dL x).toNat,by omega,by omega⟩
theorem Bm (x:List UInt8) (h:0≤dP dX x):dP dX x<5:=by
 have:=I9 dX x;have e:(dX.length:Int)=5:=rfl;omega
theorem Lp (x:List UInt8) (h:x=[43]∨x=[45]) (s:List UInt8):yH x s≠116:=by
 have e:yH x s=UInt8.ofNat (if s=[110,110] then 110 else 0):=by
  rcases h with rfl|rfl<;>rfl
 rw[e];split<;>decide
theorem M6 (s:List UInt8) (h:yH iq s≠0):s=[116]:=by
 have e:yH iq s=UInt8.ofNat (if s=[116] then 116 else 0):=rfl
 rw[e] at h
 by_cases z:s=[116]
 ·exact z
 ·rw[Zt z] at h;exact absurd rfl h
theorem Oq {a b:UInt8} (h:yH l9 [a,b,c]≠0):a=116∧b=c∧yH l9 [a,b,c]=b:=by
 have e:yH l9 [a,b,c]=UInt8.ofNat (if a.toNat=116∧b.toNat=c.toNat then b.toNat else 0):=rfl
 rw[e] at h
 by_cases z:a.toNat=116∧b.toNat=c.toNat
 ·refine⟨ab1.1 z.1,ab1.1 z.2,?_⟩
  rw[e,Zu z,abi]
 ·rw[Zt z] at h;exact absurd rfl h
theorem Jj (G:oP its vals) (J:gG fl) (U:gR t=true) (O:t.k=110→eP t.text≤9223372036854775807)
 (R:t.k=111→0≤dN xs t.text its.length):ya (UInt8.ofNat (fY xs its t [])) (mr xs vals fl t):=by
 unfold mr fY
 by_cases D:t.k=110
 ·rw[Zu D,Zu D]
  have:=O D;exact⟨by unfold dG;omega,fun e=>absurd e (by decide)⟩
 rw[Zt D,Zt D]
 by_cases E:t.k=111
 ·rw[Zu E,Zu E,G.len]
  have h3:=R E;have z:=(AN xs t.text its.length).1;rw[abi];exact G.has _ (by omega)
 rw[Zt E,Zt E]
 by_cases h3:0≤dP dL t.text
 ·rw[Zu h3,Zu h3]
  obtain⟨n,e,I⟩:=Dz _ h3;rw[e,abx,abi];exact J.has n I
 rw[Zt h3,Zt h3]
 by_cases z:0≤dP dX t.text
 ·rw[Zu z,Zu z]
  have:=Bm _ z;exact⟨by unfold dG;omega,fun e=>absurd e (by decide)⟩
 rw[Zt z,Zt z];exact fm _ _
theorem wK (hV:oP its vals) (hF:gG fl) (hN:∀k,k<L.length→(L.getD k dh).tok.k=110→eP (L.getD k dh).tok.text≤9223372036854775807) (f:Nat):
 ∀{J i:Nat},eK f L J i→pW xs its.length L J (i+1)→eU xs its L f i≠0→ya (eU xs its L f i) (iH xs vals fl L f i):=by
 induction f with
 |zero=>intro J i h;exact h.elim
 |succ f ih=>
  intro J i h Z z;rw[iH];rw[eU] at z⊢
  by_cases U:((L.getD i dh).subs.map (eU xs its L f)).contains 0=true
  ·rw[Zu U] at z;exact absurd rfl z
  rw[Zt U] at z⊢;have E:∀j∈(L.getD i dh).subs,ya (eU xs its L f j) (iH xs vals fl L f j):=fun j O=>by
   obtain⟨ad,a,b,c⟩:=lM _ h.2.2 j O;refine ih c (fun q V G=>Z q (by omega) (by omega)) fun e=>U ?_
   rw[aaa,←e];exact aaS O
  rcases h.2.1 with⟨ha,hs⟩|⟨Y,I⟩|⟨Y,I⟩|⟨n,_,O,I⟩
  ·rw[hs]
   exact Jj hV hF ha (hN i h.1) fun ho=>(Z i h.le (by omega) ho).2
  ·obtain⟨e,hk⟩:=jP Y
   obtain⟨a,D⟩:∃a,(L.getD i dh).subs=[a]:=aaP.1 I;rw[rU xs its (by omega) (by omega),e,D] at z⊢
   have V:=E a (by rw[D];simp)
   have G:=M6 _ z;simp only[ZS,aai,ab2,aby] at G;have h3:=V.2 G;simp only[ZS,aai,rD];refine⟨?_,fun _=>?_⟩
   ·unfold dG;omega
   ·omega
  ·obtain⟨e,hk⟩:=jP Y
   obtain⟨a,b,c,D⟩:∃a b c,(L.getD i dh).subs=[a,b,c]:=uj I;rw[rU xs its (by omega) (by omega),e,D] at z⊢
   simp only[ZS,aai] at z⊢;obtain⟨V,G,h3⟩:=Oq z;rw[h3];simp only[rD]
   split
   ·exact E b (by rw[D];simp)
   ·rw[G];exact E c (by rw[D];simp)
  ·obtain⟨e,hk⟩:=oO O
   obtain⟨a,b,D⟩:∃a b,(L.getD i dh).subs=[a,b]:=zM I;rw[rU xs its (by omega) (by omega),D]
   simp only[ZS,aai,rD];exact Lo _ _ fun h=>Lp _ h _
def eW (v:Value) (z:List (List UInt8×Int)) (w:World):Prop:=
 z.length≤maxLen∧ ∃a cap,v= .slice a z.length cap∧ ∀i,i<z.length→ ∃b o,a=some ⟨b,o,none⟩∧w.cell? ⟨b,o+i*2,none⟩=some (S (z.getD i ([],0)).1)∧w.cell? ⟨b,o+i*2+1,none⟩=some (Iq (z.getD i ([],0)).2)∧dG (z.getD i ([],0)).2
theorem eW.below (h:eW v z w) (D:Below w.heap.size w w'):eW v z w':=by
 obtain⟨E,a,cap,G,I⟩:=h;refine⟨E,a,cap,G,fun i J=>?_⟩
 obtain⟨b,o,e,c0,c1,O⟩:=I i J;refine⟨b,o,e,?_,?_,O⟩
 ·rw[D.cell (p:=⟨b,o+i*2,none⟩) (Zx w _ c0)];exact c0
 ·rw[D.cell (p:=⟨b,o+i*2+1,none⟩) (Zx w _ c1)];exact c1
def fG (D:Int) (I:List (List UInt8×Int)) (u:List UInt8):Int:=match I with
 |[]=>D
 |x::r=>if x.1==u then x.2 else fG D r u
theorem DA (D:Int) (z:List (List UInt8×Int)) (u:List UInt8) (i:Nat) (h:i<z.length):fG D (z.drop i) u=if(z.getD i ([],0)).1==u then(z.getD i ([],0)).2 else fG D (z.drop (i+1)) u:=by
 rw[ZW h,fG,Zs,Zv h];rfl
def fy (G:List (List UInt8×Int)) (u:List UInt8):Int:=match G with
 |[]=>0
 |x::r=>if x.1==u then fe x.2 else fy r u
theorem Bn (z:List (List UInt8×Int)) (u:List UInt8) (i:Nat) (h:i<z.length):fy (z.drop i) u=if(z.getD i ([],0)).1==u then fe (z.getD i ([],0)).2 else fy (z.drop (i+1)) u:=by
 rw[ZW h,fy,Zs,Zv h];rfl
theorem DB {mv:Value} {D:Int} (u:List UInt8) (w:World) (h:eW lv z w):
 Calls prog 79 #[.agg #[lv,Iq D,mv,.bool G],S u] w fun e w'=>e= .returned (Iq (fG D z u))∧Below w.heap.size w w':=by
 obtain⟨hm,a,cap,rfl,hc⟩:=h;unfold maxLen at hm;have hb:=(ZA w.heap.size w).alloc (Zw _) (.cells #[.slice a z.length cap,Iq D,mv,.bool G] 50);have O:(w.alloc (.cells #[.slice a z.length cap,Iq D,mv,.bool G] 50)).heap[w.heap.size]?=some (.cells #[.slice a z.length cap,Iq D,mv,.bool G] 50 (0,0)):=Zy w _;have H0:=Hi (And.intro hb O);have HC:=Hi hc;go_enter func79,ntmps79;go_wp2;obtain⟨V,Y⟩:=H0.out;generalize w.alloc (.cells #[.slice a z.length cap,Iq D,mv,.bool G] 50)=wz at*
 go_loopw [10] (fun i wr=> ∃j,j≤z.length∧i= Iq j∧Hid (fG D z u=fG D (z.drop j) u)∧Below w.heap.size w wr∧wr.heap[w.heap.size]?=some (.cells #[.slice a z.length cap,Iq D,mv,.bool G] 50 (0,0))) (fun i _=>z.length - (intOf i).toNat)
 case atStart=>exact⟨0,ZL _,rfl,rfl,V,Y⟩
 case round=>
  obtain⟨j,hj,rfl,J,E,I⟩:=hrel;have q1:=Zz wr w.heap.size 1 _ _ _ I;simp only[aaC,aa2,aaI] at q1
  by_cases Z:j<z.length
  ·obtain⟨b,o,rfl,c0,c1,hn⟩:=HC.out j Z
   have U:=Hi (DA D z u j Z);have ab:wr.cell? ⟨b,o+j*2,none⟩=some (S (z.getD j ([],0)).1):=by rw[E.cell (p:=⟨b,o+j*2,none⟩) (Zx w _ c0)];exact c0
   have ae:wr.cell? ⟨b,o+j*2+1,none⟩=some (Iq (z.getD j ([],0)).2):=by rw[E.cell (p:=⟨b,o+j*2+1,none⟩) (Zx w _ c1)];exact c1
   have lb:=Zx wr _ ab;simp only at lb;have b0:(0:Int)≤(j:Int):=by omega
   have b1:(j:Int)<(z.length:Int):=by omega
   generalize z.getD j ([],0)=x at*;have aa:Hid (Below w.heap.size w (wr.alloc (.cells #[S x.1,Iq x.2] 108))):=E.alloc E.size _;have ac:Hid ((wr.alloc (.cells #[S x.1,Iq x.2] 108)).heap[w.heap.size]?=some (.cells #[.slice (some ⟨b,o,none⟩) z.length cap,Iq D,mv,.bool G] 50 (0,0))):=by show _=_;rw[ZE _ _ _ (be I)];exact I
   cases O:(x.1==u) with
   |true=>
    have R:Hid (fG D z u=x.2):=by show _=_;rw[J.out,U.out,Zu O]
    go_wp2;go_ret;exact⟨by rw[R.out];rfl,aa.out⟩
   |false=>
    have R:Hid (fG D z u=fG D (z.drop (j+1)) u):=by show _=_;rw[J.out,U.out,Zt (by rw[O];simp)]
    go_wp2
    go_roundw
    case rel=>exact⟨j+1,by omega,by simp,R.out,aa.out,ac.out⟩
    case measure=>simp[intOf];omega
  ·have ad:j=z.length:=by omega
   subst ad;have HE:Hid (fG D z u=D):=by show _=_;rw[J.out,List.drop_length];rfl
   have HB:=Hi E;go_wp2;go_ret;exact⟨by rw[HE.out];rfl,HB.out⟩
theorem yb {mv:Value} {E:Int} (u:List UInt8) (w:World) (h:eW mv z w):
 Calls prog 80 #[.agg #[lv,Iq E,mv,.bool G],S u] w fun e w'=>e= .returned (Iq (fy z u))∧Below w.heap.size w w':=by
 obtain⟨hm,a,cap,rfl,hc⟩:=h;unfold maxLen at hm;have hb:=(ZA w.heap.size w).alloc (Zw _) (.cells #[lv,Iq E,.slice a z.length cap,.bool G] 50);have O:(w.alloc (.cells #[lv,Iq E,.slice a z.length cap,.bool G] 50)).heap[w.heap.size]?=some (.cells #[lv,Iq E,.slice a z.length cap,.bool G] 50 (0,0)):=Zy w _;have H0:=Hi (And.intro hb O);have HC:=Hi hc;go_enter func80,ntmps80;go_wp2;obtain⟨V,Y⟩:=H0.out;generalize w.alloc (.cells #[lv,Iq E,.slice a z.length cap,.bool G] 50)=wz at*
 go_loopw [10] (fun i wr=> ∃j,j≤z.length∧i= Iq j∧Hid (fy z u=fy (z.drop j) u)∧Below w.heap.size w wr∧wr.heap[w.heap.size]?=some (.cells #[lv,Iq E,.slice a z.length cap,.bool G] 50 (0,0))) (fun i _=>z.length - (intOf i).toNat)
 case atStart=>exact⟨0,ZL _,rfl,rfl,V,Y⟩
 case round=>
  obtain⟨j,hj,rfl,J,D,I⟩:=hrel;have q1:=Zz wr w.heap.size 1 _ _ _ I;simp only[aaC,aa2,aaI] at q1
  by_cases Z:j<z.length
  ·obtain⟨b,o,rfl,c0,c1,hn⟩:=HC.out j Z
   have U:=Hi (Bn z u j Z);have ab:wr.cell? ⟨b,o+j*2,none⟩=some (S (z.getD j ([],0)).1):=by rw[D.cell (p:=⟨b,o+j*2,none⟩) (Zx w _ c0)];exact c0
   have ae:wr.cell? ⟨b,o+j*2+1,none⟩=some (Iq (z.getD j ([],0)).2):=by rw[D.cell (p:=⟨b,o+j*2+1,none⟩) (Zx w _ c1)];exact c1
   have lb:=Zx wr _ ab;simp only at lb;have b0:(0:Int)≤(j:Int):=by omega
   have b1:(j:Int)<(z.length:Int):=by omega
   generalize z.getD j ([],0)=x at*;have aa:Hid (Below w.heap.size w (wr.alloc (.cells #[S x.1,Iq x.2] 110))):=D.alloc D.size _;have ac:Hid ((wr.alloc (.cells #[S x.1,Iq x.2] 110)).heap[w.heap.size]?=some (.cells #[lv,Iq E,.slice (some ⟨b,o,none⟩) z.length cap,.bool G] 50 (0,0))):=by show _=_;rw[ZE _ _ _ (be I)];exact I
   cases O:(x.1==u) with
   |true=>
    have R:Hid (fy z u=fe x.2):=by show _=_;rw[J.out,U.out,Zu O]
    have WK:=fun W=>uU x.2 W
    generalize fe x.2=kx at*;go_wp2_with fail;apply(WK _).mono;rintro e w5 ⟨rfl,rfl⟩;go_wp2;go_ret;exact⟨by rw[R.out];rfl,aa.out⟩
   |false=>
    have R:Hid (fy z u=fy (z.drop (j+1)) u):=by show _=_;rw[J.out,U.out,Zt (by rw[O];simp)]
    go_wp2
    go_roundw
    case rel=>exact⟨j+1,by omega,by simp,R.out,aa.out,ac.out⟩
    case measure=>simp[intOf];omega
  ·have ad:j=z.length:=by omega
   subst ad;have HE:Hid (fy z u=0):=by show _=_;rw[J.out,List.drop_length];rfl
   have HB:=Hi D;go_wp2;go_ret;exact⟨by rw[HE.out];rfl,HB.out⟩
theorem zP (l:List (List UInt8)) (s:List UInt8):dP l s<l.length∨l=[]:=by
 induction l with
 |nil=>exact .inr rfl
 |cons x r ih=>
  left;unfold dP
  rcases ih with ih|ih
  ·simp only[Z7]
   split
   ·omega
   ·split<;>omega
  ·subst ih;split<;>simp[dP]
theorem zQ (t:Tok):da t≤100:=by
 have h:dP dI t.text<36:=by
  rcases zP dI t.text with h|h
  ·exact h
  ·simp[dI] at h
 unfold da;split;omega;split;omega;split;omega;omega
def ll (rb gl cl:Nat) (ts:List Tok) (s:Q) (w:World) (r:Rd) (e:Ending) (w':World):Prop:=
 ∃b,e= .returned (Pq b)∧PF rb w w'∧((r.ok=true∧RR rb gl cl ts {s with i:=r.i} w'∧dJ r.L rb w' r.top b)∨(r.ok=false∧RR rb gl cl ts (gF ts {s with i:=r.i}) w'))
def Ff (rb gl cl:Nat) (ts:List Tok) (s:Q) (w:World) (e:Ending) (w':World):Prop:=
 ∃b,e= .returned (Pq b)∧PF rb w w'∧RR rb gl cl ts s w'
theorem Lq (L:List Pt) (w:World) (t:Tok) (b:Nat) (E:D≤b) (h:w.heap[b]?=some (iA t (.slice none 0 0) 0)):dJ (L++[⟨t,[]⟩]) D w L.length b:=by
 have e:(L++[(⟨t,[]⟩:Pt)]).getD L.length dh=⟨t,[]⟩:=by simp[Zs]
 exact .mk L.length b (.slice none 0 0) (fun _=>0) (by simp) E (by rw[e];exact h) (by rw[e];exact .inl ⟨rfl,rfl⟩) (by rw[e];intro j z;simp at z) (by rw[e];intro j z;simp at z)
theorem DC {s:Q} (h:RR rb gl cl ts s w) (J:iK (dc ts s.i)) (z:gR (dc ts s.i)=true) (L:List Pt):
 Calls prog 286 #[Pq rb] w (ll rb gl cl ts s w ⟨true,s.i+1,L++[⟨dc ts s.i,[]⟩],L.length⟩):=by
 rw[ui J] at z;have E:da (dc ts s.i)≠0:=fun e=>by rw[e] at z;exact absurd z (by decide)
 have D:=h.more E;have O:=jm h;have G:=pG (da (dc ts s.i)) w.drew (zQ _);rw[z] at G;have I:=wJ h.drew D;unfold mM at I;have R:=(PF.refl rb w).drew;have U:=Hi R;go_enter func286,ntmps286;go_wp2_with fail;apply O.mono;rintro e w' ⟨rfl,rfl⟩;go_wp2_with fail;apply G.mono;rintro e w' ⟨rfl,rfl⟩;go_wp2_with fail;apply I.mono;rintro e V ⟨rfl,h3,Y⟩;have Z:=Hi (U.out.trans Y);have H3:=Hi h3;go_wp2;go_ret;refine⟨V.heap.size,rfl,Z.out.alloc _,.inl ⟨rfl,H3.out.alloc _,?_⟩⟩;exact Lq L _ _ _ (abR H3.out.rlt) (Zy V _)
theorem uX {s:Q} (h:RR rb gl cl ts s w) (D:oN (da (dc ts s.i))=false):
 Calls prog 286 #[Pq rb] w fun e w'=> ∃b,e= .returned (Pq b)∧PF rb w w'∧RR rb gl cl ts (gF ts s) w':=by
 have E:=jm h;have z:=pG (da (dc ts s.i)) w.drew (zQ _);rw[D] at z;have G:=Bl h.drew;have I:=(PF.refl rb w).drew;have J:=Hi I;go_enter func286,ntmps286;go_wp2_with fail;apply E.mono;rintro e w' ⟨rfl,rfl⟩;go_wp2_with fail;apply z.mono;rintro e w' ⟨rfl,rfl⟩;go_wp2_with fail;apply G.mono;rintro e U ⟨rfl,h3,O⟩;have R:=Hi (J.out.trans O);have V:=Hi h3;go_wp2;go_ret;exact⟨U.heap.size,rfl,R.out.alloc _,V.out.alloc _⟩
theorem Gk {s:Q} (h:RR rb gl cl ts s w) (D:iK (dc ts s.i)) (z:gR (dc ts s.i)=false):
 Calls prog 286 #[Pq rb] w (ll rb gl cl ts s w ⟨false,s.i,[],0⟩):=by
 rw[ui D] at z;apply(uX h z).mono;rintro e w' ⟨b,E,G,h3⟩;exact⟨b,E,G,.inr ⟨rfl,h3⟩⟩
theorem Gl {s:Q} (z:s.bad=true) (D:s.i=ts.length - 1):gF ts s=s:=by
 unfold gF;rw[z,Zu rfl,←D];cases s;simp at z;rw[z]
theorem DD {s:Q} (h:RR rb gl cl ts s w) (D:s.bad=true) (z:s.i=ts.length - 1):
 Calls prog 286 #[Pq rb] w (Ff rb gl cl ts s w):=by
 apply(uX h (by rw[z,h.fin];decide)).mono
 rintro e w' ⟨b,E,G,h3⟩;exact⟨b,E,G,by rw[Gl D z] at h3;exact h3⟩
def mv (n rb:Nat):Value:= .func (.func n) #[Pq rb] #[]
def vI (n:Nat):Prop:= ∀(args:Array Value) (w:World),(callFunc n args).run prog w= .ok (.enter n args) w
theorem wL {s:Q} (h:RR rb gl cl ts s w) (k n m:Nat) (z:da (dc ts s.i)=k) (E:vI n) (R:Nat→World→Prop)
 (G:Calls prog n #[Pq rb] w.drew fun e w'=> ∃b,e= .returned (Pq b)∧R b w'):
 Calls prog 213 #[Pq rb,Iq k,mv n rb,mv m rb] w fun e w'=> ∃b,e= .returned (Pq b)∧R b w':=by
 have D:=jm h;rw[z] at D;unfold mv;unfold vI at E;go_enter func213,ntmps213;go_wp2_with fail;apply D.mono;rintro e w' ⟨rfl,rfl⟩;go_wp2_with fail;apply G.mono;rintro e w' ⟨b,rfl,I⟩;go_wp2;go_ret;exact⟨b,rfl,I⟩
theorem qz {s:Q} (h:RR rb gl cl ts s w) (k n m:Nat) (z:da (dc ts s.i)≠k) (G:vI m) (R:Nat→World→Prop)
 (I:Calls prog m #[Pq rb] w.drew fun e w'=> ∃b,e= .returned (Pq b)∧R b w'):
 Calls prog 213 #[Pq rb,Iq k,mv n rb,mv m rb] w fun e w'=> ∃b,e= .returned (Pq b)∧R b w':=by
 have D:=jm h;generalize da (dc ts s.i)=kd at D z;have E: ¬((kd:Int)=(k:Int)):=by omega
 have O:((kd:Int)==(k:Int))=false:=by simpa using E
 unfold mv;unfold vI at G;go_enter func213,ntmps213;go_wp2_with fail;apply D.mono;rintro e w' ⟨rfl,rfl⟩;go_wp2_with fail;apply I.mono;rintro e w' ⟨b,rfl,J⟩;go_wp2;go_ret;exact⟨b,rfl,J⟩
def Jk (w:World) (t:Tok) (D E:Nat):World:=(w.alloc (.cells #[Pq D,Pq E] 161 (0,0))).alloc (iA t (.slice (some ⟨w.heap.size,0,none⟩) 2 2) 0)
theorem Bo {s:Q} (h:RR rb gl cl ts s w) (hi:s.i+1<ts.length) (n V:Nat) (hn:vI n) (R:Nat→World→Prop)
 (HC:∀z,RR rb gl cl ts {s with i:=s.i+1} z→PF rb w z→Calls prog n #[Pq rb] z fun e w'=> ∃b,e= .returned (Pq b)∧PF rb z w'∧R b w'):
 Calls prog 266 #[Pq rb,Pq V,mv n rb] w fun e w'=> ∃b D,e= .returned (Pq (D.heap.size+1))∧R b D∧PF rb w D∧w'=Jk D (dc ts s.i) V b:=by
 have HJ:Hid (∀D b,Jk D (dc ts s.i) V b=(D.alloc (.cells #[Pq V,Pq b] 161 (0,0))).alloc (.cells #[Iq (da (dc ts s.i)),Iq (dc ts s.i).pl,Iq (dz (dc ts s.i)),S (di (dc ts s.i)),Sq D.heap.size 2 2,Iq 0] 229 (0,0))):=fun _ _=>rfl
 have HT:=wJ h hi;unfold mM at HT;unfold mv;unfold vI at hn;go_enter func266,ntmps266;go_wp2_with fail;apply HT.mono;rintro e z ⟨rfl,h1,F1⟩;generalize da (dc ts s.i)=E at*;generalize (dc ts s.i).pl=G at*;generalize dz (dc ts s.i)=I at*;generalize di (dc ts s.i)=J at*;have ad:=h1.rlt;have h2:=(h1.alloc (eR E G I J)).drew;have F2:=((F1.alloc (eR E G I J)).drew);have U:(z.alloc (eR E G I J)).drew.heap[z.heap.size]?=some (eR E G I J):=Zy z _;have Z:=HC _ h2 F2;have e1:z.heap.size≠rb:=by omega
 have aa:=be U;have O:∀w',PF rb (z.alloc (eR E G I J)).drew w'→(Cq w' z.heap.size 0 (Iq E)∧Cq w' z.heap.size 1 (Iq G)∧Cq w' z.heap.size 2 (Iq I)∧Cq w' z.heap.size 3 (S J)):=fun w' hf=>
  (iT (by rw[hf.block _ aa e1];exact U)).1
 have KF:=Hi O;have H2:=Hi h2;have ab:=Hi F2;have hS:=O _ (PF.refl _ _);unfold eR at Z KF H2 ab hS aa;go_wp2;obtain⟨x0,x1,x2,x3⟩:=hS
 show Code.wp _ _ _ _ (z.alloc (.cells #[Iq E,Iq G,Iq I,S J] 160 (0,0)))
 generalize hg:z.alloc (.cells #[Iq E,Iq G,Iq I,S J] 160 (0,0))=w2 at*;generalize z.heap.size=Y at*
 go_region_held3 (fun w'=>w'.cell? ⟨Y,0,none⟩=some (Iq E)∧w'.cell? ⟨Y,1,none⟩=some (Iq G)∧w'.cell? ⟨Y,2,none⟩=some (Iq I)∧w'.cell? ⟨Y,3,none⟩=some (S J)) (first|exact KF.out _ ac|go_keep) ((refine Z.mono ?_;rintro e D ⟨b,rfl,ac,hR⟩))
 rename_i hHeld
 go_wp2;go_ret;exact⟨b,D,rfl,hR,ab.out.trans ac,(HJ.out D b).symm⟩
theorem dJ.lt {L:List Pt} {lt:Nat} {w:World} {i b:Nat} (h:dJ L lt w i b):i<L.length:=h.ind (fun i _=>i<L.length) fun _ _ _ _ z _ _ _ _ _ _=>z
theorem dJ.grow {lt:Nat} (h:dJ L lt w i b) (z:Below w.heap.size w w'):dJ L lt w' i b:=
 h.keep fun k _ _ D _=>z.block k (be D)
theorem DE (L:List Pt) (p:Pt):(L++[p]).getD L.length dh=p:=by simp[Zs]
def sP (w:World) (t:Tok) (z:List Nat):World:=(w.alloc (.cells (z.map fun b=>Value.pointer (some ⟨b,0,none⟩)).toArray 161 (0,0))).alloc (iA t (.slice (some ⟨w.heap.size,0,none⟩) z.length z.length) 0)
theorem mQ (w:World) (t:Tok) (z:List Nat):Below w.heap.size w (sP w t z):=
 ((ZA _ _).alloc (Zw _) _).alloc (by simp) _
theorem oQ (w:World) (t:Tok) (z D:Nat):Jk w t z D=sP w t [z,D]:=rfl
theorem vJ {xs z:List Nat} {E:Nat} (V:E<w.heap.size) (G:xs.length=z.length) (J:0<z.length) (h:∀j,j<z.length→dJ L E w (xs.getD j 0) (z.getD j 0)):
 dJ (L++[⟨t,xs⟩]) E (sP w t z) L.length (w.heap.size+1):=by
 have e:=DE L ⟨t,xs⟩;have O:(sP w t z).heap[w.heap.size]?=some (.cells (z.map fun b=>Value.pointer (some ⟨b,0,none⟩)).toArray 161 (0,0)):=by
  unfold sP;rw[ZE _ _ _ (by simp)];exact Zy w _
 have R:(sP w t z).heap[w.heap.size+1]?=some (iA t (Sq w.heap.size z.length z.length) 0):=by
  have:=Zy (w.alloc (.cells (z.map fun b=>Value.pointer (some ⟨b,0,none⟩)).toArray 161 (0,0))) (iA t (Sq w.heap.size z.length z.length) 0)
  simp only[ZB] at this;exact this
 have U:(z.map fun b=>Value.pointer (some ⟨b,0,none⟩))=(List.range z.length).map fun j=>Value.pointer (some ⟨z.getD j 0,0,none⟩):=by
  apply abD
  ·simp
  ·intro j I Y
   simp at I;simp[Zs,Zv I]
 refine .mk L.length (w.heap.size+1) (Sq w.heap.size z.length z.length) (fun j=>z.getD j 0) (by simp) (by omega) (by rw[e];exact R) ?_ ?_ ?_
 ·rw[e]
  simp only[G];refine .inr ⟨J,w.heap.size,rfl,?_⟩;rw[O,U]
 ·rw[e];intro j D
  simp only[G] at D;exact(h j D).lt
 ·rw[e];intro j D
  simp only[G] at D;exact((h j D).grow (mQ w t z)).put _
theorem Jl {z:Nat} {x:Nat} (h:P g z ts i L x=some r) (D:r.ok=true) (E:z≤6):∃new,r.L=L++new:=
 (zx g z ts i L x L.length r h D (Zw _) (fun k G I=>by omega) (by omega) (.inl E)).more
def fQ (f R lv rb gl cl:Nat) (ts:List Tok):Prop:= ∀g,g≤f→ ∀(z:Q) (D:World) (L:List Pt) (G:Rd),RR rb gl cl ts z D→z.bad=false→P g lv ts z.i L 0=some G→Calls prog R #[Pq rb] D (ll rb gl cl ts z D G)
def fj (ks:List Nat):Obj:= .cells (ks.map fun(k:Nat)=>Value.int .i64 k).toArray 158 (0,0)
theorem pX {z:Nat} (h:w.heap[z]?=some (fj ks)):∀j,j<ks.length→w.cell? ⟨z,j,none⟩=some (Iq (ks.getD j 0)):=fun j D=>by
 rw[Zz w z j _ _ _ h];simp[Zs,Zv D]
def Pl (f rb gl cl:Nat) (ts:List Tok) (s:Q) (w:World) (n:Nat) (r:Rd) (v:Value) (wr:World):Prop:=
 ∃s' b,v= Pq b∧RR rb gl cl ts s' wr∧PF rb w wr∧((s'={s with i:=s'.i}∧ ∃g L x,g≤f∧P g (10+n) ts s'.i L x=some r∧dJ L rb wr x b)∨(r.ok=false∧s'=gF ts {s with i:=r.i}))
def Lr (rb:Nat) (w:World):Nat:=(intOf ((w.cell? ⟨rb,1,none⟩).getD (Iq 0))).toNat
theorem nI {s:Q} (h:RR rb gl cl ts s w):Lr rb w=s.i:=by
 unfold Lr;rw[h.cells.1.2.1];simp[intOf]
theorem jx (h:i<ts.length):dc ts i∈ts:=by
 unfold dc;rw[Zs,Zv h];exact ZV h
theorem qA {z:List Pt} {x:Nat} (h:dJ L D w x b) (E:∃new,z=L++new):dJ z D w x b:=by
 obtain⟨new,rfl⟩:=E;exact h.more (by simp) (fun k G=>by simp[Zs,aah G])
def Jm (rb gl cl:Nat) (ts:List Tok) (s':Q) (z:Rd) (O:Nat) (D:World):Prop:=(z.ok=true∧RR rb gl cl ts {s' with i:=z.i} D∧dJ z.L rb D z.top O)∨(z.ok=false∧RR rb gl cl ts (gF ts {s' with i:=z.i}) D)
theorem uk {s:Q} (h:RR rb gl cl ts s w) (hW:∀t∈ts,iK t) (J:s.bad=false) (n fn:Nat) (au:n=0∨n=1∨n=4) (hf:fQ f fn (n+1) rb gl cl ts) (ah:vI fn) (jb:Nat)
 (Z:w.heap[jb]?=some (fj (kg n))) (L:List Pt) (r:Rd) (hP:P (f+1) n ts s.i L 0=some r):
 Calls prog 246 #[Pq rb,mv fn rb,Sq jb (kg n).length (kg n).length] w (ll rb gl cl ts s w r):=by
 obtain⟨a,ai,aj⟩:=ke (by unfold dO;omega) hP
 have ak:=hf f (Zw _) s w L a h J ai;have av:jb≠rb:=fun e=>by rw[e,h.rd] at Z;simp[mO,fj] at Z
 have aw:=be Z;have H1:=Hi aj;have ar:=ah;unfold mv;unfold vI at ar;clear hP ai aj;go_enter func246,ntmps246;go_wp2_with fail;apply ak.mono;rintro e w1 ⟨b1,rfl,F1,hL⟩;have R:Pl f rb gl cl ts s w n r (Pq b1) w1:=by
  rcases H1.out with⟨D,E⟩|⟨D,rfl⟩
  ·rcases hL with⟨_,z,hc⟩|⟨hh,_⟩
   ·exact⟨_,b1,rfl,z,F1,.inl ⟨rfl,f,a.L,a.top,Zw _,E,hc⟩⟩
   ·rw[D] at hh;simp at hh
  ·rcases hL with⟨hh,_⟩|⟨_,z⟩
   ·rw[D] at hh;simp at hh
   ·exact⟨_,b1,rfl,z,F1,.inr ⟨D,rfl⟩⟩
 have ax:=Hi R;clear hL ak F1 H1 R;go_wp2;have HJ:=Hi Z;have HG:=Hi J;clear Z h J
 go_loopw [7] (fun v wr=>Pl f rb gl cl ts s w n r v wr) (fun _ wr=>ts.length - Lr rb wr)
 case atStart=>exact ax.out
 case round=>
  obtain⟨s',b,rfl,z,U,ab⟩:=hrel;have ht:=hW _ (jx z.lt);have ac:wr.drew.heap[jb]?=some (fj (kg n)):=by show wr.heap[jb]?=_;rw[U.block _ aw av];exact HJ.out
  have am:n≤4:=by omega
  have ay:(kg n).length≤100:=by rcases au with rfl|rfl|rfl<;>decide
  have HK:=jm z;have V:=kK (kg n) (da (dc ts s'.i)) jb wr.drew ay (pX ac);have G:=yG am ht
  cases I:(kg n).contains (da (dc ts s'.i)) with
  |false=>
   rw[I] at V G;have HL:Hid (ll rb gl cl ts s w r (.returned (Pq b)) wr.drew):=by
    refine⟨b,rfl,U.drew,?_⟩;rcases ab with⟨O,g,L',x,hg,E,hc⟩|⟨D,O⟩
    ·cases g with
     |zero=>rw[P] at E;simp at E
     |succ g=>
      have:=qu (by unfold dO;omega) E G
      subst this;exact .inl ⟨rfl,by rw[←O];exact z.drew,hc.keep fun k _ _ _ _=>rfl⟩
    ·exact .inr ⟨D,by rw[←O];exact z.drew⟩
   clear ab I G ht ac z U;go_wp2_with fail;apply HK.mono;rintro e w' ⟨rfl,rfl⟩;go_wp2_with fail;apply V.mono;rintro e w' ⟨rfl,rfl⟩;go_wp2;go_ret;exact HL.out
  |true=>
   rw[I] at V G;have ad:da (dc ts s'.i)≠0:=fun e=>by
    rw[e,aaa] at I;have:=pV n am 0 I;omega
   have ag:=z.more ad;rcases ab with⟨O,g,L',x,hg,E,hc⟩|⟨D,O⟩
   ·cases g with
    |zero=>rw[P] at E;simp at E
    |succ g=>
     obtain⟨bb,ae,aa⟩:=pN (by unfold dO;omega) E G
     have an:s'.bad=false:=by rw[O];exact HG.out
     have af:=Bo z.drew ag fn b ah (Jm rb gl cl ts s' bb) (fun w1 h1 F1=>by
      apply(hf g (by omega) {s' with i:=s'.i+1} w1 L' bb h1 an ae).mono
      rintro e w2 ⟨b2,h2,h3,Y⟩;exact⟨b2,h2,h3,Y⟩)
     have HH:=Hi aa;have HP:=Hi ae;have HS:=Hi O;have az:=Hi hc;have HR:=Hi z;have HF:=Hi U;unfold mv at af;clear I G ht ac z U aa ae O hc E an ad;go_wp2_with fail;apply HK.mono;rintro e w' ⟨rfl,rfl⟩;go_wp2_with fail;apply V.mono;rintro e w' ⟨rfl,rfl⟩;go_wp2_with fail;apply af.mono;rintro e w' ⟨b2,w3,rfl,hA,F3,rfl⟩;clear HK V af;have HA:=Hi hA;have ao:=Hi F3;clear hA F3;go_wp2;have hB:=mQ w3 (dc ts s'.i) [b,b2];rw[←oQ] at hB;have hF:=(HF.out.drew.trans ao.out).trans (PF.of_below hB);rcases HA.out with⟨D,h3,aA⟩|⟨D,h3⟩
     ·have Y:=h3.below hB
      have ap:=zx g (n+1) ts (s'.i+1) L' 0 L'.length bb HP.out D (Zw _) (fun k h1 h2=>by omega) (by omega) (.inl (by omega))
      have aC:=ap.fwd;refine⟨?_,by rw[nI Y,nI HR.out];simp only[];have:=Y.lt;simp only[] at this;omega⟩
      rcases HH.out with⟨no,_⟩|⟨_,⟨aD,_⟩|⟨_,E⟩⟩
      ·rw[D] at no;simp at no
      ·omega
      ·refine⟨_,_,rfl,Y,hF,.inl ⟨by rw[HS.out],g,_,_,by omega,E,?_⟩⟩
       rw[oQ];refine vJ h3.rlt rfl (by simp) fun j Z=>?_
       have aB:=qA ((az.out.pf HR.out (PF.refl rb wr).drew).pf HR.out.drew ao.out) ap.more
       match j,Z with
       |0,_=>exact aB
       |1,_=>exact aA
     ·have Y:=h3.below hB
      refine⟨?_,by rw[nI Y,nI HR.out];simp only[gF];omega⟩
      rcases HH.out with⟨_,rfl⟩|⟨aq,_⟩
      ·exact⟨_,_,rfl,Y,hF,.inr ⟨D,by rw[HS.out]⟩⟩
      ·rw[D] at aq;simp at aq
   ·exfalso
    apply ad
    have:s'.i=ts.length - 1:=by rw[O];rfl
    rw[this];exact z.fin
def sQ (U rb gl cl:Nat) (ts:List Tok):Prop:= ∀(z:Q) (D:World),RR rb gl cl ts z D→z.bad=true→z.i=ts.length - 1→Calls prog U #[Pq rb] D (Ff rb gl cl ts z D)
theorem um {s:Q} (h:RR rb gl cl ts s w) (Z:s.bad=true) (O:s.i=ts.length - 1) (R:Nat) (hf:sQ R rb gl cl ts) (aa:vI R) (ks:List Nat) (ab:ks.length≤100) (J:0∉ks) (E:Nat)
 (G:w.heap[E]?=some (fj ks)):
 Calls prog 246 #[Pq rb,mv R rb,Sq E ks.length ks.length] w (Ff rb gl cl ts s w):=by
 have z:=hf s w h Z O;have ac:E≠rb:=fun e=>by rw[e,h.rd] at G;simp[mO,fj] at G
 have ad:=be G;have U:=aa;unfold mv;unfold vI at U;have HJ:=Hi G;have HI:=Hi O;have ae:Hid (ks.contains 0=false):=by
  show _=_
  rw[aa5];intro e;rw[aaa] at e;exact J e
 go_enter func246,ntmps246;go_wp2_with fail;apply z.mono;rintro e V ⟨b1,rfl,Y,D⟩;have z:=Hi Y;have af:=Hi D;have HK:=jm D;have I:=kK ks (da (dc ts s.i)) E V.drew ab (pX (by show V.heap[E]?=_;rw[Y.block _ ad ac];exact HJ.out))
 have hz:da (dc ts s.i)=0:=by rw[HI.out];exact D.fin
 rw[hz] at HK I;rw[ae.out] at I;go_wp2
 go_loopw [7] (fun v wr=>v= Pq b1∧wr=V) (fun _ _=>0)
 case atStart=>exact⟨rfl,rfl⟩
 case round=>
  obtain⟨rfl,rfl⟩:=hrel;go_wp2_with fail;apply HK.mono;rintro e w' ⟨rfl,rfl⟩;go_wp2_with fail;apply I.mono;rintro e w' ⟨rfl,rfl⟩;go_wp2;go_ret;exact⟨b1,rfl,z.out.drew,af.out.drew⟩
theorem Jn {s:Q} (h:RR rb gl cl ts s w) (Y:s.bad=true) (O:s.i=ts.length - 1) (R:Nat) (hf:sQ R rb gl cl ts) (Z:vI R) (ks:List Nat) (aa:ks.length≤100) (J:0∉ks) (E:Nat)
 (G:w.heap[E]?=some (fj ks)):
 Calls prog 282 #[Pq rb,mv R rb,Sq E ks.length ks.length] w (Ff rb gl cl ts s w):=by
 have z:=hf s w h Y O;have ab:E≠rb:=fun e=>by rw[e,h.rd] at G;simp[mO,fj] at G
 have ac:=be G;have U:=Z;unfold mv;unfold vI at U;have HJ:=Hi G;have HI:=Hi O;have ad:Hid (ks.contains 0=false):=by
  show _=_
  rw[aa5];intro e;rw[aaa] at e;exact J e
 go_enter func282,ntmps282;go_wp2_with fail;apply z.mono;rintro e w1 ⟨b1,rfl,V,D⟩;have z:=Hi V;have ae:=Hi D;have HK:=jm D;have I:=kK ks (da (dc ts s.i)) E w1.drew aa (pX (by show w1.heap[E]?=_;rw[V.block _ ac ab];exact HJ.out))
 have hz:da (dc ts s.i)=0:=by rw[HI.out];exact D.fin
 rw[hz] at HK I;rw[ad.out] at I;go_wp2_with fail;apply HK.mono;rintro e w' ⟨rfl,rfl⟩;go_wp2_with fail;apply I.mono;rintro e w' ⟨rfl,rfl⟩;go_wp2;go_ret;exact⟨b1,rfl,z.out.drew,ae.out.drew⟩
theorem Jo {s:Q} (h:RR rb gl cl ts s w) (hW:∀t∈ts,iK t) (O:s.bad=false) (fn:Nat) (hf:fQ f fn 4 rb gl cl ts) (ag:vI fn) (jb:Nat)
 (U:w.heap[jb]?=some (fj (kg 3))) (L:List Pt) (r:Rd) (hP:P (f+1) 3 ts s.i L 0=some r):
 Calls prog 282 #[Pq rb,mv fn rb,Sq jb (kg 3).length (kg 3).length] w (ll rb gl cl ts s w r):=by
 obtain⟨a,ah,ai⟩:=ke (by unfold dO;omega) hP
 have aj:=hf f (Zw _) s w L a h O ah;have ap:jb≠rb:=fun e=>by rw[e,h.rd] at U;simp[mO,fj] at U
 have aq:=be U;have H1:=Hi ai;have an:=ag;unfold mv;unfold vI at an;have HJ:=Hi U;have HG:=Hi O;generalize aa:(kg 3).length=jl;have ar:=Hi aa;go_enter func282,ntmps282;go_wp2_with fail;apply aj.mono;rintro e V ⟨b1,rfl,F1,hL⟩;have R:∃s1:Q,RR rb gl cl ts s1 V∧((s1={s with i:=a.i}∧a.ok=true∧P f 13 ts a.i a.L a.top=some r∧dJ a.L rb V a.top b1)∨(r.ok=false∧s1=gF ts {s with i:=r.i})):=by
  rcases H1.out with⟨z,E⟩|⟨z,rfl⟩
  ·rcases hL with⟨_,D,hc⟩|⟨hh,_⟩
   ·exact⟨_,D,.inl ⟨rfl,z,E,hc⟩⟩
   ·rw[z] at hh;simp at hh
  ·rcases hL with⟨hh,_⟩|⟨_,D⟩
   ·rw[z] at hh;simp at hh
   ·exact⟨_,D,.inr ⟨z,rfl⟩⟩
 obtain⟨s',D,R⟩:=R;have ht:=hW _ (jx D.lt);have ab:V.drew.heap[jb]?=some (fj (kg 3)):=by show V.heap[jb]?=_;rw[F1.block _ aq ap];exact HJ.out
 have HK:=jm D;have G:=kK (kg 3) (da (dc ts s'.i)) jb V.drew (by decide) (pX ab)
 have I:=yG (n:=3) (by omega) ht
 rw[ar.out] at G;have HF:=Hi F1
 cases J:(kg 3).contains (da (dc ts s'.i)) with
 |false=>
  rw[J] at G I;have HL:Hid (ll rb gl cl ts s w r (.returned (Pq b1)) V.drew):=by
   refine⟨b1,rfl,HF.out.drew,?_⟩;rcases R with⟨Y,_,E,hc⟩|⟨z,Y⟩
   ·subst Y
    cases f with
    |zero=>rw[P] at E;simp at E
    |succ g=>
     have:=qu (n:=3) (by unfold dO;omega) E I
     subst this;exact .inl ⟨rfl,D.drew,hc.keep fun k _ _ _ _=>rfl⟩
   ·exact .inr ⟨z,by rw[←Y];exact D.drew⟩
  go_wp2_with fail;apply HK.mono;rintro e w' ⟨rfl,rfl⟩;go_wp2_with fail;apply G.mono;rintro e w' ⟨rfl,rfl⟩;go_wp2;go_ret;exact HL.out
 |true=>
  rw[J] at G I;have ac:da (dc ts s'.i)≠0:=fun e=>by
   rw[e,aaa] at J;have:=pV 3 (by omega) 0 J;omega
  have af:=D.more ac;rcases R with⟨Y,_,E,hc⟩|⟨z,Y⟩
  ·cases f with
   |zero=>rw[P] at E;simp at E
   |succ g=>
    subst Y;obtain⟨bb,ad,Z⟩:=pN (n:=3) (by unfold dO;omega) E I
    have ae:=Bo D.drew af fn b1 ag (Jm rb gl cl ts {s with i:=a.i} bb) (fun w2 h1 F1=>by
     apply(hf g (by omega) {s with i:=a.i+1} w2 a.L bb h1 HG.out ad).mono
     rintro e w2 ⟨b2,h2,h3,h4⟩;exact⟨b2,h2,h3,h4⟩)
    have HH:=Hi Z;have HP:=Hi ad;have au:=Hi hc;have HR:=Hi D;unfold mv at ae;go_wp2_with fail;apply HK.mono;rintro e w' ⟨rfl,rfl⟩;go_wp2_with fail;apply G.mono;rintro e w' ⟨rfl,rfl⟩;go_wp2_with fail;apply ae.mono;rintro e w' ⟨b2,w3,rfl,hA,F3,rfl⟩;have HA:=Hi hA;have ak:=Hi F3;go_wp2;go_ret;have hB:=mQ w3 (dc ts a.i) [b1,b2];rw[←oQ] at hB;refine⟨_,rfl,(HF.out.drew.trans ak.out).trans (PF.of_below hB),?_⟩;rcases HA.out with⟨z,h3,av⟩|⟨z,h3⟩
    ·have h4:=h3.below hB
     rcases HH.out with⟨no,_⟩|⟨_,⟨_,ao⟩|⟨no,_⟩⟩
     ·rw[z] at no;simp at no
     ·subst ao
      refine .inl ⟨rfl,h4,?_⟩;rw[oQ];refine vJ h3.rlt rfl (by simp) fun j U=>?_
      have aw:=qA ((au.out.pf HR.out (PF.refl rb V).drew).pf HR.out.drew ak.out) (Jl HP.out z (by omega))
      match j,U with
      |0,_=>exact aw
      |1,_=>exact av
     ·exact absurd rfl no
    ·have h4:=h3.below hB
     rcases HH.out with⟨_,rfl⟩|⟨am,_⟩
     ·exact .inr ⟨z,h4⟩
     ·rw[z] at am;simp at am
  ·exfalso
   apply ac
   have:s'.i=ts.length - 1:=by rw[Y];rfl
   rw[this];exact D.fin
theorem wM:vI 286:=enters_of func286 (by kernel_rfl) rfl
theorem yc:vI 285:=enters_of func285 (by kernel_rfl) rfl
theorem Fg:vI 284:=enters_of func284 (by kernel_rfl) rfl
theorem Fh:vI 283:=enters_of func283 (by kernel_rfl) rfl
theorem sR:vI 279:=enters_of func279 (by kernel_rfl) rfl
theorem zR:vI 278:=enters_of func278 (by kernel_rfl) rfl
theorem Bp:vI 267:=enters_of func267 (by kernel_rfl) rfl
theorem Bq:vI 247:=enters_of func247 (by kernel_rfl) rfl
theorem wN:vI 215:=enters_of func215 (by kernel_rfl) rfl
theorem Br:vI 214:=enters_of func214 (by kernel_rfl) rfl
theorem mR {s:Q} (h:RR rb gl cl ts s w) (z:s.i=ts.length - 1):da (dc ts s.i)=0:=by rw[z];exact h.fin
theorem Ls:sQ 284 rb gl cl ts:=by
 intro s w h I z;have D:=qz h 3 285 286 (by rw[mR h z];omega) wM (fun b w'=>PF rb w w'∧RR rb gl cl ts s w') ((DD h.drew I z).mono fun e w' ⟨b,E,G,h3⟩=>⟨b,E,(PF.refl rb w).drew.trans G,h3⟩)
 unfold mv at D;go_enter func284,ntmps284;go_wp2_with fail;apply D.mono;rintro e w' ⟨b,rfl,E,G⟩;go_wp2;go_ret;exact⟨b,rfl,E,G⟩
theorem Lt:sQ 283 rb gl cl ts:=by
 intro s w h E G;have z:(w.alloc (fj [6,7])).heap[w.heap.size]?=some (fj [6,7]):=Zy w _;have D:=um (h.alloc (fj [6,7])) E G 284 Ls Fg [6,7] (by decide) (by decide) w.heap.size z
 unfold mv at D;have I:Hid (PF rb w (w.alloc (fj [6,7]))):=(PF.refl rb w).alloc _;go_enter func283,ntmps283;go_wp2_with fail;apply D.mono;rintro e w' ⟨b,rfl,J,O⟩;go_wp2;go_ret;exact⟨b,rfl,I.out.trans J,O⟩
theorem zS:sQ 279 rb gl cl ts:=by
 intro s w h E G;have z:(w.alloc (fj [8,10,9])).heap[w.heap.size]?=some (fj [8,10,9]):=Zy w _;have D:=Jn (h.alloc (fj [8,10,9])) E G 283 Lt Fh [8,10,9] (by decide) (by decide) w.heap.size z
 unfold mv at D;have I:Hid (PF rb w (w.alloc (fj [8,10,9]))):=(PF.refl rb w).alloc _;go_enter func279,ntmps279;go_wp2_with fail;apply D.mono;rintro e w' ⟨b,rfl,J,O⟩;go_wp2;go_ret;exact⟨b,rfl,I.out.trans J,O⟩
theorem Jp:sQ 267 rb gl cl ts:=by
 intro s w h I z;have D:=qz h 19 278 279 (by rw[mR h z];omega) sR (fun b w'=>PF rb w w'∧RR rb gl cl ts s w') ((zS s _ h.drew I z).mono fun e w' ⟨b,E,G,h3⟩=>⟨b,E,(PF.refl rb w).drew.trans G,h3⟩)
 unfold mv at D;go_enter func267,ntmps267;go_wp2_with fail;apply D.mono;rintro e w' ⟨b,rfl,E,G⟩;go_wp2;go_ret;exact⟨b,rfl,E,G⟩
theorem Jq:sQ 247 rb gl cl ts:=by
 intro s w h E G;have z:(w.alloc (fj [18])).heap[w.heap.size]?=some (fj [18]):=Zy w _;have D:=um (h.alloc (fj [18])) E G 267 Jp Bp [18] (by decide) (by decide) w.heap.size z
 unfold mv at D;have I:Hid (PF rb w (w.alloc (fj [18]))):=(PF.refl rb w).alloc _;go_enter func247,ntmps247;go_wp2_with fail;apply D.mono;rintro e w' ⟨b,rfl,J,O⟩;go_wp2;go_ret;exact⟨b,rfl,I.out.trans J,O⟩
theorem DF:sQ 215 rb gl cl ts:=by
 intro s w h E G;have z:(w.alloc (fj [17])).heap[w.heap.size]?=some (fj [17]):=Zy w _;have D:=um (h.alloc (fj [17])) E G 247 Jq Bq [17] (by decide) (by decide) w.heap.size z
 unfold mv at D;have I:Hid (PF rb w (w.alloc (fj [17]))):=(PF.refl rb w).alloc _;go_enter func215,ntmps215;go_wp2_with fail;apply D.mono;rintro e w' ⟨b,rfl,J,O⟩;go_wp2;go_ret;exact⟨b,rfl,I.out.trans J,O⟩
theorem rE:sQ 152 rb gl cl ts:=by
 intro s w h I z;have D:=qz h 14 214 215 (by rw[mR h z];omega) wN (fun b w'=>PF rb w w'∧RR rb gl cl ts s w') ((DF s _ h.drew I z).mono fun e w' ⟨b,E,G,h3⟩=>⟨b,E,(PF.refl rb w).drew.trans G,h3⟩)
 unfold mv at D;go_enter func152,ntmps152;go_wp2_with fail;apply D.mono;rintro e w' ⟨b,rfl,E,G⟩;go_wp2;go_ret;exact⟨b,rfl,E,G⟩
theorem mS {s:Q} (h:RR rb gl cl ts s w) (ks:List Nat) (O:ks.length≤100) (R:0∉ks):
 Calls prog 151 #[Pq rb,Sq w.heap.size ks.length ks.length] (w.alloc (fj ks)) fun e w'=>e= .returned (pU ts s ks)∧RR rb gl cl ts (od ts s ks) w'∧PF rb w w':=
 (Je (h.alloc (fj ks)) ks w.heap.size O R (pX (Zy w _))).mono fun e w' ⟨U,V,h3⟩=>⟨U,V,((PF.refl rb w).alloc _).trans h3⟩
theorem mF {s:Q} (h:ks.contains (da (dc ts s.i))=true):od ts s ks={s with i:=s.i+1}:=by unfold od;rw[Zu h]
theorem oh {s:Q} (h:ks.contains (da (dc ts s.i))=false):od ts s ks=gF ts s:=by unfold od;rw[h];rfl
theorem pY (ts:List Tok) (s:Q):gF ts (gF ts s)=gF ts s:=by unfold gF;simp
theorem gn (k x:Nat):[k].contains x=decide (x=k):=by
 rw[aaH,aaa];simp
theorem yd {s:Q} (hf:fQ f 152 6 rb gl cl ts) (h:RR rb gl cl ts s w) (hW:∀t∈ts,iK t) (E:s.bad=false) (hk:da (dc ts s.i)=3) (hg:g≤f) (V:P g 6 ts (s.i+1) L 0=some a)
 (J:(a.ok=true∧fX (dc ts a.i) [41]=true∧r={a with i:=a.i+1})∨(¬(a.ok=true∧fX (dc ts a.i) [41]=true)∧r.ok=false∧r.i=a.i)):
 Calls prog 285 #[Pq rb] w (ll rb gl cl ts s w r):=by
 have O:=mS h [3] (by decide) (by decide)
 rw[mF (by rw[gn,hk];rfl)] at O
 have HR:=Hi J;have HP:=Hi V;have HG:=Hi E;generalize pU ts s [3]=wv at*;go_enter func285,ntmps285;go_wp2_with fail;apply O.mono;rintro e w1 ⟨rfl,h1,F1⟩;go_wp2_with fail;apply(hf g hg _ w1 L a h1 HG.out HP.out).mono;rintro e w2 ⟨b,rfl,F2,hL⟩;have G:∃D,RR rb gl cl ts D w2∧((a.ok=true∧D={s with i:=a.i}∧dJ a.L rb w2 a.top b)∨(a.ok=false∧D=gF ts {s with i:=a.i})):=by
  rcases hL with⟨z,J,U⟩|⟨z,J⟩
  ·exact⟨_,J,.inl ⟨z,rfl,U⟩⟩
  ·exact⟨_,J,.inr ⟨z,rfl⟩⟩
 obtain⟨D,h2,G⟩:=G;have Y:=mS h2 [4] (by decide) (by decide)
 have hQ:Hid (od ts D [4]=od ts D [4]):=rfl;have aa:=Hi (F1.trans F2);have ab:=Hi G;have H2:=Hi h2;generalize pU ts D [4]=ae at*;go_wp2_with fail;apply Y.mono;rintro e w3 ⟨rfl,h3,F3⟩;go_wp2;go_ret;refine⟨b,rfl,aa.out.trans F3,?_⟩;have ht:=hW _ (jx H2.out.lt);have I:=sO ht (x:=[41]) (by decide)
 rw[show kn [41]=4 from by decide] at I
 rcases ab.out with⟨z,rfl,U⟩|⟨z,rfl⟩
 ·simp only[] at I h3 U ht
  rcases HR.out with⟨_,hw,rfl⟩|⟨ac,R,ri⟩
  ·rw[mF (by rw[gn];simpa using I.1 hw)] at h3
   exact .inl ⟨z,h3,U.pf H2.out F3⟩
  ·have ad: ¬fX (dc ts a.i) [41]=true:=fun e=>ac ⟨z,e⟩
   rw[oh (by rw[gn];simpa using fun e=>ad (I.2 e))] at h3
   exact .inr ⟨R,by rw[ri];exact h3⟩
 ·rcases HR.out with⟨Z,_⟩|⟨_,R,ri⟩
  ·rw[z] at Z;simp at Z
  ·rw[oh (by rw[gn,mR H2.out rfl];rfl),pY] at h3
   exact .inr ⟨R,by rw[ri];exact h3⟩
theorem ye {s:Q} (h:RR rb gl cl ts s w) (hk:da (dc ts s.i)=19) (R:Nat→World→Prop)
 (HC:∀z,RR rb gl cl ts {s with i:=s.i+1} z→PF rb w z→Calls prog 267 #[Pq rb] z fun e w'=> ∃b,e= .returned (Pq b)∧PF rb z w'∧R b w'):
 Calls prog 278 #[Pq rb] w fun e w'=> ∃b D,e= .returned (Pq (D.heap.size+1))∧R b D∧PF rb w D∧w'=sP D (dc ts s.i) [b]:=by
 have HJ:Hid (∀D b,sP D (dc ts s.i) [b]=(D.alloc (.cells #[Pq b] 161 (0,0))).alloc (.cells #[Iq (da (dc ts s.i)),Iq (dc ts s.i).pl,Iq (dz (dc ts s.i)),S (di (dc ts s.i)),Sq D.heap.size 1 1,Iq 0] 229 (0,0))):=fun _ _=>rfl
 have U:=mS h [19] (by decide) (by decide)
 have V:[19].contains (da (dc ts s.i))=true:=by rw[gn,hk];rfl
 rw[mF V] at U;unfold pU at U;rw[Zu V] at U;unfold mM at U;clear V hk;go_enter func278,ntmps278;go_wp2_with fail;apply U.mono;rintro e z ⟨rfl,h1,F1⟩;clear U;generalize da (dc ts s.i)=E at*;generalize (dc ts s.i).pl=G at*;generalize dz (dc ts s.i)=I at*;generalize di (dc ts s.i)=J at*;have ae:=h1.rlt;have h2:=(h1.alloc (eR E G I J)).drew;have F2:=((F1.alloc (eR E G I J)).drew);have Y:(z.alloc (eR E G I J)).drew.heap[z.heap.size]?=some (eR E G I J):=Zy z _;have aa:=HC _ h2 F2;have e1:z.heap.size≠rb:=by omega
 have ab:=be Y;have O:∀w',PF rb (z.alloc (eR E G I J)).drew w'→(Cq w' z.heap.size 0 (Iq E)∧Cq w' z.heap.size 1 (Iq G)∧Cq w' z.heap.size 2 (Iq I)∧Cq w' z.heap.size 3 (S J)):=fun w' hf=>
  (iT (by rw[hf.block _ ab e1];exact Y)).1
 have KF:=Hi O;have H2:=Hi h2;have ac:=Hi F2;have hS:=O _ (PF.refl _ _);clear HC h1 F1 h2 F2 Y O h;unfold eR at aa KF H2 ac hS ab;go_wp2;obtain⟨x0,x1,x2,x3⟩:=hS
 show Code.wp _ _ _ _ (z.alloc (.cells #[Iq E,Iq G,Iq I,S J] 160 (0,0)))
 generalize hg:z.alloc (.cells #[Iq E,Iq G,Iq I,S J] 160 (0,0))=w2 at*;generalize z.heap.size=Z at*;clear hg ae
 go_region_held3 (fun w'=>w'.cell? ⟨Z,0,none⟩=some (Iq E)∧w'.cell? ⟨Z,1,none⟩=some (Iq G)∧w'.cell? ⟨Z,2,none⟩=some (Iq I)∧w'.cell? ⟨Z,3,none⟩=some (S J)) (first|exact KF.out _ ad|go_keep) ((refine aa.mono ?_;rintro e D ⟨b,rfl,ad,hR⟩))
 rename_i hHeld
 clear hHeld;go_wp2;go_ret;exact⟨b,D,rfl,hR,ac.out.trans ad,(HJ.out D b).symm⟩
def rF (rb gl cl:Nat) (ts:List Tok) (s:Q) (r:Rd) (b:Nat) (w':World):Prop:=(r.ok=true∧RR rb gl cl ts {s with i:=r.i} w'∧dJ r.L rb w' r.top b)∨(r.ok=false∧RR rb gl cl ts (gF ts {s with i:=r.i}) w')
def Pm (ts:List Tok) (s:Q) (f:Nat) (c a:Rd) (D:Q):Prop:=(D={s with i:=a.i+1}∧a.ok=true∧P f 6 ts (a.i+1) a.L 0=some c)∨(c.ok=false∧D=gF ts {s with i:=c.i})
theorem yI {s:Q} {c:Rd} (h:rF rb gl cl ts s a b w) (hW:∀t∈ts,iK t) (z:Nx f ts a c x) (J:x∈dI.drop 3):
 ∃O,RR rb gl cl ts O w∧Pm ts s f c a (od ts O [kn x]):=by
 unfold Nx at z;rcases h with⟨G,D,V⟩|⟨G,D⟩
 ·refine⟨_,D,?_⟩
  have U:=hW _ (jx D.lt);have E:=sO U J;simp only[] at E
  by_cases I:fX (dc ts a.i) x=true
  ·rw[Zu ⟨G,I⟩] at z
   exact .inl ⟨mF (by rw[gn];simpa using E.1 I),G,z⟩
  ·rw[Zt (fun e=>I e.2)] at z
   exact .inr ⟨z.1,by rw[z.2];exact oh (by rw[gn];simpa using fun e=>I (E.2 e))⟩
 ·rw[Zt (fun e=>by rw[G] at e;simp at e)] at z
  refine⟨_,D,.inr ⟨z.1,?_⟩⟩;have:=oe x J;have R: ¬(0=kn x):=by unfold kn;omega
  rw[oh (by rw[gn,mR D rfl];simpa using R),pY,z.2]
theorem yJ {s D:Q} {c:Rd} (E:fQ f 152 6 rb gl cl ts) (z:s.bad=false) (h:RR rb gl cl ts D w) (G:Pm ts s f c a D):
 Calls prog 152 #[Pq rb] w fun e w'=> ∃b,e= .returned (Pq b)∧PF rb w w'∧rF rb gl cl ts s c b w':=by
 rcases G with⟨rfl,_,I⟩|⟨J,rfl⟩
 ·exact E f (Zw _) {s with i:=a.i+1} w a.L c h z I
 ·refine(rE _ w h rfl rfl).mono ?_
  rintro e w' ⟨b,O,R,h3⟩;exact⟨b,O,R,.inr ⟨J,h3⟩⟩
theorem Bs {s:Q} (hf:fQ f 152 6 rb gl cl ts) (h:RR rb gl cl ts s w) (hW:∀t∈ts,iK t) (aa:s.bad=false) (hk:da (dc ts s.i)=14) {b c:Rd} (an:P f 6 ts (s.i+1) L 0=some a)
 (ao:Nx f ts a b iQ) (ap:Nx f ts b c iR) (aq:r.ok=c.ok) (ar:r.i=c.i) (au:c.ok=true→a.ok=true∧b.ok=true∧r=put c (dc ts s.i) [a.top,b.top,c.top]):
 Calls prog 214 #[Pq rb] w (ll rb gl cl ts s w r):=by
 have HJ:Hid (∀Y b1 b2 b3,sP Y (dc ts s.i) [b1,b2,b3]=(Y.alloc (.cells #[Pq b1,Pq b2,Pq b3] 161 (0,0))).alloc (.cells #[Iq (da (dc ts s.i)),Iq (dc ts s.i).pl,Iq (dz (dc ts s.i)),S (di (dc ts s.i)),Sq Y.heap.size 3 3,Iq 0] 229 (0,0))):=fun _ _ _ _=>rfl
 have Z:=mS h [14] (by decide) (by decide)
 have ad:[14].contains (da (dc ts s.i))=true:=by rw[gn,hk];rfl
 rw[mF ad] at Z;unfold pU at Z;rw[Zu ad] at Z;unfold mM at Z;have HG:=Hi aa;have aI:=Hi an;have av:=Hi ao;have ae:=Hi ap;have aJ:=Hi aq;have aK:=Hi ar;have aw:=Hi au;have HW:=Hi hW;generalize aL:dc ts s.i=t0 at HJ Z aw;generalize aM:da t0=D at*;generalize aN:t0.pl=E at*;generalize aO:dz t0=G at*;generalize aP:di t0=I at*;go_enter func214,ntmps214;go_wp2_with fail;apply Z.mono;rintro e J ⟨rfl,h1,F1⟩;have a0:=h1.rlt;have h2:=h1.alloc (eR D E G I);have F2:=F1.alloc (eR D E G I);have ab:(J.alloc (eR D E G I)).heap[J.heap.size]?=some (eR D E G I):=Zy J _;have e1:J.heap.size≠rb:=by omega
 unfold eR at h2 F2 ab;go_wp2_with fail
 show Calls _ _ _ (J.alloc (.cells #[Iq D,Iq E,Iq G,S I] 160 (0,0))) _
 have ax:=be ab;generalize J.alloc (.cells #[Iq D,Iq E,Iq G,S I] 160 (0,0))=w2 at*;generalize J.heap.size=O at*;apply(hf f (Zw _) {s with i:=s.i+1} w2 L a h2 HG.out aI.out).mono;rintro e Y ⟨ba,rfl,F3,V⟩;have V:=V;obtain⟨s3,h3,af⟩:=yI V HW.out av.out (by decide)
 rw[show kn iQ=15 from by decide] at af
 have ay:=mS h3 [15] (by decide) (by decide)
 have aQ:=Hi V;have aR:=Hi af;generalize pU ts s3 [15]=a8 at*;go_wp2_with fail;apply ay.mono;rintro e w4 ⟨rfl,h4,F4⟩;go_wp2_with fail;apply(yJ hf HG.out h4 aR.out).mono;rintro e w5 ⟨bb,rfl,F5,ag⟩;obtain⟨s5,h5,ah⟩:=yI ag HW.out ae.out (by decide)
 rw[show kn iR=16 from by decide] at ah
 have az:=mS h5 [16] (by decide) (by decide)
 have aS:=Hi ag;have aT:=Hi ah;have ai:=F4.trans F5;generalize pU ts s5 [16]=a9 at*;go_wp2_with fail;apply az.mono;rintro e w6 ⟨rfl,h6,F6⟩;have aA:=yJ hf HG.out h6.drew aT.out;have aj:=((F3.trans ai).trans F6).drew;have aB:=F6.drew;have aC:=(ai.trans F6).drew;have ak:w6.drew.heap[O]?=some (.cells #[Iq D,Iq E,Iq G,S I] 160 (0,0)):=by rw[aj.block _ ax e1];exact ab
 have aU:=be ak;have R:∀w',PF rb w6.drew w'→(Cq w' O 0 (Iq D)∧Cq w' O 1 (Iq E)∧Cq w' O 2 (Iq G)∧Cq w' O 3 (S I)):=fun w' hf=>
  (iT (by rw[hf.block _ aU e1];exact ak)).1
 have KF:=Hi R;have hS:=R _ (PF.refl _ _);obtain⟨x0,x1,x2,x3⟩:=hS;have aF:=Hi (F2.trans aj);have aG:=Hi aC;have aH:=Hi aB;go_wp2_with fail
 go_region_held3 (fun w'=>w'.cell? ⟨O,0,none⟩=some (Iq D)∧w'.cell? ⟨O,1,none⟩=some (Iq E)∧w'.cell? ⟨O,2,none⟩=some (Iq G)∧w'.cell? ⟨O,3,none⟩=some (S I)) (first|exact KF.out _ ac|go_keep) ((refine aA.mono ?_;rintro e w7 ⟨bc,rfl,ac,aD⟩))
 rename_i hHeld
 have aV:=Hi aD;go_wp2;go_ret;have hE:=HJ.out w7 ba bb bc;have hB:=mQ w7 t0 [ba,bb,bc];have am:=(aF.out.trans ac).trans (PF.of_below hB);rw[hE] at hB am;refine⟨w7.heap.size+1,rfl,am,?_⟩;have z:∀{p q:Rd} {x:List UInt8},Nx f ts p q x→q.ok=true→ ∃new,q.L=p.L++new:=fun{p q x} hN U=>by
  unfold Nx at hN
  by_cases hc:p.ok=true∧fX (dc ts p.i) x=true
  ·rw[Zu hc] at hN;exact Jl hN U (by omega)
  ·rw[Zt hc] at hN;rw[hN.1] at U;simp at U
 rcases aV.out with⟨U,h7,aW⟩|⟨U,h7⟩
 ·obtain⟨aX,aE,rfl⟩:=aw.out U
  refine .inl ⟨rfl,h7.below hB,?_⟩;rw[←hE];rcases aQ.out with⟨_,ha,aY⟩|⟨no,_⟩
  ·rcases aS.out with⟨_,hb,aZ⟩|⟨no,_⟩
   ·refine vJ h7.rlt rfl (by simp) fun j hj=>?_
    match j,hj with
    |0,_=>exact qA (qA (aY.pf ha (aG.out.trans ac)) (z av.out aE)) (z ae.out U)
    |1,_=>exact qA (aZ.pf hb (aH.out.trans ac)) (z ae.out U)
    |2,_=>exact aW
   ·rw[aE] at no;simp at no
  ·rw[aX] at no;simp at no
 ·exact .inr ⟨by rw[aJ.out];exact U,by rw[aK.out];exact h7.below hB⟩
theorem Jr {s:Q} (G:fQ f 284 5 rb gl cl ts) (hW:∀t∈ts,iK t) (h:RR rb gl cl ts s w) (z:s.bad=false) (I:P (f+1) 4 ts s.i L 0=some r):
 Calls prog 283 #[Pq rb] w (ll rb gl cl ts s w r):=by
 have D:(w.alloc (fj [6,7])).heap[w.heap.size]?=some (fj [6,7]):=Zy w _;have E:=uk (h.alloc (fj [6,7])) hW z 4 284 (by omega) G Fg w.heap.size D L r I
 unfold mv at E;have J:Hid (PF rb w (w.alloc (fj [6,7]))):=(PF.refl rb w).alloc _;go_enter func283,ntmps283;go_wp2_with fail;apply E.mono;rintro e w' ⟨b,rfl,O,R⟩;go_wp2;go_ret;exact⟨b,rfl,J.out.trans O,R⟩
theorem yg {s:Q} (G:fQ f 283 4 rb gl cl ts) (hW:∀t∈ts,iK t) (h:RR rb gl cl ts s w) (z:s.bad=false) (I:P (f+1) 3 ts s.i L 0=some r):
 Calls prog 279 #[Pq rb] w (ll rb gl cl ts s w r):=by
 have D:(w.alloc (fj [8,10,9])).heap[w.heap.size]?=some (fj [8,10,9]):=Zy w _;have E:=Jo (h.alloc (fj [8,10,9])) hW z 283 G Fh w.heap.size D L r I;unfold mv at E;have J:Hid (PF rb w (w.alloc (fj [8,10,9]))):=(PF.refl rb w).alloc _;go_enter func279,ntmps279;go_wp2_with fail;apply E.mono;rintro e w' ⟨b,rfl,O,R⟩;go_wp2;go_ret;exact⟨b,rfl,J.out.trans O,R⟩
theorem Gm {s:Q} (G:fQ f 267 2 rb gl cl ts) (hW:∀t∈ts,iK t) (h:RR rb gl cl ts s w) (z:s.bad=false) (I:P (f+1) 1 ts s.i L 0=some r):
 Calls prog 247 #[Pq rb] w (ll rb gl cl ts s w r):=by
 have D:(w.alloc (fj [18])).heap[w.heap.size]?=some (fj [18]):=Zy w _;have E:=uk (h.alloc (fj [18])) hW z 1 267 (by omega) G Bp w.heap.size D L r I
 unfold mv at E;have J:Hid (PF rb w (w.alloc (fj [18]))):=(PF.refl rb w).alloc _;go_enter func247,ntmps247;go_wp2_with fail;apply E.mono;rintro e w' ⟨b,rfl,O,R⟩;go_wp2;go_ret;exact⟨b,rfl,J.out.trans O,R⟩
theorem Bt {s:Q} (G:fQ f 247 1 rb gl cl ts) (hW:∀t∈ts,iK t) (h:RR rb gl cl ts s w) (z:s.bad=false) (I:P (f+1) 0 ts s.i L 0=some r):
 Calls prog 215 #[Pq rb] w (ll rb gl cl ts s w r):=by
 have D:(w.alloc (fj [17])).heap[w.heap.size]?=some (fj [17]):=Zy w _;have E:=uk (h.alloc (fj [17])) hW z 0 247 (by omega) G Bq w.heap.size D L r I
 unfold mv at E;have J:Hid (PF rb w (w.alloc (fj [17]))):=(PF.refl rb w).alloc _;go_enter func215,ntmps215;go_wp2_with fail;apply E.mono;rintro e w' ⟨b,rfl,O,R⟩;go_wp2;go_ret;exact⟨b,rfl,J.out.trans O,R⟩
theorem Bu (z:Calls prog 213 #[Pq rb,Iq 3,mv 285 rb,mv 286 rb] w fun e w'=> ∃b,e= .returned (Pq b)∧R b w'):
 Calls prog 284 #[Pq rb] w fun e w'=> ∃b,e= .returned (Pq b)∧R b w':=by
 unfold mv at z;go_enter func284,ntmps284;go_wp2_with fail;apply z.mono;rintro e w' ⟨b,rfl,D⟩;go_wp2;go_ret;exact⟨b,rfl,D⟩
theorem yK (z:Calls prog 213 #[Pq rb,Iq 19,mv 278 rb,mv 279 rb] w fun e w'=> ∃b,e= .returned (Pq b)∧R b w'):
 Calls prog 267 #[Pq rb] w fun e w'=> ∃b,e= .returned (Pq b)∧R b w':=by
 unfold mv at z;go_enter func267,ntmps267;go_wp2_with fail;apply z.mono;rintro e w' ⟨b,rfl,D⟩;go_wp2;go_ret;exact⟨b,rfl,D⟩
theorem pZ (z:Calls prog 213 #[Pq rb,Iq 14,mv 214 rb,mv 215 rb] w fun e w'=> ∃b,e= .returned (Pq b)∧R b w'):
 Calls prog 152 #[Pq rb] w fun e w'=> ∃b,e= .returned (Pq b)∧R b w':=by
 unfold mv at z;go_enter func152,ntmps152;go_wp2_with fail;apply z.mono;rintro e w' ⟨b,rfl,D⟩;go_wp2;go_ret;exact⟨b,rfl,D⟩
theorem yL {s:Q} {e:Ending} (h:ll rb gl cl ts s w.drew r e w'):∃b,e= .returned (Pq b)∧(PF rb w w'∧rF rb gl cl ts s r b w'):=by
 obtain⟨b,z,D,h3⟩:=h;exact⟨b,z,(PF.refl rb w).drew.trans D,h3⟩
theorem zT {ts:List Tok} (z:iK t) (D:x∈dI.drop 3) (E:kn x=k) (h:fX t x=true):da t=k:=by rw[←E];exact(sO z D).1 h
theorem uo {ts:List Tok} (z:iK t) (D:x∈dI.drop 3) (E:kn x=k) (h: ¬fX t x=true):da t≠k:=by rw[←E];exact fun e=>h ((sO z D).2 e)
theorem Gn {s:Q} (U:fQ f 152 6 rb gl cl ts) (hW:∀t∈ts,iK t) (h:RR rb gl cl ts s w) (D:s.bad=false) (O:P (f+1) 5 ts s.i L 0=some r):
 Calls prog 284 #[Pq rb] w (ll rb gl cl ts s w r):=by
 have E:=hW _ (jx h.lt)
 by_cases G:fX (dc ts s.i) [40]=true
 ·have I:=zT (ts:=ts) E (x:=[40]) (by decide) (k:=3) (by decide) G
  obtain⟨a,R,V⟩:=nW O G;exact Bu (wL h 3 _ _ I yc (fun b w'=>PF rb w w'∧rF rb gl cl ts s r b w') ((yd U h.drew hW D I (Zw _) R V).mono fun e w' z=>yL z))
 ·have I:=uo (ts:=ts) E (x:=[40]) (by decide) (k:=3) (by decide) G
  refine Bu (qz h 3 _ _ I wM (fun b w'=>PF rb w w'∧rF rb gl cl ts s r b w') ?_)
  rcases mD O G with⟨J,rfl⟩|⟨J,rfl⟩
  ·exact(DC h.drew E J L).mono fun e w' z=>yL z
  ·exact(Gk h.drew E J).mono fun e w' z=>yL z
theorem Gp {s:Q} (Z:fQ f 267 2 rb gl cl ts) (O:fQ f 279 3 rb gl cl ts) (hW:∀t∈ts,iK t) (h:RR rb gl cl ts s w) (z:s.bad=false) (R:P (f+1) 2 ts s.i L 0=some r):
 Calls prog 267 #[Pq rb] w (ll rb gl cl ts s w r):=by
 have U:=hW _ (jx h.lt)
 by_cases D:fX (dc ts s.i) iq=true
 ·have E:=zT (ts:=ts) U (x:=iq) (by decide) (k:=19) (by decide) D
  obtain⟨a,V,Y,hi,G⟩:=qt R D;refine yK (wL h 19 _ _ E zR (fun b w'=>PF rb w w'∧rF rb gl cl ts s r b w') ?_)
  apply(ye h.drew E (rF rb gl cl ts s a) (fun w1 h1 F1=>Z f (Zw _) {s with i:=s.i+1} w1 L a h1 z V)).mono
  rintro e w' ⟨b,w3,rfl,hL,F3,rfl⟩;have I:=mQ w3 (dc ts s.i) [b];refine⟨_,rfl,((PF.refl rb w).drew.trans F3).trans (PF.of_below I),?_⟩;rcases hL with⟨J,h3,hc⟩|⟨J,h3⟩
  ·have e:=G J
   subst e;refine .inl ⟨rfl,h3.below I,?_⟩;refine vJ h3.rlt rfl (by simp) fun j hj=>?_
   match j,hj with
   |0,_=>exact hc
  ·exact .inr ⟨by rw[Y];exact J,by rw[hi];exact h3.below I⟩
 ·have E:=uo (ts:=ts) U (x:=iq) (by decide) (k:=19) (by decide) D
  exact yK (qz h 19 _ _ E sR (fun b w'=>PF rb w w'∧rF rb gl cl ts s r b w') ((O f (Zw _) s _ L r h.drew z (tX R D)).mono fun e w' hl=>yL hl))
theorem vt {s:Q} (hf:fQ f 152 6 rb gl cl ts) (I:fQ f 215 0 rb gl cl ts) (hW:∀t∈ts,iK t) (h:RR rb gl cl ts s w) (z:s.bad=false) (J:P (f+1) 6 ts s.i L 0=some r):
 Calls prog 152 #[Pq rb] w (ll rb gl cl ts s w r):=by
 have O:=hW _ (jx h.lt)
 by_cases D:fX (dc ts s.i) l9=true
 ·have E:=zT (ts:=ts) O (x:=l9) (by decide) (k:=14) (by decide) D
  obtain⟨a,b,c,R,U,V,Y,Z,aa⟩:=nV J D;exact pZ (wL h 14 _ _ E Br (fun b w'=>PF rb w w'∧rF rb gl cl ts s r b w') ((Bs hf h.drew hW z E R U V Y Z aa).mono fun e w' G=>yL G))
 ·have E:=uo (ts:=ts) O (x:=l9) (by decide) (k:=14) (by decide) D
  exact pZ (qz h 14 _ _ E wN (fun b w'=>PF rb w w'∧rF rb gl cl ts s r b w') ((I f (Zw _) s _ L r h.drew z (tY J D)).mono fun e w' G=>yL G))
theorem Ot (hW:∀t∈ts,iK t) (f:Nat):
 fQ f 152 6 rb gl cl ts∧fQ f 215 0 rb gl cl ts∧fQ f 247 1 rb gl cl ts∧fQ f 267 2 rb gl cl ts∧fQ f 279 3 rb gl cl ts∧fQ f 283 4 rb gl cl ts∧fQ f 284 5 rb gl cl ts:=by
 induction f with
 |zero=>
  have E:∀G lv,fQ 0 G lv rb gl cl ts:=fun G lv g Y s w L r _ _ z=>by
   obtain rfl:g=0:=by omega
   rw[P] at z;simp at z
  exact⟨E _ _,E _ _,E _ _,E _ _,E _ _,E _ _,E _ _⟩
 |succ f ih=>
  obtain⟨c6,c0,c1,c2,c3,c4,c5⟩:=ih;have up:∀{G lv},fQ f G lv rb gl cl ts→(∀(I:Q) (J:World) (L:List Pt) (O:Rd),RR rb gl cl ts I J→I.bad=false→P (f+1) lv ts I.i L 0=some O→Calls prog G #[Pq rb] J (ll rb gl cl ts I J O))→fQ (f+1) G lv rb gl cl ts:=fun{G lv} Z h2 g Y s w L r R D z=>by
   by_cases e:g=f+1
   ·subst e;exact h2 s w L r R D z
   ·exact Z g (by omega) s w L r R D z
  exact⟨up c6 fun s w L r h D z=>vt c6 c0 hW h D z,up c0 fun s w L r h D z=>Bt c1 hW h D z,up c1 fun s w L r h D z=>Gm c2 hW h D z,up c2 fun s w L r h D z=>Gp c2 c3 hW h D z,up c3 fun s w L r h D z=>yg c4 hW h D z,up c4 fun s w L r h D z=>Jr c5 hW h D z,up c5 fun s w L r h D z=>Gn c6 hW h D z⟩
def Bv (ts:List Tok) (s:Q) (G:Bool) (j:Nat):Q:=if G then{s with i:=j} else gF ts {s with i:=j}
theorem DG (ts:List Tok) (s:Q) (j:Nat):Bv ts s true j={s with i:=j}:=rfl
theorem DH (ts:List Tok) (s:Q) (j:Nat):Bv ts s false j=gF ts {s with i:=j}:=rfl
def lz (ts:List Tok) (ks:List Nat) (j:Nat):Bool:=ks.contains (da (dc ts j))
def rG (b:Bool) (j:Nat):Nat:=if b then j+1 else j
theorem Gq {s:Q} {z:Bool} (h:RR rb gl cl ts (Bv ts s z j) w) (ks:List Nat) (E:0∉ks):
 od ts (Bv ts s z j) ks=Bv ts s (z&&lz ts ks j) (rG (z&&lz ts ks j) j):=by
 cases z with
 |true=>
  rw[aaG,DG] at*
  cases D:lz ts ks j with
  |true=>rw[mF (by exact D)];rfl
  |false=>rw[oh (by exact D)];rfl
 |false=>
  rw[acg,DH] at*;rw[oh (by
   rw[mR h rfl,aa5];intro e;rw[aaa] at e;exact E e),pY]
  rfl
def sS (ts:List Tok) (J:Bool) (j:Nat) (ks:List Nat):Value:=if J&&lz ts ks j then mM (dc ts j) (dc ts j).pl else .agg #[Iq 0,Iq 0,Iq 0,S []]
theorem Gr {s:Q} {z:Bool} (h:RR rb gl cl ts (Bv ts s z j) w) (ks:List Nat) (D:0∉ks):
 pU ts (Bv ts s z j) ks=sS ts z j ks:=by
 unfold pU sS
 cases z with
 |true=>rw[aaG,DG];rfl
 |false=>
  rw[DH] at*;rw[Zt (by rw[mR h rfl];intro e;rw[aaa] at e;exact D e)]
  simp
theorem mT {s:Q} {z:Bool} (h:RR rb gl cl ts (Bv ts s z j) w) (ks:List Nat) (E:ks.length≤100) (D:0∉ks):
 Calls prog 151 #[Pq rb,Sq w.heap.size ks.length ks.length] (w.alloc (fj ks)) fun e w'=>e= .returned (sS ts z j ks)∧RR rb gl cl ts (Bv ts s (z&&lz ts ks j) (rG (z&&lz ts ks j) j)) w'∧PF rb w w':=by
 rw[←Gr h ks D,←Gq h ks D];exact mS h ks E D
theorem Bw {s:Q} {z:Bool} (R:fQ f 152 6 rb gl cl ts) (D:s.bad=false) (h:RR rb gl cl ts (Bv ts s z j) w) (U:z=true→P f 6 ts j L 0=some a):
 Calls prog 152 #[Pq rb] w fun e w'=> ∃b,e= .returned (Pq b)∧PF rb w w'∧RR rb gl cl ts (Bv ts s (z&&a.ok) (if z then a.i else j)) w'∧((z&&a.ok)=true→dJ a.L rb w' a.top b):=by
 cases z with
 |true=>
  rw[DG] at h;apply(R f (Zw _) _ w L a h D (U rfl)).mono;rintro e w' ⟨b,G,I,h3⟩;refine⟨b,G,I,?_⟩;rcases h3 with⟨z,h3,V⟩|⟨z,h3⟩
  ·rw[z];exact⟨h3,fun _=>V⟩
  ·rw[z];exact⟨h3,fun e=>by simp at e⟩
 |false=>
  rw[DH] at h;apply(rE _ w h rfl rfl).mono;rintro e w' ⟨b,G,I,h3⟩;exact⟨b,G,I,h3,fun e=>by simp at e⟩
def ff:Tok:=⟨101,[],0⟩
def gZ (ts:List Tok) (G:Bool) (j:Nat) (ks:List Nat):Tok:=if G&&lz ts ks j then dc ts j else ff
theorem uq (ts:List Tok) (z:Bool) (j:Nat) (ks:List Nat):sS ts z j ks= .agg #[Iq (da (gZ ts z j ks)),Iq (gZ ts z j ks).pl,Iq (dz (gZ ts z j ks)),S (di (gZ ts z j ks))]:=by
 unfold sS gZ
 split
 ·rfl
 ·rfl
def K7 (t u:Tok) (b:Nat):Value:= .agg #[Iq (da t),Iq t.pl,Iq (dz t),S (di t),Iq (da u),Iq u.pl,Iq (dz u),S (di u),Iq 0,Pq b]
def OQ (t u:Tok) (n:Int) (b:Nat):Value:= .agg #[Iq (da t),Iq t.pl,Iq (dz t),S (di t),Iq (da u),Iq u.pl,Iq (dz u),S (di u),Iq n,Pq b]
def jZ (t u:Tok) (n:Int) (v:Value):Obj:= .cells #[Iq (da t),Iq t.pl,Iq (dz t),S (di t),Iq (da u),Iq u.pl,Iq (dz u),S (di u),Iq n,v] 163 (0,0)
def iB (t u:Tok) (v:Value):Obj:= .cells #[Iq (da t),Iq t.pl,Iq (dz t),S (di t),Iq (da u),Iq u.pl,Iq (dz u),S (di u),Iq 0,v] 163 (0,0)
theorem eo (h:w.heap[b]?=some (.cells #[x0,x1,x2,x3,x4,x5,x6,x7,x8,x9] 163 (0,0))):(Cq w b 0 x0∧Cq w b 1 x1∧Cq w b 2 x2∧Cq w b 3 x3∧Cq w b 4 x4∧Cq w b 5 x5∧Cq w b 6 x6∧Cq w b 7 x7∧Cq w b 8 x8∧Cq w b 9 x9)∧ ∀j,w.frozen? ⟨b,j,none⟩=false:=by
 have z:=fun j=>Zz w b j _ _ _ h
 exact⟨⟨z 0,z 1,z 2,z 3,z 4,z 5,z 6,z 7,z 8,z 9⟩,fun j=>by simp[World.frozen?,h]⟩
theorem dJ.item {lt:Nat} (h:dJ L lt w i b) {x:Nat} (O:w.heap[x]?=some (.cells cs 163 (0,0))) (j:Nat) (v:Value):dJ L lt (w.setCell ⟨x,j,none⟩ v) i b:=
 h.keep fun k U ty z D=>ZO _ _ _ _ (by
  simp only;intro e;rw[e,O] at z;simp only[ZR,aa8] at z;rw[←z.2.1] at D;exact absurd D (by decide))
theorem eN {x:Nat} (z:w.heap[x]?=some (.cells cs 163 (0,0))) (j:Nat) (v:Value):(w.setCell ⟨x,j,none⟩ v).heap[x]?=some (.cells (cs.setIfInBounds j v) 163 (0,0)):=by
 rw[ZK w x j _ _ v z]
theorem mG {x:Nat} (h:y≠x) (j:Nat) (v:Value):(w.setCell ⟨x,j,none⟩ v).heap[y]?=w.heap[y]?:=ZO _ _ _ _ (by simpa using h)
theorem uu {s:Q} (hf:fQ f 152 6 rb gl cl ts) (h:RR rb gl cl ts s w) (ab:s.bad=false) (hk:da (dc ts s.i)=11) (V:ok2=lz ts [2] (s.i+1)) (R:j2=rG ok2 (s.i+1)) (E:ok3=(ok2&&lz ts [8] j2)) (G:j3=rG ok3 j2)
 (hP:ok3=true→P f 6 ts j3 L 0=some a) (e6:j4=if ok3 then a.i else j3) (e7:O=(ok3&&a.ok)) (e8:ae=(O&&lz ts [5] j4)) (e9:j5=rG ae j4):
 Calls prog 104 #[Pq rb] w fun e w'=> ∃b,e= .returned (K7 (dc ts s.i) (gZ ts true (s.i+1) [2]) b)∧PF rb w w'∧RR rb gl cl ts (Bv ts s ae j5) w'∧(O=true→dJ a.L rb w' a.top b):=by
 have af:lz ts [11,12,13] s.i=true:=by unfold lz;rw[hk];rfl
 have h0:RR rb gl cl ts (Bv ts s true s.i) (w.alloc (iB ff ff (.pointer none))):=h.alloc _;have au:(w.alloc (iB ff ff (.pointer none))).heap[w.heap.size]?=some (iB ff ff (.pointer none)):=Zy w _;have F0:PF rb w (w.alloc (iB ff ff (.pointer none))):=(PF.refl rb w).alloc _;have bi:=h.rlt;have bj:=h.glt;have W1:=mT h0 [11,12,13] (by decide) (by decide)
 rw[uq] at W1;have et:gZ ts true s.i [11,12,13]=dc ts s.i:=by unfold gZ;rw[af];rfl
 rw[et,af] at W1;simp only[Bool.and_self,show rG true s.i=s.i+1 from rfl] at W1
 have av:=Hi V;have aw:=Hi R;have ax:=Hi E;have ay:=Hi G;have HP:=Hi hP;have az:=Hi au;have HG:=Hi ab;have aA:=Hi F0;have ba:Hid (∀t u v,iB t u v= .cells #[Iq (da t),Iq t.pl,Iq (dz t),S (di t),Iq (da u),Iq u.pl,Iq (dz u),S (di u),Iq 0,v] 163 (0,0)):=fun _ _ _=>rfl
 have aB:=Hi e6;have aC:=Hi e7;have aD:=Hi e8;have aE:=Hi e9;have aF:(w.alloc (iB ff ff (.pointer none))).heap.size=w.heap.size+1:=by simp
 have HV:Hid (∀b,K7 (dc ts s.i) (gZ ts true (s.i+1) [2]) b= .agg #[Iq (da (dc ts s.i)),Iq (dc ts s.i).pl,Iq (dz (dc ts s.i)),S (di (dc ts s.i)),Iq (da (gZ ts true (s.i+1) [2])),Iq (gZ ts true (s.i+1) [2]).pl,Iq (dz (gZ ts true (s.i+1) [2])),S (di (gZ ts true (s.i+1) [2])),Iq 0,Pq b]):=fun _=>rfl
 generalize K7 (dc ts s.i) (gZ ts true (s.i+1) [2])=iv at HV⊢;go_enter func104,ntmps104;go_wp2_with fail;rw[aF] at W1;apply W1.mono;rintro e I ⟨rfl,h1,F1⟩;have ag:I.heap[w.heap.size]?=some (iB ff ff (.pointer none)):=by rw[F1.block _ (by rw[aF];omega) (by omega)];exact az.out
 have bb:=be ag;generalize bk:dc ts s.i=z at*;have h2:=h1.alloc (iB z ff (.pointer none));have F2:=(aA.out.trans F1).alloc (iB z ff (.pointer none));have ah:(I.alloc (iB z ff (.pointer none))).heap[I.heap.size]?=some (iB z ff (.pointer none)):=Zy I _;have ai:(I.alloc (iB z ff (.pointer none))).heap[w.heap.size]?=some (iB ff ff (.pointer none)):=by rw[ZE _ _ _ bb];exact ag
 have U:I.heap.size≠rb:=by have:=h1.rlt;omega
 have V:I.heap.size≠gl:=by have:=h1.glt;omega
 have R:w.heap.size≠I.heap.size:=by omega
 have E:w.heap.size≠rb:=by omega
 have G:w.heap.size≠gl:=by omega
 have bc:w.heap.size≤I.heap.size:=by omega
 have W2:=mT h2 [2] (by decide) (by decide)
 rw[uq] at W2;have J:(I.alloc (iB z ff (.pointer none))).heap.size=I.heap.size+1:=by simp
 rw[J] at W2;simp only[ba.out,hk] at h2 F2 J ah ai W2;rw[aaG,←av.out,←aw.out] at W2;go_wp2_with fail;apply W2.mono;rintro e w3 ⟨rfl,h3,F3⟩;generalize bd:gZ ts true (s.i+1) [2]=u0 at HV⊢;have aj:=(F3.block _ (by rw[J];omega) U).trans ah
 have aG:=(F3.block _ (by rw[J];omega) E).trans ai
 have aH:=F2.trans F3;generalize aI:I.heap.size=Y at*;generalize D:w.heap.size=br at*;have aJ:=Hi D;obtain⟨⟨y0,y1,y2,y3,y4,y5,y6,y7,y8,y9⟩,yf⟩:=eo aj;have h4:=((((h3.other U V 4 (Iq (da u0))).other U V 5 (Iq u0.pl)).other U V 6 (Iq (dz u0))).other U V 7 (S (di u0)));have Z:w.heap.size≤Y:=by rw[aJ.out];exact bc
 have F4:=((((aH.new Z 4 (Iq (da u0))).new Z 5 (Iq u0.pl)).new Z 6 (Iq (dz u0))).new Z 7 (S (di u0)));have ak:=eN (eN (eN (eN aj 4 (Iq (da u0))) 5 (Iq u0.pl)) 6 (Iq (dz u0))) 7 (S (di u0));have am:=(mG R 7 (S (di u0))).trans ((mG R 6 (Iq (dz u0))).trans ((mG R 5 (Iq u0.pl)).trans ((mG R 4 (Iq (da u0))).trans aG)));have aK:=Hi F4;have aL:=Hi ak;have aM:=Hi am;have W3:=mT h4 [8] (by decide) (by decide)
 rw[←ax.out,←ay.out] at W3;have an:=be ak;have aa:=be am;simp only[acd] at W3 an aa;generalize sS ts ok2 j2 [8]=bm at*;go_wp2_with fail;apply W3.mono;rintro e w5 ⟨rfl,h5,F5⟩;have ac:=(F5.block Y (by simpa using an) U).trans aL.out
 have ao:=(F5.block br (by simpa using aa) E).trans aM.out
 have aN:=aK.out.trans F5;have W4:=Bw hf HG.out h5 HP.out;rw[←aB.out,←aC.out] at W4;obtain⟨⟨y0,y1,y2,y3,y4,y5,y6,y7,y8,y9⟩,yf⟩:=eo ac;have bf:=be ac;have a9:=be ao;have aO:=Hi ac;have aP:=Hi ao;have aQ:=Hi aN;go_wp2_with fail;apply W4.mono;rintro e w6 ⟨b,rfl,F6,h6,aR⟩;have ad:=(F6.block Y bf U).trans aO.out;have aS:=(F6.block br a9 E).trans aP.out;have h7:=h6.other U V 9 (Pq b);have F7:=(aQ.out.trans F6).new Z 9 (Pq b);have aT:=eN ad 9 (Pq b);have aU:=(mG R 9 (Pq b)).trans aS;have aV:O=true→dJ a.L rb (w6.setCell ⟨Y,9,none⟩ (Pq b)) a.top b:=fun e=>(aR e).item ad _ _
 obtain⟨⟨y0,y1,y2,y3,y4,y5,y6,y7,y8,y9⟩,yf⟩:=eo ad;have W5:=mT h7 [5] (by decide) (by decide)
 rw[←aD.out,←aE.out] at W5;simp only[acd] at W5;have H7:=Hi h7;have aW:=Hi F7;have ap:=Hi aT;have aq:=Hi aU;have aX:=Hi aV;generalize sS ts O j4 [5]=bo at*;go_wp2_with fail;apply W5.mono;rintro e w8 ⟨rfl,h8,F8⟩;have aY:=(F8.block Y (be ap.out) U).trans ap.out;have ar:=(F8.block br (be aq.out) E).trans aq.out;have aZ:=aW.out.trans F8;have a0:O=true→dJ a.L rb w8 a.top b:=fun e=>(aX.out e).pf H7.out F8
 obtain⟨⟨y0,y1,y2,y3,y4,y5,y6,y7,y8,y9⟩,yf⟩:=eo aY;obtain⟨⟨z0,z1,z2,z3,z4,z5,z6,z7,z8,z9⟩,zf⟩:=eo ar;have H8:=Hi h8;have bg:=Hi aZ;have bh:=Hi a0;have a8:=Hi ar;go_wp2;have D:=aa3 aJ.out;refine ZH (v:= .agg #[Iq 11,Iq z.pl,Iq (dz z),S (di z),Iq (da u0),Iq u0.pl,Iq (dz u0),S (di u0),Iq 0,Pq b]) (by simp[results,results104,go_sem,z0,z1,z2,z3,z4,z5,z6,z7,z8,z9,zf]) rfl ⟨b,?_,?_,?_,?_⟩
 ·rw[HV.out,hk];rfl
 ·exact(((((((((bg.out.new D _ _).new D _ _).new D _ _).new D _ _).new D _ _).new D _ _).new D _ _).new D _ _).new D _ _).new D _ _
 ·exact(((((((((H8.out.other E G _ _).other E G _ _).other E G _ _).other E G _ _).other E G _ _).other E G _ _).other E G _ _).other E G _ _).other E G _ _).other E G _ _
 ·intro e
  have c1:=(bh.out e).item a8.out 0 (Iq 11);have x1:=eN a8.out 0 (Iq 11);have c2:=c1.item x1 1 (Iq z.pl);have x2:=eN x1 1 (Iq z.pl);have c3:=c2.item x2 2 (Iq (dz z));have x3:=eN x2 2 (Iq (dz z));have c4:=c3.item x3 3 (S (di z));have x4:=eN x3 3 (S (di z));have c5:=c4.item x4 4 (Iq (da u0));have x5:=eN x4 4 (Iq (da u0));have c6:=c5.item x5 5 (Iq u0.pl);have x6:=eN x5 5 (Iq u0.pl);have c7:=c6.item x6 6 (Iq (dz u0));have x7:=eN x6 6 (Iq (dz u0));have c8:=c7.item x7 7 (S (di u0));have x8:=eN x7 7 (S (di u0));have c9:=c8.item x8 8 (Iq 0);have x9:=eN x8 8 (Iq 0);exact c9.item x9 9 (Pq b)
theorem uv {s:Q} (hf:fQ f 152 6 rb gl cl ts) (h:RR rb gl cl ts s w) (U:s.bad=false) (hk:da (gZ ts true s.i [11,12,13])≠11) (e2:ok2=lz ts [11,12,13] s.i) (e3:j2=rG ok2 s.i) (E:ok3=(ok2&&lz ts [14] j2)) (I:j3=rG ok3 j2)
 (hP:ok3=true→P f 6 ts j3 L 0=some a) (e6:j4=if ok3 then a.i else j3) (e7:J=(ok3&&a.ok)) (e8:ab=(J&&lz ts [5] j4)) (e9:j5=rG ab j4):
 Calls prog 104 #[Pq rb] w fun e w'=> ∃b,e= .returned (K7 (gZ ts true s.i [11,12,13]) ff b)∧PF rb w w'∧RR rb gl cl ts (Bv ts s ab j5) w'∧(J=true→dJ a.L rb w' a.top b):=by
 have h0:RR rb gl cl ts (Bv ts s true s.i) (w.alloc (iB ff ff (.pointer none))):=h.alloc _;have ai:(w.alloc (iB ff ff (.pointer none))).heap[w.heap.size]?=some (iB ff ff (.pointer none)):=Zy w _;have F0:PF rb w (w.alloc (iB ff ff (.pointer none))):=(PF.refl rb w).alloc _;have aY:=h.rlt;have aZ:=h.glt;have W1:=mT h0 [11,12,13] (by decide) (by decide)
 rw[uq] at W1;rw[aaG,←e2,←e3] at W1;have aj:=Hi E;have ak:=Hi I;have HP:=Hi hP;have am:=Hi ai;have HG:=Hi U;have an:=Hi F0;have aQ:Hid (∀t u v,iB t u v= .cells #[Iq (da t),Iq t.pl,Iq (dz t),S (di t),Iq (da u),Iq u.pl,Iq (dz u),S (di u),Iq 0,v] 163 (0,0)):=fun _ _ _=>rfl
 have ao:=Hi e6;have ap:=Hi e7;have aq:=Hi e8;have ar:=Hi e9;have au:(w.alloc (iB ff ff (.pointer none))).heap.size=w.heap.size+1:=by simp
 have HV:Hid (∀b,K7 (gZ ts true s.i [11,12,13]) ff b= .agg #[Iq (da (gZ ts true s.i [11,12,13])),Iq (gZ ts true s.i [11,12,13]).pl,Iq (dz (gZ ts true s.i [11,12,13])),S (di (gZ ts true s.i [11,12,13])),Iq 0,Iq 0,Iq 0,S [],Iq 0,Pq b]):=fun _=>rfl
 generalize K7 (gZ ts true s.i [11,12,13]) ff=iv at HV⊢;generalize gZ ts true s.i [11,12,13]=z at*;generalize aR:da z=O at*;have a0:((O:Int)==(11:Int))=false:=by
  have: ¬((O:Int)=11):=by omega
  simpa using this
 go_enter func104,ntmps104;go_wp2_with fail;rw[au] at W1;apply W1.mono;rintro e G ⟨rfl,h1,F1⟩;have ac:G.heap[w.heap.size]?=some (iB ff ff (.pointer none)):=by rw[F1.block _ (by rw[au];omega) (by omega)];exact am.out
 have aS:=be ac;have h2:=h1.alloc (iB z ff (.pointer none));have F2:=(an.out.trans F1).alloc (iB z ff (.pointer none));have V:(G.alloc (iB z ff (.pointer none))).heap[G.heap.size]?=some (iB z ff (.pointer none)):=Zy G _;have Y:(G.alloc (iB z ff (.pointer none))).heap[w.heap.size]?=some (iB ff ff (.pointer none)):=by rw[ZE _ _ _ aS];exact ac
 have e1:G.heap.size≠rb:=by have:=h1.rlt;omega
 have e2:G.heap.size≠gl:=by have:=h1.glt;omega
 have e3:w.heap.size≠G.heap.size:=by omega
 have E:w.heap.size≠rb:=by omega
 have I:w.heap.size≠gl:=by omega
 have aT:w.heap.size≤G.heap.size:=by omega
 have R:(G.alloc (iB z ff (.pointer none))).heap.size=G.heap.size+1:=by simp
 have W3:=mT h2 [14] (by decide) (by decide)
 rw[←aj.out,←ak.out] at W3;rw[R] at W3;simp only[aQ.out,aR] at h2 F2 R V Y W3;have av:=be V;have ad:=be Y;generalize sS ts ok2 j2 [14]=a8 at*;go_wp2_with fail;apply W3.mono;rintro e w5 ⟨rfl,h5,F5⟩;have Z:w5.heap[G.heap.size]?=some (.cells #[Iq O,Iq z.pl,Iq (dz z),S (di z),Iq 0,Iq 0,Iq 0,S [],Iq 0,.pointer none] 163 (0,0)):=(F5.block G.heap.size av e1).trans V;have ae:=(F5.block w.heap.size ad E).trans Y;have aw:=F2.trans F5;generalize ax:G.heap.size=bi at*;generalize D:w.heap.size=br at*;have ay:=Hi D;have aU:w.heap.size≤bi:=by rw[ay.out];exact aT
 have W4:=Bw hf HG.out h5 HP.out;rw[←ao.out,←ap.out] at W4;obtain⟨⟨y0,y1,y2,y3,y4,y5,y6,y7,y8,y9⟩,yf⟩:=eo Z;have aV:=be Z;have aN:=be ae;have az:=Hi Z;have aA:=Hi ae;have aB:=Hi aw;go_wp2_with fail;apply W4.mono;rintro e w6 ⟨b,rfl,F6,h6,aC⟩;have aa:=(F6.block bi aV e1).trans az.out;have aD:=(F6.block br aN E).trans aA.out;have h7:=h6.other e1 e2 9 (Pq b);have F7:=(aB.out.trans F6).new aU 9 (Pq b);have aE:(w6.setCell ⟨bi,9,none⟩ (Pq b)).heap[bi]?=some (.cells #[Iq O,Iq z.pl,Iq (dz z),S (di z),Iq 0,Iq 0,Iq 0,S [],Iq 0,Pq b] 163 (0,0)):=eN aa 9 (Pq b);have aF:=(mG e3 9 (Pq b)).trans aD;have aG:J=true→dJ a.L rb (w6.setCell ⟨bi,9,none⟩ (Pq b)) a.top b:=fun e=>(aC e).item aa _ _
 obtain⟨⟨y0,y1,y2,y3,y4,y5,y6,y7,y8,y9⟩,yf⟩:=eo aa;have W5:=mT h7 [5] (by decide) (by decide)
 rw[←aq.out,←ar.out] at W5;simp only[acd] at W5;have H7:=Hi h7;have aH:=Hi F7;have af:=Hi aE;have ag:=Hi aF;have aI:=Hi aG;generalize sS ts J j4 [5]=ba at*;go_wp2_with fail;apply W5.mono;rintro e w8 ⟨rfl,h8,F8⟩;have aJ:=(F8.block bi (be af.out) e1).trans af.out;have ah:=(F8.block br (be ag.out) E).trans ag.out;have aK:=aH.out.trans F8;have aL:J=true→dJ a.L rb w8 a.top b:=fun e=>(aI.out e).pf H7.out F8
 obtain⟨⟨y0,y1,y2,y3,y4,y5,y6,y7,y8,y9⟩,yf⟩:=eo aJ;obtain⟨⟨z0,z1,z2,z3,z4,z5,z6,z7,z8,z9⟩,zf⟩:=eo ah;have H8:=Hi h8;have aW:=Hi aK;have aX:=Hi aL;have aM:=Hi ah;go_wp2_with fail;have D:w.heap.size≤br:=aa3 ay.out;refine ZH (v:= .agg #[Iq O,Iq z.pl,Iq (dz z),S (di z),Iq 0,Iq 0,Iq 0,S [],Iq 0,Pq b]) (by simp[results,results104,go_sem,z0,z1,z2,z3,z4,z5,z6,z7,z8,z9,zf]) rfl ⟨b,?_,?_,?_,?_⟩
 ·rw[HV.out]
 ·exact(((((((((aW.out.new D _ _).new D _ _).new D _ _).new D _ _).new D _ _).new D _ _).new D _ _).new D _ _).new D _ _).new D _ _
 ·exact(((((((((H8.out.other E I _ _).other E I _ _).other E I _ _).other E I _ _).other E I _ _).other E I _ _).other E I _ _).other E I _ _).other E I _ _).other E I _ _
 ·intro e
  have c1:=(aX.out e).item aM.out 0 (Iq O);have x1:=eN aM.out 0 (Iq O);have c2:=c1.item x1 1 (Iq z.pl);have x2:=eN x1 1 (Iq z.pl);have c3:=c2.item x2 2 (Iq (dz z));have x3:=eN x2 2 (Iq (dz z));have c4:=c3.item x3 3 (S (di z));have x4:=eN x3 3 (S (di z));have c5:=c4.item x4 4 (Iq 0);have x5:=eN x4 4 (Iq 0);have c6:=c5.item x5 5 (Iq 0);have x6:=eN x5 5 (Iq 0);have c7:=c6.item x6 6 (Iq 0);have x7:=eN x6 6 (Iq 0);have c8:=c7.item x7 7 (S []);have x8:=eN x7 7 (S []);have c9:=c8.item x8 8 (Iq 0);have x9:=eN x8 8 (Iq 0);exact c9.item x9 9 (Pq b)
theorem Gs (hW:∀t∈ts,iK t) (j:Nat):iK (dc ts j)∨dc ts j=ku:=by
 by_cases h:dc ts j=ku
 ·exact .inr h
 ·exact .inl (hW _ (rQ h).2)
theorem qB (hW:∀t∈ts,iK t) (j:Nat) (z:x∈dI.drop 3) (D:kn x=k):fX (dc ts j) x=decide (da (dc ts j)=k):=by
 rcases Gs hW j with h|h
 ·rw[aaH,sO h z,D];simp
 ·have:=oe x z
  rw[h,tZ,show da ku=0 from by decide,←D]
  unfold kn
  symm;rw[abK];omega
theorem jQ:da t=2↔t.k=111:=by
 unfold da;constructor
 ·intro h
  by_cases D:t.k=110
  ·rw[Zu D] at h;simp at h
  ·rw[Zt D] at h
   by_cases E:t.k=111
   ·exact E
   ·rw[Zt E] at h
    by_cases h3:t.k=101
    ·rw[Zu h3] at h;simp at h
    ·rw[Zt h3] at h
     exfalso;have G:∀x:List UInt8,(dP dI x).toNat≠2:=by
      intro x
      by_cases I:x=[]
      ·subst I;decide
      ·have z:∀r:List (List UInt8),dP ([]::r) x=if dP r x<0 then -1 else dP r x+1:=fun r=>by
        rw[dP,Zt (by simpa using I)]
       have e:dI=[]::[]::[]::dI.drop 3:=by decide
       rw[e,z,z,z];have:=zv (dI.drop 3) x
       split
       ·decide
       ·omega
     exact G _ h
 ·intro h;rw[Zt (by omega),Zu h]
theorem mU (ts:List Tok) (k j:Nat):lz ts [k] j=decide (da (dc ts j)=k):=by
 unfold lz;exact gn _ _
def yh (x:dY) (t u:Tok):Prop:=
 (x.name≠[]∧da t=11∧t.pl=x.pl∧da u=2∧u.pl=x.named∧di u=x.name∧dz u=0)∨
 (x.name=[]∧da t=(if x.allow then 12 else 13)∧t.pl=x.pl∧u=ff)
def DI (rb gl cl:Nat) (ts:List Tok) (s:Q) (w:World) (r:Da) (e:Ending) (w':World):Prop:=
 ∃t u b,e= .returned (K7 t u b)∧PF rb w w'∧((r.ok=true∧RR rb gl cl ts {s with i:=r.i} w'∧dJ r.L rb w' r.it.top b∧yh r.it t u)∨(r.ok=false∧RR rb gl cl ts (gF ts {s with i:=r.i}) w'))
theorem lC {x:dY} {r:Da} (h:gS f ts i L x=some r):
 ∃a:Rd,P f 6 ts i L 0=some a∧((a.ok=true∧fX (dc ts a.i) [59]=true∧r=⟨true,a.i+1,a.L,{x with top:=a.top,parts:=a.L.length}⟩)∨((a.ok&&fX (dc ts a.i) [59])=false∧r.ok=false∧r.i=a.i)):=by
 unfold gS at h
 cases E:P f 6 ts i L 0 with
 |none=>rw[E] at h;simp at h
 |some a=>
  rw[E] at h;simp only at h;refine⟨a,rfl,?_⟩
  by_cases z:a.ok=true
  ·rw[Zu z] at h
   by_cases D:fX (dc ts a.i) [59]=true
   ·rw[Zu D] at h;simp at h;exact .inl ⟨z,D,h.symm⟩
   ·rw[Zt D] at h;simp[fb] at h;subst h;exact .inr ⟨by rw[z];simpa using D,rfl,rfl⟩
  ·rw[Zt z] at h;simp[fb] at h;subst h
   exact .inr ⟨by simp at z;rw[z];rfl,rfl,rfl⟩
theorem Gt {s:Q} (Z:fQ f 152 6 rb gl cl ts) (hW:∀t∈ts,iK t) (hN:∀t∈ts,t.k=111→t.text≠[]) (h:RR rb gl cl ts s w) (D:s.bad=false) {r:Da} (z:jB f ts s.i L=some r):
 Calls prog 104 #[Pq rb] w (DI rb gl cl ts s w r):=by
 unfold jB at z;have aa:=qB hW s.i (x:=tW) (by decide) (k:=11) (by decide)
 have J:=qB hW s.i (x:=jD) (by decide) (k:=12) (by decide)
 have V:=qB hW s.i (x:=nE) (by decide) (k:=13) (by decide)
 have O:∀{ok3:Bool} {j3:Nat} {a:Rd} {t u:Tok} {x:dY} {E R:Bool} {j4 j5:Nat},ok3=true→j4=(if ok3 then a.i else j3)→E=(ok3&&a.ok)→R=(E&&lz ts [5] j4)→j5=rG R j4→yh {x with top:=a.top,parts:=a.L.length} t u→
  ((a.ok=true∧fX (dc ts a.i) [59]=true∧r=⟨true,a.i+1,a.L,{x with top:=a.top,parts:=a.L.length}⟩)∨((a.ok&&fX (dc ts a.i) [59])=false∧r.ok=false∧r.i=a.i))→
  ∀e w',(∃b,e= .returned (K7 t u b)∧PF rb w w'∧RR rb gl cl ts (Bv ts s R j5) w'∧(E=true→dJ a.L rb w' a.top b))→DI rb gl cl ts s w r e w':=by
  intro ok3 j3 a t u x E R j4 j5 e3 e6 e7 U e9 hO hr e w' ⟨b,he,hF,hR,hC⟩;subst e3;have e6:j4=a.i:=e6;rw[aaG] at e7;subst e6;have hs:=qB hW a.i (x:=[59]) (by decide) (k:=5) (by decide)
  rw[mU,←hs,e7] at U;refine⟨t,u,b,he,hF,?_⟩;rcases hr with⟨ok,hw,rfl⟩|⟨no,ag,ri⟩
  ·rw[ok,hw] at U
   have U:=U
   subst U;subst e9
   exact .inl ⟨rfl,hR,hC (by rw[e7];exact ok),hO⟩
  ·rw[no] at U
   subst U;subst e9
   exact .inr ⟨ag,by rw[ri];exact hR⟩
 have fails:∀{t u:Tok} {j:Nat} {a:Rd} {E:Bool},r=⟨false,j,[],eh⟩→ ∀e w',(∃b,e= .returned (K7 t u b)∧PF rb w w'∧RR rb gl cl ts (Bv ts s false j) w'∧(E=true→dJ a.L rb w' a.top b))→DI rb gl cl ts s w r e w':=by
  intro t u j a E e e' w' ⟨b,he,hF,hR,_⟩;subst e;exact⟨t,u,b,he,hF,.inr ⟨rfl,hR⟩⟩
 by_cases hl:fX (dc ts s.i) tW=true
 ·rw[Zu hl] at z
  have hk:da (dc ts s.i)=11:=by rw[aa] at hl;simpa using hl
  by_cases I:(dc ts (s.i+1)).k=111
  ·rw[Zu I] at z
   have k2:lz ts [2] (s.i+1)=true:=by rw[mU];simpa using jQ.2 I
   have s8:=qB hW (s.i+2) (x:=[61]) (by decide) (k:=8) (by decide)
   have eu:gZ ts true (s.i+1) [2]=dc ts (s.i+1):=by unfold gZ;rw[k2];rfl
   have ah:=hN _ (rQ (ts:=ts) (i:=s.i+1) fun e=>by rw[e] at I;simp[ku] at I).2 I
   by_cases h8:fX (dc ts (s.i+2)) [61]=true
   ·rw[Zu h8] at z
    obtain⟨a,hP,hr⟩:=lC z;have k8:lz ts [8] (s.i+2)=true:=by rw[mU,←s8];exact h8
    apply(uu Z h D hk (ok2:=true) (ok3:=true) (j2:=s.i+2) (j3:=s.i+3) k2.symm rfl (by rw[k8];rfl) rfl (fun _=>hP) rfl rfl rfl rfl).mono
    refine O (ok3:=true) (j3:=s.i+3) rfl rfl rfl rfl rfl ?_ hr;rw[eu];refine .inl ⟨ah,hk,rfl,jQ.2 I,rfl,?_,?_⟩
    ·unfold di;rw[Zu I]
    ·unfold dz;rw[Zt (by omega)]
   ·rw[Zt h8] at z
    have k8:lz ts [8] (s.i+2)=false:=by rw[mU,←s8];simpa using h8
    simp[fb] at z;apply(uu Z h D hk (ok2:=true) (ok3:=false) (j2:=s.i+2) (j3:=s.i+2) k2.symm rfl (by rw[k8];rfl) rfl (L:=L) (a:=⟨false,0,[],0⟩) (fun e=>by simp at e) rfl rfl rfl rfl).mono
    exact fails z.symm
  ·rw[Zt I] at z
   have k2:lz ts [2] (s.i+1)=false:=by rw[mU];simpa using fun e=>I (jQ.1 e)
   simp[fb] at z;apply(uu Z h D hk (ok2:=false) (ok3:=false) (j2:=s.i+1) (j3:=s.i+1) k2.symm rfl rfl rfl (L:=L) (a:=⟨false,0,[],0⟩) (fun e=>by simp at e) rfl rfl rfl rfl).mono
   exact fails z.symm
 ·rw[Zt hl] at z
  have ab:da (dc ts s.i)≠11:=by rw[aa] at hl;simpa using hl
  have ac:da (gZ ts true s.i [11,12,13])≠11:=by
   unfold gZ;split
   ·exact ab
   ·decide
  have s3:lz ts [11,12,13] s.i=(fX (dc ts s.i) jD||fX (dc ts s.i) nE):=by
   rw[J,V,aaH];unfold lz;rw[aaa];simp[ab]
  by_cases G:(fX (dc ts s.i) jD||fX (dc ts s.i) nE)=true
  ·rw[Zu G] at z
   rw[G] at s3;have af:=qB hW (s.i+1) (x:=l9) (by decide) (k:=14) (by decide)
   have et:gZ ts true s.i [11,12,13]=dc ts s.i:=by unfold gZ;rw[s3];rfl
   by_cases hi:fX (dc ts (s.i+1)) l9=true
   ·rw[Zu hi] at z
    obtain⟨a,hP,hr⟩:=lC z;have ad:lz ts [14] (s.i+1)=true:=by rw[mU,←af];exact hi
    apply(uv Z h D ac (ok2:=true) (ok3:=true) (j2:=s.i+1) (j3:=s.i+2) s3.symm rfl (by rw[ad];rfl) rfl (fun _=>hP) rfl rfl rfl rfl).mono
    refine O (ok3:=true) (j3:=s.i+2) rfl rfl rfl rfl rfl ?_ hr;rw[et];refine .inr ⟨rfl,?_,rfl,rfl⟩;simp only
    by_cases Y:fX (dc ts s.i) jD=true
    ·rw[Zu (by simpa using (jP Y).1)]
     rw[J] at Y;simpa using Y
    ·have ae:fX (dc ts s.i) nE=true:=by
      simp at G;rcases G with G|G
      ·exact absurd G Y
      ·exact G
     rw[Zt (by rw[(jP ae).1];decide)]
     rw[V] at ae;simpa using ae
   ·rw[Zt hi] at z
    have ad:lz ts [14] (s.i+1)=false:=by rw[mU,←af];simpa using hi
    simp[fb] at z;apply(uv Z h D ac (ok2:=true) (ok3:=false) (j2:=s.i+1) (j3:=s.i+1) s3.symm rfl (by rw[ad];rfl) rfl (L:=L) (a:=⟨false,0,[],0⟩) (fun e=>by simp at e) rfl rfl rfl rfl).mono
    exact fails z.symm
  ·rw[Zt G] at z
   have ai:lz ts [11,12,13] s.i=false:=by rw[s3];simpa using G
   simp[fb] at z;apply(uv Z h D ac (ok2:=false) (ok3:=false) (j2:=s.i) (j3:=s.i) ai.symm rfl rfl rfl (L:=L) (a:=⟨false,0,[],0⟩) (fun e=>by simp at e) rfl rfl rfl rfl).mono
   exact fails z.symm
theorem oR:(prog.info? 163).map (fun i=>(i.zero,i.size,i.bytes))=some (some (.agg #[Iq 0,Iq 0,Iq 0,.string ⟨#[]⟩,Iq 0,Iq 0,Iq 0,.string ⟨#[]⟩,Iq 0,.pointer none]),10,96):=by kernel_rfl
def fC (y:Tok×Tok×Nat×Int):List Value:=[Iq (da y.1),Iq y.1.pl,Iq (dz y.1),S (di y.1),Iq (da y.2.1),Iq y.2.1.pl,Iq (dz y.2.1),S (di y.2.1),Iq y.2.2.2,Pq y.2.2.1]
def dV (ys:List (Tok×Tok×Nat×Int)):List Value:=ys.flatMap fC
theorem DJ (ys:List (Tok×Tok×Nat×Int)):(dV ys).length=ys.length*10:=by
 induction ys with
 |nil=>rfl
 |cons t ts ih=>simp[dV,fC] at ih⊢;omega
theorem nJ (ys:List (Tok×Tok×Nat×Int)) (y:Tok×Tok×Nat×Int):dV (ys++[y])=dV ys++fC y:=by simp[dV]
def dQ (C:Nat→Nat→Prop):List dY→List (Tok×Tok×Nat×Int)→Prop
 |[],[]=>True
 |x::xs,y::ys=>(C x.top y.2.2.1∧yh x y.1 y.2.1)∧dQ C xs ys
 |_,_=>False
theorem dQ.mono {C z:Nat→Nat→Prop} (D:∀i b,C i b→z i b):∀{xs ys},dQ C xs ys→dQ z xs ys
 |[],[],_=>trivial
 |_::_,_::_,h=>⟨⟨D _ _ h.1.1,h.1.2⟩,dQ.mono D h.2⟩
theorem dQ.snoc {C:Nat→Nat→Prop} {x:dY} {y:Tok×Tok×Nat×Int} (z:C x.top y.2.2.1) (D:yh x y.1 y.2.1):∀{xs ys},dQ C xs ys→dQ C (xs++[x]) (ys++[y])
 |[],[],_=>⟨⟨z,D⟩,trivial⟩
 |_::_,_::_,h=>⟨h.1,dQ.snoc z D h.2⟩
theorem dQ.len {C:Nat→Nat→Prop}:∀{xs ys},dQ C xs ys→ys.length=xs.length
 |[],[],_=>rfl
 |_::_,_::_,h=>by simp[dQ.len h.2]
theorem Js {F:Nat} {r:Da} (h:jB F ts i L=some r) (z:r.ok=true):i<r.i∧ ∃new,r.L=L++new:=by
 have tail:∀(j:Nat) (x:dY),i<j→gS F ts j L x=some r→i<r.i∧ ∃new,r.L=L++new:=by
  intro j x O J;obtain⟨a,G,E⟩:=lC J;rcases E with⟨D,R,rfl⟩|⟨_,I,_⟩
  ·have U:=(vY F 6 ts j L 0 a G D (by omega)).1
   exact⟨by simp;omega,AT G D (by omega)⟩
  ·rw[I] at z;simp at z
 unfold jB at h
 split at h
 ·split at h
  ·split at h
   ·exact tail _ _ (by omega) h
   ·simp[fb] at h;subst h;simp at z
  ·simp[fb] at h;subst h;simp at z
 ·split at h
  ·split at h
   ·exact tail _ _ (by omega) h
   ·simp[fb] at h;subst h;simp at z
  ·simp[fb] at h;subst h;simp at z
theorem Bx (h:iK t):da t=0↔t.k=101:=by
 rcases h.cases with h|h|h|⟨h,z⟩
 ·unfold da;rw[Zu h];omega
 ·unfold da;rw[Zt (by omega),Zu h];omega
 ·unfold da;rw[Zt (by omega),Zt (by omega),Zu h];simp[h]
 ·rw[fK h];have:=oe _ z;unfold kn;omega
theorem RR.grown {rb gl cl:Nat} {ts:List Tok} {s:Q} {w w':World} {row:Option Nat} (h:RR rb gl cl ts s w) (z:w.grownBy w' row) (D:row≠some rb) (E:row≠some gl):RR rb gl cl ts s w':=
 h.move (z.block _ h.glt E.symm) (by rw[z.block _ h.rlt D.symm];exact h.rd) h.lt
theorem uw {xs:List Value} (h:w.ownsRow base 163 10 v n xs) (z:v.ownBlock=some k):∃cs,w.heap[k]?=some (.cells cs 163 (0,0)):=by
 rcases h.2 with⟨rfl,_⟩|⟨g,cap,G,rfl,V,R,_⟩
 ·simp[Value.ownBlock] at z
 ·simp[Value.ownBlock] at z;subst z;exact⟨G,R⟩
theorem RR.apart {s:Q} (h:RR rb gl cl ts s w) {xs:List Value} (D:w.ownsRow base 163 10 v n xs):v.ownBlock≠some rb∧v.ownBlock≠some gl:=by
 constructor
 ·intro e
  obtain⟨cs,z⟩:=uw D e;rw[h.rd] at z;simp[mO] at z
 ·intro e
  obtain⟨cs,z⟩:=uw D e;obtain⟨G,E⟩:=h.wl;rw[E] at z;simp at z
theorem dJ.grown {L:List Pt} {lt:Nat} {w w':World} {i b:Nat} (h:dJ L lt w i b) {base:Nat} {v:Value} {n:Nat} {xs:List Value} (G:w.ownsRow base 163 10 v n xs) (I:w.grownBy w' v.ownBlock):dJ L lt w' i b:=
 h.keep fun k cs ty D E=>I.block k (be D) fun e=>by
  obtain⟨J,z⟩:=uw G e.symm;rw[D] at z;simp only[ZR,aa8] at z;rw[z.2.1] at E;exact absurd E (by decide)
theorem DK {s:Q} (E:RR rb gl cl ts s w) {xs:List Value} (h:w.ownsRow base 163 10 v n xs) (G:PF rb w w'):w'.ownsRow base 163 10 v n xs:=by
 have I:=(E.apart h).1;obtain⟨J,z⟩:=h;refine⟨J,?_⟩;rcases z with z|⟨g,cap,D,rfl,b,c,d⟩
 ·exact .inl z
 ·refine .inr ⟨g,cap,D,rfl,b,?_,d⟩
  rw[G.block g (be c) (fun e=>I (by rw[e];rfl))];exact c
end Go.Proofs.YtfkdailfcmnjlaaGreatDoor
set_option maxHeartbeats 40000000
set_option maxRecDepth 1000000
namespace Go.Proofs.YtfkdailfcmnjlaaGreatDoor
open Go Go.RowKit Tryz
attribute [local go_sem ↓] Go.wp_at_zero Go.wp_at_succ
variable {bs : Nat}
theorem wO (k:Nat) (w:World) (D:k≤100):Calls prog 154 #[Iq k] w fun e w'=>e= .returned (Iq (rC k))∧w'=w:=by
 have z:Hid (rC k=if k=1∨(27≤k∧k≤30) then 1 else if k=20∨k=21∨k=34∨k=35 then 2 else if(22≤k∧k≤26)∨(31≤k∧k≤33) then 3 else 0):=rfl
 generalize rC k=r at*;go_enter func154,ntmps154
 go_wp2
 all_goals go_ret
 all_goals refine⟨eV ?_,rfl⟩
 all_goals rw[z.out]
 all_goals clear z
 all_goals (repeat' split)
 all_goals first
  |rfl
  |(exfalso;omega)
  |(exfalso;simp at*;omega)
theorem jy (D:List Nat) (g o cap z E:Nat) (w:World) (hl:D.length≤100) (hb:z≤100)
 (V:∀j,j<D.length→Cq w g (o+j) (Iq (D.getD j 0))∧D.getD j 0≤100):
 Calls prog 218 #[.slice (some ⟨g,o,none⟩) D.length cap,Iq z,Iq E] w fun e w'=>e= .returned (Iq (gq D z E))∧w'=w:=by
 have Y:=Hi V;clear V;go_enter func218,ntmps218
 go_wp2
 go_loop [11] (fun i=> ∃k:Nat,k≤D.length∧i= Iq k∧Hid (∀q,q<k→D.getD q 0=z)) (fun i=>D.length - (intOf i).toNat)
 case atStart=>exact⟨0,ZL _,rfl,fun q hq=>by omega⟩
 case round=>
  obtain⟨k,hk,rfl,Z⟩:=hrel
  by_cases G:k<D.length
  ·obtain⟨J,O⟩:=Y.out k G
   have I:Hid (D.getD k 0∈D):=by rw[Zs,Zv G];exact ZV G
   clear Y;generalize R:D.getD k 0=x at J I O;have HX:=Hi R;clear R
   by_cases U:x=z
   ·subst U
    go_wp2
    refine⟨⟨k+1,by omega,by go_num,fun q hq=>?_⟩,by simp[intOf];omega⟩
    by_cases e:q=k
    ·rw[e];exact HX.out
    ·exact Z.out q (by omega)
   ·have aa: ¬((x:Int)=(z:Int)):=by omega
    have ab:((x:Int)==(z:Int))=false:=by simpa using aa
    have HV:=Hi U;clear U
    go_wp2
    go_ret;refine⟨eV ?_,rfl⟩;unfold gq;rw[Zt (fun e=>HV.out (by simpa using abn.1 e x I.out))];rfl
  ·go_wp2
   go_ret;refine⟨eV ?_,rfl⟩;unfold gq;rw[Zu];rw[abn];intro x R;obtain⟨j,hj,rfl⟩:=aa0.1 R;have:=Z.out j (by omega)
   rw[Zs,Zv hj] at this
   simpa using this
theorem By (ks:List Nat) (v:Nat) (b cap:Nat) (w:World) (hl:ks.length≤100)
 (I:∀j,j<ks.length→Cq w b j (Iq (ks.getD j 0))):
 Calls prog 217 #[Sq b ks.length cap,Iq v] w fun e w'=>(∃r:Int,e= .returned (Iq r)∧ -1≤r∧r≤1000∧(decide (0≤r)=ks.contains v))∧w'=w:=by
 have Y:=Hi I;clear I;go_enter func217,ntmps217
 go_wp2
 go_loop [8] (fun i=> ∃k:Nat,k≤ks.length∧i= Iq k∧Hid (∀q,q<k→ks.getD q 0≠v)) (fun i=>ks.length - (intOf i).toNat)
 case atStart=>exact⟨0,ZL _,rfl,fun q Z=>by omega⟩
 case round=>
  obtain⟨k,hk,rfl,J⟩:=hrel
  by_cases z:k<ks.length
  ·have E:=Y.out k z
   have D:Hid (ks.getD k 0∈ks):=by rw[Zs,Zv z];exact ZV z
   generalize O:ks.getD k 0=x at E D;have HX:=Hi O;clear O
   by_cases G:v=x
   ·subst G
    go_wp2
    go_ret;refine⟨⟨k,rfl,by omega,by omega,?_⟩,rfl⟩
    simp[D.out]
   ·have R: ¬((v:Int)=(x:Int)):=by omega
    have aa:((v:Int)==(x:Int))=false:=by simpa using R
    have HV:=Hi G;clear G
    go_wp2
    refine⟨⟨k+1,by omega,by go_num,fun q Z=>?_⟩,by simp[intOf];omega⟩
    by_cases e:q=k
    ·rw[e,HX.out];exact fun e=>HV.out e.symm
    ·exact J.out q (by omega)
  ·go_wp2
   go_ret;refine⟨⟨-1,rfl,by omega,by omega,?_⟩,rfl⟩
   have U:v∉ks:=fun e=>by
    obtain⟨j,hj,V⟩:=aa0.1 e;exact J.out j (by omega) (by rw[Zs,Zv hj];exact V)
   simp[U]
theorem wP (ks:List Nat) (v:Nat) (b cap:Nat) (w:World) (E:ks.length≤100)
 (z:∀j,j<ks.length→Cq w b j (Iq (ks.getD j 0))):
 Calls prog 155 #[Sq b ks.length cap,Iq v] w fun e w'=>e= .returned (.bool (ks.contains v))∧w'=w:=by
 have D:=By ks v b cap w E z;clear z;go_enter func155,ntmps155;go_wp2_with fail;apply D.mono;rintro e w' ⟨⟨r,rfl,I,J,h3⟩,rfl⟩;have G:=Hi h3;clear D h3;go_wp2;go_ret;exact⟨lQ G.out,rfl⟩
end Go.Proofs.YtfkdailfcmnjlaaGreatDoor
set_option maxHeartbeats 40000000
set_option maxRecDepth 1000000
namespace Go.Proofs.YtfkdailfcmnjlaaGreatDoor
open Go Go.RowKit Tryz
attribute [local go_sem ↓] Go.wp_at_zero Go.wp_at_succ
variable {bs : Nat}
theorem zU (k:Nat) (z:List Nat) (g:Nat) (w:World) (hl:z.length≤3) (R:0<z.length)
 (G:k=6∨k=7∨k=9∨k=10∨k=17∨k=18∨k=19∨k=8∨k=14) (O:k=8→True) (J:k=14→z.length=3)
 (E:∀j,j<z.length→Cq w g j (Iq (z.getD j 0))∧z.getD j 0≤100):
 Calls prog 156 #[Iq k,Sq g z.length z.length] w fun e w'=>e= .returned (Iq (fU k z))∧Below w.heap.size w w':=by
 rcases G with G|G|G|G|G|G|G|G|G
 ·subst G
  have D:=jy z g 0 z.length 1 1 w (by omega) (by omega) (by simpa using E)
  have I:Hid (fU 6 z=gq z 1 1):=rfl;clear E O J;generalize fU 6 z=r at*;go_enter func156,ntmps156;go_wp2_with fail;apply D.mono;rintro e w' ⟨rfl,rfl⟩;clear D;go_wp2;go_ret;exact⟨eV (by rw[I.out]),ZA _ _⟩
 ·subst G
  have D:=jy z g 0 z.length 1 1 w (by omega) (by omega) (by simpa using E)
  have I:Hid (fU 7 z=gq z 1 1):=rfl;clear E O J;generalize fU 7 z=r at*;go_enter func156,ntmps156;go_wp2_with fail;apply D.mono;rintro e w' ⟨rfl,rfl⟩;clear D;go_wp2;go_ret;exact⟨eV (by rw[I.out]),ZA _ _⟩
 ·subst G
  have D:=jy z g 0 z.length 1 2 w (by omega) (by omega) (by simpa using E)
  have I:Hid (fU 9 z=gq z 1 2):=rfl;clear E O J;generalize fU 9 z=r at*;go_enter func156,ntmps156;go_wp2_with fail;apply D.mono;rintro e w' ⟨rfl,rfl⟩;clear D;go_wp2;go_ret;exact⟨eV (by rw[I.out]),ZA _ _⟩
 ·subst G
  have D:=jy z g 0 z.length 1 2 w (by omega) (by omega) (by simpa using E)
  have I:Hid (fU 10 z=gq z 1 2):=rfl;clear E O J;generalize fU 10 z=r at*;go_enter func156,ntmps156;go_wp2_with fail;apply D.mono;rintro e w' ⟨rfl,rfl⟩;clear D;go_wp2;go_ret;exact⟨eV (by rw[I.out]),ZA _ _⟩
 ·subst G
  have D:=jy z g 0 z.length 2 2 w (by omega) (by omega) (by simpa using E)
  have I:Hid (fU 17 z=gq z 2 2):=rfl;clear E O J;generalize fU 17 z=r at*;go_enter func156,ntmps156;go_wp2_with fail;apply D.mono;rintro e w' ⟨rfl,rfl⟩;clear D;go_wp2;go_ret;exact⟨eV (by rw[I.out]),ZA _ _⟩
 ·subst G
  have D:=jy z g 0 z.length 2 2 w (by omega) (by omega) (by simpa using E)
  have I:Hid (fU 18 z=gq z 2 2):=rfl;clear E O J;generalize fU 18 z=r at*;go_enter func156,ntmps156;go_wp2_with fail;apply D.mono;rintro e w' ⟨rfl,rfl⟩;clear D;go_wp2;go_ret;exact⟨eV (by rw[I.out]),ZA _ _⟩
 ·subst G
  have D:=jy z g 0 z.length 2 2 w (by omega) (by omega) (by simpa using E)
  have I:Hid (fU 19 z=gq z 2 2):=rfl;clear E O J;generalize fU 19 z=r at*;go_enter func156,ntmps156;go_wp2_with fail;apply D.mono;rintro e w' ⟨rfl,rfl⟩;clear D;go_wp2;go_ret;exact⟨eV (by rw[I.out]),ZA _ _⟩
 ·subst G
  obtain⟨Y,U⟩:=E 0 R;have D:=jy z g 0 z.length (z.getD 0 0) 2 w (by omega) U (by simpa using E)
  have I:Hid (fU 8 z=gq z (z.getD 0 0) 2):=rfl;clear E O J;generalize fU 8 z=r at*;generalize z.getD 0 0=u0 at*;go_enter func156,ntmps156;go_wp2_with fail;apply D.mono;rintro e w' ⟨rfl,rfl⟩;clear D;go_wp2;go_ret;exact⟨eV (by rw[I.out]),ZA _ _⟩
 ·subst G
  have h3:=J rfl;obtain⟨Y,U⟩:=E 0 R;obtain⟨Z,aa⟩:=E 1 (by omega)
  have D:=jy (z.drop 1) g 1 (z.length - 1) (z.getD 1 0) (z.getD 1 0) w.drew (by simp;omega) aa (fun j hj=>by
   have:=E (1+j) (by simp at hj;omega)
   rw[show(z.drop 1).getD j 0=z.getD (1+j) 0 from by simp[Zs,Nat.add_comm]]
   exact this)
  rw[show(z.drop 1).length=z.length - 1 from by simp] at D
  have I:Hid (fU 14 z=if z.getD 0 0=2 then gq (z.drop 1) (z.getD 1 0) (z.getD 1 0) else 0):=rfl
  clear E O J;generalize fU 14 z=r at*;generalize z.getD 0 0=u0 at*;generalize z.getD 1 0=u1 at*;generalize z.drop 1=ur at*;rw[h3] at D;rw[h3]
  by_cases V:u0=2
  ·subst V
   go_enter func156,ntmps156;go_wp2
   go_region_held3 (fun w'=>Cq w' g 1 (Iq u1)) (first|exact Z|go_keep) ((refine D.mono ?_;rintro e w' ⟨rfl,rfl⟩))
   go_wp2;go_ret;exact⟨eV (by rw[I.out];simp),(ZA _ _).drew⟩
  ·have ab:((u0:Int)==(2:Int))=false:=by
    have: ¬((u0:Int)=2):=by omega
    simpa using this
   have H2:=Hi V;clear V D;go_enter func156,ntmps156;go_wp2;go_ret;exact⟨eV (by rw[I.out,Zt H2.out];rfl),ZA _ _⟩
end Go.Proofs.YtfkdailfcmnjlaaGreatDoor
namespace Go.Proofs.YtfkdailfcmnjlaaGreatDoor
open Go Go.RowKit Tryz
attribute [local go_sem ↓] Go.wp_at_zero Go.wp_at_succ
def rh:Nat→Nat→List (Tok×Tok×Nat×Int)→List (Tok×Tok×Nat×Int)
 |_,_,[]=>[]
 |l,r,y::ys=>if da y.1=11 then(y.1,y.2.1,y.2.2.1,(l:Int))::rh (l+1) r ys else(y.1,y.2.1,y.2.2.1,((r+1:Nat):Int))::rh l (r+1) ys
def sT:Nat→Nat→List dY→List (Tok×Tok×Nat×Int)→Prop
 |_,_,[],[]=>True
 |l,r,x::xs,y::ys=>(x.name≠[]∧y.2.2.2=(l:Int)∧sT (l+1) r xs ys)∨(x.name=[]∧y.2.2.2=((r+1:Nat):Int)∧sT l (r+1) xs ys)
 |_,_,_,_=>False
theorem sU:∀(l r:Nat) (ys:List (Tok×Tok×Nat×Int)),(rh l r ys).length=ys.length
 |_,_,[]=>rfl
 |l,r,y::ys=>by
  rw[rh]
  split
  ·simp[sU (l+1) r ys]
  ·simp[sU l (r+1) ys]
variable {w w':World} {base size g n j F gl cl:Nat} {v:Value} {ys:List (Tok×Tok×Nat×Int)}
theorem wQ {x:dY} {t u:Tok} (h:yh x t u):(x.name≠[]∧da t=11)∨(x.name=[]∧da t≠11):=by
 rcases h with h|h
 ·exact .inl ⟨h.1,h.2.1⟩
 ·exact .inr ⟨h.1,by rw[h.2.1];split<;>decide⟩
theorem zV {C:Nat→Nat→Prop}:∀{xs:List dY} {ys:List (Tok×Tok×Nat×Int)} (l r:Nat),dQ C xs ys→sT l r xs (rh l r ys)∧dQ C xs (rh l r ys)
 |[],[],_,_,_=>⟨trivial,trivial⟩
 |x::xs,y::ys,l,r,h=>by
  obtain⟨⟨J,z⟩,h3⟩:=h;rw[rh];rcases wQ z with⟨D,E⟩|⟨D,E⟩
  ·rw[Zu E]
   obtain⟨G,I⟩:=zV (l+1) r h3;exact⟨.inl ⟨D,rfl,G⟩,⟨J,z⟩,I⟩
  ·rw[Zt E]
   obtain⟨G,I⟩:=zV l (r+1) h3;exact⟨.inr ⟨D,rfl,G⟩,⟨J,z⟩,I⟩
theorem lD (h:w.ownsRow base 163 10 v ys.length (dV ys)):∃a cap,v= .slice a ys.length cap∧ ∀k,k<ys.length→ ∃g,a=some ⟨g,0,none⟩∧(∃cs,w.heap[g]?=some (.cells cs 163 (0,0)))∧ ∀j,j<10→w.cell? ⟨g,k*10+j,none⟩=(fC (ys.getD k (ff,ff,0,0)))[j]?:=by
 obtain⟨V,h⟩:=h;rcases h with⟨rfl,J⟩|⟨g,cap,D,rfl,Y,E,Z,h2,h3,O⟩
 ·exact⟨none,0,by rw[J],fun k z=>by omega⟩
 ·refine⟨_,cap,rfl,fun k z=>⟨g,rfl,⟨D,E⟩,fun j hj=>?_⟩⟩
  rw[Zz w g (k*10+j) _ _ _ E];have R:D[k*10+j]?=(D.toList.take (ys.length*10))[k*10+j]?:=by
   rw[aaD (by omega)];simp
  rw[R,O];have:∀(ys:List (Tok×Tok×Nat×Int)) (k:Nat),k<ys.length→(dV ys)[k*10+j]?=(fC (ys.getD k (ff,ff,0,0)))[j]?:=by
   intro ys
   induction ys with
   |nil=>intro k z;simp at z
   |cons y ys ih=>
    intro k z;have G:dV (y::ys)=fC y++dV ys:=rfl;have U:(fC y).length=10:=rfl
    cases k with
    |zero=>rw[G,aah (by omega)];simp
    |succ k=>
     rw[G,aaf (by omega),U,show(k+1)*10+j - 10=k*10+j from by omega,ih k (by simpa using z)]
     rfl
  exact this ys k z
theorem Bz {e:TypeId} {cap:Nat} {xs:List Value} (h:w.ownsRow base e size (Sq g n cap) n xs) (U:j<n*size) (u:Value):(w.setCell ⟨g,j,none⟩ u).ownsRow base e size (Sq g n cap) n (xs.set j u):=by
 obtain⟨D,h⟩:=h;refine⟨by simpa using D,?_⟩
 rcases h with⟨h,_⟩|⟨V,E,z,h,G,I,h3,J,O,R⟩
 ·simp at h
 ·simp only[aak,ZR,aaJ,aby,abf] at h
  obtain⟨rfl,rfl⟩:=h;refine .inr ⟨g,cap,z.setIfInBounds j u,rfl,G,ZK w g j _ _ u I,h3,J,by simpa using O,?_⟩
  rw[←R];simp[List.take_set]
theorem Gu (h:w.grownBy w' (some g)) (j:Nat) (u:Value):w.grownBy (w'.setCell ⟨g,j,none⟩ u) (some g):=
 ⟨h.os,h.tape,h.output,by simpa using h.size,fun k D z=>(ZO _ _ _ _ (by simpa using z)).trans (h.block k D z)⟩
theorem DL (d:List (Tok×Tok×Nat×Int)) (y:Tok×Tok×Nat×Int) (r:List (Tok×Tok×Nat×Int)) (n:Int):(dV (d++y::r)).set (d.length*10+8) (Iq n)=dV (d++(y.1,y.2.1,y.2.2.1,n)::r):=by
 have e:∀a b:List (Tok×Tok×Nat×Int),dV (a++b)=dV a++dV b:=fun a b=>by simp[dV]
 rw[e,e,←DJ d,List.set_append_right _ _ (by omega)]
 congr 1
 rw[show(dV d).length+8 - (dV d).length=8 by omega]
 simp[dV,fC]
theorem Gv (G:w.ownsRow base 163 10 v ys.length (dV ys)) (hy:ys.length≤1001):
 Calls prog 105 #[v] w fun e w'=>e= .returned (.tuple #[])∧w'.ownsRow base 163 10 v ys.length (dV (rh 0 0 ys))∧w.grownBy w' v.ownBlock:=by
 have ad:∃a cap,v= .slice a ys.length cap:=by
  rcases G.2 with⟨rfl,h0⟩|⟨g,cap,ae,rfl,_⟩
  ·exact⟨none,0,by rw[h0]⟩
  ·exact⟨_,cap,rfl⟩
 obtain⟨a,cap,rfl⟩:=ad;have ai:=hy;generalize hn:ys.length=n at*;have HN:=Hi hn;have HW:Hid (w.ownsRow base 163 10 (.slice a n cap) n (dV ys)):=G;have af:Hid (rh 0 0 ys=rh 0 0 ys):=rfl;generalize ab:rh 0 0 ys=nf at*;have HF:=Hi ab;go_enter func105,ntmps105;go_wp2
 go_loopw [2,3,7] (fun lv rv kv wr=> ∃(k l r:Nat) (d rest:List (Tok×Tok×Nat×Int)),k≤n∧l≤k∧r≤k∧kv= Iq k∧lv= Iq l∧rv= Iq r∧Hid (d.length=k∧k+rest.length=n∧nf=d++rh l r rest∧wr.ownsRow base 163 10 (.slice a n cap) n (dV (d++rest))∧w.grownBy wr (Value.slice a n cap).ownBlock)) (fun _ _ kv _=>n - (intOf kv).toNat)
 case atStart=>exact⟨0,0,0,[],ys,ZL _,ZL _,ZL _,rfl,rfl,rfl,rfl,by rw[aaq];exact HN.out,HF.out.symm,HW.out,World.grownBy.refl _ _⟩
 case round=>
  obtain⟨k,l,r,d,rest,hk,hl,hr,rfl,rfl,rfl,Z⟩:=hrel
  by_cases aj:k<n
  ·obtain⟨O,I,h3,R,U⟩:=Z.out
   cases rest with
   |nil=>simp at I;omega
   |cons y q=>
    have J:=R;rcases R.2 with⟨_,h0⟩|⟨g,ac,ae,e,hb,hg,_⟩
    ·omega
    ·simp only[aak,abf] at e
     obtain⟨rfl,rfl⟩:=e;have z:∀j,j<10→wr.cell? ⟨g,k*10+j,none⟩=(fC y)[j]?:=fun j hj=>by
      have aa:wr.ownsRow base 163 10 (Sq g (d++y::q).length cap) (d++y::q).length (dV (d++y::q)):=by
       have e:(d++y::q).length=n:=by simp at I⊢;omega
       rw[e];exact J
      obtain⟨a',ac,e,V⟩:=lD aa;obtain⟨g',e',_,V⟩:=V k (by simp;omega)
      simp only[aak,abf] at e;rw[←e.1] at e';simp at e';rw[←e'] at V;have e3:(d++y::q).getD k (ff,ff,0,0)=y:=by
       rw[Zs,aaf (by omega),O];simp
      rw[e3] at V;exact V j hj
     have c0:Cq wr g (k*10) (Iq (da y.1)):=z 0 (by omega)
     have c8:=z 8 (by omega)
     have ak:∀j,wr.frozen? ⟨g,j,none⟩=false:=fun j=>by simp[World.frozen?,hg]
     have Y:=fun(m:Int)=>Bz J (j:=k*10+8) (by omega) (Iq m)
     have D:=fun(m:Int)=>DL d y q m
     rw[O] at D;have HS:Hid (∀m:Int,(wr.setCell ⟨g,k*10+8,none⟩ (Iq m)).ownsRow base 163 10 (Sq g n cap) n (dV (d++(y.1,y.2.1,y.2.2.1,m)::q))∧w.grownBy (wr.setCell ⟨g,k*10+8,none⟩ (Iq m)) (Value.slice (some ⟨g,0,none⟩) n cap).ownBlock):=fun m=>⟨by rw[←D m];exact Y m,Gu U _ _⟩
     have H3:=Hi h3;have H1:=Hi O;have H2:=Hi I
     by_cases E:da y.1=11
     ·rw[E] at c0
      go_wp2
      go_roundw
      case rel=>
       refine⟨k+1,l+1,r,d++[(y.1,y.2.1,y.2.2.1,(l:Int))],q,by omega,by omega,by omega,by simp,by simp,rfl,by simp[H1.out],by have:=H2.out;simp at this;omega,?_,?_,(HS.out l).2⟩
       ·rw[H3.out,rh,Zu E];simp
       ·have:=(HS.out l).1
        simpa using this
      case measure=>simp[intOf];omega
     ·have ag:((da y.1:Int)==(11:Int))=false:=by
       have: ¬((da y.1:Int)=11):=by omega
       simpa using this
      have HK:=Hi E;generalize da y.1=kd at c0 ag;go_wp2
      go_roundw
      case rel=>
       refine⟨k+1,l,r+1,d++[(y.1,y.2.1,y.2.2.1,((r+1:Nat):Int))],q,by omega,by omega,by omega,by simp,rfl,by simp,by simp[H1.out],by have:=H2.out;simp at this;omega,?_,?_,?_⟩
       ·rw[H3.out,rh,Zt HK.out];simp
       ·have:=(HS.out ((r+1:Nat):Int)).1
        simpa using this
       ·have:=(HS.out ((r+1:Nat):Int)).2
        simpa using this
      case measure=>simp[intOf];omega
  ·have ah:k=n:=by omega
   subst ah;obtain⟨O,I,h3,R,U⟩:=Z.out;have hr:rest=[]:=by cases rest with
    |nil=>rfl
    |cons y q=>simp at I
   subst hr;have HE:Hid (wr.ownsRow base 163 10 (.slice a k cap) k (dV nf)∧w.grownBy wr (Value.slice a k cap).ownBlock):=⟨by rw[h3];exact R,U⟩
   go_wp2
   go_end0
   exact⟨rfl,HE.out⟩
def sV (ts:List Tok) (R:rP) (w:World) (e:Ending) (w':World):Prop:=
 Below w.heap.size w w'∧((R.ok=false∧e= .returned (.tuple #[.slice none 0 0,Iq (dc ts R.i).pl,.bool false]))∨(R.ok=true∧ ∃v ys,e= .returned (.tuple #[v,Iq 0,.bool true])∧ys.length≤1001∧w'.ownsRow w.heap.size 163 10 v ys.length (dV ys)∧dQ (dJ R.L w.heap.size w') R.xs ys∧sT 0 0 R.xs ys))
def Pn (F rb gl cl:Nat) (ts:List Tok) (R:rP) (D:Nat) (v:Value) (wr:World):Prop:=
 (∃(i:Nat) (L:List Pt) (xs:List dY) (g:Nat) (ys:List (Tok×Tok×Nat×Int)),RR rb gl cl ts ⟨i,false,0⟩ wr∧fs F ts g i L xs=some R∧ys.length≤i∧wr.ownsRow D 163 10 v ys.length (dV ys)∧dQ (dJ L rb wr) xs ys)∨
 (R.ok=false∧RR rb gl cl ts (gF ts ⟨R.i,false,0⟩) wr)
theorem Gw {ts:List Tok} {R:rP} (hW:∀t∈ts,iK t) (hN:∀t∈ts,t.k=111→t.text≠[]) (hn:0<ts.length) (aq:ts.length≤1001) (ao:da (dc ts (ts.length - 1))=0)
 (wl:∃cs,w.heap[gl]?=some (.cells cs 160 (0,0)))
 (wc:∀i,i<ts.length→Cq w gl (i*4) (Iq (da (dc ts i)))∧Cq w gl (i*4+1) (Iq (dc ts i).pl)∧Cq w gl (i*4+2) (Iq (dz (dc ts i)))∧Cq w gl (i*4+3) (S (di (dc ts i))))
 (hR:fs F ts g 0 [] []=some R):
 Calls prog 56 #[Sq gl ts.length cl] w (sV ts R w):=by
 obtain⟨i0,hi,ar,au,av⟩:=abF oR;have aj:=be wl.choose_spec;have Y:Below w.heap.size w (w.alloc (mO gl ts.length cl ⟨0,false,0⟩)):=(ZA _ _).alloc (Zw _) _;have h0:RR w.heap.size gl cl ts ⟨0,false,0⟩ (w.alloc (mO gl ts.length cl ⟨0,false,0⟩)):=by
  refine⟨Zy w _,?_,fun i hi=>?_,hn,aq,ao⟩
  ·rw[Y.block _ aj];exact wl
  ·have e:∀j,(w.alloc (mO gl ts.length cl ⟨0,false,0⟩)).cell? ⟨gl,j,none⟩=w.cell? ⟨gl,j,none⟩:=fun j=>ZI (w:=w) (Y.block _ aj)
   rw[e,e,e,e];exact wc i hi
 have aa:Pn F w.heap.size gl cl ts R w.heap.size (.slice none 0 0) (w.alloc (mO gl ts.length cl ⟨0,false,0⟩)):=
  .inl ⟨0,[],[],g,[],h0,hR,by simp,aam _ _ _ _,trivial⟩
 have aw:=Hi (Ot (rb:=w.heap.size) (gl:=gl) (cl:=cl) hW F).1;have HW:=Hi hW;have HN:=Hi hN;unfold mO at Y aa;go_enter func56,ntmps56;go_wp2;generalize w.alloc (.cells #[Sq gl ts.length cl,Iq (0:Nat),.bool false,Iq (0:Nat)] 213 (0,0))=wz at Y aa;generalize Z:w.heap.size=rb at*
 go_loopw [6] (fun v wr=>Pn F rb gl cl ts R rb v wr∧Below rb w wr) (fun _ wr=>ts.length - Lr rb wr)
 case atStart=>exact⟨aa,Y⟩
 case round=>
  obtain⟨ax,z⟩:=hrel;rcases ax with⟨i,L,xs,g',ys,E,hp,aG,O,ab⟩|⟨ay,E⟩
  ·have ht:=HW.out _ (jx E.lt)
   simp only[] at ht;have J:=jm E;simp only[] at J
   by_cases U:da (dc ts i)=0
   ·have az:=qv hp ((Bx ht).1 U)
    subst az;rw[U] at J;obtain⟨⟨r0,r1,r2,r3⟩,rf⟩:=E.drew.cells;have D:wr.drew.ownsRow rb 163 10 u6 ys.length (dV ys):=O;have ad:ys.length≤1001:=by have:=E.lt;have:=E.nb;simp only[] at*;omega
    have WC:=Gv D ad;have HA:Hid (∀w',w'.ownsRow rb 163 10 u6 ys.length (dV (rh 0 0 ys))→wr.drew.grownBy w' u6.ownBlock→sV ts ⟨true,i,L,xs⟩ w (.returned (.tuple #[u6,Iq 0,.bool true])) w'):=fun w' ho V=>by
     have aA:∀q,u6.ownBlock=some q→rb≤q:=fun q hq=>by
      rcases D.2 with⟨e,_⟩|⟨g,c,aH,e,hb,_⟩
      ·rw[e] at hq;simp[Value.ownBlock] at hq
      ·rw[e] at hq;simp[Value.ownBlock] at hq;omega
     have hB:Below w.heap.size w w':=⟨V.os.trans z.drew.os,V.tape.trans z.drew.tape,V.output.trans z.drew.output,Z8 z.drew.size V.size,fun q hq=>by
      rw[Z] at hq;rw[V.block q (by have:=z.drew.size;omega) (fun e=>by have:=aA q e.symm;omega)]
      exact z.drew.block q hq⟩
     obtain⟨n1,n2⟩:=zV 0 0 ab;refine⟨hB,.inr ⟨rfl,u6,rh 0 0 ys,rfl,by rw[sU];exact ad,?_,?_,n1⟩⟩
     ·rw[Z,sU];exact ho
     ·rw[Z];exact n2.mono fun i b h=>(h.keep fun k _ _ _ _=>rfl:dJ L rb wr.drew i b).grown D V
    go_wp2_with fail;apply J.mono;rintro e w' ⟨rfl,rfl⟩;go_wp2_with fail;apply WC.mono;rintro e w' ⟨rfl,ho,V⟩;have aB:Hid (sV ts ⟨true,i,L,xs⟩ w (.returned (.tuple #[u6,Iq 0,.bool true])) w'):=HA.out w' ho V;go_wp2;refine ZH (v:= .tuple #[u6,Iq 0,.bool true]) (by simp[results,results56,go_sem]) rfl ?_
    exact aB.out
   ·obtain⟨r,g2,ae,ac⟩:=vX hp fun e=>U ((Bx ht).2 e)
    have ah:=E.more (by simpa using U)
    have aI:((da (dc ts i):Int)==(0:Int))=false:=by
     have: ¬((da (dc ts i):Int)=0):=by omega
     simpa using this
    have ak:=Gt aw.out HW.out HN.out E.drew rfl ae;have D:=O;have aC:=E.lt;simp only[] at aC ah;have HR:=Hi E;have am:=Hi ac;have HT:=Hi ab;have HI:=Hi ae;generalize da (dc ts i)=kd at*;go_wp2_with fail;apply J.mono;rintro e w' ⟨rfl,rfl⟩;go_wp2_with fail;apply ak.mono;rintro e w1 ⟨t,u,b,rfl,F1,hL⟩;have I:=DK HR.out.drew D F1;have af:Below rb w w1:=⟨F1.os.trans z.drew.os,F1.tape.trans z.drew.tape,F1.output.trans z.drew.output,Z8 z.drew.size F1.size,fun k U=>(F1.block k (by have:=z.drew.size;omega) (by omega)).trans (z.drew.block k U)⟩
    have aK:=af.size;have HL:=Hi hL;have aD:=Hi F1;unfold K7
    go_wp2_with (
     at_builtin
     go_must (refine wpList_append_lies _ (by rfl) _ _ 84 (by rfl) rb 163 i0 (.agg #[Iq 0,Iq 0,Iq 0,.string ⟨#[]⟩,Iq 0,Iq 0,Iq 0,.string ⟨#[]⟩,Iq 0,.pointer none]) 10 96 underlying84 hi ar au av (by rfl) (by decide) _ _ _ (by rfl) (I.alloc _) ⟨w1.heap.size,0,none⟩ 1 1 (fC (t,u,b,0)) (by rfl) (by rfl) (World.news_of_block (Zy w1 _)) (fun x hx=>by simp[fC] at hx;rcases hx with rfl|rfl|rfl|rfl|rfl|rfl|rfl|rfl|rfl|rfl<;>rfl) (by decide) (by unfold maxLen;omega) (by omega) (by simp;omega) _ rfl ?_)
     intro g3 cap w3 ai G aL aF)
    have ag:Below rb w w3:=by subst Z;exact rT af I G
    rcases HL.out with⟨ok,h1,hc,aE⟩|⟨ok,h1⟩
    ·have ha:=h1.apart I
     have h3:=(h1.alloc _).grown G ha.1 ha.2;obtain⟨aM,ap⟩:=Js HI.out ok;refine⟨⟨.inl ⟨r.i,r.L,xs++[r.it],g2,ys++[(t,u,b,0)],h3,?_,by simp;omega,?_,?_⟩,ag⟩,?_⟩
     ·rcases am.out with⟨_,hp⟩|⟨no,_⟩
      ·exact hp
      ·rw[ok] at no;simp at no
     ·rw[nJ];simpa using ai
     ·refine dQ.snoc (((hc.grow ((ZA _ _).alloc (Zw _) _)).grown (I.alloc _) G)) aE (HT.out.mono fun i b h=>?_)
      exact(qA ((h.pf HR.out (PF.refl rb wr).drew).pf HR.out.drew aD.out) ap).grow ((ZA _ _).alloc (Zw _) _)|>.grown (I.alloc _) G
     ·rw[nI h3,nI HR.out];have:=h3.lt;simp only[] at*;omega
    ·have ha:=h1.apart I
     have h3:=(h1.alloc _).grown G ha.1 ha.2;refine⟨⟨.inr ?_,ag⟩,?_⟩
     ·rcases am.out with⟨an,_⟩|⟨_,rfl⟩
      ·rw[ok] at an;simp at an
      ·exact⟨rfl,h3⟩
     ·rw[nI h3,nI HR.out];simp only[gF];omega
  ·have J:=jm E
   have U:da (dc ts (gF ts ⟨R.i,false,0⟩).i)=0:=by rw[show(gF ts ⟨R.i,false,0⟩).i=ts.length - 1 from rfl];exact E.fin
   rw[U] at J;obtain⟨⟨r0,r1,r2,r3⟩,rf⟩:=E.drew.cells;have HA:Hid (sV ts R w (.returned (.tuple #[.slice none 0 0,Iq (dc ts R.i).pl,.bool false])) wr.drew.drew):=
    ⟨by rw[Z];exact z.drew.drew,.inl ⟨ay,rfl⟩⟩
   simp only[gF] at r0 r1 r2 r3;rw[Zt (by simp)] at r3
   generalize (dc ts R.i).pl=pp at*;go_wp2_with fail;apply J.mono;rintro e w' ⟨rfl,rfl⟩;go_wp2_with fail
   go_region_held (fun w'=>w'.cell? ⟨rb,3,none⟩=some (Iq pp)) (go_keep) (fail)
   go_wp2;refine ZH (v:= .tuple #[.slice none 0 0,Iq pp,.bool false]) (by simp[results,results56,go_sem]) rfl ?_
   exact HA.out
end Go.Proofs.YtfkdailfcmnjlaaGreatDoor
set_option maxHeartbeats 40000000
set_option maxRecDepth 1000000
namespace Go.Proofs.YtfkdailfcmnjlaaGreatDoor
open Go Go.RowKit Tryz
attribute [local go_sem ↓] Go.wp_at_zero Go.wp_at_succ
variable {bs : Nat}
structure ey (bs:Nat) (L:List Pt) (N:Tok→Int→Prop) (w:World) (i b:Nat):Prop where
 lay::
 out:∀C:Nat→Nat→Prop,(∀(i b:Nat) (u:Value) (n:Int) (bl:Nat→Nat),i<L.length→bs≤b→N (L.getD i dh).tok n→w.heap[b]?=some (iA (L.getD i dh).tok u n)→jw w u (L.getD i dh).subs.length bl→(∀j,j<(L.getD i dh).subs.length→C ((L.getD i dh).subs.getD j 0) (bl j))→C i b)→C i b
theorem ey.mk {L:List Pt} {N:Tok→Int→Prop} {w:World} (i b:Nat) (u:Value) (n:Int) (bl:Nat→Nat) (hi:i<L.length) (hlo:bs≤b) (hn:N (L.getD i dh).tok n) (hb:w.heap[b]?=some (iA (L.getD i dh).tok u n))
 (hu:jw w u (L.getD i dh).subs.length bl) (hs:∀j,j<(L.getD i dh).subs.length→ey bs L N w ((L.getD i dh).subs.getD j 0) (bl j)):ey bs L N w i b:=
 ⟨fun C hC=>hC i b u n bl hi hlo hn hb hu fun j hj=>(hs j hj).out C hC⟩
variable {L:List Pt} {N:Tok→Int→Prop} {w w':World} {i b g:Nat}
theorem ey.ind (M:Nat→Nat→Prop)
 (hM:∀(i b:Nat) (u:Value) (n:Int) (bl:Nat→Nat),i<L.length→bs≤b→N (L.getD i dh).tok n→w.heap[b]?=some (iA (L.getD i dh).tok u n)→jw w u (L.getD i dh).subs.length bl→(∀j,j<(L.getD i dh).subs.length→ey bs L N w ((L.getD i dh).subs.getD j 0) (bl j))→(∀j,j<(L.getD i dh).subs.length→M ((L.getD i dh).subs.getD j 0) (bl j))→M i b)
 (h:ey bs L N w i b):M i b:=
 (h.out (fun i b=>ey bs L N w i b∧M i b) fun i b u n bl hi hlo hn hb hu hs=>⟨.mk i b u n bl hi hlo hn hb hu fun j hj=>(hs j hj).1,hM i b u n bl hi hlo hn hb hu (fun j hj=>(hs j hj).1) fun j hj=>(hs j hj).2⟩).2
theorem ey.inv (h:ey bs L N w i b):∃(u:Value) (n:Int) (bl:Nat→Nat),i<L.length∧bs≤b∧N (L.getD i dh).tok n∧w.heap[b]?=some (iA (L.getD i dh).tok u n)∧jw w u (L.getD i dh).subs.length bl∧ ∀j,j<(L.getD i dh).subs.length→ey bs L N w ((L.getD i dh).subs.getD j 0) (bl j):=
 h.ind (fun i b=> ∃(u:Value) (n:Int) (bl:Nat→Nat),i<L.length∧bs≤b∧N (L.getD i dh).tok n∧w.heap[b]?=some (iA (L.getD i dh).tok u n)∧jw w u (L.getD i dh).subs.length bl∧ ∀j,j<(L.getD i dh).subs.length→ey bs L N w ((L.getD i dh).subs.getD j 0) (bl j)) fun _ _ u n bl hi hlo hn hb hu hs _=>⟨u,n,bl,hi,hlo,hn,hb,hu,hs⟩
theorem dJ.toS (h:dJ L bs w i b) (hN:∀k,k<L.length→N (L.getD k dh).tok 0):ey bs L N w i b:=
 h.ind (fun i b=>ey bs L N w i b) fun i b u bl hi hlo hb hu _ _ ih=> .mk i b u 0 bl hi hlo (hN i hi) hb hu ih
theorem ey.keep (h:ey bs L N w i b)
 (hk:∀(k:Nat) (cs:Array Value) (ty:TypeId),w.heap[k]?=some (Obj.cells cs ty (0,0))→ty=229∨ty=161→w'.heap[k]?=w.heap[k]?):ey bs L N w' i b:=by
 refine h.ind (fun i b=>ey bs L N w' i b) ?_
 ·intro i b u n bl hi hlo hn hb hu hs ih
  refine .mk i b u n bl hi hlo hn ?_ ?_ ih
  ·rw[hk b _ _ hb (.inl rfl)];exact hb
  ·rcases hu with hu|⟨h0,g,h1,h2⟩
   ·exact .inl hu
   ·exact .inr ⟨h0,g,h1,by rw[hk g _ _ h2 (.inr rfl)];exact h2⟩
theorem ey.grow (h:ey bs L N w i b) (hb:Below w.heap.size w w'):ey bs L N w' i b:=
 h.keep fun k _ _ hk _=>hb.block k (be hk)
theorem kL {t:Tok} {u:Value} {n:Int} (h:w.heap[b]?=some (iA t u n)):(Cq w b 0 (Iq (da t))∧Cq w b 1 (Iq t.pl)∧Cq w b 2 (Iq (dz t))∧Cq w b 3 (S (di t))∧Cq w b 4 u∧Cq w b 5 (Iq n))∧ ∀j,w.frozen? ⟨b,j,none⟩=false:=by
 have z:=fun j=>Zz w b j _ _ _ h
 exact⟨⟨z 0,z 1,z 2,z 3,z 4,z 5⟩,fun j=>by simp[World.frozen?,h,iA]⟩
theorem mV {n:Nat} {z:Nat→Nat} (h:w.heap[g]?=some (.cells ((List.range n).map fun j=>Value.pointer (some ⟨z j,0,none⟩)).toArray 161 (0,0))) (j:Nat) (D:j<n):w.cell? ⟨g,j,none⟩=some (.pointer (some ⟨z j,0,none⟩)):=by
 rw[Zz w g j _ _ _ h];simp[D]
theorem jw.slice {w:World} {u:Value} {n:Nat} {z:Nat→Nat} (h:jw w u n z):∃a,u= .slice a n n∧ ∀j,j<n→ ∃g,a=some ⟨g,0,none⟩∧w.heap[g]?=some (.cells ((List.range n).map fun j=>Value.pointer (some ⟨z j,0,none⟩)).toArray 161 (0,0)):=by
 rcases h with⟨rfl,rfl⟩|⟨I,g,rfl,E⟩
 ·exact⟨none,rfl,fun j J=>by omega⟩
 ·exact⟨_,rfl,fun j _=>⟨g,rfl,E⟩⟩
theorem DM (F:Nat→Nat) (l:List Nat) (k:Nat) (z:k<l.length):mn F (l.take (k+1))=mn F (l.take k)+F (l.getD k 0):=by
 induction l generalizing k with
 |nil=>simp at z
 |cons x l ih=>
  cases k with
  |zero=>simp[mn]
  |succ k=>simp only[aaR,mn,ZX];rw[ih k (by simpa using z)];omega
theorem BA (F:Nat→Nat) (l:List Nat) (k:Nat):mn F (l.take k)≤mn F l:=by
 induction l generalizing k with
 |nil=>simp[mn]
 |cons x l ih=>
  cases k with
  |zero=>simp[mn]
  |succ k=>simp only[aaR,mn];have:=ih k;omega
theorem Gy (hL:L.length≤5000) (f:Nat):∀{lo i b:Nat} {w:World},eK f L lo i→ey bs L N w i b→
 Calls prog 106 #[.pointer (some ⟨b,0,none⟩)] w fun e w'=>e= .returned (.int .i64 (cnt f L i))∧Below w.heap.size w w':=by
 induction f with
 |zero=>intro lo i b w h;exact h.elim
 |succ f ih=>
  intro lo i b w hT hC;have hcnt:=hT.cnt;have hle:=hT.le;have hlt:=hT.lt;obtain⟨u,n,bl,hi,hlo,hn,hb,hu,hs⟩:=hC.inv;obtain⟨⟨c0,c1,c2,c3,c4,c5⟩,cf⟩:=kL hb;rw[cnt] at hcnt;obtain⟨a,rfl,ha⟩:=hu.slice;have hn3:(L.getD i dh).subs.length≤3:=by
   rcases hT.2.1 with⟨_,h1⟩|⟨_,h1⟩|⟨_,h1⟩|⟨m,_,_,h1⟩
   ·rw[h1];simp
   all_goals omega
  have hsub:=jX _ hT.2.2;have HS:=Hi hs;have HT:=Hi hsub;have HA:=Hi ha;clear hs hb hu hT hsub ha hn;generalize hjs:(L.getD i dh).subs=js at*;have HJS:=Hi hjs;clear hjs;go_enter func106,ntmps106;go_wp2
  go_loopw [3,11] (fun nv kv wr=> ∃k,k≤js.length∧kv= .int .i64 k∧nv= .int .i64 (1+mn (cnt f L) (js.take k):Nat)∧Below w.heap.size w wr) (fun _ kv _=>js.length - (intOf kv).toNat)
  case atStart=>exact⟨0,ZL _,rfl,rfl,ZA _ _⟩
  case round=>
   obtain⟨k,hk,rfl,rfl,hbw⟩:=hrel;have hsl:=BA (cnt f L) js k
   by_cases hlt:k<js.length
   ·obtain⟨g,rfl,hg⟩:=HA.out k hlt
    have hg':=(hbw.block g (be hg)).trans hg;have hcell:=mV hg' k hlt;have htk:=DM (cnt f L) js k hlt;have hsl2:=BA (cnt f L) js (k+1);obtain⟨lo',hT'⟩:=HT.out (js.getD k 0) (by rw[Zs,Zv hlt];exact ZV hlt)
    have HI:=ih hT' ((HS.out k hlt).grow hbw);clear hg hg' hT';rw[htk] at hsl2;have HTK:=Hi htk;clear htk;generalize mn (cnt f L) (js.take k)=A at*;generalize cnt f L (js.getD k 0)=X at*;go_wp2_with fail;apply HI.mono;rintro e w1 ⟨rfl,hb1⟩;clear HI;go_wp2
    go_roundw
    case rel=>
     refine⟨k+1,by omega,by simp,?_,hbw.trans (hb1.mono hbw.size)⟩
     rw[HTK.out];simp;omega
    case measure=>simp[intOf];omega
   ·have hke:k=js.length:=by omega
    subst hke;rw[abc] at*;go_wp2;go_ret;exact⟨by rw[cnt,HJS.out];rfl,hbw⟩
end Go.Proofs.YtfkdailfcmnjlaaGreatDoor
set_option maxHeartbeats 40000000
set_option maxRecDepth 1000000
namespace Go.Proofs.YtfkdailfcmnjlaaGreatDoor
open Go Go.RowKit Tryz
attribute [local go_sem ↓] Go.wp_at_zero Go.wp_at_succ
variable {bs : Nat}
theorem DN {L:List Pt} {N:Tok→Int→Prop} (f:Nat) (hf:f≤5001):∀{V i b:Nat} {w:World},eK f L V i→ey bs L N w i b→
 Calls prog 108 #[Pq b] w fun e w'=>e= .returned (Iq (dep f L i))∧Below w.heap.size w w':=by
 induction f with
 |zero=>intro V i b w h;exact h.elim
 |succ f ih=>
  intro V i b w E hC;have ih:= @ih (by omega)
  obtain⟨u,n,bl,hi,ah,hn,hb,hu,hs⟩:=hC.inv;obtain⟨⟨c0,c1,c2,c3,c4,c5⟩,cf⟩:=kL hb;obtain⟨a,rfl,ha⟩:=hu.slice;have ai:(L.getD i dh).subs.length≤3:=by
   rcases E.2.1 with⟨_,J⟩|⟨_,J⟩|⟨_,J⟩|⟨m,_,_,J⟩
   ·rw[J];simp
   all_goals omega
  have G:=jX _ E.2.2;have HS:=Hi hs;have HT:=Hi G;have HA:=Hi ha;generalize O:(L.getD i dh).subs=js at*;have aa:=Hi O;go_enter func108,ntmps108;go_wp2
  go_loopw [3,11] (fun nv Y wr=> ∃k,k≤js.length∧Y= Iq k∧nv= Iq (jc (dep f L) (js.take k):Nat)∧Below w.heap.size w wr) (fun _ Y _=>js.length - (intOf Y).toNat)
  case atStart=>exact⟨0,ZL _,rfl,by simp[jc],ZA _ _⟩
  case round=>
   obtain⟨k,hk,rfl,rfl,D⟩:=hrel;have aj:=vV (dep f L) (f+1) (yt f L) (js.take k)
   by_cases z:k<js.length
   ·obtain⟨g,rfl,Z⟩:=HA.out k z
    have R:=(D.block g (be Z)).trans Z;have ae:=mV R k z;have I:=zw (dep f L) js k z;obtain⟨ak,U⟩:=HT.out (js.getD k 0) (by rw[Zs,Zv z];exact ZV z)
    have HI:=ih U ((HS.out k z).grow D);have am:=yt f L (js.getD k 0);rw[show js[k]=js.getD k 0 from by rw[Zs,Zv z];rfl] at I
    have ab:=Hi I;generalize jc (dep f L) (js.take k)=A at*;generalize dep f L (js.getD k 0)=X at*;go_wp2_with fail;apply HI.mono;rintro e w1 ⟨rfl,ac⟩;go_wp2
    go_roundw
    case rel=>
     refine⟨k+1,by omega,by simp,?_,D.trans (ac.mono D.size)⟩
     rw[ab.out];simp;omega
    case measure=>simp[intOf];omega
   ·have ad:k=js.length:=by omega
    subst ad;rw[abc] at*;go_wp2;go_ret;refine⟨?_,D⟩;rw[dep,aa.out];exact aaY (fun n:Int=>Ending.returned (Value.int .i64 n)) (show(1:Int)+(jc (dep f L) js:Nat)=((jc (dep f L) js+1:Nat):Int) by omega)
end Go.Proofs.YtfkdailfcmnjlaaGreatDoor
set_option maxHeartbeats 40000000
set_option maxRecDepth 1000000
namespace Go.Proofs.YtfkdailfcmnjlaaGreatDoor
open Go Go.RowKit Tryz
attribute [local go_sem ↓] Go.wp_at_zero Go.wp_at_succ
variable {bs : Nat}
def Gz:Option Nat→Value
 |some p=> .tuple #[Iq p,.bool false]
 |none=> .tuple #[Iq 0,.bool true]
variable {L:List Pt} {r xs:List dY} {lets i k base:Nat}
theorem DO {x:dY} {lt:Nat} (z:lt=lets+(if x.name==[] then 0 else 1)):ir L (x::r) lets i=if 10<lt∨20<i+1 - lt∨200<x.parts∨20<dep (x.top+1) L x.top then some x.pl else ir L r lt (i+1):=by
 rw[ir,←z]
theorem fF {α:Type} {l:List α} (h:k<l.length) (d:α):l.drop k=l.getD k d::l.drop (k+1):=by
 rw[ZW h,Zs,Zv h];rfl
theorem DP (t u:Tok) (n:Int) (b:Nat) (w:World):
 Calls prog 107 #[OQ t u n b] w fun e w'=>e= .returned (.bool (if da t=11 then decide (10≤n) else decide (20<n)))∧Below w.heap.size w w':=by
 unfold OQ;have D:Hid (Below w.heap.size w (w.alloc (.cells #[Iq (da t),Iq t.pl,Iq (dz t),S (di t),Iq (da u),Iq u.pl,Iq (dz u),S (di u),Iq n,Pq b] 163 (0,0)))):=(ZA w.heap.size w).alloc (Zw _) _
 by_cases z:da t=11
 ·have E:Hid ((if da t=11 then decide (10≤n) else decide (20<n))=decide (10≤n)):=by show _=_;rw[Zu z]
  generalize (if da t=11 then decide (10≤n) else decide (20<n))=r at*
  rw[z] at D⊢;generalize t.pl=G at*;generalize dz t=I at*;generalize di t=J at*;generalize da u=O at*;generalize u.pl=R at*;generalize dz u=U at*;generalize di u=V at*;go_enter func107,ntmps107;go_wp2;go_ret;exact⟨by rw[E.out];rfl,D.out⟩
 ·have E:Hid ((if da t=11 then decide (10≤n) else decide (20<n))=decide (20<n)):=by show _=_;rw[Zt z]
  generalize (if da t=11 then decide (10≤n) else decide (20<n))=r at*
  have Y:((da t:Int)==(11:Int))=false:=by
   have: ¬((da t:Int)=11):=by omega
   simpa using this
  generalize da t=Z at*;generalize t.pl=G at*;generalize dz t=I at*;generalize di t=J at*;generalize da u=O at*;generalize u.pl=R at*;generalize dz u=U at*;generalize di u=V at*;go_enter func107,ntmps107;go_wp2;go_ret;exact⟨by rw[E.out];rfl,D.out⟩
theorem Lu {N:Tok→Int→Prop} (hL:L.length≤5000) {ys:List (Tok×Tok×Nat×Int)} {v:Value} {w:World} (ak:w.ownsRow base 163 10 v ys.length (dV ys)) (hy:ys.length≤1001)
 (am:dQ (ey bs L N w) xs ys) (aw:fB L xs 0) (ax:sT 0 0 xs ys):
 Calls prog 57 #[v] w fun e w'=>e= .returned (Gz (ir L xs 0 0))∧Below w.heap.size w w':=by
 obtain⟨a,cap,rfl,ag⟩:=lD ak;have ab:=Hi am.len;have HC:=Hi ag;have HT:=Hi am;have aH:=Hi aw;have aI:=Hi ax;clear ak ag am aw ax;go_enter func57,ntmps57;go_wp2
 go_loopw [4,9] (fun pv kv wr=> ∃k lets fr,k≤ys.length∧kv= Iq k∧pv= Iq (fr:Nat)∧lets≤k∧fr≤L.length∧Hid (ir L xs 0 0=ir L (xs.drop k) lets k)∧Hid (fB L (xs.drop k) fr)∧Hid (dQ (ey bs L N w) (xs.drop k) (ys.drop k))∧Hid (lets≤10∧k - lets≤20)∧Hid (sT lets (k - lets) (xs.drop k) (ys.drop k))∧Below w.heap.size w wr) (fun _ kv _=>ys.length - (intOf kv).toNat)
 case atStart=>exact⟨0,0,0,ZL _,rfl,rfl,Zw _,ZL _,rfl,aH.out,HT.out,⟨by omega,by omega⟩,aI.out,ZA _ _⟩
 case round=>
  obtain⟨k,lets,fr,hk,rfl,rfl,aX,aY,HM,aD,aE,ay,an,G⟩:=hrel
  by_cases ah:k<ys.length
  ·have Z:=aD.out
   have D:=aE.out;have J:=an.out;rw[fF (show k<xs.length by rw[←ab.out];exact ah) eh] at Z D J
   rw[fF (show k<xs.length by rw[←ab.out];exact ah) eh] at HM
   rw[fF ah (ff,ff,0,0)] at D J;obtain⟨g,rfl,aJ,aa⟩:=HC.out k ah;have aK:=be aJ.choose_spec;generalize xs.getD k eh=x at*;generalize ys.getD k (ff,ff,0,0)=y at*;obtain⟨⟨ai,hO⟩,D⟩:=D;obtain⟨az,aZ,Z⟩:=Z;obtain⟨E,u0,b,wh⟩:=y;simp only[] at ai hO;unfold sT at J;simp only[] at J;have z:∀j,j<10→wr.cell? ⟨g,k*10+j,none⟩=(fC (E,u0,b,wh))[j]?:=fun j hj=>by
    rw[G.cell (p:=⟨g,k*10+j,none⟩) aK];exact aa j hj
   have c0:=z 0 (by omega)
   have c1:=z 1 (by omega)
   have c2:=z 2 (by omega)
   have c3:=z 3 (by omega)
   have c4:=z 4 (by omega)
   have c5:=z 5 (by omega)
   have c6:=z 6 (by omega)
   have c7:=z 7 (by omega)
   have c8:=z 8 (by omega)
   have c9:=z 9 (by omega)
   simp[fC] at c0 c1 c2 c3 c4 c5 c6 c7 c8 c9;have O:=az.fit;have aL:=O.cnt;have a0:=O.le;have a8:=O.lt;have W1:=Gy (N:=N) hL (x.top+1) O (ai.grow (G.alloc G.size (.cells #[Iq (da E),Iq E.pl,Iq (dz E),S (di E),Iq (da u0),Iq u0.pl,Iq (dz u0),S (di u0),Iq wh,Pq b] 163 (0,0))));rw[aL] at W1;have WB:=fun W=>DP E u0 wh b W
   unfold OQ at WB;obtain⟨lt,ac,ao,R⟩:∃lt,(lt=lets+(if x.name==[] then 0 else 1))∧((if da E=11 then decide (10≤wh) else decide (20<wh))=decide (10<lt∨20<k+1 - lt))∧sT lt (k+1 - lt) (xs.drop (k+1)) (ys.drop (k+1)):=by
    have a9:=ay.out;have aA:=wQ hO;rcases J with⟨hn,hw,R⟩|⟨hn,hw,R⟩
    ·have ad:da E=11:=by rcases aA with h|h;exact h.2;exact absurd h.1 hn
     refine⟨lets+1,by rw[Zt (by simpa using hn)],?_,by rw[show k+1 - (lets+1)=k - lets by omega];exact R⟩
     rw[Zu ad,hw];exact abU.2 (by omega)
    ·have ad:da E≠11:=by rcases aA with h|h;exact absurd hn h.1;exact h.2
     refine⟨lets,by simp[hn],?_,by rw[show k+1 - lets=k - lets+1 by omega];exact R⟩
     rw[Zt ad,hw];exact abU.2 (by omega)
   have aW:lt≤k+1:=by rw[ac];split<;>omega
   rw[ao] at WB;have aj:=Hi (DO (L:=L) (x:=x) (r:=xs.drop (k+1)) (lets:=lets) (i:=k) (lt:=lt) ac);have aN:=Hi R;have aO:=Hi O;have aP:=Hi ai;have aF:=Hi Z;have aG:=Hi D;have aB:E.pl=x.pl:=by unfold yh at hO;rcases hO with hO|hO<;>exact hO.2.2.1
   have ae:=Hi aB;clear aB az O ai Z D z aa J ac ao R hO an ay;generalize da E=kd at*;generalize E.pl=p0 at*;generalize dz E=m2 at*;generalize di E=s3 at*;generalize da u0=m4 at*;generalize u0.pl=m5 at*;generalize dz u0=m6 at*;generalize di u0=s7 at*;go_wp2_with fail;apply W1.mono;rintro e w1 ⟨rfl,ap⟩;clear W1;have aq:=(ap.block _ (by simp)).trans (Zy wr _)
   have ar:=(G.alloc G.size _).trans (ap.mono (by have:=G.size;simp;omega))
   obtain⟨⟨z0,z1,z2,z3,z4,z5,z6,z7,z8,z9⟩,zf⟩:=eo aq;have U:=Hi aq;have V:=Hi ar;clear aq ap c0 c1 c2 c3 c4 c5 c6 c7 c8 c9 ar;generalize aQ:dep (x.top+1) L x.top=dd at*;generalize wr.heap.size=bi at*
   by_cases hA:10<lt∨20<k+1 - lt
   ·rw[aad hA] at WB
    go_wp2_with fail;apply(WB _).mono;rintro e w2 ⟨rfl,I⟩;have hz:=(eo (w:=w2) (b:=bi) (x0:= Iq kd) (x1:= Iq p0) (x2:= Iq m2) (x3:=S s3) (x4:= Iq m4) (x5:= Iq m5) (x6:= Iq m6) (x7:=S s7) (x8:= Iq wh) (x9:= Pq b) (by rw[I.block _ (be U.out)];exact U.out))
    clear WB z0 z1 z2 z3 z4 z5 z6 z7 z8 z9 zf;obtain⟨⟨z0,z1,z2,z3,z4,z5,z6,z7,z8,z9⟩,zf⟩:=hz;have Y:=Hi (V.out.trans (I.mono V.out.size));clear I U V;go_wp2;refine ZH (v:= .tuple #[Iq p0,.bool false]) (by simp[results,results57,go_sem]) rfl ⟨?_,Y.out⟩
    rw[HM.out,aj.out,Zu (by omega),ae.out];rfl
   ·rw[Z4 hA] at WB
    go_wp2_with fail;apply(WB _).mono;rintro e w2 ⟨rfl,I⟩;have D:w2.heap[bi]?=some (.cells #[Iq kd,Iq p0,Iq m2,S s3,Iq m4,Iq m5,Iq m6,S s7,Iq wh,Pq b] 163 (0,0)):=by rw[I.block _ (be U.out)];exact U.out
    clear WB z0 z1 z2 z3 z4 z5 z6 z7 z8 z9 zf;obtain⟨⟨z0,z1,z2,z3,z4,z5,z6,z7,z8,z9⟩,zf⟩:=eo D;have af:=V.out.trans (I.mono V.out.size);have W2:=DN (N:=N) (x.top+1) (by omega) aO.out (aP.out.grow af)
    rw[aQ] at W2;have Y:=Hi af;have au:=Hi D;clear I U V af D
    by_cases hC:200<x.parts
    ·clear W2
     go_wp2;refine ZH (v:= .tuple #[Iq p0,.bool false]) (by simp[results,results57,go_sem]) rfl ⟨?_,Y.out⟩
     rw[HM.out,aj.out,Zu (by omega),ae.out];rfl
    ·go_wp2_with fail
     apply W2.mono;rintro e w3 ⟨rfl,av⟩;clear W2;have hz:=(eo (w:=w3) (b:=bi) (x0:= Iq kd) (x1:= Iq p0) (x2:= Iq m2) (x3:=S s3) (x4:= Iq m4) (x5:= Iq m5) (x6:= Iq m6) (x7:=S s7) (x8:= Iq wh) (x9:= Pq b) (by rw[av.block _ (be au.out)];exact au.out))
     clear z0 z1 z2 z3 z4 z5 z6 z7 z8 z9 zf;obtain⟨⟨z0,z1,z2,z3,z4,z5,z6,z7,z8,z9⟩,zf⟩:=hz;have aC:=Hi (Y.out.trans (av.mono Y.out.size));clear av au Y
     by_cases hD:20<dd
     ·go_wp2
      refine ZH (v:= .tuple #[Iq p0,.bool false]) (by simp[results,results57,go_sem]) rfl ⟨?_,aC.out⟩
      rw[HM.out,aj.out,Zu (by omega),ae.out];rfl
     ·go_wp2
      go_roundw
      case rel=>
       refine⟨k+1,lt,x.parts,by omega,by simp,by simp;omega,by omega,by omega,?_,aF.out,aG.out,⟨by omega,by omega⟩,aN.out,aC.out⟩
       show _=_
       rw[HM.out,aj.out,Zt (by omega)]
      case measure=>simp[intOf];omega
  ·have aR:k=ys.length:=by omega
   subst aR;have hm:ir L xs 0 0=none:=by
    have:=HM.out;rw[aab (by rw[ab.out];exact Zw _)] at this
    exact this
   have aS:=Hi hm;clear hm;go_wp2;refine ZH (v:= .tuple #[Iq 0,.bool true]) (by simp[results,results57,go_sem]) rfl ⟨?_,G⟩
   rw[aS.out];rfl
end Go.Proofs.YtfkdailfcmnjlaaGreatDoor
set_option maxHeartbeats 40000000
set_option maxRecDepth 1000000
namespace Go.Proofs.YtfkdailfcmnjlaaGreatDoor
open Go Go.RowKit Tryz
attribute [local go_sem ↓] Go.wp_at_zero Go.wp_at_succ
variable {bs : Nat}
def qa (w:World) (a:Option Addr) (l:List (List UInt8)):Prop:= ∀j,j<l.length→ ∃g,a=some ⟨g,0,none⟩∧(∃cs,w.heap[g]?=some (.cells cs 9 (0,0)))∧w.cell? ⟨g,j,none⟩=some (S (l.getD j []))
theorem sW (l:List (List UInt8)) (s:List UInt8) (a:Option Addr) (cap:Nat) (w:World) (hl:l.length≤2000) (G:qa w a l):
 Calls prog 153 #[.slice a l.length cap,S s] w fun e w'=>e= .returned (Iq (dP l s))∧w'=w:=by
 have I:=Hi G;go_enter func153,ntmps153
 go_wp2
 go_loop [8] (fun i=> ∃k:Nat,k≤l.length∧i= Iq k∧Hid (dP l s=(if dP (l.drop k) s<0 then -1 else dP (l.drop k) s+k))) (fun i=>l.length - (intOf i).toNat)
 case atStart=>
  refine⟨0,ZL _,rfl,?_⟩;have:=zv l s
  show _=_
  simp;omega
 case round=>
  obtain⟨k,hk,rfl,H⟩:=hrel
  by_cases z:k<l.length
  ·obtain⟨g,rfl,_,U⟩:=I.out k z
   have J:=Hi (IP l s k z);have O:Hid (l[k]=l.getD k []):=by show _=_;rw[Zs,Zv z];rfl
   generalize l.getD k []=x at*
   by_cases D:s=x
   ·subst D
    go_wp2
    go_ret;refine⟨eV ?_,rfl⟩;rw[H.out,J.out,O.out];simp
   ·have Z:(s==x)=false:=by simpa using D
    have V:=Hi D
    go_wp2
    refine⟨⟨k+1,by omega,by go_num,?_⟩,by simp[intOf];omega⟩
    show _=_
    have R: ¬(x==s)=true:=fun e=>V.out (abX.1 e).symm
    rw[H.out,J.out,O.out,Zt R]
    by_cases E:dP (l.drop (k+1)) s<0
    ·rw[Zu E,Zu E];rfl
    ·rw[Zt E,Zt E,Zt (by omega)];omega
  ·go_wp2
   go_ret;refine⟨eV ?_,rfl⟩;rw[H.out,aab (by omega)]
   simp[dP]
theorem vu (l:List (List UInt8)) (s:List UInt8) (a:Option Addr) (cap:Nat) (w:World) (G:l.length≤2000) (D:qa w a l):
 Calls prog 109 #[.slice a l.length cap,S s] w fun e w'=>e= .returned (.bool (decide (0≤dP l s)))∧w'=w:=by
 have E:=sW l s a cap w G D;have J:=zv l s;have z:=zP l s;have I:dP l s≤2000:=by
  rcases z with h|h
  ·omega
  ·rw[h];simp[dP]
 generalize dP l s=r at*;go_enter func109,ntmps109;go_wp2_with fail;apply E.mono;rintro e w' ⟨rfl,rfl⟩;go_wp2;go_ret;exact⟨rfl,rfl⟩
end Go.Proofs.YtfkdailfcmnjlaaGreatDoor
set_option maxHeartbeats 40000000
set_option maxRecDepth 1000000
namespace Go.Proofs.YtfkdailfcmnjlaaGreatDoor
open Go Go.RowKit Tryz
attribute [local go_sem ↓] Go.wp_at_zero Go.wp_at_succ
variable {bs : Nat}
structure RF (SS:Nat→Nat→List UInt8→Int→Prop) (w w':World):Prop where
 os:w'.os=w.os
 tape:w'.tape=w.tape
 output:w'.output=w.output
 size:w.heap.size≤w'.heap.size
 block:∀k,k<w.heap.size→w'.heap[k]?=w.heap[k]?∨ ∃t u n n',w.heap[k]?=some (iA t u n)∧w'.heap[k]?=some (iA t u n')∧SS k (da t) (di t) n'
variable {t z:Tok} {u E:Value} {n O:Int} {SS:Nat→Nat→List UInt8→Int→Prop} {w w':World} {k i b B lo:Nat} {L:List Pt} {a:Option Addr} {l G:List (List UInt8)} {ix:List UInt8→Int}
theorem DQ (h:iA t u n=iA z E O):da t=da z∧di t=di z∧ ∀m,iA t u m=iA z E m:=by
 have D:=h;unfold iA at D;simp only[aa8] at D;obtain⟨R,_⟩:=D;have G:=aaY Array.toList R;simp only[ab2,Value.int.injEq,abf] at G;obtain⟨I,U,h3,V,Y,h6,_⟩:=G;have J:di t=di z:=by simpa [S] using V
 have Z:da t=da z:=by exact Int.ofNat.inj I
 refine⟨Z,J,fun m=>?_⟩
 unfold iA;rw[I,U,h3,J,Y]
theorem RF.refl (SS:Nat→Nat→List UInt8→Int→Prop) (w:World):RF SS w w:=⟨rfl,rfl,rfl,Zw _,fun _ _=> .inl rfl⟩
theorem RF.trans {SS:Nat→Nat→List UInt8→Int→Prop} {w J O:World} (h:RF SS w J) (k:RF SS J O):RF SS w O:=by
 refine⟨k.os.trans h.os,k.tape.trans h.tape,k.output.trans h.output,Z8 h.size k.size,fun j D=>?_⟩
 rcases k.block j (aau D h.size) with e|⟨t,u,n,z,E,R,U⟩
 ·rcases h.block j D with f|⟨t,u,n,z,G,I,V⟩
  ·exact .inl (e.trans f)
  ·exact .inr ⟨t,u,n,z,G,e.trans I,V⟩
 ·rcases h.block j D with f|⟨Z,u',m,m',G,I,V⟩
  ·exact .inr ⟨t,u,n,z,f.symm.trans E,R,U⟩
  ·rw[I] at E
   have Y:=(DQ (aan E)).2.2 m;exact .inr ⟨t,u,m,z,by rw[G,Y],R,U⟩
theorem RF.mono {SS z:Nat→Nat→List UInt8→Int→Prop} (D:∀q k o n,SS q k o n→z q k o n) {w w':World} (h:RF SS w w'):RF z w w':=
 ⟨h.os,h.tape,h.output,h.size,fun k E=>(h.block k E).imp id fun⟨t,u,n,G,a,b,c⟩=>⟨t,u,n,G,a,b,D _ _ _ _ c⟩⟩
theorem RF.of_below (h:Below w.heap.size w w'):RF SS w w':=⟨h.os,h.tape,h.output,h.size,fun k z=> .inl (h.block k z)⟩
theorem RF.drew {SS:Nat→Nat→List UInt8→Int→Prop} {w w':World} (h:RF SS w w'):RF SS w w'.drew:=⟨h.os,h.tape,h.output,h.size,h.block⟩
theorem RF.other (h:RF SS w w') {cs:Array Value} {ty:TypeId} {fr:Nat×Nat} (D:w.heap[k]?=some (.cells cs ty fr)) (E:ty≠229):w'.heap[k]?=w.heap[k]?:=by
 rcases h.block k (be D) with e|⟨t,u,n,G,z,_⟩
 ·exact e
 ·rw[D] at z
  simp only[iA,ZR,aa8] at z;exact absurd z.2.1 E
theorem ey.rf {N:Tok→Int→Prop} (h:ey bs L N w i b) (hf:RF SS w w') (hN:∀q t n,SS q (da t) (di t) n→N t n):ey bs L N w' i b:=by
 refine h.ind (fun i b=>ey bs L N w' i b) ?_
 ·intro i b u n bl hi hlo hn hb hu hs ih
  have hu':jw w' u (L.getD i dh).subs.length bl:=by
   rcases hu with hu|⟨h0,g,h1,h2⟩
   ·exact .inl hu
   ·exact .inr ⟨h0,g,h1,by rw[hf.other h2 (by decide)];exact h2⟩
  rcases hf.block b (be hb) with e|⟨t,u',m,m',e1,e2,e3⟩
  ·exact .mk i b u n bl hi hlo hn (e.trans hb) hu' ih
  ·rw[hb] at e1
   obtain⟨k1,k2,k3⟩:=DQ (aan e1);refine .mk i b u m' bl hi hlo (hN _ _ _ (by rw[k1,k2];exact e3)) ?_ hu' ih
   rw[e2,k3]
theorem qa.rf (h:qa w a l) (D:RF SS w w'):qa w' a l:=by
 intro j E;obtain⟨g,G,⟨cs,z⟩,h3⟩:=h j E;have e:=D.other z (by decide)
 exact⟨g,G,⟨cs,by rw[e];exact z⟩,by rw[ZI (w:=w) e];exact h3⟩
def SB (z:Nat) (q _k:Nat) (_o:List UInt8) (_n:Int):Prop:=z≤q
theorem RF.below (h:RF (SB bs) w w') (hB:B≤bs) (hw:B≤w.heap.size):Below B w w':=⟨h.os,h.tape,h.output,h.size,fun k hk=>by
 rcases h.block k (by omega) with e|⟨_,_,_,_,_,_,e⟩
 ·exact e
 ·have:bs≤k:=e
  omega⟩
def N0 (ix:List UInt8→Int) (t:Tok) (n:Int):Prop:=n=0∨(da t=2∧n=ix (di t))
def N1 (ix:List UInt8→Int) (t:Tok) (n:Int):Prop:=n=if da t=2 then ix (di t) else 0
def SX (z:Nat) (ix:List UInt8→Int) (q k:Nat) (o:List UInt8) (n:Int):Prop:=z≤q∧k=2∧n=ix o
theorem MD (q:Nat) (t:Tok) (n:Int) (h:SX bs ix q (da t) (di t) n):N0 ix t n:= .inr h.2
theorem Fi (q:Nat) (t:Tok) (n:Int) (h:SX bs ix q (da t) (di t) n):N1 ix t n:=by unfold N1;rw[Zu h.2.1];exact h.2.2
def zW (D:Nat) (L:List Pt) (ix:List UInt8→Int) (w:World) (i b:Nat) (o:Option Nat) (e:Ending) (w':World):Prop:=
 (∃p,o=some p∧e= .returned (.tuple #[Iq p,.bool false])∧RF (SB D) w w')∨
 (o=none∧ ∃p:Nat,e= .returned (.tuple #[Iq p,.bool true])∧RF (SX D ix) w w'∧ey D L (N1 ix) w' i b)
theorem Jt (h:w.heap[b]?=some (iA t u n)) (m:Int):(w.setCell ⟨b,5,none⟩ (Iq m)).heap[b]?=some (iA t u m):=by
 unfold iA at h⊢;rw[ZK w b 5 _ _ _ h];rfl
theorem RF.note (h:w.heap[b]?=some (iA t u n)) (m:Int) (z:SS b (da t) (di t) m):RF SS w (w.setCell ⟨b,5,none⟩ (Iq m)):=by
 refine⟨rfl,rfl,rfl,by simp,fun k D=>?_⟩
 by_cases e:k=b
 ·subst e;exact .inr ⟨t,u,n,m,h,Jt h m,z⟩
 ·exact .inl (ZO _ _ _ _ (by simpa using e))
theorem zX (hG:G.length≤2000) (hix:∀s,0≤dP G s→ix s=dP G s) (f:Nat) {cap:Nat} (hT:eK (f+1) L lo i) (hC:ey bs L (N0 ix) w i b) (hS:qa w a G) (ho:(L.getD i dh).tok.k=111):
 Calls prog 110 #[Pq b,.slice a G.length cap] w (zW bs L ix w i b (kr (fun t=>decide (dP G (di t)<0)) (f+1) L i)):=by
 have hsub:=rR hT.2.1 ho;obtain⟨u,n,bl,hi,hlo,hn,hb,hu,hs⟩:=hC.inv;obtain⟨⟨c0,c1,c2,c3,c4,c5⟩,cf⟩:=kL hb;have hr:kr (fun t=>decide (dP G (di t)<0)) (f+1) L i=if dP G (di (L.getD i dh).tok)<0 then some (L.getD i dh).tok.pl else none:=by
  rw[kr,Zu ho];simp
 have HR:=Hi hr;have hk2:=jQ.2 ho;rw[hk2] at c0
 generalize kr (fun t=>decide (dP G (di t)<0)) (f+1) L i=o at*
 have HI:=sW G (di (L.getD i dh).tok) a cap w hG hS;have hfail:=fun h:dP G (di (L.getD i dh).tok)<0=>RF.note (SS:=SB bs) hb (dP G (di (L.getD i dh).tok)) hlo
 have hgood:=fun h:0≤dP G (di (L.getD i dh).tok)=>RF.note (SS:=SX bs ix) hb (dP G (di (L.getD i dh).tok)) ⟨hlo,hk2,(hix _ h).symm⟩
 have hcd:=Jt hb (dP G (di (L.getD i dh).tok));have hnew:0≤dP G (di (L.getD i dh).tok)→ey bs L (N1 ix) (w.setCell ⟨b,5,none⟩ (Iq (dP G (di (L.getD i dh).tok)))) i b:=fun h0=>
  .mk i b u _ bl hi hlo (by unfold N1;rw[Zu hk2];exact(hix _ h0).symm) hcd (by rw[hsub] at hu⊢;rcases hu with hu|hu;exact .inl hu;simp at hu) (by rw[hsub];intro j hj;simp at hj)
 have HF:=Hi hfail;have HGo:=Hi hgood;have HN:=Hi hnew;have hge:=zv G (di (L.getD i dh).tok);obtain⟨⟨d0,d1,d2,d3,d4,d5⟩,df⟩:=kL hcd;have HCD:=Hi hcd;clear hr hfail hgood hnew hs hu hn hb hS hix hsub hT hcd;have hle2:dP G (di (L.getD i dh).tok)≤2000:=by
  rcases zP G (di (L.getD i dh).tok) with h|h
  ·omega
  ·rw[h];simp[dP]
 generalize dP G (di (L.getD i dh).tok)=r at*;generalize (L.getD i dh).tok.pl=p at*;generalize di (L.getD i dh).tok=nm at*;go_enter func110,ntmps110;go_wp2_with fail;apply HI.mono;rintro e w' ⟨rfl,rfl⟩;clear HI;go_wp2;clear c0 c1 c2 c3 c4 c5 cf d0 d2 d3 d4;have HA:Hid (zW bs L ix w' i b o (.returned (.tuple #[Iq p,.bool (decide (0≤r))])) (w'.setCell ⟨b,5,none⟩ (Iq r)).drew):=by
  by_cases h0:r<0
  ·have e:o=some p:=by rw[HR.out,Zu h0]
   refine .inl ⟨p,e,?_,(HF.out h0).drew⟩;rw[Z4 (by omega)]
  ·have e:o=none:=by rw[HR.out,Zt h0]
   refine .inr ⟨e,p,?_,(HGo.out (by omega)).drew,(HN.out (by omega)).keep fun _ _ _ _ _=>rfl⟩
   rw[aad (by omega)]
 clear HR HF HGo HN HCD;generalize w'.setCell ⟨b,5,none⟩ (Iq r)=w2 at*
 go_region_held (fun w''=>w''.cell? ⟨b,1,none⟩=some (Iq p)∧w''.cell? ⟨b,5,none⟩=some (Iq r)) (go_keep) (fail)
 go_wp2;refine ZH (v:= .tuple #[Iq p,.bool (decide (0≤r))]) (by simp[results,results110,go_sem]) rfl ?_
 exact HA.out
end Go.Proofs.YtfkdailfcmnjlaaGreatDoor
set_option maxHeartbeats 40000000
set_option maxRecDepth 1000000
namespace Go.Proofs.YtfkdailfcmnjlaaGreatDoor
open Go Go.RowKit Tryz
attribute [local go_sem ↓] Go.wp_at_zero Go.wp_at_succ
variable {bs : Nat}
theorem zY (F:Nat→Option Nat) (js:List Nat) (k:Nat) (z:k<js.length):fS F (js.drop k)=match F (js.getD k 0) with|some p=>some p|none=>fS F (js.drop (k+1)):=by
 rw[fF z 0,fS]
 cases F (js.getD k 0)<;>rfl
theorem zZ {L:List Pt} {G:List (List UInt8)} {ix:List UInt8→Int} (hG:G.length≤2000) (hix:∀s,0≤dP G s→ix s=dP G s) (f:Nat):∀{lo i b cap:Nat} {a:Option Addr} {w:World},eK f L lo i→ey bs L (N0 ix) w i b→qa w a G→
 Calls prog 110 #[Pq b,.slice a G.length cap] w (zW bs L ix w i b (kr (fun t=>decide (dP G (di t)<0)) f L i)):=by
 induction f with
 |zero=>intro lo i b cap a w h;exact h.elim
 |succ f ih=>
  intro lo i b cap a w hT hC hS
  by_cases ho:(L.getD i dh).tok.k=111
  ·exact zX hG hix f hT hC hS ho
  ·obtain⟨u,n,bl,hi,hlo,hn,hb,hu,hs⟩:=hC.inv
   obtain⟨⟨c0,c1,c2,c3,c4,c5⟩,cf⟩:=kL hb;have hr:kr (fun t=>decide (dP G (di t)<0)) (f+1) L i=fS (kr (fun t=>decide (dP G (di t)<0)) f L) (L.getD i dh).subs:=by
    rw[kr,Zt ho]
   rw[hr];have hk2:da (L.getD i dh).tok≠2:=fun e=>ho (jQ.1 e)
   have hk3:((da (L.getD i dh).tok:Int)==(2:Int))=false:=by
    have: ¬((da (L.getD i dh).tok:Int)=2):=by omega
    simpa using this
   obtain⟨au,eu,ha⟩:=hu.slice;have hn3:(L.getD i dh).subs.length≤3:=by
    rcases hT.2.1 with⟨_,h1⟩|⟨_,h1⟩|⟨_,h1⟩|⟨m,_,_,h1⟩
    ·rw[h1];simp
    all_goals omega
   have hsub:=jX _ hT.2.2;have hend:∀wr,RF (SX bs ix) w wr→(∀j,j<(L.getD i dh).subs.length→ey bs L (N1 ix) wr ((L.getD i dh).subs.getD j 0) (bl j))→ey bs L (N1 ix) wr i b:=by
    intro wr hf hall;have hu':jw wr u (L.getD i dh).subs.length bl:=by
     rcases hu with hu|⟨h0,g,h1,h2⟩
     ·exact .inl hu
     ·exact .inr ⟨h0,g,h1,by rw[hf.other h2 (by decide)];exact h2⟩
    have hbw:wr.heap[b]?=w.heap[b]?:=by
     rcases hf.block b (be hb) with e|⟨t,u',m,m',e1,e2,e3⟩
     ·exact e
     ·rw[hb] at e1
      have:=(DQ (aan e1)).1;exact absurd (this.trans e3.2.1) hk2
    refine .mk i b u n bl hi hlo ?_ (hbw.trans hb) hu' hall
    unfold N1;rw[Zt hk2]
    rcases hn with hn|hn
    ·exact hn
    ·exact absurd hn.1 hk2
   subst eu;have HEND:=Hi hend;have HS:=Hi hs;have HT:=Hi hsub;have HA:=Hi ha;have HSt:=Hi hS;generalize da (L.getD i dh).tok=kd at*;generalize hjs:(L.getD i dh).subs=js at*;have HF:Hid (∀j,kr (fun t=>decide (dP G (di t)<0)) f L j=kr (fun t=>decide (dP G (di t)<0)) f L j):=fun _=>rfl
   generalize hFF:kr (fun t=>decide (dP G (di t)<0)) f L=FF at*
   have ho:Hid (fS FF js=fS FF (js.drop 0)):=rfl;generalize hoo:fS FF js=o at*;go_enter func110,ntmps110;go_wp2
   go_loopw [41] (fun kv wr=> ∃k,k≤js.length∧kv= Iq k∧Hid (o=fS FF (js.drop k))∧Hid (∀j,j<k→ey bs L (N1 ix) wr (js.getD j 0) (bl j))∧RF (SX bs ix) w wr) (fun kv _=>js.length - (intOf kv).toNat)
   case atStart=>exact⟨0,ZL _,rfl,ho,fun j hj=>by omega,RF.refl _ _⟩
   case round=>
    obtain⟨k,hk,rfl,HO,HD,hf⟩:=hrel
    by_cases hlt:k<js.length
    ·obtain⟨g,rfl,hg⟩:=HA.out k hlt
     have hg':=(hf.other hg (by decide)).trans hg
     have hcell:=mV hg' k hlt;have hst:=Hi (zY FF js k hlt);obtain⟨lo',hT'⟩:=HT.out (js.getD k 0) (by rw[Zs,Zv hlt];exact ZV hlt)
     have HI:=ih (cap:=cap) hT' ((HS.out k hlt).rf hf MD) (qa.rf HSt.out hf);go_wp2_with fail;apply HI.mono;rintro e w1 (⟨p,hp,rfl,hf1⟩|⟨hp,p,rfl,hf1,hC1⟩)
     ·have HP:Hid _:=hp
      go_wp2;refine ZH (v:= .tuple #[Iq p,.bool false]) (by simp[results,results110,go_sem]) rfl ?_
      refine .inl ⟨p,?_,rfl,(hf.mono fun _ _ _ _ h=>h.1).trans hf1⟩
      rw[HO.out,hst.out,HP.out]
     ·have HP:Hid _:=hp
      have HC1:=Hi hC1;go_wp2
      go_roundw
      case rel=>
       refine⟨k+1,by omega,by simp,?_,?_,hf.trans hf1⟩
       ·show _=_
        rw[HO.out,hst.out,HP.out]
       ·intro j hj
        by_cases e:j=k
        ·subst e;exact HC1.out
        ·exact(HD.out j (by omega)).rf hf1 Fi
      case measure=>simp[intOf];omega
    ·have hke:k=js.length:=by omega
     subst hke;have hno:Hid (o=none):=by
      have:=HO.out;rw[aab (Zw _)] at this;exact this
     have HA:Hid (zW bs L ix w i b o (.returned (.tuple #[Iq 0,.bool true])) wr):= .inr ⟨hno.out,0,rfl,hf,HEND.out wr hf HD.out⟩;go_wp2;refine ZH (v:= .tuple #[Iq 0,.bool true]) (by simp[results,results110,go_sem]) rfl ?_
     exact HA.out
end Go.Proofs.YtfkdailfcmnjlaaGreatDoor
