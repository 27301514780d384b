/-
  A part.
-/
import Derived.Test.YtfkdailfcmnjlaaGreatDoorCompiles14
import Derived.Test.YtfkdailfcmnjlaaGreatDoorLays
set_option linter.all false
set_option maxHeartbeats 40000000
set_option maxRecDepth 1000000
namespace Go.Proofs.YtfkdailfcmnjlaaGreatDoor
open Go Go.RowKit Tryz
variable {b k a n rb gl cl s w z w' s' ts}
theorem B0 (s:ByteArray) (z:s.size<=9223372036854775806) (v:Int) (h:Lib.parseIntB 64 s.data.toList= .ok v) (w):
 Calls prog 208 #[.string s,Iq 10,Iq 64] w λe w'=>e= .returned (.tuple #[Iq v,.nilIface])/\(w'=w\/ ∃t,w'=Lib.bytesWorld w 5 t):=Any.strconv_ParseInt_10_at64_ok laysPI s z v h w
theorem wJ (s:ByteArray) (D:s.size<=281474976710656) (h:Lib.parseIntB 64 s.data.toList= .range) (z) (w) (G:Cq w 4 0 z) (E:z= .nilIface\/ ∃I J,z= .iface I J):
 Calls prog 208 #[.string s,Iq 10,Iq 64] w λe w'=> ∃N,e= .returned (.tuple #[Iq (Lib.intSat 64 s.data.toList),.iface 346 (Pq N)])/\w.heap.size<=N/\w'.heap[N]?=some (.cells #[.string ⟨#[80,97,114,115,101,73,110,116]⟩,.string s,z] 357 (0,0))/\Below w.heap.size w w':=Any.strconv_ParseInt_10_at64_range laysPI s D h z w G E
structure Wd (w:World):Prop where
 sp:Sp w
 er:∃ev,w.cell? ⟨4,0,none⟩=some ev/\(ev= .nilIface\/ ∃te pe,ev= .iface te pe)
theorem Wd.pos {w:World} (h:Wd w):0<w.heap.size:=h.sp.pos
theorem Wd.below {w w':World} (h:Wd w) (z:Below w.heap.size w w'):Wd w':=by
 refine⟨h.sp.below h.pos z,?_⟩;obtain⟨E,D,G⟩:=h.er;exact⟨E,by rw[z.cell (p:=⟨4,0,none⟩) (RN w _ D)];exact D,G⟩
def eG (k a n:Int) (s:List UInt8):Obj:= .cells #[Iq k,Iq a,Iq n,S s] 160 (0,0)
theorem jJ {w:World} {s:List UInt8} (h:w.heap[b]?=some (eG k a n s)):(Cq w b 0 (Iq k)/\Cq w b 1 (Iq a)/\Cq w b 2 (Iq n)/\Cq w b 3 (S s))/\ ∀j,w.frozen? ⟨b,j,none⟩=false:=by
 have z:=λj=>RM w b j _ _ _ h
 exact⟨⟨z 0,z 1,z 2,z 3⟩,λj=>by simp[World.frozen?,h,eG]⟩
theorem Et (s:List UInt8) (w:World) (hW:Wd w) (hs:s.length<=1000) (h0:s≠[]) (hl:∀c∈s,im c=true):
 Calls prog 146 #[S s] w λe w'=>e= .returned (.tuple #[(wI s).1,Iq (wI s).2])/\Below w.heap.size w w':=by
 have V:=Ag s h0 hl;have ab:(ByteArray.mk s.toArray).size=s.length:=by simp[ByteArray.size]
 have Z:=(RP w.heap.size w).alloc (RL _) (eG 0 0 0 []);have J:(w.alloc (eG 0 0 0 [])).heap[w.heap.size]?=some (eG 0 0 0 []):=RO w _;have G:w.heap.size<(w.alloc (eG 0 0 0 [])).heap.size:=by simp
 have aa:=hW.below Z
 cases Y:big s with
 |true=>
  rw[Y,RK rfl] at V;have HV:Hid (wI s=(.agg #[Iq 0,Iq 0,Iq 0,S []],0)):=by show _=_;unfold wI;rw[RK Y]
  obtain⟨ev,hv,ac⟩:=aa.er;have HI:=wJ ⟨s.toArray⟩ (by omega) (by simpa using V) ev _ hv ac
  have O:=Hi Z;have E:=Hi J;have z:=Hi G;go_enter func146,ntmps146;go_wp2_with fail;apply HI.mono;rintro e w' ⟨n,rfl,hn,ae,I⟩;have R:w'.heap[w.heap.size]?=some (eG 0 0 0 []):=by rw[I.block _ z.out];exact E.out
  have HB:Hid (Below w.heap.size w w'):=O.out.trans (I.mono (Vc z.out));obtain⟨⟨c0,c1,c2,c3⟩,cf⟩:=jJ R;generalize U:w.heap.size=nb at c0 c1 c2 c3 cf HB⊢;have HN:=Hi U;go_wp2_with fail;have D:w.heap.size<=nb:=T1 HN.out;exact RU (v:= .tuple #[.agg #[Iq 0,Iq 0,Iq 0,S []],Iq 0]) (by simp[results,results146,go_sem,c0,c1,c2,c3,cf]) rfl ⟨by rw[HV.out];rfl,(((((HB.out.mono D).setCell D _).setCell D _).setCell D _).setCell D _)⟩
 |false=>
  rw[Y,RH (by simp)] at V
  have HV:Hid (wI s=(.agg #[Iq 1,Iq 0,Iq (dG s),S []],s.length)):=by show _=_;unfold wI;rw[RH (by simp[Y])]
  have HI:=B0 ⟨s.toArray⟩ (by omega) _ (by simpa using V) (w.alloc (eG 0 0 0 []))
  have O:=Hi Z;have E:=Hi J;have z:=Hi G;go_enter func146,ntmps146;go_wp2_with fail;apply HI.mono;rintro e w' ⟨rfl,ad⟩;have I:Below (w.alloc (eG 0 0 0 [])).heap.size (w.alloc (eG 0 0 0 [])) w':=by
   rcases ad with rfl|⟨t,rfl⟩
   ·exact RP _ _
   ·exact Lib.bytesWorld_below _ _ _
  have R:w'.heap[w.heap.size]?=some (eG 0 0 0 []):=by rw[I.block _ z.out];exact E.out
  have HB:Hid (Below w.heap.size w w'):=O.out.trans (I.mono (Vc z.out));obtain⟨⟨c0,c1,c2,c3⟩,cf⟩:=jJ R;generalize U:w.heap.size=nb at c0 c1 c2 c3 cf HB⊢;have HN:=Hi U;go_wp2_with fail;have D:w.heap.size<=nb:=T1 HN.out;exact RU (v:= .tuple #[.agg #[Iq 1,Iq 0,Iq (dG s),S []],Iq s.length]) (by simp[results,results146,go_sem,c0,c1,c2,c3,cf]) rfl ⟨by rw[HV.out],(((((HB.out.mono D).setCell D _).setCell D _).setCell D _).setCell D _)⟩
def cY (t:Tok):Nat:=if t.k=110 then dG t.text else 0
def cG (t:Tok):List UInt8:=if t.k=111 then t.text else[]
def mz (t:Tok) (a:Nat):Value:= .agg #[Iq (cz t),Iq a,Iq (cY t),S (cG t)]
def mA (s:List UInt8):Value×Nat:=if im (s.getD 0 0) then wI (s.take (de im s 0)) else if ig (s.getD 0 0) then q6 (s.take (de ig s 0)) else pG s
theorem Eu (c:UInt8) (r:LB):lP (c::r)=if c=40 then some 3 else if c=41 then some 4 else if c=59 then some 5 else if c=43 then some 6 else if c=45 then some 7 else if c=61 then some 8 else if c=60 then(if(r.getD 0 0)=61 then some 9 else some 10) else none:=by
 by_cases h:40=c
 ·subst h;simp[lP,List.range',List.find?,cZ,List.isPrefixOf]
 by_cases h:41=c
 ·subst h;simp[lP,List.range',List.find?,cZ,List.isPrefixOf]
 by_cases h:59=c
 ·subst h;simp[lP,List.range',List.find?,cZ,List.isPrefixOf]
 by_cases h:43=c
 ·subst h;simp[lP,List.range',List.find?,cZ,List.isPrefixOf]
 by_cases h:45=c
 ·subst h;simp[lP,List.range',List.find?,cZ,List.isPrefixOf]
 by_cases h:61=c
 ·subst h;simp[lP,List.range',List.find?,cZ,List.isPrefixOf]
 by_cases h:60=c
 ·subst h;cases r with
  |nil=>simp[lP,List.range',List.find?,cZ,List.isPrefixOf]
  |cons d r=>
   by_cases h:61=d
   ·subst h;simp[lP,List.range',List.find?,cZ,List.isPrefixOf]
   have U: ¬d=61:=λe=>h e.symm
   have z:(61==d)=false:=by simpa using h
   simp[lP,List.range',List.find?,cZ,List.isPrefixOf,U,z]
 have z:∀x,¬x=c->(x==c)=false:=λx E=>by simpa using E
 have D:∀x,¬x=c-> ¬c=x:=λx E e=>E e.symm
 rename_i G I h3 J O R;simp[lP,List.range',List.find?,cZ,List.isPrefixOf,z _ h,z _ G,z _ I,z _ h3,z _ J,z _ O,z _ R,D _ h,D _ G,D _ I,D _ h3,D _ J,D _ O,D _ R]
theorem za (p:UInt8->Bool) (l:LB) (a):de p l a=a+de p (l.drop a) 0:=by
 unfold de;simp
theorem B4 (l:LB) (a n:Nat):cut l a (a+n)=(l.drop a).take n:=by
 unfold cut;rw[show a+n - a=n from by omega]
theorem wK (p:UInt8->Bool) (c:UInt8) (r:LB):0<de p (c::r) 0↔p c=true:=by
 unfold de;cases h:p c<;>simp[h]
theorem nO (p:UInt8->Bool) (s:LB):(s.take (de p s 0)).length=de p s 0:=by
 rw[Up];have:=kj p s 0 (R0 _);omega
theorem lu (c:UInt8) (n:Nat) (z:n<256):c.toNat=n↔c=UInt8.ofNat n:=by
 constructor
 ·intro h;rw[<-h];simp
 intro h;rw[h];simp;omega
theorem B5 (l:LB) (a:Nat) (V:a<l.length):
 (fv l a=none/\mA (l.drop a)=(.agg #[Iq 0,Iq 0,Iq 0,S []],0))\/ ∃t,fv l a=some t/\mA (l.drop a)=(mz t 0,t.text.length)/\0<t.text.length:=by
 have O:=RI V;have E:=R5 V;have G:l.getD (a+1) 0=(l.drop (a+1)).getD 0 0:=by simp[RG]
 unfold fv;rw[za im l a,za ig l a,B4,B4,O,G];simp only[Nat.lt_add_right_iff_pos,U5];unfold mA;rw[E];generalize l[a]=c;generalize l.drop (a+1)=r;rw[show(c::r).getD 0 0=c from rfl];simp only[wK];by_cases I:im c=true
 ·rw[RK I,RK I];have z:=nO im (c::r);have R:=(wK im c r).2 I;unfold wI;cases Y:big ((c::r).take (de im (c::r) 0)) with
  |true=>left;exact⟨by simp,by simp⟩
  |false=>right;exact⟨_,by rw[RH (by simp)],by simp[mz,cz,cY,cG],by rw[z];exact R⟩
 rw[RH I,RH I];by_cases J:ig c=true
 ·rw[RK J,RK J];have z:=nO ig (c::r);have R:=(wK ig c r).2 J;unfold q6;cases Y:ml ((c::r).take (de ig (c::r) 0)) with
  |true=>
   right;refine⟨_,by rw[RK rfl],?_,by rw[z];exact R⟩
   have:0<=du cZ ((c::r).take (de ig (c::r) 0)):=vC (Ul ((sB _).1 Y));rw[RK rfl];simp only[mz,cz,cY,cG];simp[TI this]
  |false=>
   simp only[Uc,Ui,z];by_cases U:de ig (c::r) 0<=8
   ·right;exact⟨_,by rw[RK U],by rw[RK U];simp[mz,cz,cY,cG,z],by rw[z];exact R⟩
   left;exact⟨by rw[RH U],by rw[RH U]⟩
 rw[RH J,RH J];unfold pG;rw[Eu];simp only[lu _ 60 (by omega),lu _ 61 (by omega),lu _ 40 (by omega),lu _ 41 (by omega),lu _ 59 (by omega),lu _ 43 (by omega),lu _ 45 (by omega)]
 by_cases h:c=60
 ·subst h;by_cases D:r.getD 0 0=61
  ·right;exact⟨⟨115,[60,61],a⟩,by rw[D];rfl,by rw[D];rfl,by simp⟩
  right;refine⟨⟨115,[60],a⟩,?_,?_,by simp⟩
  ·show(if _ then(if r.getD 0 0=UInt8.ofNat 61 then _ else _) else _)=_;rw[RK (show 60=UInt8.ofNat 60 from rfl),RH (show ¬r.getD 0 0=UInt8.ofNat 61 from D)]
  simp only[D,Ui];rfl
 by_cases h:c=40
 ·subst h;right;exact⟨⟨115,[40],a⟩,rfl,rfl,by simp⟩
 by_cases h:c=41
 ·subst h;right;exact⟨⟨115,[41],a⟩,rfl,rfl,by simp⟩
 by_cases h:c=59
 ·subst h;right;exact⟨⟨115,[59],a⟩,rfl,rfl,by simp⟩
 by_cases h:c=43
 ·subst h;right;exact⟨⟨115,[43],a⟩,rfl,rfl,by simp⟩
 by_cases h:c=45
 ·subst h;right;exact⟨⟨115,[45],a⟩,rfl,rfl,by simp⟩
 by_cases h:c=61
 ·subst h;right;exact⟨⟨115,[61],a⟩,rfl,rfl,by simp⟩
 left;rename_i Z D h3 h4 h5 h6;exact⟨by simp[h,Z,D,h3,h4,h5,h6],by simp[h,Z,D,h3,h4,h5,h6]⟩
theorem B6 (p:UInt8->Bool) (s:List UInt8):∀c∈s.take (de p s 0),p c=true:=by
 intro c q;unfold de at q;simp only[Sw,Un] at q;have:s.take (s.takeWhile p).length=s.takeWhile p:=(Uu.1 (List.takeWhile_prefix p)).symm;rw[this] at q;exact(TL.1 (UW)) c q
theorem B7 (s:List UInt8) (n:Nat):cut s 0 n=s.take n:=by unfold cut;simp
theorem Ig (s:List UInt8):∃(k n:Int) (t:List UInt8) (z:Nat),wI s=(.agg #[Iq k,Iq 0,Iq n,S t],z):=by
 unfold wI;split<;>exact⟨_,_,_,_,rfl⟩
theorem Ew (s:List UInt8):∃(k n:Int) (t:List UInt8) (z:Nat),q6 s=(.agg #[Iq k,Iq 0,Iq n,S t],z):=by
 unfold q6;split
 ·exact⟨_,_,_,_,rfl⟩
 ·split<;>exact⟨_,_,_,_,rfl⟩
theorem Ex (s:List UInt8):∃(k n:Int) (t:List UInt8) (z:Nat),pG s=(.agg #[Iq k,Iq 0,Iq n,S t],z):=by
 unfold pG;split<;>exact⟨_,_,_,_,rfl⟩
theorem zc (s:List UInt8) (w:World) (hW:Wd w) (hs:s.length<=1000) (h0:0<s.length):
 Calls prog 102 #[S s] w λe w'=>e= .returned (.tuple #[(mA s).1,Iq (mA s).2])/\Below w.heap.size w w':=by
 have hg:s.getD 0 0=s[0]:=by simp[RG,RI h0]
 have HA:=(RP w.heap.size w).alloc (RL _) (eG 0 0 0 []);have Y:(w.alloc (eG 0 0 0 [])).heap[w.heap.size]?=some (eG 0 0 0 []):=RO w _;have R:w.heap.size<(w.alloc (eG 0 0 0 [])).heap.size:=by simp
 have U:=hW.below HA;have ac:=Hi HA;have V:=Hi Y;have A:=Hi R
 by_cases D:im s[0]=true
 have HV:Hid (mA s=wI (s.take (de im s 0))):=by show _=_;unfold mA;rw[hg,RK D]
 obtain⟨k,n,t,z,q⟩:=Ig (s.take (de im s 0));have Z:=kj im s 0 (R0 _);have J:0<de im s 0:=by rw[fX im s 0 h0 D];exact qj _ _ _
 have G:s.take (de im s 0)≠[]:=by intro e;have:=Te List.length e;rw[nO] at this;simp at this;omega
 have E:=Et (s.take (de im s 0)) _ U (by rw[nO];omega) G (B6 im s)
 have HD:=Hi D;have HR:=D8 s (w.alloc (eG 0 0 0 [])) hs;rw[q,<-B7] at E;have HS:=Hi q;generalize de im s 0=j at Z E HR
 rotate_left
 have aa:im s[0]=false:=by simpa using D
 have HD:=Hi aa
 by_cases O:ig s[0]=true
 have HV:Hid (mA s=q6 (s.take (de ig s 0))):=by show _=_;unfold mA;rw[hg,RH D,RK O]
 obtain⟨k,n,t,z,q⟩:=Ew (s.take (de ig s 0));have Z:=kj ig s 0 (R0 _);have J:0<de ig s 0:=by rw[fX ig s 0 h0 O];exact qj _ _ _
 have G:s.take (de ig s 0)≠[]:=by intro e;have:=Te List.length e;rw[nO] at this;simp at this;omega
 have E:=K4 (s.take (de ig s 0)) _ U.sp (by rw[nO];omega) G (B6 ig s)
 have HL:=Hi O;have HR:=BJ s (w.alloc (eG 0 0 0 [])) hs;rw[q,<-B7] at E;have HS:=Hi q;generalize de ig s 0=j at Z E HR
 rotate_left
 have HV:Hid (mA s=pG s):=by show _=_;unfold mA;rw[hg,RH D,RH O]
 obtain⟨k,n,t,z,q⟩:=Ex s;have E:=K6 s _ U.sp hs;rw[q] at E;have HS:=Hi q;have HL:Hid (ig s[0]=false):=Tv.2 O
 all_goals
  go_enter func102,ntmps102;go_wp2_with fail;apply(pE s[0] _).mono;rintro e w' ⟨rfl,rfl⟩;rw[HD.out];go_wp2_with fail
  try
   apply(oz s[0] _).mono;rintro e w' ⟨rfl,rfl⟩;rw[HL.out];go_wp2_with fail
  try
   apply HR.mono;rintro e w' ⟨rfl,rfl⟩;go_wp2_with fail;rw[gC]
  apply E.mono;rintro e w' ⟨rfl,ab⟩;have ad:w'.heap[w.heap.size]?=some (eG 0 0 0 []):=by rw[ab.block _ A.out];exact V.out
  have HB:Hid (Below w.heap.size w w'):=ac.out.trans (ab.mono (Vc A.out));obtain⟨⟨c0,c1,c2,c3⟩,cf⟩:=jJ ad;generalize ae:w.heap.size=nb at c0 c1 c2 c3 cf HB⊢;have HN:=Hi ae;go_wp2;have I:=T1 HN.out;exact RU (v:= .tuple #[.agg #[Iq k,Iq 0,Iq n,S t],Iq z]) (by simp[results,results102,go_sem,c0,c1,c2,c3,cf]) rfl ⟨by rw[HV.out,HS.out],(((((HB.out.mono I).setCell I _).setCell I _).setCell I _).setCell I _)⟩
theorem Ey:(prog.info? 160).map (λi=>(i.zero,i.size,i.bytes))=some (some (.agg #[Iq 0,Iq 0,Iq 0,.string ⟨#[]⟩]),4,40):=by kernel_rfl
def zd (t:Tok):List Value:=[Iq (cz t),Iq t.pl,Iq (cY t),S (cG t)]
def oB (ts:List Tok):List Value:=ts.flatMap zd
theorem uL (ts:List Tok) (t:Tok):oB (ts++[t])=oB ts++[Iq (cz t),Iq t.pl,Iq (cY t),S (cG t)]:=by simp[oB,zd]
theorem rj (w:World) (a b c d) (t):∀j u,[a,b,c,d][j]?=some u->(w.alloc (.cells #[a,b,c,d] t)).cell? ((⟨w.heap.size,0,none⟩:Addr).add j)=some u:=by
 intro j u z;match j,z with
 |0,z=>simp at z;subst z;simp[Addr.add]
 |1,z=>simp at z;subst z;simp[Addr.add]
 |2,z=>simp at z;subst z;simp[Addr.add]
 |3,z=>simp at z;subst z;simp[Addr.add]
 |j+4,z=>simp at z
theorem wL (w:World) (o) (a b c d) (t):∀j u,[a,b,c,d][j]?=some u->((w.alloc o).alloc (.cells #[a,b,c,d] t)).cell? ((⟨w.heap.size+1,0,none⟩:Addr).add j)=some u:=by
 have h:=rj (w.alloc o) a b c d t;rw[RW] at h;exact h
theorem B8 (l:LB) (j:Nat):cut l j l.length=l.drop j:=by
 unfold cut;exact Sz (by simp)
def wM (l:List UInt8) (w:World) (e:Ending) (w':World):Prop:=
 Below w.heap.size w w'/\match jQ (l.length+1) l 0 with
 |(ts,none)=> ∃g cap,e= .returned (.tuple #[.slice (some ⟨g,0,none⟩) ts.length cap,Iq 0,.bool true])/\w'.ownsRow w.heap.size 160 4 (.slice (some ⟨g,0,none⟩) ts.length cap) ts.length (oB ts)
 |(_,some p)=>e= .returned (.tuple #[.slice none 0 0,Iq p,.bool false])
theorem ze (l:LB) (w:World) (hW:Wd w) (hl:l.length<=1000):
 Calls prog 55 #[S l] w λe w'=>wM l w e w':=by
 obtain⟨i0,hi,ac,ad,ae⟩:=Tz Ey;have HP:=pF l 0 w hl (R0 _);go_enter func55,ntmps55;go_wp2_with fail;apply HP.mono;rintro e w' ⟨rfl,rfl⟩;have ao:=kj jB l 0 (R0 _);go_wp2;go_loopw [5,6] (λv a wr=> ∃ts k f j,k<=j/\j<=l.length/\ts.length<=k/\a= Iq j/\Hid (de jB l k=j)/\l.length - k<f/\Hid (jQ (l.length+1) l 0=(ts++(jQ f l k).1,(jQ f l k).2))/\wr.ownsRow w'.heap.size 160 4 v ts.length (oB ts)/\Bl w' wr) (λ_ a _=>l.length - (intOf a).toNat)
 case atStart=>exact⟨[],0,l.length+1,_,by omega,ao,by simp,rfl,rfl,by omega,rfl,SC _ _ _ _,RP _ _⟩
 case round=>
  obtain⟨ts,k,f,j,ar,hj,au,rfl,HB,hf,HS,U,z⟩:=hrel;have af:=Hi (hW.below z);by_cases V:j<l.length
  ·have I:(l.drop j).length<=1000:=by simp;omega
   have E:0<(l.drop j).length:=by simp;omega
   rcases B5 l j V with⟨G,O⟩|⟨t,G,O,av⟩
   ·have HW:Hid _:=G;have R:=zc (l.drop j) wr af.out I E;rw[O] at R;go_wp2_with fail;rw[gC,B8];apply R.mono;rintro e w1 ⟨rfl,Z⟩;go_wp2;refine RU (v:= .tuple #[.slice none 0 0,Iq j,.bool false]) (by simp[results,results55,go_sem]) rfl ?_
    refine⟨(z.trans (Z.mono z.size)).alloc (by have:=Z.size;have:=z.size;omega) _,?_⟩
    rw[HS.out,BG l k f j (by omega) V HB.out HW.out]
   have HW:Hid _:=G;have R:=zc (l.drop j) wr af.out I E;rw[O] at R;unfold mz at R;obtain⟨aw,ag,ah,ax⟩:=my V G;have H3:=Hi ah;have HP:=λw=>pF l (j+t.text.length) w hl ag
   have aa:=kj jB l (j+t.text.length) ag;have ab:=qj jB l (j+t.text.length);go_wp2_with fail;rw[gC,B8];apply R.mono;rintro e w1 ⟨rfl,Z⟩;have ak:=z.trans (Z.mono z.size);have Y:=cH U Z;have ay:=Z.size;have ap:=z.size;go_wp2_with (
    at_builtin;go_must (refine wpList_append_lies _ (by rfl) _ _ 137 (by rfl) w'.heap.size 160 i0 (.agg #[Iq 0,Iq 0,Iq 0,.string ⟨#[]⟩]) 4 40 underlying137 hi ac ad ae (by rfl) (by decide) _ _ _ (by rfl) ((Y.alloc _).alloc _) ⟨w1.heap.size+1,0,none⟩ 1 1 [Iq (cz t),Iq j,Iq (cY t),S (cG t)] (by rfl) (by rfl) (wL _ _ _ _ _ _ _) (λx hx=>by simp at hx;rcases hx with rfl|rfl|rfl|rfl<;>rfl) (by decide) (by unfold maxLen;omega) (by omega) (by simp;omega) _ rfl ?_)
    intro g cap w3 J D ai am;have an:=yS ak Y D;clear D ai)
   apply(HP _).mono;rintro e w4 ⟨rfl,rfl⟩;generalize aj:de jB l (j+t.text.length)=j2 at aa ab⊢;have HJ:=Hi aj;go_wp2;go_roundw
   case rel=>
    obtain⟨f,rfl⟩:∃f',f=f'+1:=⟨f - 1,by omega⟩
    refine⟨ts++[t],j+t.text.length,f,_,ab,aa,by simp;omega,rfl,HJ.out,by omega,?_,?_,an⟩
    ·show _=_;rw[HS.out,BH l k f j t V HB.out HW.out];simp
    rw[uL,H3.out];simpa using J
   case measure=>simp[intOf];omega
  have aq:j=l.length:=by omega
  subst aq;have ap:=z.size;go_wp2_with (
   at_builtin;go_must (refine wpList_append_lies _ (by rfl) _ _ 137 (by rfl) w'.heap.size 160 i0 (.agg #[Iq 0,Iq 0,Iq 0,.string ⟨#[]⟩]) 4 40 underlying137 hi ac ad ae (by rfl) (by decide) _ _ _ (by rfl) (U.alloc _) ⟨wr.heap.size,0,none⟩ 1 1 [Iq 0,Iq l.length,Iq 0,S []] (by rfl) (by rfl) (rj _ _ _ _ _ _) (λx hx=>by simp at hx;rcases hx with rfl|rfl|rfl|rfl<;>rfl) (by decide) (by unfold maxLen;omega) (by omega) (by simp;omega) _ rfl ?_)
   intro g cap w3 J D ai am)
  refine RU (v:= .tuple #[Sq g (ts.length+1) cap,Iq 0,.bool true]) (by simp[results,results55,go_sem]) rfl ?_
  refine⟨gU z U D,?_⟩;rw[HS.out,Gh l k f (by omega) HB.out]
  exact⟨g,cap,by simp,by rw[uL];simpa [cz,cY,cG] using J⟩
structure Q where
 i:Nat
 bad:Bool
 pl:Nat
def mB (gl n cl:Nat) (s:Q):Obj:= .cells #[.slice (some ⟨gl,0,none⟩) n cl,Iq s.i,.bool s.bad,Iq s.pl] 213 (0,0)
structure RR (rb gl cl:Nat) (ts:List Tok) (s) (w:World):Prop where
 rd:w.heap[rb]?=some (mB gl ts.length cl s)
 wl:∃cs,w.heap[gl]?=some (.cells cs 160 (0,0))
 wc:∀i,i<ts.length->w.cell? ⟨gl,i*4,none⟩=some (Iq (cz (cr ts i)))/\w.cell? ⟨gl,i*4+1,none⟩=some (Iq (cr ts i).pl)/\w.cell? ⟨gl,i*4+2,none⟩=some (Iq (cY (cr ts i)))/\w.cell? ⟨gl,i*4+3,none⟩=some (S (cG (cr ts i)))
 lt:s.i<ts.length
 nb:ts.length<=1001
 fin:cz (cr ts (ts.length - 1))=0
theorem RR.cells {rb gl cl} {ts:List Tok} {s w} (h:RR rb gl cl ts s w):(Cq w rb 0 (Sq gl ts.length cl)/\Cq w rb 1 (Iq s.i)/\Cq w rb 2 (.bool s.bad)/\Cq w rb 3 (Iq s.pl))/\ ∀j,w.frozen? ⟨rb,j,none⟩=false:=by
 have z:=λj=>RM w rb j _ _ _ h.rd
 exact⟨⟨z 0,z 1,z 2,z 3⟩,λj=>by simp[World.frozen?,h.rd,mB]⟩
theorem jf {ts:List Tok} (h:RR rb gl cl ts s w):
 Calls prog 103 #[Pq rb] w λe w'=>e= .returned (Iq (cz (cr ts s.i)))/\w'=w.drew:=by
 obtain⟨⟨E,G,I,J⟩,rf⟩:=h.cells;obtain⟨c0,c1,c2,c3⟩:=h.wc s.i h.lt;have z:=h.lt;generalize cz (cr ts s.i)=kd at*;go_enter func103,ntmps103
 go_wp2
 go_region_held (λw'=>w'.cell? ⟨rb,0,none⟩=some (Sq gl ts.length cl)/\w'.cell? ⟨rb,1,none⟩=some (Iq s.i)/\w'.cell? ⟨gl,s.i*4,none⟩=some (Iq kd)) (go_keep) (fail)
 go_wp2
 go_ret;exact⟨rfl,rfl⟩
structure PF (rb:Nat) (w w':World):Prop where
 os:w'.os=w.os
 tape:w'.tape=w.tape
 output:w'.output=w.output
 size:w.heap.size<=w'.heap.size
 block:∀k,k<w.heap.size->k≠rb->w'.heap[k]?=w.heap[k]?
theorem PF.refl (rb:Nat) (w:World):PF rb w w:=⟨rfl,rfl,rfl,RL _,λ_ _ _=>rfl⟩
theorem PF.trans {rb:Nat} {w z D} (h:PF rb w z) (k:PF rb z D):PF rb w D:=
 ⟨k.os.trans h.os,k.tape.trans h.tape,k.output.trans h.output,SF h.size k.size,λj E G=>(k.block j (SL E h.size) G).trans (h.block j E G)⟩
theorem PF.drew {rb:Nat} (h:PF rb w z):PF rb w z.drew:=⟨h.os,h.tape,h.output,h.size,h.block⟩
theorem PF.of_below {rb:Nat} (h:Below w.heap.size w w'):PF rb w w':=⟨h.os,h.tape,h.output,h.size,λk z _=>h.block k z⟩
theorem PF.set {rb:Nat} (h:PF rb w w') (j) (v):PF rb w (w'.setCell ⟨rb,j,none⟩ v):=
 ⟨h.os,h.tape,h.output,by simpa using h.size,λk D z=>by rw[RQ _ _ _ _ (by simpa using z)];exact h.block k D z⟩
theorem PF.alloc {rb:Nat} (h:PF rb w w') (o:Obj):PF rb w (w'.alloc o):=
 ⟨h.os,h.tape,h.output,by simp;have:=h.size;omega,λk z D=>by rw[RV _ _ _ (SL z h.size)];exact h.block k z D⟩
theorem RR.ne {ts:List Tok} (h:RR rb gl cl ts s w):gl≠rb:=λe=>by
 obtain⟨cs,z⟩:=h.wl;rw[e,h.rd] at z;simp[mB] at z
theorem RR.rlt {ts:List Tok} (h:RR rb gl cl ts s w):rb<w.heap.size:=cq h.rd
theorem RR.glt {ts:List Tok} (h:RR rb gl cl ts s w):gl<w.heap.size:=cq h.wl.choose_spec
theorem RR.move {ts:List Tok} (h:RR rb gl cl ts s w) (z:w'.heap[gl]?=w.heap[gl]?) (G:w'.heap[rb]?=some (mB gl ts.length cl s')) (I:s'.i<ts.length):RR rb gl cl ts s' w':=
 ⟨G,by rw[z];exact h.wl,λi J=>by
  have e:∀j,w'.cell? ⟨gl,j,none⟩=w.cell? ⟨gl,j,none⟩:=λj=>R1 (w:=w) z
  rw[e,e,e,e];exact h.wc i J,I,h.nb,h.fin⟩
theorem RR.below (h:RR rb gl cl ts s w) (z:Below w.heap.size w w'):RR rb gl cl ts s w':=
 h.move (z.block _ h.glt) (by rw[z.block _ h.rlt];exact h.rd) h.lt
theorem RR.drew {ts:List Tok} (h:RR rb gl cl ts s w):RR rb gl cl ts s w.drew:=h.move rfl h.rd h.lt
theorem RR.alloc {rb gl cl ts s w} (h:RR rb gl cl ts s w) (o:Obj):RR rb gl cl ts s (w.alloc o):=
 h.below ((RP _ _).alloc (RL _) o)
theorem RR.set (h:RR rb gl cl ts s w) (s') (j) (v) (e:(#[Sq gl ts.length cl,Iq s.i,.bool s.bad,Iq s.pl]).setIfInBounds j v= #[Sq gl ts.length cl,Iq s'.i,.bool s'.bad,Iq s'.pl]) (z:s'.i<ts.length):RR rb gl cl ts s' (w.setCell ⟨rb,j,none⟩ v):=
 h.move (RQ _ _ _ _ (by simpa using h.ne)) (by rw[R3 w rb j _ _ v h.rd,e];rfl) z
section
attribute [local go_sem ↓] Go.wp_at_zero Go.wp_at_succ
theorem RR.other (h:RR rb gl cl ts s w) (z:b≠rb) (D:b≠gl) (j) (v):RR rb gl cl ts s (w.setCell ⟨b,j,none⟩ v):=
 h.move (RQ _ _ _ _ (by simpa using D.symm)) (by rw[RQ _ _ _ _ (by simpa using z.symm)];exact h.rd) h.lt
theorem PF.new {rb:Nat} (h:PF rb w w') (E:w.heap.size<=b) (j) (v):PF rb w (w'.setCell ⟨b,j,none⟩ v):=
 ⟨h.os,h.tape,h.output,by simpa using h.size,λk z D=>by rw[RQ _ _ _ _ (by simp;omega)];exact h.block k z D⟩
theorem wN {ts:List Tok} (h:RR rb gl cl ts s w) (hi:s.i+1<ts.length):
 Calls prog 212 #[Pq rb] w λe w'=>e= .returned (mz (cr ts s.i) (cr ts s.i).pl)/\RR rb gl cl ts {s with i:=s.i+1} w'/\PF rb w w':=by
 have ag:=h.nb;have U:=h.alloc (.cells #[Iq 0,Iq 0,Iq 0,.string ⟨#[]⟩] 160);have V:(w.alloc (.cells #[Iq 0,Iq 0,Iq 0,.string ⟨#[]⟩] 160)).heap[w.heap.size]?=some (.cells #[Iq 0,Iq 0,Iq 0,.string ⟨#[]⟩] 160):=RO w _;have hF:PF rb w (w.alloc (.cells #[Iq 0,Iq 0,Iq 0,.string ⟨#[]⟩] 160)):=(PF.refl rb w).alloc _;have ac:=h.rlt;have ad:=h.glt;clear h;go_enter func212,ntmps212;go_wp2;generalize w.alloc (.cells #[Iq 0,Iq 0,Iq 0,.string ⟨#[]⟩] 160)=z at*;obtain⟨⟨r0,r1,r2,r3⟩,rf⟩:=U.cells;obtain⟨c0,c1,c2,c3⟩:=U.wc s.i U.lt;have ah:=U.lt;have n0:=World.new_ne z _ r0;have n1:=World.new_ne z _ r1;have m0:=World.new_ne z _ c0;have m1:=World.new_ne z _ c1;have m2:=World.new_ne z _ c2;have m3:=World.new_ne z _ c3;have H1:=Hi U;have Z:=Hi hF;have HX:=Hi V;clear U hF V r2 r3;generalize hk:cz (cr ts s.i)=D at*;generalize hp:(cr ts s.i).pl=E at*;generalize hm:cY (cr ts s.i)=G at*;generalize ho:cG (cr ts s.i)=I at*;have HK:=Hi hk;have HP:=Hi hp;have HM:=Hi hm;have HO:=Hi ho;clear hk hp hm ho;go_region_held (λw'=>w'.cell? ⟨rb,0,none⟩=some (Sq gl ts.length cl)/\w'.cell? ⟨rb,1,none⟩=some (Iq s.i)/\w'.cell? ⟨gl,s.i*4,none⟩=some (Iq D)/\w'.cell? ⟨gl,s.i*4+1,none⟩=some (Iq E)/\w'.cell? ⟨gl,s.i*4+2,none⟩=some (Iq G)/\w'.cell? ⟨gl,s.i*4+3,none⟩=some (S I)) (go_keep) (fail)
 rename_i hHeld;clear hHeld r0 r1 rf c0 c1 c2 c3 n0 n1 m0 m1 m2 m3;have h2:=(H1.out.alloc (eG D E G I)).drew;have F2:=(Z.out.alloc (eG D E G I)).drew;have Y:(z.alloc (eG D E G I)).drew.heap[z.heap.size]?=some (eG D E G I):=RO z _;have aa:=cq HX.out;have O:(z.alloc (eG D E G I)).drew.heap[w.heap.size]?=some (eG 0 0 0 []):=by
  show(z.alloc (eG D E G I)).heap[w.heap.size]?=_;rw[RV _ _ _ aa];exact HX.out
 have e1:z.heap.size≠rb:=by omega
 have J:w.heap.size≠rb:=by omega
 have e3:w.heap.size≠z.heap.size:=by omega
 unfold eG at h2 F2 Y O;clear HX Z H1;show Exit.then _ _ _ _ ((z.alloc (.cells #[Iq D,Iq E,Iq G,S I] 160 (0,0))).drew);generalize (z.alloc (.cells #[Iq D,Iq E,Iq G,S I] 160 (0,0))).drew=w2 at*;generalize z.heap.size=bx at*;generalize ab:w.heap.size=bn at J e3 aa O ac ad⊢;have ae:=Hi ab;clear ab;obtain⟨⟨r0,r1,r2,r3⟩,rf⟩:=h2.cells;obtain⟨⟨x0,x1,x2,x3⟩,xf⟩:=jJ Y;obtain⟨⟨y0,y1,y2,y3⟩,yf⟩:=jJ O;have H2:=Hi h2;have Z:=Hi F2;clear h2 F2 Y O;have af:=J.symm;go_wp2;have R:=T1 ae.out;have hg:bn≠gl:=by omega
 refine RU (v:= .agg #[Iq D,Iq E,Iq G,S I]) (by simp[results,results212,go_sem,y0,y1,y2,y3,yf,J,af]) rfl ⟨?_,?_,?_⟩
 ·unfold mz;rw[HK.out,HP.out,HM.out,HO.out]
 ·exact(((((H2.out.set {s with i:=s.i+1} 1 _ (by simp) hi).other J hg _ _).other J hg _ _).other J hg _ _).other J hg _ _)
 exact((((Z.out.set 1 _).new R _ _).new R _ _).new R _ _).new R _ _
def gd (ts:List Tok) (s:Q):Q:=⟨ts.length - 1,true,if s.bad then s.pl else(cr ts s.i).pl⟩
theorem B9 {ts:List Tok} (h:RR rb gl cl ts s w):
 Calls prog 211 #[Pq rb] w λe w'=>e= .returned (.tuple #[])/\RR rb gl cl ts (gd ts s) w'/\PF rb w w':=by
 obtain⟨⟨J,G,D,O⟩,rf⟩:=h.cells;obtain⟨c0,c1,c2,c3⟩:=h.wc s.i h.lt;have R:=h.lt;have ac:=h.nb;have H:=Hi h;cases I:s.bad with
 |true=>
  rw[I] at D;have HB:=Hi I;go_enter func211,ntmps211;go_wp2;go_end0;refine⟨rfl,?_,(PF.refl _ _).set _ _⟩;exact H.out.set (gd ts s) 1 _ (by simp[gd,HB.out];omega) (by simp[gd];omega)
 |false=>
  rw[I] at D;have HB:=Hi I;go_enter func211,ntmps211;go_wp2;have U:=H.out.set {s with bad:=true} 2 (.bool true) (by simp) R
  have F1:=(PF.refl rb w).set 2 (.bool true);generalize w.setCell ⟨rb,2,none⟩ (.bool true)=V at*;obtain⟨⟨J,G,D,O⟩,rf⟩:=U.cells;obtain⟨c0,c1,c2,c3⟩:=U.wc s.i R;have Z:=U.ne;have aa:=Z.symm;have H1:=Hi U;have Y:=Hi F1;generalize hp:(cr ts s.i).pl=z at*;have HP:=Hi hp;simp only[] at G D O;have E:(V.setCell ⟨rb,3,none⟩ (Iq z)).drew.cell? ⟨rb,0,none⟩=some (Sq gl ts.length cl)/\(V.setCell ⟨rb,3,none⟩ (Iq z)).drew.cell? ⟨rb,1,none⟩=some (Iq s.i)/\(V.setCell ⟨rb,3,none⟩ (Iq z)).drew.cell? ⟨gl,s.i*4+1,none⟩=some (Iq z):=by
   simp[go_sem,J,G,c1,Z,aa]
  go_region_held (λw'=>w'.cell? ⟨rb,0,none⟩=some (Sq gl ts.length cl)/\w'.cell? ⟨rb,1,none⟩=some (Iq s.i)/\w'.cell? ⟨gl,s.i*4+1,none⟩=some (Iq z)) (first|exact E|go_keep) (fail)
  rename_i hHeld;have h2:=(H1.out.set {s with bad:=true,pl:=z} 3 (Iq z) (by simp) R).drew
  have F2:=(Y.out.set 3 (Iq z)).drew;generalize (V.setCell ⟨rb,3,none⟩ (Iq z)).drew=w2 at*;obtain⟨⟨J,G,D,O⟩,rf⟩:=h2.cells;have H2:=Hi h2;have Y:=Hi F2;go_wp2;go_end0;refine⟨rfl,?_,Y.out.set _ _⟩;exact H2.out.set (gd ts s) 1 _ (by simp[gd,HB.out,HP.out];omega) (by simp[gd];omega)
theorem ym (ks:List Nat) (v:Nat) (b) (w) (hl:ks.length<=100)
 (I:∀j,j<ks.length->Cq w b j (Iq (ks.getD j 0))):
 Calls prog 245 #[Sq b ks.length ks.length,Iq v] w λe w'=>(∃r,e= .returned (Iq r)/\ -1<=r/\r<=1000/\(decide (0<=r)=ks.contains v))/\w'=w:=by
 have Y:=Hi I;clear I;go_enter func245,ntmps245
 go_wp2
 go_loop [8] (λi=> ∃k:Nat,k<=ks.length/\i= Iq k/\Hid (∀q,q<k->ks.getD q 0≠v)) (λi=>ks.length - (intOf i).toNat)
 case atStart=>exact⟨0,R0 _,rfl,λq Z=>by omega⟩
 case round=>
  obtain⟨k,hk,rfl,J⟩:=hrel
  by_cases z:k<ks.length
  ·have E:=Y.out k z
   have D:Hid (ks.getD k 0∈ks):=by rw[RG,RI z];exact R4 z
   have HG:Hid (∀x,ks.getD k 0=x->ks.getD k 0=x):=λ_ h=>h
   generalize O:ks.getD k 0=x at E D;have HX:=Hi O;clear O HG
   by_cases G:v=x
   ·subst G
    go_wp2
    go_ret;refine⟨⟨k,rfl,by omega,by omega,?_⟩,rfl⟩
    simp[D.out]
   ·have R: ¬((v:Int)=(x:Int)):=by omega
    have aa:((v:Int)==(x:Int))=false:=by simpa using R
    have HV:=Hi G;clear G
    go_wp2
    refine⟨⟨k+1,by omega,by go_num,λq Z=>?_⟩,by simp[intOf];omega⟩
    by_cases e:q=k
    ·rw[e,HX.out];exact λe=>HV.out e.symm
    ·exact J.out q (by omega)
  ·go_wp2
   go_ret;refine⟨⟨-1,rfl,by omega,by omega,?_⟩,rfl⟩
   have U:v∉ks:=λe=>by
    obtain⟨j,hj,V⟩:=Tt.1 e;exact J.out j (by omega) (by rw[RG,RI hj];exact V)
   simp[U]
theorem ky (ks:List Nat) (v:Nat) (b) (w:World) (E:ks.length<=100)
 (z:∀j,j<ks.length->Cq w b j (Iq (ks.getD j 0))):
 Calls prog 210 #[Sq b ks.length ks.length,Iq v] w λe w'=>e= .returned (.bool (ks.contains v))/\w'=w:=by
 have D:=ym ks v b w E z;clear z;go_enter func210,ntmps210;go_wp2_with fail;apply D.mono;rintro e w' ⟨⟨r,rfl,I,J,h3⟩,rfl⟩;have G:=Hi h3;clear D h3;go_wp2;go_ret;exact⟨iN G.out,rfl⟩
theorem RR.more {ts:List Tok} (h:RR rb gl cl ts s w) (z:cz (cr ts s.i)≠0):s.i+1<ts.length:=by
 rcases SZ (s.i+1) ts.length with D|D
 ·exact D
 ·have:=h.lt
  have e:s.i=ts.length - 1:=by omega
  rw[e] at z;exact absurd h.fin z
def pI (ts:List Tok) (s:Q) (ks:List Nat):Value:=if ks.contains (cz (cr ts s.i)) then mz (cr ts s.i) (cr ts s.i).pl else .agg #[Iq 0,Iq 0,Iq 0,S []]
def nP (ts:List Tok) (s:Q) (ks:List Nat):Q:=if ks.contains (cz (cr ts s.i)) then{s with i:=s.i+1} else gd ts s
theorem Ln (h:RR rb gl cl ts s w) (ks) (b) (hl:ks.length<=100) (h0:0∉ks)
 (hc:∀j,j<ks.length->Cq w b j (Iq (ks.getD j 0))):
 Calls prog 151 #[Pq rb,Sq b ks.length ks.length] w λe w'=>e= .returned (pI ts s ks)/\RR rb gl cl ts (nP ts s ks) w'/\PF rb w w':=by
 have h1:=h.alloc (.cells #[Iq 0,Iq 0,Iq 0,.string ⟨#[]⟩] 160);have Z:(w.alloc (.cells #[Iq 0,Iq 0,Iq 0,.string ⟨#[]⟩] 160)).heap[w.heap.size]?=some (.cells #[Iq 0,Iq 0,Iq 0,.string ⟨#[]⟩] 160):=RO w _;have hF:PF rb w (w.alloc (.cells #[Iq 0,Iq 0,Iq 0,.string ⟨#[]⟩] 160)):=(PF.refl rb w).alloc _;have ad:∀j,j<ks.length->(w.alloc (.cells #[Iq 0,Iq 0,Iq 0,.string ⟨#[]⟩] 160)).cell? ⟨b,j,none⟩=some (Iq (ks.getD j 0)):=λj hj=>by
  rw[((RP w.heap.size w).alloc (RL _) _).cell (p:=⟨b,j,none⟩) (RN w _ (hc j hj))];exact hc j hj
 have ah:=h.rlt;have ai:=h.glt;have HC:=Hi ad;have H1:=Hi h1;have HF:=Hi hF;have HX:=Hi Z;clear h hc ad h1 hF Z;go_enter func151,ntmps151;go_wp2_with fail;generalize w.alloc (.cells #[Iq 0,Iq 0,Iq 0,.string ⟨#[]⟩] 160)=w1 at*;apply(jf H1.out).mono;rintro e w' ⟨rfl,rfl⟩;have af:Hid (ks.contains (cz (cr ts s.i))=true->s.i+1<ts.length):=λe=>H1.out.more λz=>by rw[z,Sd] at e;exact h0 e
 have HQ:Hid (nP ts s ks=nP ts s ks):=rfl;have J:=ky ks (cz (cr ts s.i)) b w1.drew hl HC.out;have HV:Hid (pI ts s ks=if ks.contains (cz (cr ts s.i)) then mz (cr ts s.i) (cr ts s.i).pl else .agg #[Iq 0,Iq 0,Iq 0,S []]):=rfl
 have HW:Hid (nP ts s ks=if ks.contains (cz (cr ts s.i)) then{s with i:=s.i+1} else gd ts s):=rfl
 have h2:=H1.out.drew;have F2:=HF.out.drew;have O:w1.drew.heap[w.heap.size]?=some (eG 0 0 0 []):=HX.out;have V:w.heap.size<w1.drew.heap.size:=cq O;clear H1 HF HX HC HQ h0;generalize w1.drew=w2 at*;generalize ae:cz (cr ts s.i)=kd at*;have aj:=Hi ae;clear ae;have z:w.heap.size≠rb:=by omega
 have I:w.heap.size≠gl:=by omega
 cases E:ks.contains kd with
 |true=>
  have HT:=Hi E;have ac:=af.out E;have Y:=wN h2 ac;have HY:=Hi O;have HE:=Hi F2;unfold mz at Y;rw[E] at J;clear E O h2 F2;go_wp2_with fail;apply J.mono;rintro e w' ⟨rfl,rfl⟩;go_wp2_with fail;apply Y.mono;rintro e w3 ⟨rfl,h3,U⟩;have G:w3.heap[w.heap.size]?=some (eG 0 0 0 []):=by rw[U.block _ V z];exact HY.out
  have aa:=Hi (HE.out.trans U);have H3:=Hi h3;clear Y J HY HE h3 U V;generalize R:w.heap.size=bn at z I G⊢;have ab:=Hi R;clear R;obtain⟨⟨y0,y1,y2,y3⟩,yf⟩:=jJ G;clear G;go_wp2;have D:=T1 ab.out;refine RU (v:= .agg #[Iq (cz (cr ts s.i)),Iq (cr ts s.i).pl,Iq (cY (cr ts s.i)),S (cG (cr ts s.i))]) (by simp[results,results151,go_sem,y0,y1,y2,y3,yf]) rfl ⟨?_,?_,?_⟩
  ·rw[HV.out,HT.out];rfl
  ·rw[HW.out,HT.out]
   exact((((H3.out.other z I _ _).other z I _ _).other z I _ _).other z I _ _)
  ·exact((((aa.out.new D _ _).new D _ _).new D _ _).new D _ _)
 |false=>
  have HT:=Hi E;have Y:=B9 h2;have HY:=Hi O;have HE:=Hi F2;rw[E] at J;clear E O h2 F2;go_wp2_with fail;apply J.mono;rintro e w' ⟨rfl,rfl⟩;go_wp2_with fail;apply Y.mono;rintro e w3 ⟨rfl,h3,U⟩;have G:w3.heap[w.heap.size]?=some (eG 0 0 0 []):=by rw[U.block _ V z];exact HY.out
  have aa:=Hi (HE.out.trans U);have H3:=Hi h3;clear Y J HY HE h3 U V;generalize R:w.heap.size=bn at z I G⊢;have ab:=Hi R;clear R;obtain⟨⟨y0,y1,y2,y3⟩,yf⟩:=jJ G;clear G;go_wp2;have D:=T1 ab.out;refine RU (v:= .agg #[Iq 0,Iq 0,Iq 0,S []]) (by simp[results,results151,go_sem,y0,y1,y2,y3,yf]) rfl ⟨?_,?_,?_⟩
  ·rw[HV.out,HT.out];rfl
  ·rw[HW.out,HT.out]
   exact((((H3.out.other z I _ _).other z I _ _).other z I _ _).other z I _ _)
  ·exact((((aa.out.new D _ _).new D _ _).new D _ _).new D _ _)
end
variable {x t L i xs p F}
def ik (t:Tok):Prop:=t.k=110\/t.k=111\/t.k=101\/(t.k=107/\t.text∈cZ.drop 11)\/(t.k=115/\t.text∈(cZ.drop 3).take 8)
theorem Pn {x:List UInt8} (h:x∈cZ.drop 11):x∈cZ.drop 3:=by
 rw[show cZ.drop 11=(cZ.drop 3).drop 8 from by simp] at h
 exact Ul h
theorem ik.cases {t:Tok} (h:ik t):t.k=110\/t.k=111\/t.k=101\/((t.k=107\/t.k=115)/\t.text∈cZ.drop 3):=by
 rcases h with h|h|h|⟨h,z⟩|⟨h,z⟩
 ·exact .inl h
 ·exact .inr (.inl h)
 ·exact .inr (.inr (.inl h))
 ·exact .inr (.inr (.inr ⟨.inl h,Pn z⟩))
 ·exact .inr (.inr (.inr ⟨.inr h,Um z⟩))
theorem Ih:∀x∈cZ.drop 3,∀y∈cZ.drop 3,(du cZ x).toNat=(du cZ y).toNat->x=y:=by decide
theorem nQ:∀x∈cZ.drop 3,3<=(du cZ x).toNat:=by decide
def kn (x:List UInt8):Nat:=(du cZ x).toNat
theorem fe {t:Tok} (h:(t.k=107\/t.k=115)):cz t=kn t.text:=by
 unfold cz kn;rw[RH (by omega),RH (by omega),RH (by omega)]
theorem sJ {t:Tok} (h:ik t) (z:x∈cZ.drop 3):eE t x=true↔cz t=kn x:=by
 have E:=nQ x z;unfold eE;rcases h.cases with h|h|h|⟨h,D⟩
 ·unfold cz;rw[RK h,h];simp[kn];omega
 ·unfold cz;rw[RH (by omega),RK h,h];simp[kn];omega
 ·unfold cz;rw[RH (by omega),RH (by omega),RK h,h];simp[kn];omega
 ·rw[fe h]
  simp only[TA,Uv,Uh];constructor
  ·rintro⟨_,e⟩;rw[e]
  ·intro e;exact⟨h,Ih _ D _ z e⟩
theorem Lo (l:List UInt8) (a:Nat) (D:a<l.length) (t) (h:fv l a=some t):ik t:=by
 unfold fv at h
 split at h
 ·split at h
  ·simp at h
  ·simp at h;subst h;exact .inl rfl
 ·split at h
  ·split at h
   ·rename_i E
    simp at h;subst h
    exact .inr (.inr (.inr (.inl ⟨rfl,(sB _).1 E⟩)))
   ·split at h
    ·simp at h;subst h;exact .inr (.inl rfl)
    ·simp at h
  ·rw[RI D] at h
   simp only at h
   split at h
   ·split at h
    ·simp at h;subst h;exact .inr (.inr (.inr (.inr ⟨rfl,show[60,61]∈(cZ.drop 3).take 8 from by decide⟩)))
    ·simp at h;subst h;exact .inr (.inr (.inr (.inr ⟨rfl,show[60]∈(cZ.drop 3).take 8 from by decide⟩)))
   ·split at h
    ·rename_i z
     simp at h;subst h
     refine .inr (.inr (.inr (.inr ⟨rfl,?_⟩)));have G:∀c:UInt8,(c.toNat=40\/c.toNat=41\/c.toNat=59\/c.toNat=43\/c.toNat=45\/c.toNat=61)->[c]∈(cZ.drop 3).take 8:=by
      intro c z;rcases z with z|z|z|z|z|z<;>(rw[lu _ _ (by omega)] at z;subst z;decide)
     exact G _ z
    ·simp at h
def oC (k:Nat):Bool:=decide (k=1)||decide (k=2)||(decide (20<=k)&&decide (k<=35))
theorem Ah:∀x∈cZ.drop 11,(decide (0<=du dw x)||decide (0<=du dz x)||x==mn||x==mo)=oC (kn x):=by decide
theorem Ai:∀x∈(cZ.drop 3).take 8,oC (kn x)=false:=by decide
theorem tV {t:Tok} (h:ik t):dP t=oC (cz t):=by
 unfold dP;rcases h with h|h|h|⟨h,z⟩|⟨h,z⟩
 ·unfold cz;rw[RK h,h];rfl
 ·unfold cz;rw[RH (by omega),RK h,h];rfl
 ·unfold cz;rw[RH (by omega),RH (by omega),RK h,h];rfl
 ·rw[fe (.inl h),<-Ah _ z,h];simp
 ·rw[fe (.inr h),Ai _ z,h];rfl
theorem o8 (k:Nat) (w:World) (D:k<=100):Calls prog 287 #[Iq k] w λe w'=>e= .returned (.bool (oC k))/\w'=w:=by
 have z:Hid (oC k=(decide (k=1)||decide (k=2)||(decide (20<=k)&&decide (k<=35)))):=rfl;go_enter func287,ntmps287
 go_wp2
 all_goals go_ret
 all_goals refine⟨iN ?_,rfl⟩
 all_goals rw[z.out,Ts]
 all_goals simp
 all_goals try simp at*
 all_goals omega
def j9 (n:Nat):List Nat:=if n=0 then[17] else if n=1 then[18] else if n=3 then[8,10,9] else[6,7]
theorem Ez:∀n,n<=4-> ∀x∈cZ.drop 3,decide (0<=du (fY n) x)=(j9 n).contains (kn x):=by
 intro n z;have h:∀n:Fin 5,∀x∈cZ.drop 3,decide (0<=du (fY n.1) x)=(j9 n.1).contains (kn x):=by decide
 exact h ⟨n,by omega⟩
theorem pJ:∀n,n<=4-> ∀x∈j9 n,3<=x:=by
 intro n z;have h:∀n:Fin 5,∀x∈j9 n.1,3<=x:=by decide
 exact h ⟨n,by omega⟩
theorem zg {n:Nat} (D:n<=4) (h:ik t):eX n t=(j9 n).contains (cz t):=by
 have z:∀k,k<3->(j9 n).contains k=false:=λk G=>by
  rw[Tv];intro e;rw[Sd] at e
  have:=pJ n D k e;omega
 unfold eX;rcases h.cases with h|h|h|⟨h,E⟩
 ·rw[show cz t=1 from by unfold cz;rw[RK h],z 1 (by omega),h];simp
 ·rw[show cz t=2 from by unfold cz;rw[RH (by omega),RK h],z 2 (by omega),h];simp
 ·rw[show cz t=0 from by unfold cz;rw[RH (by omega),RH (by omega),RK h],z 0 (by omega),h];simp
 ·rw[fe h,<-Ez n D _ E]
  rcases h with h|h<;>rw[h]<;>simp
def gY (t:Tok) (u:Value) (n:Int):Obj:= .cells #[Iq (cz t),Iq t.pl,Iq (cY t),S (cG t),u,Iq n] 229 (0,0)
def jr (w:World) (u:Value) (n:Nat) (I:Nat->Nat):Prop:=
 (n=0/\u= .slice none 0 0)\/(0<n/\ ∃g,u= .slice (some ⟨g,0,none⟩) n n/\w.heap[g]?=some (.cells ((List.range n).map λj=>Value.pointer (some ⟨I j,0,none⟩)).toArray 161 (0,0)))
structure dm (L:List Pt) (lt:Nat) (w) (i b:Nat):Prop where
 lay::
 out:∀C:Nat->Nat->Prop,(∀(i b:Nat) (u:Value) (bl:Nat->Nat),i<L.length->lt<=b->w.heap[b]?=some (gY (L.getD i cD).tok u 0)->jr w u (L.getD i cD).subs.length bl->(∀j,j<(L.getD i cD).subs.length->(L.getD i cD).subs.getD j 0<i)->(∀j,j<(L.getD i cD).subs.length->C ((L.getD i cD).subs.getD j 0) (bl j))->C i b)->C i b
theorem dm.mk {L:List Pt} {lt w} (i b) (u) (z) (I:i<L.length) (D:lt<=b) (J:w.heap[b]?=some (gY (L.getD i cD).tok u 0))
 (O:jr w u (L.getD i cD).subs.length z) (E:∀j,j<(L.getD i cD).subs.length->(L.getD i cD).subs.getD j 0<i)
 (R:∀j,j<(L.getD i cD).subs.length->dm L lt w ((L.getD i cD).subs.getD j 0) (z j)):dm L lt w i b:=
 ⟨λC G=>G i b u z I D J O E λj U=>(R j U).out C G⟩
theorem dm.ind {lt} (M:Nat->Nat->Prop)
 (U:∀i b u z,i<L.length->lt<=b->w.heap[b]?=some (gY (L.getD i cD).tok u 0)->jr w u (L.getD i cD).subs.length z->(∀j,j<(L.getD i cD).subs.length->(L.getD i cD).subs.getD j 0<i)->(∀j,j<(L.getD i cD).subs.length->dm L lt w ((L.getD i cD).subs.getD j 0) (z j))->(∀j,j<(L.getD i cD).subs.length->M ((L.getD i cD).subs.getD j 0) (z j))->M i b)
 (h:dm L lt w i b):M i b:=
 (h.out (λi b=>dm L lt w i b/\M i b) λi b u z J E O R G I=>⟨.mk i b u z J E O R G λj D=>(I j D).1,U i b u z J E O R G (λj D=>(I j D).1) λj D=>(I j D).2⟩).2
theorem dm.keep {lt} (h:dm L lt w i b)
 (E:∀(k:Nat) cs ty,w.heap[k]?=some (Obj.cells cs ty (0,0))->ty=229\/ty=161->w'.heap[k]?=w.heap[k]?):dm L lt w' i b:=by
 refine h.ind (λi b=>dm L lt w' i b) ?_
 ·intro i b u bl hi G I D J hs ih
  refine .mk i b u bl hi G ?_ ?_ J ih
  ·rw[E b _ _ I (.inl rfl)];exact I
  ·rcases D with D|⟨h0,g,h1,O⟩
   ·exact .inl D
   ·exact .inr ⟨h0,g,h1,by rw[E g _ _ O (.inr rfl)];exact O⟩
theorem dm.pf {lt} (h:dm L lt w i b) (E:RR rb gl cl ts s w) (G:PF rb w w'):dm L lt w' i b:=
 h.keep λk cs ty z D=>G.block k (cq z) λe=>by
  rw[e,E.rd] at z;simp only[mB,R6,Ty] at z;have I:=z.2.1;rw[<-I] at D;exact absurd D (by decide)
theorem dm.more {lt:Nat} (h:dm L lt w i b) (U:L.length<=z.length) (G:∀k,k<L.length->z.getD k cD=L.getD k cD):dm z lt w i b:=by
 refine h.ind (λi b=>dm z lt w i b) ?_
 ·intro i b u I J D O R E V ih
  have e:=G i J;exact .mk i b u I (by omega) D (by rw[e];exact O) (by rw[e];exact R) (by rw[e];exact E) (by rw[e];exact ih)
theorem dm.put {lt} (h:dm L lt w i b) (p:Pt):dm (L++[p]) lt w i b:=
 h.more (by simp) (λk z=>by simp[RG,Si z])
def rk (k:Nat):Nat:=if k=1\/(27<=k/\k<=30) then 1 else if k=20\/k=21\/k=34\/k=35 then 2 else if(22<=k/\k<=26)\/(31<=k/\k<=33) then 3 else 0
def iI (E:List Nat) (z D:Nat):Nat:=if E.all (λu=>u==z) then D else 0
def jh (k:Nat) (z:List Nat):Nat:=
 if k=6\/k=7 then iI z 1 1 else if k=10\/k=9 then iI z 1 2 else if k=8 then iI z (z.getD 0 0) 2
 else if k=17\/k=18\/k=19 then iI z 2 2
 else if k=14 then(if z.getD 0 0=2 then iI (z.drop 1) (z.getD 1 0) (z.getD 1 0) else 0) else 0
abbrev lK (c:UInt8):Prop:=c=110\/c=116\/c=109
theorem nR {c:UInt8} (h:lK c):c∈([110,116,109]):=by
 rcases h with rfl|rfl|rfl<;>decide
theorem mC {c:UInt8} (h:c=0\/lK c):eF c=0↔c=0:=by
 rcases h with rfl|rfl|rfl|rfl<;>decide
def zh (x s:List UInt8):UInt8:=UInt8.ofNat (eT [] [] ⟨107,x,0⟩ s)
theorem pK (xs:List dk) (its:LB) {t:Tok} (z:t.k≠110) (D:t.k≠111) (s:LB):UInt8.ofNat (eT xs its t s)=zh t.text s:=by
 unfold zh eT;rw[RH z,RH D];simp only[];rw[RH (show ¬107=110 by decide),RH (show ¬107=111 by decide)]
theorem NA:∀x∈cZ.drop 11,(decide (0<=du dw x)||decide (0<=du dz x)||x==mn||x==mo)=true->eF (zh x [])=rk (kn x)/\lK (zh x []):=by decide
theorem Lp:∀x∈([[43],[45],[60],[60,61],[61],[111,114],[97,110,100]]:List LB),∀a∈([110,116,109]:LB),∀b∈([110,116,109]),eF (zh x [a,b])=jh (kn x) [eF a,eF b]/\(zh x [a,b]=0\/lK (zh x [a,b])):=by decide
theorem Lq:∀a∈([110,116,109]:LB),eF (zh iw [a])=jh (kn iw) [eF a]/\(zh iw [a]=0\/lK (zh iw [a])):=by decide
theorem Lr:∀a∈([110,116,109]:LB),∀b∈([110,116,109]:LB),∀c∈([110,116,109]),eF (zh lT [a,b,c])=jh (kn lT) [eF a,eF b,eF c]/\(zh lT [a,b,c]=0\/lK (zh lT [a,b,c])):=by decide
theorem Aj {l:List Nat} (h:l.length=2):∃a b,l=[a,b]:=by
 match l,h with
 |[a,b],_=>exact⟨a,b,rfl⟩
theorem tW {l:List Nat} (h:l.length=3):∃a b c,l=[a,b,c]:=by
 match l,h with
 |[a,b,c],_=>exact⟨a,b,c,rfl⟩
theorem oD {n:Nat} (h:eX n t=true):t.text∈([[43],[45],[60],[60,61],[61],[111,114],[97,110,100]]:List LB)/\(t.k=107\/t.k=115):=by
 unfold eX at h;simp only[TA,U1,Uv,Uh] at h;refine⟨?_,h.2⟩;have z:=vB h.1;unfold fY at z;split at z
 ·simp at z;rw[z];decide
 split at z
 ·simp at z;rw[z];decide
 split at z
 ·simp at z;rcases z with z|z|z<;>rw[z]<;>decide
 simp at z;rcases z with z|z<;>rw[z]<;>decide
theorem ji {t:Tok} {x:LB} (h:eE t x=true):t.text=x/\(t.k=107\/t.k=115):=by
 unfold eE at h;simp at h;exact⟨h.2,h.1⟩
theorem Ak (xs:List dk) (its:LB) {t:Tok} (O:ik t) (z:dP t=true) (R:t.k≠111):eF (UInt8.ofNat (eT xs its t []))=rk (cz t)/\lK (UInt8.ofNat (eT xs its t [])):=by
 rcases O with h|h|h|⟨h,G⟩|⟨h,G⟩
 ·have e:eT xs its t []=110:=by unfold eT;rw[RK h]
  rw[e];unfold cz;rw[RK h];decide
 ·exact absurd h R
 ·rw[dP,h] at z;simp at z
 ·have U:(decide (0<=du dw t.text)||decide (0<=du dz t.text)||t.text==mn||t.text==mo)=true:=by
   rw[dP,h] at z;simpa using z
  rw[pK xs its (by omega) (by omega),fe (.inl h)]
  exact NA _ G U
 rw[dP,h] at z;simp at z
theorem Al {its:LB} (I:qV p) (J:p.subs≠[]) (D:∀j∈p.subs,lK (F j)):
 eF (UInt8.ofNat (eT xs its p.tok (p.subs.map F)))=jh (cz p.tok) (p.subs.map λj=>eF (F j))/\(UInt8.ofNat (eT xs its p.tok (p.subs.map F))=0\/lK (UInt8.ofNat (eT xs its p.tok (p.subs.map F)))):=by
 rcases I with⟨_,h⟩|⟨h,E⟩|⟨h,E⟩|⟨n,_,h,E⟩
 ·exact absurd h J
 ·obtain⟨e,G⟩:=ji h;obtain⟨a,z⟩:∃a,p.subs=[a]:=Tu.1 E;rw[pK xs its (by omega) (by omega),fe G,e,z]
  exact Lq _ (nR (D a (by simp[z])))
 ·obtain⟨e,G⟩:=ji h;obtain⟨a,b,c,z⟩:∃a b c,p.subs=[a,b,c]:=tW E;rw[pK xs its (by omega) (by omega),fe G,e,z]
  exact Lr _ (nR (D a (by simp[z]))) _ (nR (D b (by simp[z]))) _ (nR (D c (by simp[z])))
 obtain⟨e,G⟩:=oD h;obtain⟨a,b,z⟩:∃a b,p.subs=[a,b]:=Aj E;rw[pK xs its (by omega) (by omega),fe G,z]
 exact Lp _ e _ (nR (D a (by simp[z]))) _ (nR (D b (by simp[z])))
def nS (xs:List dk) (n:Nat) (L:List Pt) (I J:Nat):Prop:= ∀q,I<=q->q<J->(L.getD q cD).tok.k=111->(L.getD q cD).tok.text≠[]/\0<=cW xs (L.getD q cD).tok.text n
theorem gW {f:Nat} (js:List Nat):∀{E G},jS (dN f L) E js G-> ∀j∈js,∃D,E<=D/\j<G/\dN f L D j:=by
 induction js with
 |nil=>intro E G _ j z;simp at z
 |cons x js ih=>
  intro E G h j z;have I:=h.1.le;have J:=l9 (λE j z=>z.le) js h.2
  simp at z;rcases z with rfl|z
  ·exact⟨E,RL _,by omega,h.1⟩
  obtain⟨D,a,b,c⟩:=ih h.2 j z;exact⟨D,by omega,b,c⟩
theorem Ii {xs:List dk} {its:LB} (D:∀c∈its,lK c) (s:LB) (E:0<=cW xs s its.length):lK (its.getD (cW xs s its.length).toNat 0):=by
 have G:=(sk xs s its.length).1;have z:(cW xs s its.length).toNat<its.length:=by omega
 rw[RG,RI z];exact D _ (R4 z)
theorem qp {xs:List dk} {its:LB} (hW:∀k,k<L.length->ik (L.getD k cD).tok) (R:∀c∈its,lK c) (f:Nat):∀{D i:Nat},dN f L D i->nS xs its.length L D (i+1)->dr xs its L f i=0\/lK (dr xs its L f i):=by
 induction f with
 |zero=>intro D i h;exact h.elim
 |succ f ih=>
  intro D i h J;rw[dr];split
  ·exact .inl rfl
  rename_i U;by_cases E:(L.getD i cD).tok.k=111
  ·right;have:=Ii R _ (J i h.le (by omega) E).2
   have e:eT xs its (L.getD i cD).tok ((L.getD i cD).subs.map (dr xs its L f))=(its.getD (cW xs (L.getD i cD).tok.text its.length).toNat 0).toNat:=by
    unfold eT;rw[RH (by omega),RK E]
   rw[e,TW];exact this
  by_cases G:(L.getD i cD).subs=[]
  ·rw[G];have V:dP (L.getD i cD).tok=true:=by
    rcases h.2.1 with⟨z,_⟩|⟨_,z⟩|⟨_,z⟩|⟨n,_,_,z⟩
    ·exact z
    all_goals (rw[G] at z;simp at z)
   exact .inr (Ak xs its (hW i h.1) V E).2
  refine(Al h.2.1 G λj O=>?_).2
  obtain⟨Y,a,b,c⟩:=gW _ h.2.2 j O;rcases ih c (λq z Z=>J q (by omega) (by omega)) with I|I
  ·exact absurd (by rw[Sd,<-I];exact Tk O) U
  exact I
section
attribute [local go_sem ↓] Go.wp_at_zero Go.wp_at_succ
theorem Am (l:List (List UInt8)) (s:List UInt8):du l s<l.length\/l=[]:=by
 induction l with
 |nil=>exact .inr rfl
 |cons x r ih=>
  left;unfold du
  rcases ih with ih|ih
  ·simp only[R7]
   split
   ·omega
   ·split<;>omega
  ·subst ih;split<;>simp[du]
theorem An (t:Tok):cz t<=100:=by
 have h:du cZ t.text<36:=by
  rcases Am cZ t.text with h|h
  ·exact h
  ·simp[cZ] at h
 unfold cz;split;omega;split;omega;split;omega;omega
def kO (rb gl cl:Nat) (ts:List Tok) (s:Q) (w:World) (r:Rd) (e:Ending) (w':World):Prop:=
 ∃b,e= .returned (Pq b)/\PF rb w w'/\((r.ok=true/\RR rb gl cl ts {s with i:=r.i} w'/\dm r.L rb w' r.top b)\/(r.ok=false/\RR rb gl cl ts (gd ts {s with i:=r.i}) w'))
def Gp (rb gl cl:Nat) (ts:List Tok) (s:Q) (w:World) (e:Ending) (w':World):Prop:=
 ∃b,e= .returned (Pq b)/\PF rb w w'/\RR rb gl cl ts s w'
theorem NB (L) (w:World) (t) (b) {D:Nat} (E:D<=b) (h:w.heap[b]?=some (gY t (.slice none 0 0) 0)):dm (L++[⟨t,[]⟩]) D w L.length b:=by
 have e:(L++[(⟨t,[]⟩:Pt)]).getD L.length cD=⟨t,[]⟩:=by simp[RG]
 exact .mk L.length b (.slice none 0 0) (λ_=>0) (by simp) E (by rw[e];exact h) (by rw[e];exact .inl ⟨rfl,rfl⟩) (by rw[e];intro j z;simp at z) (by rw[e];intro j z;simp at z)
theorem EA {ts:List Tok} {w:World} (h:RR rb gl cl ts s w) (J:ik (cr ts s.i)) (z:dP (cr ts s.i)=true) (L):
 Calls prog 286 #[Pq rb] w (kO rb gl cl ts s w ⟨true,s.i+1,L++[⟨cr ts s.i,[]⟩],L.length⟩):=by
 rw[tV J] at z;have E:cz (cr ts s.i)≠0:=λe=>by rw[e] at z;exact absurd z (by decide)
 have D:=h.more E;have O:=jf h;have G:=o8 (cz (cr ts s.i)) w.drew (An _);rw[z] at G;have I:=wN h.drew D;unfold mz at I;have R:=(PF.refl rb w).drew;have U:=Hi R;go_enter func286,ntmps286;go_wp2_with fail;apply O.mono;rintro e w' ⟨rfl,rfl⟩;go_wp2_with fail;apply G.mono;rintro e w' ⟨rfl,rfl⟩;go_wp2_with fail;apply I.mono;rintro e V ⟨rfl,h3,Y⟩;have Z:=Hi (U.out.trans Y);have H3:=Hi h3;go_wp2;go_ret;refine⟨V.heap.size,rfl,Z.out.alloc _,.inl ⟨rfl,H3.out.alloc _,?_⟩⟩;exact NB L _ _ _ (Vc H3.out.rlt) (RO V _)
theorem uM {ts:List Tok} (h:RR rb gl cl ts s w) (D:oC (cz (cr ts s.i))=false):
 Calls prog 286 #[Pq rb] w λe w'=> ∃b,e= .returned (Pq b)/\PF rb w w'/\RR rb gl cl ts (gd ts s) w':=by
 have E:=jf h;have z:=o8 (cz (cr ts s.i)) w.drew (An _);rw[D] at z;have G:=B9 h.drew;have I:=(PF.refl rb w).drew;have J:=Hi I;go_enter func286,ntmps286;go_wp2_with fail;apply E.mono;rintro e w' ⟨rfl,rfl⟩;go_wp2_with fail;apply z.mono;rintro e w' ⟨rfl,rfl⟩;go_wp2_with fail;apply G.mono;rintro e U ⟨rfl,h3,O⟩;have R:=Hi (J.out.trans O);have V:=Hi h3;go_wp2;go_ret;exact⟨U.heap.size,rfl,R.out.alloc _,V.out.alloc _⟩
theorem Ij {ts:List Tok} {w:World} (h:RR rb gl cl ts s w) (D:ik (cr ts s.i)) (z:dP (cr ts s.i)=false):
 Calls prog 286 #[Pq rb] w (kO rb gl cl ts s w ⟨false,s.i,[],0⟩):=by
 rw[tV D] at z;apply(uM h z).mono;rintro e w' ⟨b,E,G,h3⟩;exact⟨b,E,G,.inr ⟨rfl,h3⟩⟩
theorem Ik {ts:List Tok} {s:Q} (z:s.bad=true) (D:s.i=ts.length - 1):gd ts s=s:=by
 unfold gd;rw[z,RK rfl,<-D];cases s;simp at z;rw[z]
theorem EB {ts:List Tok} (h:RR rb gl cl ts s w) (D:s.bad=true) (z:s.i=ts.length - 1):
 Calls prog 286 #[Pq rb] w (Gp rb gl cl ts s w):=by
 apply(uM h (by rw[z,h.fin];decide)).mono
 rintro e w' ⟨b,E,G,h3⟩;exact⟨b,E,G,by rw[Ik D z] at h3;exact h3⟩
def mv (n rb:Nat):Value:= .func (.func n) #[Pq rb] #[]
def vF (n:Nat):Prop:= ∀(args:Array Value) (w:World),(callFunc n args).run prog w= .ok (.enter n args) w
theorem wO (h:RR rb gl cl ts s w) (k n m) (z:cz (cr ts s.i)=k) (E:vF n) (R:Nat->World->Prop)
 (G:Calls prog n #[Pq rb] w.drew λe w'=> ∃b,e= .returned (Pq b)/\R b w'):
 Calls prog 213 #[Pq rb,Iq k,mv n rb,mv m rb] w λe w'=> ∃b,e= .returned (Pq b)/\R b w':=by
 have D:=jf h;rw[z] at D;unfold mv;unfold vF at E;go_enter func213,ntmps213;go_wp2_with fail;apply D.mono;rintro e w' ⟨rfl,rfl⟩;go_wp2_with fail;apply G.mono;rintro e w' ⟨b,rfl,I⟩;go_wp2;go_ret;exact⟨b,rfl,I⟩
theorem qq (h:RR rb gl cl ts s w) (k n m) (z:cz (cr ts s.i)≠k) (G:vF m) (R:Nat->World->Prop)
 (I:Calls prog m #[Pq rb] w.drew λe w'=> ∃b,e= .returned (Pq b)/\R b w'):
 Calls prog 213 #[Pq rb,Iq k,mv n rb,mv m rb] w λe w'=> ∃b,e= .returned (Pq b)/\R b w':=by
 have D:=jf h;generalize cz (cr ts s.i)=kd at D z;have E: ¬((kd:Int)=(k:Int)):=by omega
 have O:((kd:Int)==(k:Int))=false:=by simpa using E
 unfold mv;unfold vF at G;go_enter func213,ntmps213;go_wp2_with fail;apply D.mono;rintro e w' ⟨rfl,rfl⟩;go_wp2_with fail;apply I.mono;rintro e w' ⟨b,rfl,J⟩;go_wp2;go_ret;exact⟨b,rfl,J⟩
def Ls (w:World) (t:Tok) (D E:Nat):World:=(w.alloc (.cells #[Pq D,Pq E] 161 (0,0))).alloc (gY t (.slice (some ⟨w.heap.size,0,none⟩) 2 2) 0)
theorem Ca (h:RR rb gl cl ts s w) (hi:s.i+1<ts.length) (n V) (hn:vF n) (R:Nat->World->Prop)
 (HC:∀z,RR rb gl cl ts {s with i:=s.i+1} z->PF rb w z->Calls prog n #[Pq rb] z λe w'=> ∃b,e= .returned (Pq b)/\PF rb z w'/\R b w'):
 Calls prog 266 #[Pq rb,Pq V,mv n rb] w λe w'=> ∃b D,e= .returned (Pq (D.heap.size+1))/\R b D/\PF rb w D/\w'=Ls D (cr ts s.i) V b:=by
 have HJ:Hid (∀D b,Ls D (cr ts s.i) V b=(D.alloc (.cells #[Pq V,Pq b] 161 (0,0))).alloc (.cells #[Iq (cz (cr ts s.i)),Iq (cr ts s.i).pl,Iq (cY (cr ts s.i)),S (cG (cr ts s.i)),Sq D.heap.size 2 2,Iq 0] 229 (0,0))):=λ_ _=>rfl
 have HT:=wN h hi;unfold mz at HT;unfold mv;unfold vF at hn;go_enter func266,ntmps266;go_wp2_with fail;apply HT.mono;rintro e z ⟨rfl,h1,F1⟩;generalize cz (cr ts s.i)=E at*;generalize (cr ts s.i).pl=G at*;generalize cY (cr ts s.i)=I at*;generalize cG (cr ts s.i)=J at*;have ad:=h1.rlt;have h2:=(h1.alloc (eG E G I J)).drew;have F2:=((F1.alloc (eG E G I J)).drew);have U:(z.alloc (eG E G I J)).drew.heap[z.heap.size]?=some (eG E G I J):=RO z _;have Z:=HC _ h2 F2;have e1:z.heap.size≠rb:=by omega
 have aa:=cq U;have O:∀w',PF rb (z.alloc (eG E G I J)).drew w'->(Cq w' z.heap.size 0 (Iq E)/\Cq w' z.heap.size 1 (Iq G)/\Cq w' z.heap.size 2 (Iq I)/\Cq w' z.heap.size 3 (S J)):=λw' hf=>
  (jJ (by rw[hf.block _ aa e1];exact U)).1
 have KF:=Hi O;have H2:=Hi h2;have ab:=Hi F2;have hS:=O _ (PF.refl _ _);unfold eG at Z KF H2 ab hS aa;go_wp2;obtain⟨x0,x1,x2,x3⟩:=hS
 show Code.wp _ _ _ _ (z.alloc (.cells #[Iq E,Iq G,Iq I,S J] 160 (0,0)))
 generalize hg:z.alloc (.cells #[Iq E,Iq G,Iq I,S J] 160 (0,0))=w2 at*;generalize z.heap.size=Y at*
 go_region_held3 (λw'=>w'.cell? ⟨Y,0,none⟩=some (Iq E)/\w'.cell? ⟨Y,1,none⟩=some (Iq G)/\w'.cell? ⟨Y,2,none⟩=some (Iq I)/\w'.cell? ⟨Y,3,none⟩=some (S J)) (first|exact KF.out _ ac|go_keep) ((refine Z.mono ?_;rintro e D ⟨b,rfl,ac,hR⟩))
 rename_i hHeld
 go_wp2;go_ret;exact⟨b,D,rfl,hR,ab.out.trans ac,(HJ.out D b).symm⟩
end
variable {E}
theorem dm.lt {lt:Nat} (h:dm L lt w i b):i<L.length:=h.ind (λi _=>i<L.length) λ_ _ _ _ z _ _ _ _ _ _=>z
theorem dm.grow {lt} (h:dm L lt w i b) (z:Below w.heap.size w w'):dm L lt w' i b:=
 h.keep λk _ _ D _=>z.block k (cq D)
theorem EC (L:List Pt) (p:Pt):(L++[p]).getD L.length cD=p:=by simp[RG]
def sK (w:World) (t:Tok) (z:List Nat):World:=(w.alloc (.cells (z.map λb=>Value.pointer (some ⟨b,0,none⟩)).toArray 161 (0,0))).alloc (gY t (.slice (some ⟨w.heap.size,0,none⟩) z.length z.length) 0)
theorem mD (w:World) (t:Tok) (z:List Nat):Below w.heap.size w (sK w t z):=
 ((RP _ _).alloc (RL _) _).alloc (by simp) _
theorem oE (w:World) (t:Tok) (z D:Nat):Ls w t z D=sK w t [z,D]:=rfl
theorem vG {L:List Pt} {w:World} (V:E<w.heap.size) (G:xs.length=z.length) (J:0<z.length) (h:∀j,j<z.length->dm L E w (xs.getD j 0) (z.getD j 0)):
 dm (L++[⟨t,xs⟩]) E (sK w t z) L.length (w.heap.size+1):=by
 have e:=EC L ⟨t,xs⟩;have O:(sK w t z).heap[w.heap.size]?=some (.cells (z.map λb=>Value.pointer (some ⟨b,0,none⟩)).toArray 161 (0,0)):=by
  unfold sK;rw[RV _ _ _ (by simp)];exact RO w _
 have R:(sK w t z).heap[w.heap.size+1]?=some (gY t (Sq w.heap.size z.length z.length) 0):=by
  have:=RO (w.alloc (.cells (z.map λb=>Value.pointer (some ⟨b,0,none⟩)).toArray 161 (0,0))) (gY t (Sq w.heap.size z.length z.length) 0)
  simp only[RW] at this;exact this
 have U:(z.map λb=>Value.pointer (some ⟨b,0,none⟩))=(List.range z.length).map λj=>Value.pointer (some ⟨z.getD j 0,0,none⟩):=by
  apply Uo
  ·simp
  ·intro j I Y
   simp at I;simp[RG,RI I]
 refine .mk L.length (w.heap.size+1) (Sq w.heap.size z.length z.length) (λj=>z.getD j 0) (by simp) (by omega) (by rw[e];exact R) ?_ ?_ ?_
 ·rw[e]
  simp only[G];refine .inr ⟨J,w.heap.size,rfl,?_⟩;rw[O,U]
 ·rw[e];intro j D
  simp only[G] at D;exact(h j D).lt
 ·rw[e];intro j D
  simp only[G] at D;exact((h j D).grow (mD w t z)).put _
end Go.Proofs.YtfkdailfcmnjlaaGreatDoor
