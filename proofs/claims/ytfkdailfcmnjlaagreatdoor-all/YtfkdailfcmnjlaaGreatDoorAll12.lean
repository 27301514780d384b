/-
  A part.
-/
import Derived.Test.YtfkdailfcmnjlaaGreatDoorAll11
import Derived.Test.YtfkdailfcmnjlaaGreatDoorLays
set_option linter.all false
set_option maxHeartbeats 40000000
set_option maxRecDepth 1000000
namespace Go.Proofs.YtfkdailfcmnjlaaGreatDoor
open Go Go.RowKit Tryz
variable {k a n rb gl cl s w s' w' ts}
theorem A5 (s:ByteArray) (z:s.size<=9223372036854775806) (v:Int) (h:Lib.parseIntB 64 s.data.toList= .ok v) (w:World):
 Calls prog 208 #[.string s,Iq 10,Iq 64] w λe w'=>e= .returned (.tuple #[Iq v,.nilIface])/\(w'=w\/ ∃t,w'=Lib.bytesWorld w 5 t):=Any.strconv_ParseInt_10_at64_ok laysPI s z v h w
theorem vE (s:ByteArray) (D:s.size<=281474976710656) (h:Lib.parseIntB 64 s.data.toList= .range) (z:Value) (w) (G:Cq w 4 0 z) (E:z= .nilIface\/ ∃I J,z= .iface I J):
 Calls prog 208 #[.string s,Iq 10,Iq 64] w λe w'=> ∃N,e= .returned (.tuple #[Iq (Lib.intSat 64 s.data.toList),.iface 346 (Pq N)])/\w.heap.size<=N/\w'.heap[N]?=some (.cells #[.string ⟨#[80,97,114,115,101,73,110,116]⟩,.string s,z] 357 (0,0))/\Below w.heap.size w w':=Any.strconv_ParseInt_10_at64_range laysPI s D h z w G E
structure Wd (w:World):Prop where
 sp:Sp w
 er:∃ev,w.cell? ⟨4,0,none⟩=some ev/\(ev= .nilIface\/ ∃te pe,ev= .iface te pe)
theorem Wd.pos {w:World} (h:Wd w):0<w.heap.size:=h.sp.pos
theorem Wd.below {w w':World} (h:Wd w) (z:Below w.heap.size w w'):Wd w':=by
 refine⟨h.sp.below h.pos z,?_⟩;obtain⟨E,D,G⟩:=h.er;exact⟨E,by rw[z.cell (p:=⟨4,0,none⟩) (Qk w _ D)];exact D,G⟩
def eB (k a n:Int) (s:List UInt8):Obj:= .cells #[Iq k,Iq a,Iq n,S s] 160 (0,0)
theorem jB {w:World} {b:Nat} {s:List UInt8} (h:w.heap[b]?=some (eB k a n s)):(Cq w b 0 (Iq k)/\Cq w b 1 (Iq a)/\Cq w b 2 (Iq n)/\Cq w b 3 (S s))/\ ∀j,w.frozen? ⟨b,j,none⟩=false:=by
 have z:=λj=>Qm w b j _ _ _ h
 exact⟨⟨z 0,z 1,z 2,z 3⟩,λj=>by simp[World.frozen?,h,eB]⟩
theorem Dd (s:List UInt8) (w:World) (hW:Wd w) (hs:s.length<=1000) (h0:s≠[]) (hl:∀c∈s,jk c=true):
 Calls prog 146 #[S s] w λe w'=>e= .returned (.tuple #[(vD s).1,Iq (vD s).2])/\Below w.heap.size w w':=by
 have V:=zq s h0 hl;have ab:(ByteArray.mk s.toArray).size=s.length:=by simp[ByteArray.size]
 have Z:=(Qq w.heap.size w).alloc (Qn _) (eB 0 0 0 []);have J:(w.alloc (eB 0 0 0 [])).heap[w.heap.size]?=some (eB 0 0 0 []):=Qp w _;have G:w.heap.size<(w.alloc (eB 0 0 0 [])).heap.size:=by simp
 have aa:=hW.below Z
 cases Y:big s with
 |true=>
  rw[Y,Qo rfl] at V;have HV:Hid (vD s=(.agg #[Iq 0,Iq 0,Iq 0,S []],0)):=by show _=_;unfold vD;rw[Qo Y]
  obtain⟨ev,hv,ac⟩:=aa.er;have HI:=vE ⟨s.toArray⟩ (by omega) (by simpa using V) ev _ hv ac
  have O:=Hi Z;have E:=Hi J;have z:=Hi G;go_enter func146,ntmps146;go_wp2_with fail;apply HI.mono;rintro e w' ⟨n,rfl,hn,ae,I⟩;have R:w'.heap[w.heap.size]?=some (eB 0 0 0 []):=by rw[I.block _ z.out];exact E.out
  have HB:Hid (Below w.heap.size w w'):=O.out.trans (I.mono (TF z.out));obtain⟨⟨c0,c1,c2,c3⟩,cf⟩:=jB R;generalize U:w.heap.size=nb at c0 c1 c2 c3 cf HB⊢;have HN:=Hi U;go_wp2_with fail;have D:w.heap.size<=nb:=Se HN.out;exact Qs (v:= .tuple #[.agg #[Iq 0,Iq 0,Iq 0,S []],Iq 0]) (by simp[results,results146,go_sem,c0,c1,c2,c3,cf]) rfl ⟨by rw[HV.out];rfl,(((((HB.out.mono D).setCell D _).setCell D _).setCell D _).setCell D _)⟩
 |false=>
  rw[Y,Qj (by simp)] at V
  have HV:Hid (vD s=(.agg #[Iq 1,Iq 0,Iq (dW s),S []],s.length)):=by show _=_;unfold vD;rw[Qj (by simp[Y])]
  have HI:=A5 ⟨s.toArray⟩ (by omega) _ (by simpa using V) (w.alloc (eB 0 0 0 []))
  have O:=Hi Z;have E:=Hi J;have z:=Hi G;go_enter func146,ntmps146;go_wp2_with fail;apply HI.mono;rintro e w' ⟨rfl,ad⟩;have I:Below (w.alloc (eB 0 0 0 [])).heap.size (w.alloc (eB 0 0 0 [])) w':=by
   rcases ad with rfl|⟨t,rfl⟩
   ·exact Qq _ _
   ·exact Lib.bytesWorld_below _ _ _
  have R:w'.heap[w.heap.size]?=some (eB 0 0 0 []):=by rw[I.block _ z.out];exact E.out
  have HB:Hid (Below w.heap.size w w'):=O.out.trans (I.mono (TF z.out));obtain⟨⟨c0,c1,c2,c3⟩,cf⟩:=jB R;generalize U:w.heap.size=nb at c0 c1 c2 c3 cf HB⊢;have HN:=Hi U;go_wp2_with fail;have D:w.heap.size<=nb:=Se HN.out;exact Qs (v:= .tuple #[.agg #[Iq 1,Iq 0,Iq (dW s),S []],Iq s.length]) (by simp[results,results146,go_sem,c0,c1,c2,c3,cf]) rfl ⟨by rw[HV.out],(((((HB.out.mono D).setCell D _).setCell D _).setCell D _).setCell D _)⟩
def cV (t:Tok):Nat:=if t.k=110 then dW t.text else 0
def cE (t:Tok):List UInt8:=if t.k=111 then t.text else[]
def me (t:Tok) (a:Nat):Value:= .agg #[Iq (cy t),Iq a,Iq (cV t),S (cE t)]
def mf (s:List UInt8):Value×Nat:=if jk (s.getD 0 0) then vD (s.take (dm jk s 0)) else if jn (s.getD 0 0) then qD (s.take (dm jn s 0)) else oT s
theorem De (c:UInt8) (r:LB):lG (c::r)=if c=40 then some 3 else if c=41 then some 4 else if c=59 then some 5 else if c=43 then some 6 else if c=45 then some 7 else if c=61 then some 8 else if c=60 then(if(r.getD 0 0)=61 then some 9 else some 10) else none:=by
 by_cases h:40=c
 ·subst h;simp[lG,List.range',List.find?,cU,List.isPrefixOf]
 by_cases h:41=c
 ·subst h;simp[lG,List.range',List.find?,cU,List.isPrefixOf]
 by_cases h:59=c
 ·subst h;simp[lG,List.range',List.find?,cU,List.isPrefixOf]
 by_cases h:43=c
 ·subst h;simp[lG,List.range',List.find?,cU,List.isPrefixOf]
 by_cases h:45=c
 ·subst h;simp[lG,List.range',List.find?,cU,List.isPrefixOf]
 by_cases h:61=c
 ·subst h;simp[lG,List.range',List.find?,cU,List.isPrefixOf]
 by_cases h:60=c
 ·subst h;cases r with
  |nil=>simp[lG,List.range',List.find?,cU,List.isPrefixOf]
  |cons d r=>
   by_cases h:61=d
   ·subst h;simp[lG,List.range',List.find?,cU,List.isPrefixOf]
   have U: ¬d=61:=λe=>h e.symm
   have z:(61==d)=false:=by simpa using h
   simp[lG,List.range',List.find?,cU,List.isPrefixOf,U,z]
 have z:∀x,¬x=c->(x==c)=false:=λx E=>by simpa using E
 have D:∀x,¬x=c-> ¬c=x:=λx E e=>E e.symm
 rename_i G I h3 J O R;simp[lG,List.range',List.find?,cU,List.isPrefixOf,z _ h,z _ G,z _ I,z _ h3,z _ J,z _ O,z _ R,D _ h,D _ G,D _ I,D _ h3,D _ J,D _ O,D _ R]
theorem yt (p:UInt8->Bool) (l:LB) (a:Nat):dm p l a=a+dm p (l.drop a) 0:=by
 unfold dm;simp
theorem A6 (l:LB) (a n:Nat):cut l a (a+n)=(l.drop a).take n:=by
 unfold cut;rw[show a+n - a=n from by omega]
theorem vF (p:UInt8->Bool) (c:UInt8) (r:LB):0<dm p (c::r) 0↔p c=true:=by
 unfold dm;cases h:p c<;>simp[h]
theorem nC (p:UInt8->Bool) (s:LB):(s.take (dm p s 0)).length=dm p s 0:=by
 rw[SJ];have:=jW p s 0 (QA _);omega
theorem kR (c:UInt8) (n:Nat) (z:n<256):c.toNat=n↔c=UInt8.ofNat n:=by
 constructor
 ·intro h;rw[<-h];simp
 intro h;rw[h];simp;omega
theorem A7 (l:LB) (a:Nat) (V:a<l.length):
 (fk l a=none/\mf (l.drop a)=(.agg #[Iq 0,Iq 0,Iq 0,S []],0))\/ ∃t,fk l a=some t/\mf (l.drop a)=(me t 0,t.text.length)/\0<t.text.length:=by
 have O:=Ql V;have E:=QF V;have G:l.getD (a+1) 0=(l.drop (a+1)).getD 0 0:=by simp[Qi]
 unfold fk;rw[yt jk l a,yt jn l a,A6,A6,O,G];simp only[Nat.lt_add_right_iff_pos,Nat.add_sub_cancel_left];unfold mf;rw[E];generalize l[a]=c;generalize l.drop (a+1)=r;rw[show(c::r).getD 0 0=c from rfl];simp only[vF];by_cases I:jk c=true
 ·rw[Qo I,Qo I];have z:=nC jk (c::r);have R:=(vF jk c r).2 I;unfold vD;cases Y:big ((c::r).take (dm jk (c::r) 0)) with
  |true=>left;exact⟨by simp,by simp⟩
  |false=>right;exact⟨_,by rw[Qj (by simp)],by simp[me,cy,cV,cE],by rw[z];exact R⟩
 rw[Qj I,Qj I];by_cases J:jn c=true
 ·rw[Qo J,Qo J];have z:=nC jn (c::r);have R:=(vF jn c r).2 J;unfold qD;cases Y:qU ((c::r).take (dm jn (c::r) 0)) with
  |true=>
   right;refine⟨_,by rw[Qo rfl],?_,by rw[z];exact R⟩
   have:0<=dx cU ((c::r).take (dm jn (c::r) 0)):=uO (SG ((rL _).1 Y));rw[Qo rfl];simp only[me,cy,cV,cE];simp[Sg this]
  |false=>
   simp only[Ss,Tc,z];by_cases U:dm jn (c::r) 0<=8
   ·right;exact⟨_,by rw[Qo U],by rw[Qo U];simp[me,cy,cV,cE,z],by rw[z];exact R⟩
   left;exact⟨by rw[Qj U],by rw[Qj U]⟩
 rw[Qj J,Qj J];unfold oT;rw[De];simp only[kR _ 60 (by omega),kR _ 61 (by omega),kR _ 40 (by omega),kR _ 41 (by omega),kR _ 59 (by omega),kR _ 43 (by omega),kR _ 45 (by omega)]
 by_cases h:c=60
 ·subst h;by_cases D:r.getD 0 0=61
  ·right;exact⟨⟨115,[60,61],a⟩,by rw[D];rfl,by rw[D];rfl,by simp⟩
  right;refine⟨⟨115,[60],a⟩,?_,?_,by simp⟩
  ·show(if _ then(if r.getD 0 0=UInt8.ofNat 61 then _ else _) else _)=_;rw[Qo (show 60=UInt8.ofNat 60 from rfl),Qj (show ¬r.getD 0 0=UInt8.ofNat 61 from D)]
  simp only[D,Tc];rfl
 by_cases h:c=40
 ·subst h;right;exact⟨⟨115,[40],a⟩,rfl,rfl,by simp⟩
 by_cases h:c=41
 ·subst h;right;exact⟨⟨115,[41],a⟩,rfl,rfl,by simp⟩
 by_cases h:c=59
 ·subst h;right;exact⟨⟨115,[59],a⟩,rfl,rfl,by simp⟩
 by_cases h:c=43
 ·subst h;right;exact⟨⟨115,[43],a⟩,rfl,rfl,by simp⟩
 by_cases h:c=45
 ·subst h;right;exact⟨⟨115,[45],a⟩,rfl,rfl,by simp⟩
 by_cases h:c=61
 ·subst h;right;exact⟨⟨115,[61],a⟩,rfl,rfl,by simp⟩
 left;rename_i Z D h3 h4 h5 h6;exact⟨by simp[h,Z,D,h3,h4,h5,h6],by simp[h,Z,D,h3,h4,h5,h6]⟩
theorem A8 (p:UInt8->Bool) (s:LB):∀c∈s.take (dm p s 0),p c=true:=by
 intro c q;unfold dm at q;simp only[QO,S0] at q;have:s.take (s.takeWhile p).length=s.takeWhile p:=(SN.1 (List.takeWhile_prefix p)).symm;rw[this] at q;exact(Sk.1 (List.all_takeWhile)) c q
theorem A9 (s:LB) (n:Nat):cut s 0 n=s.take n:=by unfold cut;simp
theorem Gs (s:LB):∃(k n:Int) (t:LB) (z:Nat),vD s=(.agg #[Iq k,Iq 0,Iq n,S t],z):=by
 unfold vD;split<;>exact⟨_,_,_,_,rfl⟩
theorem Df (s:LB):∃(k n:Int) (t:LB) (z:Nat),qD s=(.agg #[Iq k,Iq 0,Iq n,S t],z):=by
 unfold qD;split
 ·exact⟨_,_,_,_,rfl⟩
 split<;>exact⟨_,_,_,_,rfl⟩
theorem Dg (s:LB):∃(k n:Int) (t:LB) (z:Nat),oT s=(.agg #[Iq k,Iq 0,Iq n,S t],z):=by
 unfold oT;split<;>exact⟨_,_,_,_,rfl⟩
theorem yu (s:LB) (w:World) (hW:Wd w) (hs:s.length<=1000) (h0:0<s.length):
 Calls prog 102 #[S s] w λe w'=>e= .returned (.tuple #[(mf s).1,Iq (mf s).2])/\Bl w w':=by
 have hg:s.getD 0 0=s[0]:=by simp[Qi,Ql h0]
 have HA:=(Qq w.heap.size w).alloc (Qn _) (eB 0 0 0 []);have Y:(w.alloc (eB 0 0 0 [])).heap[w.heap.size]?=some (eB 0 0 0 []):=Qp w _;have R:w.heap.size<(w.alloc (eB 0 0 0 [])).heap.size:=by simp
 have U:=hW.below HA;have ac:=Hi HA;have V:=Hi Y;have A:=Hi R;by_cases D:jk s[0]=true;have HV:Hid (mf s=vD (s.take (dm jk s 0))):=by show _=_;unfold mf;rw[hg,Qo D]
 obtain⟨k,n,t,z,q⟩:=Gs (s.take (dm jk s 0));have Z:=jW jk s 0 (QA _);have J:0<dm jk s 0:=by rw[fJ jk s 0 h0 D];exact pM _ _ _
 have G:s.take (dm jk s 0)≠[]:=by intro e;have:=RK List.length e;rw[nC] at this;simp at this;omega
 have E:=Dd (s.take (dm jk s 0)) _ U (by rw[nC];omega) G (A8 jk s)
 have HD:=Hi D;have HR:=CT s (w.alloc (eB 0 0 0 [])) hs;rw[q,<-A9] at E;have HS:=Hi q;generalize dm jk s 0=j at Z E HR;rotate_left;have aa:jk s[0]=false:=by simpa using D
 have HD:=Hi aa;by_cases O:jn s[0]=true;have HV:Hid (mf s=qD (s.take (dm jn s 0))):=by show _=_;unfold mf;rw[hg,Qj D,Qo O]
 obtain⟨k,n,t,z,q⟩:=Df (s.take (dm jn s 0));have Z:=jW jn s 0 (QA _);have J:0<dm jn s 0:=by rw[fJ jn s 0 h0 O];exact pM _ _ _
 have G:s.take (dm jn s 0)≠[]:=by intro e;have:=RK List.length e;rw[nC] at this;simp at this;omega
 have E:=Jt (s.take (dm jn s 0)) _ U.sp (by rw[nC];omega) G (A8 jn s)
 have HL:=Hi O;have HR:=AQ s (w.alloc (eB 0 0 0 [])) hs;rw[q,<-A9] at E;have HS:=Hi q;generalize dm jn s 0=j at Z E HR;rotate_left;have HV:Hid (mf s=oT s):=by show _=_;unfold mf;rw[hg,Qj D,Qj O]
 obtain⟨k,n,t,z,q⟩:=Dg s;have E:=Jv s _ U.sp hs;rw[q] at E;have HS:=Hi q;have HL:Hid (jn s[0]=false):=RU.2 O
 all_goals
  go_enter func102,ntmps102;go_wp2_with fail;apply(oR s[0] _).mono;rintro e w' ⟨rfl,rfl⟩;rw[HD.out];go_wp2_with fail;try
   apply(oc s[0] _).mono;rintro e w' ⟨rfl,rfl⟩;rw[HL.out];go_wp2_with fail
  try
   apply HR.mono;rintro e w' ⟨rfl,rfl⟩;go_wp2_with fail;rw[gm]
  apply E.mono;rintro e w' ⟨rfl,ab⟩;have ad:w'.heap[w.heap.size]?=some (eB 0 0 0 []):=by rw[ab.block _ A.out];exact V.out
  have HB:Hid (Below w.heap.size w w'):=ac.out.trans (ab.mono (TF A.out));obtain⟨⟨c0,c1,c2,c3⟩,cf⟩:=jB ad;generalize ae:w.heap.size=nb at c0 c1 c2 c3 cf HB⊢;have HN:=Hi ae;go_wp2;have I:=Se HN.out;exact Qs (v:= .tuple #[.agg #[Iq k,Iq 0,Iq n,S t],Iq z]) (by simp[results,results102,go_sem,c0,c1,c2,c3,cf]) rfl ⟨by rw[HV.out,HS.out],(((((HB.out.mono I).setCell I _).setCell I _).setCell I _).setCell I _)⟩
theorem Dh:(prog.info? 160).map (λi=>(i.zero,i.size,i.bytes))=some (some (.agg #[Iq 0,Iq 0,Iq 0,.string ⟨#[]⟩]),4,40):=by kernel_rfl
def yv (t:Tok):List Value:=[Iq (cy t),Iq t.pl,Iq (cV t),S (cE t)]
def oe (ts:List Tok):List Value:=ts.flatMap yv
theorem uh (ts:List Tok) (t:Tok):oe (ts++[t])=oe ts++[Iq (cy t),Iq t.pl,Iq (cV t),S (cE t)]:=by simp[oe,yv]
theorem qH (w:World) (a b c d:Value) (t):∀j u,[a,b,c,d][j]?=some u->(w.alloc (.cells #[a,b,c,d] t)).cell? ((⟨w.heap.size,0,none⟩:Addr).add j)=some u:=by
 intro j u z;match j,z with
 |0,z=>simp at z;subst z;simp[Addr.add]
 |1,z=>simp at z;subst z;simp[Addr.add]
 |2,z=>simp at z;subst z;simp[Addr.add]
 |3,z=>simp at z;subst z;simp[Addr.add]
 |j+4,z=>simp at z
theorem vG (w:World) (o:Obj) (a b c d) (t):∀j u,[a,b,c,d][j]?=some u->((w.alloc o).alloc (.cells #[a,b,c,d] t)).cell? ((⟨w.heap.size+1,0,none⟩:Addr).add j)=some u:=by
 have h:=qH (w.alloc o) a b c d t;rw[Qw] at h;exact h
theorem Ba (l:LB) (j:Nat):cut l j l.length=l.drop j:=by
 unfold cut;exact Q4 (by simp)
def vH (l:List UInt8) (w:World) (e:Ending) (w':World):Prop:=
 Below w.heap.size w w'/\match kP (l.length+1) l 0 with
 |(ts,none)=> ∃g cap,e= .returned (.tuple #[.slice (some ⟨g,0,none⟩) ts.length cap,Iq 0,.bool true])/\w'.ownsRow w.heap.size 160 4 (.slice (some ⟨g,0,none⟩) ts.length cap) ts.length (oe ts)
 |(_,some p)=>e= .returned (.tuple #[.slice none 0 0,Iq p,.bool false])
theorem yw (l:LB) (w:World) (hW:Wd w) (hl:l.length<=1000):
 Calls prog 55 #[S l] w λe w'=>vH l w e w':=by
 obtain⟨i0,hi,ac,ad,ae⟩:=Ry Dh;have HP:=oS l 0 w hl (QA _);go_enter func55,ntmps55;go_wp2_with fail;apply HP.mono;rintro e w' ⟨rfl,rfl⟩;have ao:=jW kM l 0 (QA _);go_wp2;go_loopw [5,6] (λv a wr=> ∃ts k f j,k<=j/\j<=l.length/\ts.length<=k/\a= Iq j/\Hid (dm kM l k=j)/\l.length - k<f/\Hid (kP (l.length+1) l 0=(ts++(kP f l k).1,(kP f l k).2))/\wr.ownsRow w'.heap.size 160 4 v ts.length (oe ts)/\Bl w' wr) (λ_ a _=>l.length - (intOf a).toNat)
 case atStart=>exact⟨[],0,l.length+1,_,by omega,ao,by simp,rfl,rfl,by omega,rfl,QX _ _ _ _,Qq _ _⟩
 case round=>
  obtain⟨ts,k,f,j,ar,hj,au,rfl,HB,hf,HS,U,z⟩:=hrel;have af:=Hi (hW.below z);by_cases V:j<l.length
  ·have I:(l.drop j).length<=1000:=by simp;omega
   have E:0<(l.drop j).length:=by simp;omega
   rcases A7 l j V with⟨G,O⟩|⟨t,G,O,av⟩
   ·have HW:Hid _:=G;have R:=yu (l.drop j) wr af.out I E;rw[O] at R;go_wp2_with fail;rw[gm,Ba];apply R.mono;rintro e w1 ⟨rfl,Z⟩;go_wp2;refine Qs (v:= .tuple #[.slice none 0 0,Iq j,.bool false]) (by simp[results,results55,go_sem]) rfl ?_
    refine⟨(z.trans (Z.mono z.size)).alloc (by have:=Z.size;have:=z.size;omega) _,?_⟩
    rw[HS.out,AN l k f j (by omega) V HB.out HW.out]
   have HW:Hid _:=G;have R:=yu (l.drop j) wr af.out I E;rw[O] at R;unfold me at R;obtain⟨aw,ag,ah,ax⟩:=l9 V G;have H3:=Hi ah;have HP:=λw=>oS l (j+t.text.length) w hl ag
   have aa:=jW kM l (j+t.text.length) ag;have ab:=pM kM l (j+t.text.length);go_wp2_with fail;rw[gm,Ba];apply R.mono;rintro e w1 ⟨rfl,Z⟩;have ak:=z.trans (Z.mono z.size);have Y:=cD U Z;have ay:=Z.size;have ap:=z.size;go_wp2_with (
    at_builtin;go_must (refine wpList_append_lies _ (by rfl) _ _ 137 (by rfl) w'.heap.size 160 i0 (.agg #[Iq 0,Iq 0,Iq 0,.string ⟨#[]⟩]) 4 40 underlying137 hi ac ad ae (by rfl) (by decide) _ _ _ (by rfl) ((Y.alloc _).alloc _) ⟨w1.heap.size+1,0,none⟩ 1 1 [Iq (cy t),Iq j,Iq (cV t),S (cE t)] (by rfl) (by rfl) (vG _ _ _ _ _ _ _) (λx hx=>by simp at hx;rcases hx with rfl|rfl|rfl|rfl<;>rfl) (by decide) (by unfold maxLen;omega) (by omega) (by simp;omega) _ rfl ?_)
    intro g cap w3 J D ai am;have an:=yj ak Y D;clear D ai)
   apply(HP _).mono;rintro e w4 ⟨rfl,rfl⟩;generalize aj:dm kM l (j+t.text.length)=j2 at aa ab⊢;have HJ:=Hi aj;go_wp2;go_roundw
   case rel=>
    obtain⟨f,rfl⟩:∃f',f=f'+1:=⟨f - 1,by omega⟩
    refine⟨ts++[t],j+t.text.length,f,_,ab,aa,by simp;omega,rfl,HJ.out,by omega,?_,?_,an⟩
    ·show _=_;rw[HS.out,AO l k f j t V HB.out HW.out];simp
    rw[uh,H3.out];simpa using J
   case measure=>simp[intOf];omega
  have aq:j=l.length:=by omega
  subst aq;have ap:=z.size;go_wp2_with (
   at_builtin;go_must (refine wpList_append_lies _ (by rfl) _ _ 137 (by rfl) w'.heap.size 160 i0 (.agg #[Iq 0,Iq 0,Iq 0,.string ⟨#[]⟩]) 4 40 underlying137 hi ac ad ae (by rfl) (by decide) _ _ _ (by rfl) (U.alloc _) ⟨wr.heap.size,0,none⟩ 1 1 [Iq 0,Iq l.length,Iq 0,S []] (by rfl) (by rfl) (qH _ _ _ _ _ _) (λx hx=>by simp at hx;rcases hx with rfl|rfl|rfl|rfl<;>rfl) (by decide) (by unfold maxLen;omega) (by omega) (by simp;omega) _ rfl ?_)
   intro g cap w3 J D ai am)
  refine Qs (v:= .tuple #[Sq g (ts.length+1) cap,Iq 0,.bool true]) (by simp[results,results55,go_sem]) rfl ?_
  refine⟨gP z U D,?_⟩;rw[HS.out,EX l k f (by omega) HB.out]
  exact⟨g,cap,by simp,by rw[uh];simpa [cy,cV,cE] using J⟩
structure Q where
 i:Nat
 bad:Bool
 pl:Nat
def mg (gl n cl:Nat) (s:Q):Obj:= .cells #[.slice (some ⟨gl,0,none⟩) n cl,Iq s.i,.bool s.bad,Iq s.pl] 213 (0,0)
structure RR (rb gl cl:Nat) (ts:List Tok) (s) (w:World):Prop where
 rd:w.heap[rb]?=some (mg gl ts.length cl s)
 wl:∃cs,w.heap[gl]?=some (.cells cs 160 (0,0))
 wc:∀i,i<ts.length->w.cell? ⟨gl,i*4,none⟩=some (Iq (cy (cq ts i)))/\w.cell? ⟨gl,i*4+1,none⟩=some (Iq (cq ts i).pl)/\w.cell? ⟨gl,i*4+2,none⟩=some (Iq (cV (cq ts i)))/\w.cell? ⟨gl,i*4+3,none⟩=some (S (cE (cq ts i)))
 lt:s.i<ts.length
 nb:ts.length<=1001
 fin:cy (cq ts (ts.length - 1))=0
theorem RR.cells {rb gl cl} {ts:List Tok} {s w} (h:RR rb gl cl ts s w):(Cq w rb 0 (Sq gl ts.length cl)/\Cq w rb 1 (Iq s.i)/\Cq w rb 2 (.bool s.bad)/\Cq w rb 3 (Iq s.pl))/\ ∀j,w.frozen? ⟨rb,j,none⟩=false:=by
 have z:=λj=>Qm w rb j _ _ _ h.rd
 exact⟨⟨z 0,z 1,z 2,z 3⟩,λj=>by simp[World.frozen?,h.rd,mg]⟩
theorem iV {ts:List Tok} (h:RR rb gl cl ts s w):
 Calls prog 103 #[Pq rb] w λe w'=>e= .returned (Iq (cy (cq ts s.i)))/\w'=w.drew:=by
 obtain⟨⟨E,G,I,J⟩,rf⟩:=h.cells;obtain⟨c0,c1,c2,c3⟩:=h.wc s.i h.lt;have z:=h.lt;generalize cy (cq ts s.i)=kd at*;go_enter func103,ntmps103
 go_wp2
 go_region_held (λw'=>w'.cell? ⟨rb,0,none⟩=some (Sq gl ts.length cl)/\w'.cell? ⟨rb,1,none⟩=some (Iq s.i)/\w'.cell? ⟨gl,s.i*4,none⟩=some (Iq kd)) (go_keep) (fail)
 go_wp2
 go_ret;exact⟨rfl,rfl⟩
structure PF (rb:Nat) (w w':World):Prop where
 os:w'.os=w.os
 tape:w'.tape=w.tape
 output:w'.output=w.output
 size:w.heap.size<=w'.heap.size
 block:∀k,k<w.heap.size->k≠rb->w'.heap[k]?=w.heap[k]?
theorem PF.refl (rb:Nat) (w:World):PF rb w w:=⟨rfl,rfl,rfl,Qn _,λ_ _ _=>rfl⟩
theorem PF.trans {rb:Nat} {w z D:World} (h:PF rb w z) (k:PF rb z D):PF rb w D:=
 ⟨k.os.trans h.os,k.tape.trans h.tape,k.output.trans h.output,QV h.size k.size,λj E G=>(k.block j (Rh E h.size) G).trans (h.block j E G)⟩
theorem PF.drew {rb:Nat} {w z:World} (h:PF rb w z):PF rb w z.drew:=⟨h.os,h.tape,h.output,h.size,h.block⟩
theorem PF.of_below {rb:Nat} {w w':World} (h:Below w.heap.size w w'):PF rb w w':=⟨h.os,h.tape,h.output,h.size,λk z _=>h.block k z⟩
theorem PF.set {rb:Nat} {w w':World} (h:PF rb w w') (j) (v):PF rb w (w'.setCell ⟨rb,j,none⟩ v):=
 ⟨h.os,h.tape,h.output,by simpa using h.size,λk D z=>by rw[Qr _ _ _ _ (by simpa using z)];exact h.block k D z⟩
theorem PF.alloc {rb:Nat} {w w':World} (h:PF rb w w') (o:Obj):PF rb w (w'.alloc o):=
 ⟨h.os,h.tape,h.output,by simp;have:=h.size;omega,λk z D=>by rw[Qu _ _ _ (Rh z h.size)];exact h.block k z D⟩
theorem RR.ne {ts:List Tok} (h:RR rb gl cl ts s w):gl≠rb:=λe=>by
 obtain⟨cs,z⟩:=h.wl;rw[e,h.rd] at z;simp[mg] at z
theorem RR.rlt {ts:List Tok} (h:RR rb gl cl ts s w):rb<w.heap.size:=be h.rd
theorem RR.glt {ts:List Tok} (h:RR rb gl cl ts s w):gl<w.heap.size:=be h.wl.choose_spec
theorem RR.move {ts:List Tok} (h:RR rb gl cl ts s w) (z:w'.heap[gl]?=w.heap[gl]?) (G:w'.heap[rb]?=some (mg gl ts.length cl s')) (I:s'.i<ts.length):RR rb gl cl ts s' w':=
 ⟨G,by rw[z];exact h.wl,λi J=>by
  have e:∀j,w'.cell? ⟨gl,j,none⟩=w.cell? ⟨gl,j,none⟩:=λj=>Qz (w:=w) z
  rw[e,e,e,e];exact h.wc i J,I,h.nb,h.fin⟩
theorem RR.below (h:RR rb gl cl ts s w) (z:Below w.heap.size w w'):RR rb gl cl ts s w':=
 h.move (z.block _ h.glt) (by rw[z.block _ h.rlt];exact h.rd) h.lt
theorem RR.drew {ts:List Tok} (h:RR rb gl cl ts s w):RR rb gl cl ts s w.drew:=h.move rfl h.rd h.lt
theorem RR.alloc {rb gl cl ts s w} (h:RR rb gl cl ts s w) (o:Obj):RR rb gl cl ts s (w.alloc o):=
 h.below ((Qq _ _).alloc (Qn _) o)
theorem RR.set (h:RR rb gl cl ts s w) (s') (j) (v) (e:(#[Sq gl ts.length cl,Iq s.i,.bool s.bad,Iq s.pl]).setIfInBounds j v= #[Sq gl ts.length cl,Iq s'.i,.bool s'.bad,Iq s'.pl]) (z:s'.i<ts.length):RR rb gl cl ts s' (w.setCell ⟨rb,j,none⟩ v):=
 h.move (Qr _ _ _ _ (by simpa using h.ne)) (by rw[QB w rb j _ _ v h.rd,e];rfl) z
section
attribute [local go_sem ↓] Go.wp_at_zero Go.wp_at_succ
variable {b}
theorem RR.other (h:RR rb gl cl ts s w) (z:b≠rb) (D:b≠gl) (j) (v):RR rb gl cl ts s (w.setCell ⟨b,j,none⟩ v):=
 h.move (Qr _ _ _ _ (by simpa using D.symm)) (by rw[Qr _ _ _ _ (by simpa using z.symm)];exact h.rd) h.lt
theorem PF.new {rb:Nat} (h:PF rb w w') (E:w.heap.size<=b) (j) (v):PF rb w (w'.setCell ⟨b,j,none⟩ v):=
 ⟨h.os,h.tape,h.output,by simpa using h.size,λk z D=>by rw[Qr _ _ _ _ (by simp;omega)];exact h.block k z D⟩
theorem vI {ts:List Tok} (h:RR rb gl cl ts s w) (hi:s.i+1<ts.length):
 Calls prog 212 #[Pq rb] w λe w'=>e= .returned (me (cq ts s.i) (cq ts s.i).pl)/\RR rb gl cl ts {s with i:=s.i+1} w'/\PF rb w w':=by
 have ag:=h.nb;have U:=h.alloc (.cells #[Iq 0,Iq 0,Iq 0,.string ⟨#[]⟩] 160);have V:(w.alloc (.cells #[Iq 0,Iq 0,Iq 0,.string ⟨#[]⟩] 160)).heap[w.heap.size]?=some (.cells #[Iq 0,Iq 0,Iq 0,.string ⟨#[]⟩] 160):=Qp w _;have hF:PF rb w (w.alloc (.cells #[Iq 0,Iq 0,Iq 0,.string ⟨#[]⟩] 160)):=(PF.refl rb w).alloc _;have ac:=h.rlt;have ad:=h.glt;clear h;go_enter func212,ntmps212;go_wp2;generalize w.alloc (.cells #[Iq 0,Iq 0,Iq 0,.string ⟨#[]⟩] 160)=z at*;obtain⟨⟨r0,r1,r2,r3⟩,rf⟩:=U.cells;obtain⟨c0,c1,c2,c3⟩:=U.wc s.i U.lt;have ah:=U.lt;have n0:=World.new_ne z _ r0;have n1:=World.new_ne z _ r1;have m0:=World.new_ne z _ c0;have m1:=World.new_ne z _ c1;have m2:=World.new_ne z _ c2;have m3:=World.new_ne z _ c3;have H1:=Hi U;have Z:=Hi hF;have HX:=Hi V;clear U hF V r2 r3;generalize hk:cy (cq ts s.i)=D at*;generalize hp:(cq ts s.i).pl=E at*;generalize hm:cV (cq ts s.i)=G at*;generalize ho:cE (cq ts s.i)=I at*;have HK:=Hi hk;have HP:=Hi hp;have HM:=Hi hm;have HO:=Hi ho;clear hk hp hm ho;go_region_held (λw'=>w'.cell? ⟨rb,0,none⟩=some (Sq gl ts.length cl)/\w'.cell? ⟨rb,1,none⟩=some (Iq s.i)/\w'.cell? ⟨gl,s.i*4,none⟩=some (Iq D)/\w'.cell? ⟨gl,s.i*4+1,none⟩=some (Iq E)/\w'.cell? ⟨gl,s.i*4+2,none⟩=some (Iq G)/\w'.cell? ⟨gl,s.i*4+3,none⟩=some (S I)) (go_keep) (fail)
 rename_i hHeld;clear hHeld r0 r1 rf c0 c1 c2 c3 n0 n1 m0 m1 m2 m3;have h2:=(H1.out.alloc (eB D E G I)).drew;have F2:=(Z.out.alloc (eB D E G I)).drew;have Y:(z.alloc (eB D E G I)).drew.heap[z.heap.size]?=some (eB D E G I):=Qp z _;have aa:=be HX.out;have O:(z.alloc (eB D E G I)).drew.heap[w.heap.size]?=some (eB 0 0 0 []):=by
  show(z.alloc (eB D E G I)).heap[w.heap.size]?=_;rw[Qu _ _ _ aa];exact HX.out
 have e1:z.heap.size≠rb:=by omega
 have J:w.heap.size≠rb:=by omega
 have e3:w.heap.size≠z.heap.size:=by omega
 unfold eB at h2 F2 Y O;clear HX Z H1;show Exit.then _ _ _ _ ((z.alloc (.cells #[Iq D,Iq E,Iq G,S I] 160 (0,0))).drew);generalize (z.alloc (.cells #[Iq D,Iq E,Iq G,S I] 160 (0,0))).drew=w2 at*;generalize z.heap.size=bx at*;generalize ab:w.heap.size=bn at J e3 aa O ac ad⊢;have ae:=Hi ab;clear ab;obtain⟨⟨r0,r1,r2,r3⟩,rf⟩:=h2.cells;obtain⟨⟨x0,x1,x2,x3⟩,xf⟩:=jB Y;obtain⟨⟨y0,y1,y2,y3⟩,yf⟩:=jB O;have H2:=Hi h2;have Z:=Hi F2;clear h2 F2 Y O;have af:=J.symm;go_wp2;have R:=Se ae.out;have hg:bn≠gl:=by omega
 refine Qs (v:= .agg #[Iq D,Iq E,Iq G,S I]) (by simp[results,results212,go_sem,y0,y1,y2,y3,yf,J,af]) rfl ⟨?_,?_,?_⟩
 ·unfold me;rw[HK.out,HP.out,HM.out,HO.out]
 ·exact(((((H2.out.set {s with i:=s.i+1} 1 _ (by simp) hi).other J hg _ _).other J hg _ _).other J hg _ _).other J hg _ _)
 exact((((Z.out.set 1 _).new R _ _).new R _ _).new R _ _).new R _ _
def fO (ts:List Tok) (s:Q):Q:=⟨ts.length - 1,true,if s.bad then s.pl else(cq ts s.i).pl⟩
theorem Bb {ts:List Tok} (h:RR rb gl cl ts s w):
 Calls prog 211 #[Pq rb] w λe w'=>e= .returned (.tuple #[])/\RR rb gl cl ts (fO ts s) w'/\PF rb w w':=by
 obtain⟨⟨J,G,D,O⟩,rf⟩:=h.cells;obtain⟨c0,c1,c2,c3⟩:=h.wc s.i h.lt;have R:=h.lt;have ac:=h.nb;have H:=Hi h;cases I:s.bad with
 |true=>
  rw[I] at D;have HB:=Hi I;go_enter func211,ntmps211;go_wp2;go_end0;refine⟨rfl,?_,(PF.refl _ _).set _ _⟩;exact H.out.set (fO ts s) 1 _ (by simp[fO,HB.out];omega) (by simp[fO];omega)
 |false=>
  rw[I] at D;have HB:=Hi I;go_enter func211,ntmps211;go_wp2;have U:=H.out.set {s with bad:=true} 2 (.bool true) (by simp) R
  have F1:=(PF.refl rb w).set 2 (.bool true);generalize w.setCell ⟨rb,2,none⟩ (.bool true)=V at*;obtain⟨⟨J,G,D,O⟩,rf⟩:=U.cells;obtain⟨c0,c1,c2,c3⟩:=U.wc s.i R;have Z:=U.ne;have aa:=Z.symm;have H1:=Hi U;have Y:=Hi F1;generalize hp:(cq ts s.i).pl=z at*;have HP:=Hi hp;simp only[] at G D O;have E:(V.setCell ⟨rb,3,none⟩ (Iq z)).drew.cell? ⟨rb,0,none⟩=some (Sq gl ts.length cl)/\(V.setCell ⟨rb,3,none⟩ (Iq z)).drew.cell? ⟨rb,1,none⟩=some (Iq s.i)/\(V.setCell ⟨rb,3,none⟩ (Iq z)).drew.cell? ⟨gl,s.i*4+1,none⟩=some (Iq z):=by
   simp[go_sem,J,G,c1,Z,aa]
  go_region_held (λw'=>w'.cell? ⟨rb,0,none⟩=some (Sq gl ts.length cl)/\w'.cell? ⟨rb,1,none⟩=some (Iq s.i)/\w'.cell? ⟨gl,s.i*4+1,none⟩=some (Iq z)) (first|exact E|go_keep) (fail)
  rename_i hHeld;have h2:=(H1.out.set {s with bad:=true,pl:=z} 3 (Iq z) (by simp) R).drew
  have F2:=(Y.out.set 3 (Iq z)).drew;generalize (V.setCell ⟨rb,3,none⟩ (Iq z)).drew=w2 at*;obtain⟨⟨J,G,D,O⟩,rf⟩:=h2.cells;have H2:=Hi h2;have Y:=Hi F2;go_wp2;go_end0;refine⟨rfl,?_,Y.out.set _ _⟩;exact H2.out.set (fO ts s) 1 _ (by simp[fO,HB.out,HP.out];omega) (by simp[fO];omega)
theorem xH (ks:List Nat) (v:Nat) (b) (w) (hl:ks.length<=100)
 (I:∀j,j<ks.length->Cq w b j (Iq (ks.getD j 0))):
 Calls prog 245 #[Sq b ks.length ks.length,Iq v] w λe w'=>(∃r,e= .returned (Iq r)/\ -1<=r/\r<=1000/\(decide (0<=r)=ks.contains v))/\w'=w:=by
 have Y:=Hi I;clear I;go_enter func245,ntmps245
 go_wp2
 go_loop [8] (λi=> ∃k:Nat,k<=ks.length/\i= Iq k/\Hid (∀q,q<k->ks.getD q 0≠v)) (λi=>ks.length - (intOf i).toNat)
 case atStart=>exact⟨0,QA _,rfl,λq Z=>by omega⟩
 case round=>
  obtain⟨k,hk,rfl,J⟩:=hrel
  by_cases z:k<ks.length
  ·have E:=Y.out k z
   have D:Hid (ks.getD k 0∈ks):=by rw[Qi,Ql z];exact QD z
   have HG:Hid (∀x,ks.getD k 0=x->ks.getD k 0=x):=λ_ h=>h
   generalize O:ks.getD k 0=x at E D;have HX:=Hi O;clear O HG
   by_cases G:v=x
   ·subst G
    go_wp2
    go_ret;refine⟨⟨k,rfl,by omega,by omega,?_⟩,rfl⟩
    simp[D.out]
   ·have R: ¬((v:Int)=(x:Int)):=by omega
    have aa:((v:Int)==(x:Int))=false:=by simpa using R
    have HV:=Hi G;clear G
    go_wp2
    refine⟨⟨k+1,by omega,by go_num,λq Z=>?_⟩,by simp[intOf];omega⟩
    by_cases e:q=k
    ·rw[e,HX.out];exact λe=>HV.out e.symm
    ·exact J.out q (by omega)
  ·go_wp2
   go_ret;refine⟨⟨-1,rfl,by omega,by omega,?_⟩,rfl⟩
   have U:v∉ks:=λe=>by
    obtain⟨j,hj,V⟩:=RG.1 e;exact J.out j (by omega) (by rw[Qi,Ql hj];exact V)
   simp[U]
theorem j9 (ks:List Nat) (v:Nat) (b) (w:World) (E:ks.length<=100)
 (z:∀j,j<ks.length->Cq w b j (Iq (ks.getD j 0))):
 Calls prog 210 #[Sq b ks.length ks.length,Iq v] w λe w'=>e= .returned (.bool (ks.contains v))/\w'=w:=by
 have D:=xH ks v b w E z;clear z;go_enter func210,ntmps210;go_wp2_with fail;apply D.mono;rintro e w' ⟨⟨r,rfl,I,J,h3⟩,rfl⟩;have G:=Hi h3;clear D h3;go_wp2;go_ret;exact⟨iG G.out,rfl⟩
theorem RR.more {ts:List Tok} (h:RR rb gl cl ts s w) (z:cy (cq ts s.i)≠0):s.i+1<ts.length:=by
 rcases Rq (s.i+1) ts.length with D|D
 ·exact D
 ·have:=h.lt
  have e:s.i=ts.length - 1:=by omega
  rw[e] at z;exact absurd h.fin z
def oW (ts:List Tok) (s:Q) (ks:List Nat):Value:=if ks.contains (cy (cq ts s.i)) then me (cq ts s.i) (cq ts s.i).pl else .agg #[Iq 0,Iq 0,Iq 0,S []]
def nD (ts:List Tok) (s:Q) (ks:List Nat):Q:=if ks.contains (cy (cq ts s.i)) then{s with i:=s.i+1} else fO ts s
theorem JN (h:RR rb gl cl ts s w) (ks) (b) (hl:ks.length<=100) (h0:0∉ks)
 (hc:∀j,j<ks.length->Cq w b j (Iq (ks.getD j 0))):
 Calls prog 151 #[Pq rb,Sq b ks.length ks.length] w λe w'=>e= .returned (oW ts s ks)/\RR rb gl cl ts (nD ts s ks) w'/\PF rb w w':=by
 have h1:=h.alloc (.cells #[Iq 0,Iq 0,Iq 0,.string ⟨#[]⟩] 160);have Z:(w.alloc (.cells #[Iq 0,Iq 0,Iq 0,.string ⟨#[]⟩] 160)).heap[w.heap.size]?=some (.cells #[Iq 0,Iq 0,Iq 0,.string ⟨#[]⟩] 160):=Qp w _;have hF:PF rb w (w.alloc (.cells #[Iq 0,Iq 0,Iq 0,.string ⟨#[]⟩] 160)):=(PF.refl rb w).alloc _;have ad:∀j,j<ks.length->(w.alloc (.cells #[Iq 0,Iq 0,Iq 0,.string ⟨#[]⟩] 160)).cell? ⟨b,j,none⟩=some (Iq (ks.getD j 0)):=λj hj=>by
  rw[((Qq w.heap.size w).alloc (Qn _) _).cell (p:=⟨b,j,none⟩) (Qk w _ (hc j hj))];exact hc j hj
 have ah:=h.rlt;have ai:=h.glt;have HC:=Hi ad;have H1:=Hi h1;have HF:=Hi hF;have HX:=Hi Z;clear h hc ad h1 hF Z;go_enter func151,ntmps151;go_wp2_with fail;generalize w.alloc (.cells #[Iq 0,Iq 0,Iq 0,.string ⟨#[]⟩] 160)=w1 at*;apply(iV H1.out).mono;rintro e w' ⟨rfl,rfl⟩;have af:Hid (ks.contains (cy (cq ts s.i))=true->s.i+1<ts.length):=λe=>H1.out.more λz=>by rw[z,QJ] at e;exact h0 e
 have HQ:Hid (nD ts s ks=nD ts s ks):=rfl;have J:=j9 ks (cy (cq ts s.i)) b w1.drew hl HC.out;have HV:Hid (oW ts s ks=if ks.contains (cy (cq ts s.i)) then me (cq ts s.i) (cq ts s.i).pl else .agg #[Iq 0,Iq 0,Iq 0,S []]):=rfl
 have HW:Hid (nD ts s ks=if ks.contains (cy (cq ts s.i)) then{s with i:=s.i+1} else fO ts s):=rfl
 have h2:=H1.out.drew;have F2:=HF.out.drew;have O:w1.drew.heap[w.heap.size]?=some (eB 0 0 0 []):=HX.out;have V:w.heap.size<w1.drew.heap.size:=be O;clear H1 HF HX HC HQ h0;generalize w1.drew=w2 at*;generalize ae:cy (cq ts s.i)=kd at*;have aj:=Hi ae;clear ae;have z:w.heap.size≠rb:=by omega
 have I:w.heap.size≠gl:=by omega
 cases E:ks.contains kd with
 |true=>
  have HT:=Hi E;have ac:=af.out E;have Y:=vI h2 ac;have HY:=Hi O;have HE:=Hi F2;unfold me at Y;rw[E] at J;clear E O h2 F2;go_wp2_with fail;apply J.mono;rintro e w' ⟨rfl,rfl⟩;go_wp2_with fail;apply Y.mono;rintro e w3 ⟨rfl,h3,U⟩;have G:w3.heap[w.heap.size]?=some (eB 0 0 0 []):=by rw[U.block _ V z];exact HY.out
  have aa:=Hi (HE.out.trans U);have H3:=Hi h3;clear Y J HY HE h3 U V;generalize R:w.heap.size=bn at z I G⊢;have ab:=Hi R;clear R;obtain⟨⟨y0,y1,y2,y3⟩,yf⟩:=jB G;clear G;go_wp2;have D:=Se ab.out;refine Qs (v:= .agg #[Iq (cy (cq ts s.i)),Iq (cq ts s.i).pl,Iq (cV (cq ts s.i)),S (cE (cq ts s.i))]) (by simp[results,results151,go_sem,y0,y1,y2,y3,yf]) rfl ⟨?_,?_,?_⟩
  ·rw[HV.out,HT.out];rfl
  ·rw[HW.out,HT.out]
   exact((((H3.out.other z I _ _).other z I _ _).other z I _ _).other z I _ _)
  ·exact((((aa.out.new D _ _).new D _ _).new D _ _).new D _ _)
 |false=>
  have HT:=Hi E;have Y:=Bb h2;have HY:=Hi O;have HE:=Hi F2;rw[E] at J;clear E O h2 F2;go_wp2_with fail;apply J.mono;rintro e w' ⟨rfl,rfl⟩;go_wp2_with fail;apply Y.mono;rintro e w3 ⟨rfl,h3,U⟩;have G:w3.heap[w.heap.size]?=some (eB 0 0 0 []):=by rw[U.block _ V z];exact HY.out
  have aa:=Hi (HE.out.trans U);have H3:=Hi h3;clear Y J HY HE h3 U V;generalize R:w.heap.size=bn at z I G⊢;have ab:=Hi R;clear R;obtain⟨⟨y0,y1,y2,y3⟩,yf⟩:=jB G;clear G;go_wp2;have D:=Se ab.out;refine Qs (v:= .agg #[Iq 0,Iq 0,Iq 0,S []]) (by simp[results,results151,go_sem,y0,y1,y2,y3,yf]) rfl ⟨?_,?_,?_⟩
  ·rw[HV.out,HT.out];rfl
  ·rw[HW.out,HT.out]
   exact((((H3.out.other z I _ _).other z I _ _).other z I _ _).other z I _ _)
  ·exact((((aa.out.new D _ _).new D _ _).new D _ _).new D _ _)
end
variable {L i b z xs p F}
def hY (t:Tok):Prop:=t.k=110\/t.k=111\/t.k=101\/(t.k=107/\t.text∈cU.drop 11)\/(t.k=115/\t.text∈(cU.drop 3).take 8)
theorem NN {x:List UInt8} (h:x∈cU.drop 11):x∈cU.drop 3:=by
 rw[show cU.drop 11=(cU.drop 3).drop 8 from by simp] at h
 exact SG h
theorem hY.cases {t:Tok} (h:hY t):t.k=110\/t.k=111\/t.k=101\/((t.k=107\/t.k=115)/\t.text∈cU.drop 3):=by
 rcases h with h|h|h|⟨h,z⟩|⟨h,z⟩
 ·exact .inl h
 ·exact .inr (.inl h)
 ·exact .inr (.inr (.inl h))
 ·exact .inr (.inr (.inr ⟨.inl h,NN z⟩))
 ·exact .inr (.inr (.inr ⟨.inr h,SH z⟩))
theorem Gt:∀x∈cU.drop 3,∀y∈cU.drop 3,(dx cU x).toNat=(dx cU y).toNat->x=y:=by decide
theorem lT:∀x∈cU.drop 3,3<=(dx cU x).toNat:=by decide
def kn (x:List UInt8):Nat:=(dx cU x).toNat
theorem dU {t:Tok} (h:(t.k=107\/t.k=115)):cy t=kn t.text:=by
 unfold cy kn;rw[Qj (by omega),Qj (by omega),Qj (by omega)]
theorem rS {t:Tok} (h:hY t) {x:List UInt8} (z:x∈cU.drop 3):eJ t x=true↔cy t=kn x:=by
 have E:=lT x z;unfold eJ;rcases h.cases with h|h|h|⟨h,D⟩
 ·unfold cy;rw[Qo h,h];simp[kn];omega
 ·unfold cy;rw[Qj (by omega),Qo h,h];simp[kn];omega
 ·unfold cy;rw[Qj (by omega),Qj (by omega),Qo h,h];simp[kn];omega
 ·rw[dU h]
  simp only[SK,SO,Td];constructor
  ·rintro⟨_,e⟩;rw[e]
  ·intro e;exact⟨h,Gt _ D _ z e⟩
theorem JO (l:List UInt8) (a:Nat) (D:a<l.length) (t:Tok) (h:fk l a=some t):hY t:=by
 unfold fk at h
 split at h
 ·split at h
  ·simp at h
  ·simp at h;subst h;exact .inl rfl
 ·split at h
  ·split at h
   ·rename_i E
    simp at h;subst h
    exact .inr (.inr (.inr (.inl ⟨rfl,(rL _).1 E⟩)))
   ·split at h
    ·simp at h;subst h;exact .inr (.inl rfl)
    ·simp at h
  ·rw[Ql D] at h
   simp only at h
   split at h
   ·split at h
    ·simp at h;subst h;exact .inr (.inr (.inr (.inr ⟨rfl,show[60,61]∈(cU.drop 3).take 8 from by decide⟩)))
    ·simp at h;subst h;exact .inr (.inr (.inr (.inr ⟨rfl,show[60]∈(cU.drop 3).take 8 from by decide⟩)))
   ·split at h
    ·rename_i z
     simp at h;subst h
     refine .inr (.inr (.inr (.inr ⟨rfl,?_⟩)));have G:∀c:UInt8,(c.toNat=40\/c.toNat=41\/c.toNat=59\/c.toNat=43\/c.toNat=45\/c.toNat=61)->[c]∈(cU.drop 3).take 8:=by
      intro c z;rcases z with z|z|z|z|z|z<;>(rw[kR _ _ (by omega)] at z;subst z;decide)
     exact G _ z
    ·simp at h
def mL (k:Nat):Bool:=decide (k=1)||decide (k=2)||(decide (20<=k)&&decide (k<=35))
theorem zr:∀x∈cU.drop 11,(decide (0<=dx dy x)||decide (0<=dx dC x)||x==mG||x==mS)=mL (kn x):=by decide
theorem zt:∀x∈(cU.drop 3).take 8,mL (kn x)=false:=by decide
theorem pT {t:Tok} (h:hY t):eH t=mL (cy t):=by
 unfold eH;rcases h with h|h|h|⟨h,z⟩|⟨h,z⟩
 ·unfold cy;rw[Qo h,h];rfl
 ·unfold cy;rw[Qj (by omega),Qo h,h];rfl
 ·unfold cy;rw[Qj (by omega),Qj (by omega),Qo h,h];rfl
 ·rw[dU (.inl h),<-zr _ z,h];simp
 ·rw[dU (.inr h),zt _ z,h];rfl
theorem oH (k:Nat) (w:World) (D:k<=100):Calls prog 287 #[Iq k] w λe w'=>e= .returned (.bool (mL k))/\w'=w:=by
 have z:Hid (mL k=(decide (k=1)||decide (k=2)||(decide (20<=k)&&decide (k<=35)))):=rfl;go_enter func287,ntmps287
 go_wp2
 all_goals go_ret
 all_goals refine⟨iG ?_,rfl⟩
 all_goals rw[z.out,RE]
 all_goals simp
 all_goals try simp at*
 all_goals omega
def jP (n:Nat):List Nat:=if n=0 then[17] else if n=1 then[18] else if n=3 then[8,10,9] else[6,7]
theorem Di:∀n,n<=4-> ∀x∈cU.drop 3,decide (0<=dx (iO n) x)=(jP n).contains (kn x):=by
 intro n z;have h:∀n:Fin 5,∀x∈cU.drop 3,decide (0<=dx (iO n.1) x)=(jP n.1).contains (kn x):=by decide
 exact h ⟨n,by omega⟩
theorem oX:∀n,n<=4-> ∀x∈jP n,3<=x:=by
 intro n z;have h:∀n:Fin 5,∀x∈jP n.1,3<=x:=by decide
 exact h ⟨n,by omega⟩
theorem yx {n:Nat} (D:n<=4) {t:Tok} (h:hY t):iB n t=(jP n).contains (cy t):=by
 have z:∀k,k<3->(jP n).contains k=false:=λk G=>by
  rw[RU];intro e;rw[QJ] at e
  have:=oX n D k e;omega
 unfold iB;rcases h.cases with h|h|h|⟨h,E⟩
 ·rw[show cy t=1 from by unfold cy;rw[Qo h],z 1 (by omega),h];simp
 ·rw[show cy t=2 from by unfold cy;rw[Qj (by omega),Qo h],z 2 (by omega),h];simp
 ·rw[show cy t=0 from by unfold cy;rw[Qj (by omega),Qj (by omega),Qo h],z 0 (by omega),h];simp
 ·rw[dU h,<-Di n D _ E]
  rcases h with h|h<;>rw[h]<;>simp
def gR (t:Tok) (u:Value) (n:Int):Obj:= .cells #[Iq (cy t),Iq t.pl,Iq (cV t),S (cE t),u,Iq n] 229 (0,0)
def jo (w:World) (u:Value) (n:Nat) (I:Nat->Nat):Prop:=
 (n=0/\u= .slice none 0 0)\/(0<n/\ ∃g,u= .slice (some ⟨g,0,none⟩) n n/\w.heap[g]?=some (.cells ((List.range n).map λj=>Value.pointer (some ⟨I j,0,none⟩)).toArray 161 (0,0)))
structure de (L:List Pt) (lt:Nat) (w) (i b:Nat):Prop where
 lay::
 out:∀C:Nat->Nat->Prop,(∀(i b:Nat) (u:Value) (bl:Nat->Nat),i<L.length->lt<=b->w.heap[b]?=some (gR (L.getD i cz).tok u 0)->jo w u (L.getD i cz).subs.length bl->(∀j,j<(L.getD i cz).subs.length->(L.getD i cz).subs.getD j 0<i)->(∀j,j<(L.getD i cz).subs.length->C ((L.getD i cz).subs.getD j 0) (bl j))->C i b)->C i b
theorem de.mk {L:List Pt} {lt w} (i b) (u) (z) (I:i<L.length) (D:lt<=b) (J:w.heap[b]?=some (gR (L.getD i cz).tok u 0))
 (O:jo w u (L.getD i cz).subs.length z) (E:∀j,j<(L.getD i cz).subs.length->(L.getD i cz).subs.getD j 0<i)
 (R:∀j,j<(L.getD i cz).subs.length->de L lt w ((L.getD i cz).subs.getD j 0) (z j)):de L lt w i b:=
 ⟨λC G=>G i b u z I D J O E λj U=>(R j U).out C G⟩
theorem de.ind {lt} (M:Nat->Nat->Prop)
 (U:∀i b u z,i<L.length->lt<=b->w.heap[b]?=some (gR (L.getD i cz).tok u 0)->jo w u (L.getD i cz).subs.length z->(∀j,j<(L.getD i cz).subs.length->(L.getD i cz).subs.getD j 0<i)->(∀j,j<(L.getD i cz).subs.length->de L lt w ((L.getD i cz).subs.getD j 0) (z j))->(∀j,j<(L.getD i cz).subs.length->M ((L.getD i cz).subs.getD j 0) (z j))->M i b)
 (h:de L lt w i b):M i b:=
 (h.out (λi b=>de L lt w i b/\M i b) λi b u z J E O R G I=>⟨.mk i b u z J E O R G λj D=>(I j D).1,U i b u z J E O R G (λj D=>(I j D).1) λj D=>(I j D).2⟩).2
theorem de.keep {lt} (h:de L lt w i b)
 (E:∀(k:Nat) cs ty,w.heap[k]?=some (Obj.cells cs ty (0,0))->ty=229\/ty=161->w'.heap[k]?=w.heap[k]?):de L lt w' i b:=by
 refine h.ind (λi b=>de L lt w' i b) ?_
 ·intro i b u bl hi G I D J hs ih
  refine .mk i b u bl hi G ?_ ?_ J ih
  ·rw[E b _ _ I (.inl rfl)];exact I
  ·rcases D with D|⟨h0,g,h1,O⟩
   ·exact .inl D
   ·exact .inr ⟨h0,g,h1,by rw[E g _ _ O (.inr rfl)];exact O⟩
theorem de.pf {lt} (h:de L lt w i b) (E:RR rb gl cl ts s w) (G:PF rb w w'):de L lt w' i b:=
 h.keep λk cs ty z D=>G.block k (be z) λe=>by
  rw[e,E.rd] at z;simp only[mg,QE,RN] at z;have I:=z.2.1;rw[<-I] at D;exact absurd D (by decide)
theorem de.more {lt:Nat} (h:de L lt w i b) (U:L.length<=z.length) (G:∀k,k<L.length->z.getD k cz=L.getD k cz):de z lt w i b:=by
 refine h.ind (λi b=>de z lt w i b) ?_
 ·intro i b u I J D O R E V ih
  have e:=G i J;exact .mk i b u I (by omega) D (by rw[e];exact O) (by rw[e];exact R) (by rw[e];exact E) (by rw[e];exact ih)
theorem de.put {lt} (h:de L lt w i b) (p:Pt):de (L++[p]) lt w i b:=
 h.more (by simp) (λk z=>by simp[Qi,QT z])
def qI (k:Nat):Nat:=if k=1\/(27<=k/\k<=30) then 1 else if k=20\/k=21\/k=34\/k=35 then 2 else if(22<=k/\k<=26)\/(31<=k/\k<=33) then 3 else 0
def iw (E:List Nat) (z D:Nat):Nat:=if E.all (λu=>u==z) then D else 0
def iW (k:Nat) (z:List Nat):Nat:=
 if k=6\/k=7 then iw z 1 1 else if k=10\/k=9 then iw z 1 2 else if k=8 then iw z (z.getD 0 0) 2
 else if k=17\/k=18\/k=19 then iw z 2 2
 else if k=14 then(if z.getD 0 0=2 then iw (z.drop 1) (z.getD 1 0) (z.getD 1 0) else 0) else 0
abbrev lf (c:UInt8):Prop:=c=110\/c=116\/c=109
theorem nE {c:UInt8} (h:lf c):c∈([110,116,109]:LB):=by
 rcases h with rfl|rfl|rfl<;>decide
theorem mh {c:UInt8} (h:c=0\/lf c):eA c=0↔c=0:=by
 rcases h with rfl|rfl|rfl|rfl<;>decide
def yy (x s:List UInt8):UInt8:=UInt8.ofNat (eX [] [] ⟨107,x,0⟩ s)
theorem oY (xs:List dw) (its:LB) {t:Tok} (z:t.k≠110) (D:t.k≠111) (s:LB):UInt8.ofNat (eX xs its t s)=yy t.text s:=by
 unfold yy eX;rw[Qj z,Qj D];simp only[];rw[Qj (show ¬107=110 by decide),Qj (show ¬107=111 by decide)]
theorem Ma:∀x∈cU.drop 11,(decide (0<=dx dy x)||decide (0<=dx dC x)||x==mG||x==mS)=true->eA (yy x [])=qI (kn x)/\lf (yy x []):=by decide
theorem JP:∀x∈([[43],[45],[60],[60,61],[61],[111,114],[97,110,100]]:List LB),∀a∈([110,116,109]:LB),∀b∈([110,116,109]:LB),eA (yy x [a,b])=iW (kn x) [eA a,eA b]/\(yy x [a,b]=0\/lf (yy x [a,b])):=by decide
theorem JR:∀a∈([110,116,109]:LB),eA (yy km [a])=iW (kn km) [eA a]/\(yy km [a]=0\/lf (yy km [a])):=by decide
theorem JS:∀a∈([110,116,109]:LB),∀b∈([110,116,109]:LB),∀c∈([110,116,109]:LB),eA (yy oI [a,b,c])=iW (kn oI) [eA a,eA b,eA c]/\(yy oI [a,b,c]=0\/lf (yy oI [a,b,c])):=by decide
theorem zu {l:List Nat} (h:l.length=2):∃a b,l=[a,b]:=by
 match l,h with
 |[a,b],_=>exact⟨a,b,rfl⟩
theorem sX {l:List Nat} (h:l.length=3):∃a b c,l=[a,b,c]:=by
 match l,h with
 |[a,b,c],_=>exact⟨a,b,c,rfl⟩
theorem mi {n:Nat} {t:Tok} (h:iB n t=true):t.text∈([[43],[45],[60],[60,61],[61],[111,114],[97,110,100]]:List LB)/\(t.k=107\/t.k=115):=by
 unfold iB at h;simp only[SK,SY,SO,Td] at h;refine⟨?_,h.2⟩;have z:=uN h.1;unfold iO at z;split at z
 ·simp at z;rw[z];decide
 split at z
 ·simp at z;rw[z];decide
 split at z
 ·simp at z;rcases z with z|z|z<;>rw[z]<;>decide
 simp at z;rcases z with z|z<;>rw[z]<;>decide
theorem gX {t:Tok} {x:LB} (h:eJ t x=true):t.text=x/\(t.k=107\/t.k=115):=by
 unfold eJ at h;simp at h;exact⟨h.2,h.1⟩
theorem zv (xs:List dw) (its:LB) {t:Tok} (O:hY t) (z:eH t=true) (R:t.k≠111):eA (UInt8.ofNat (eX xs its t []))=qI (cy t)/\lf (UInt8.ofNat (eX xs its t [])):=by
 rcases O with h|h|h|⟨h,G⟩|⟨h,G⟩
 ·have e:eX xs its t []=110:=by unfold eX;rw[Qo h]
  rw[e];unfold cy;rw[Qo h];decide
 ·exact absurd h R
 ·rw[eH,h] at z;simp at z
 ·have U:(decide (0<=dx dy t.text)||decide (0<=dx dC t.text)||t.text==mG||t.text==mS)=true:=by
   rw[eH,h] at z;simpa using z
  rw[oY xs its (by omega) (by omega),dU (.inl h)]
  exact Ma _ G U
 rw[eH,h] at z;simp at z
theorem zw {its:LB} (I:rG p) (J:p.subs≠[]) (D:∀j∈p.subs,lf (F j)):
 eA (UInt8.ofNat (eX xs its p.tok (p.subs.map F)))=iW (cy p.tok) (p.subs.map λj=>eA (F j))/\(UInt8.ofNat (eX xs its p.tok (p.subs.map F))=0\/lf (UInt8.ofNat (eX xs its p.tok (p.subs.map F)))):=by
 rcases I with⟨_,h⟩|⟨h,E⟩|⟨h,E⟩|⟨n,_,h,E⟩
 ·exact absurd h J
 ·obtain⟨e,G⟩:=gX h;obtain⟨a,z⟩:∃a,p.subs=[a]:=Sr.1 E;rw[oY xs its (by omega) (by omega),dU G,e,z]
  exact JR _ (nE (D a (by simp[z])))
 ·obtain⟨e,G⟩:=gX h;obtain⟨a,b,c,z⟩:∃a b c,p.subs=[a,b,c]:=sX E;rw[oY xs its (by omega) (by omega),dU G,e,z]
  exact JS _ (nE (D a (by simp[z]))) _ (nE (D b (by simp[z]))) _ (nE (D c (by simp[z])))
 obtain⟨e,G⟩:=mi h;obtain⟨a,b,z⟩:∃a b,p.subs=[a,b]:=zu E;rw[oY xs its (by omega) (by omega),dU G,z]
 exact JP _ e _ (nE (D a (by simp[z]))) _ (nE (D b (by simp[z])))
def nF (xs:List dw) (n:Nat) (L:List Pt) (I J:Nat):Prop:= ∀q,I<=q->q<J->(L.getD q cz).tok.k=111->(L.getD q cz).tok.text≠[]/\0<=cX xs (L.getD q cz).tok.text n
theorem fY {f:Nat} {L:List Pt} (js:List Nat):∀{E G},jF (dN f L) E js G-> ∀j∈js,∃D,E<=D/\j<G/\dN f L D j:=by
 induction js with
 |nil=>intro E G _ j z;simp at z
 |cons x js ih=>
  intro E G h j z;have I:=h.1.le;have J:=lS (λE j z=>z.le) js h.2
  simp at z;rcases z with rfl|z
  ·exact⟨E,Qn _,by omega,h.1⟩
  obtain⟨D,a,b,c⟩:=ih h.2 j z;exact⟨D,by omega,b,c⟩
theorem Gu {xs:List dw} {its:LB} (D:∀c∈its,lf c) (s:LB) (E:0<=cX xs s its.length):lf (its.getD (cX xs s its.length).toNat 0):=by
 have G:=(rF xs s its.length).1;have z:(cX xs s its.length).toNat<its.length:=by omega
 rw[Qi,Ql z];exact D _ (QD z)
theorem pU {xs:List dw} {its:LB} (hW:∀k,k<L.length->hY (L.getD k cz).tok) (R:∀c∈its,lf c) (f:Nat):∀{D i:Nat},dN f L D i->nF xs its.length L D (i+1)->dk xs its L f i=0\/lf (dk xs its L f i):=by
 induction f with
 |zero=>intro D i h;exact h.elim
 |succ f ih=>
  intro D i h J;rw[dk];split
  ·exact .inl rfl
  rename_i U;by_cases E:(L.getD i cz).tok.k=111
  ·right;have:=Gu R _ (J i h.le (by omega) E).2
   have e:eX xs its (L.getD i cz).tok ((L.getD i cz).subs.map (dk xs its L f))=(its.getD (cX xs (L.getD i cz).tok.text its.length).toNat 0).toNat:=by
    unfold eX;rw[Qj (by omega),Qo E]
   rw[e,Sa];exact this
  by_cases G:(L.getD i cz).subs=[]
  ·rw[G];have V:eH (L.getD i cz).tok=true:=by
    rcases h.2.1 with⟨z,_⟩|⟨_,z⟩|⟨_,z⟩|⟨n,_,_,z⟩
    ·exact z
    all_goals (rw[G] at z;simp at z)
   exact .inr (zv xs its (hW i h.1) V E).2
  refine(zw h.2.1 G λj O=>?_).2
  obtain⟨Y,a,b,c⟩:=fY _ h.2.2 j O;rcases ih c (λq z Z=>J q (by omega) (by omega)) with I|I
  ·exact absurd (by rw[QJ,<-I];exact RB O) U
  exact I
section
attribute [local go_sem ↓] Go.wp_at_zero Go.wp_at_succ
theorem zx (l:List (List UInt8)) (s:List UInt8):dx l s<l.length\/l=[]:=by
 induction l with
 |nil=>exact .inr rfl
 |cons x r ih=>
  left;unfold dx
  rcases ih with ih|ih
  ·simp only[QH]
   split
   ·omega
   ·split<;>omega
  ·subst ih;split<;>simp[dx]
theorem zy (t:Tok):cy t<=100:=by
 have h:dx cU t.text<36:=by
  rcases zx cU t.text with h|h
  ·exact h
  ·simp[cU] at h
 unfold cy;split;omega;split;omega;split;omega;omega
def kt (rb gl cl:Nat) (ts:List Tok) (s:Q) (w:World) (r:Rd) (e:Ending) (w':World):Prop:=
 ∃b,e= .returned (Pq b)/\PF rb w w'/\((r.ok=true/\RR rb gl cl ts {s with i:=r.i} w'/\de r.L rb w' r.top b)\/(r.ok=false/\RR rb gl cl ts (fO ts {s with i:=r.i}) w'))
def Fa (rb gl cl:Nat) (ts:List Tok) (s:Q) (w:World) (e:Ending) (w':World):Prop:=
 ∃b,e= .returned (Pq b)/\PF rb w w'/\RR rb gl cl ts s w'
theorem Mb (L) (w:World) (t) (b) {D:Nat} (E:D<=b) (h:w.heap[b]?=some (gR t (.slice none 0 0) 0)):de (L++[⟨t,[]⟩]) D w L.length b:=by
 have e:(L++[(⟨t,[]⟩:Pt)]).getD L.length cz=⟨t,[]⟩:=by simp[Qi]
 exact .mk L.length b (.slice none 0 0) (λ_=>0) (by simp) E (by rw[e];exact h) (by rw[e];exact .inl ⟨rfl,rfl⟩) (by rw[e];intro j z;simp at z) (by rw[e];intro j z;simp at z)
theorem Dj {ts:List Tok} {w:World} (h:RR rb gl cl ts s w) (J:hY (cq ts s.i)) (z:eH (cq ts s.i)=true) (L):
 Calls prog 286 #[Pq rb] w (kt rb gl cl ts s w ⟨true,s.i+1,L++[⟨cq ts s.i,[]⟩],L.length⟩):=by
 rw[pT J] at z;have E:cy (cq ts s.i)≠0:=λe=>by rw[e] at z;exact absurd z (by decide)
 have D:=h.more E;have O:=iV h;have G:=oH (cy (cq ts s.i)) w.drew (zy _);rw[z] at G;have I:=vI h.drew D;unfold me at I;have R:=(PF.refl rb w).drew;have U:=Hi R;go_enter func286,ntmps286;go_wp2_with fail;apply O.mono;rintro e w' ⟨rfl,rfl⟩;go_wp2_with fail;apply G.mono;rintro e w' ⟨rfl,rfl⟩;go_wp2_with fail;apply I.mono;rintro e V ⟨rfl,h3,Y⟩;have Z:=Hi (U.out.trans Y);have H3:=Hi h3;go_wp2;go_ret;refine⟨V.heap.size,rfl,Z.out.alloc _,.inl ⟨rfl,H3.out.alloc _,?_⟩⟩;exact Mb L _ _ _ (TF H3.out.rlt) (Qp V _)
theorem ui {ts:List Tok} (h:RR rb gl cl ts s w) (D:mL (cy (cq ts s.i))=false):
 Calls prog 286 #[Pq rb] w λe w'=> ∃b,e= .returned (Pq b)/\PF rb w w'/\RR rb gl cl ts (fO ts s) w':=by
 have E:=iV h;have z:=oH (cy (cq ts s.i)) w.drew (zy _);rw[D] at z;have G:=Bb h.drew;have I:=(PF.refl rb w).drew;have J:=Hi I;go_enter func286,ntmps286;go_wp2_with fail;apply E.mono;rintro e w' ⟨rfl,rfl⟩;go_wp2_with fail;apply z.mono;rintro e w' ⟨rfl,rfl⟩;go_wp2_with fail;apply G.mono;rintro e U ⟨rfl,h3,O⟩;have R:=Hi (J.out.trans O);have V:=Hi h3;go_wp2;go_ret;exact⟨U.heap.size,rfl,R.out.alloc _,V.out.alloc _⟩
theorem Gv {ts:List Tok} {w:World} (h:RR rb gl cl ts s w) (D:hY (cq ts s.i)) (z:eH (cq ts s.i)=false):
 Calls prog 286 #[Pq rb] w (kt rb gl cl ts s w ⟨false,s.i,[],0⟩):=by
 rw[pT D] at z;apply(ui h z).mono;rintro e w' ⟨b,E,G,h3⟩;exact⟨b,E,G,.inr ⟨rfl,h3⟩⟩
theorem Gw {ts:List Tok} {s:Q} (z:s.bad=true) (D:s.i=ts.length - 1):fO ts s=s:=by
 unfold fO;rw[z,Qo rfl,<-D];cases s;simp at z;rw[z]
theorem Dk {ts:List Tok} (h:RR rb gl cl ts s w) (D:s.bad=true) (z:s.i=ts.length - 1):
 Calls prog 286 #[Pq rb] w (Fa rb gl cl ts s w):=by
 apply(ui h (by rw[z,h.fin];decide)).mono
 rintro e w' ⟨b,E,G,h3⟩;exact⟨b,E,G,by rw[Gw D z] at h3;exact h3⟩
def mv (n rb:Nat):Value:= .func (.func n) #[Pq rb] #[]
def uR (n:Nat):Prop:= ∀(args:Array Value) (w:World),(callFunc n args).run prog w= .ok (.enter n args) w
theorem vJ (h:RR rb gl cl ts s w) (k n m) (z:cy (cq ts s.i)=k) (E:uR n) (R:Nat->World->Prop)
 (G:Calls prog n #[Pq rb] w.drew λe w'=> ∃b,e= .returned (Pq b)/\R b w'):
 Calls prog 213 #[Pq rb,Iq k,mv n rb,mv m rb] w λe w'=> ∃b,e= .returned (Pq b)/\R b w':=by
 have D:=iV h;rw[z] at D;unfold mv;unfold uR at E;go_enter func213,ntmps213;go_wp2_with fail;apply D.mono;rintro e w' ⟨rfl,rfl⟩;go_wp2_with fail;apply G.mono;rintro e w' ⟨b,rfl,I⟩;go_wp2;go_ret;exact⟨b,rfl,I⟩
theorem pV (h:RR rb gl cl ts s w) (k n m) (z:cy (cq ts s.i)≠k) (G:uR m) (R:Nat->World->Prop)
 (I:Calls prog m #[Pq rb] w.drew λe w'=> ∃b,e= .returned (Pq b)/\R b w'):
 Calls prog 213 #[Pq rb,Iq k,mv n rb,mv m rb] w λe w'=> ∃b,e= .returned (Pq b)/\R b w':=by
 have D:=iV h;generalize cy (cq ts s.i)=kd at D z;have E: ¬((kd:Int)=(k:Int)):=by omega
 have O:((kd:Int)==(k:Int))=false:=by simpa using E
 unfold mv;unfold uR at G;go_enter func213,ntmps213;go_wp2_with fail;apply D.mono;rintro e w' ⟨rfl,rfl⟩;go_wp2_with fail;apply I.mono;rintro e w' ⟨b,rfl,J⟩;go_wp2;go_ret;exact⟨b,rfl,J⟩
def JT (w:World) (t:Tok) (D E:Nat):World:=(w.alloc (.cells #[Pq D,Pq E] 161 (0,0))).alloc (gR t (.slice (some ⟨w.heap.size,0,none⟩) 2 2) 0)
theorem Bc (h:RR rb gl cl ts s w) (hi:s.i+1<ts.length) (n V) (hn:uR n) (R:Nat->World->Prop)
 (HC:∀z,RR rb gl cl ts {s with i:=s.i+1} z->PF rb w z->Calls prog n #[Pq rb] z λe w'=> ∃b,e= .returned (Pq b)/\PF rb z w'/\R b w'):
 Calls prog 266 #[Pq rb,Pq V,mv n rb] w λe w'=> ∃b D,e= .returned (Pq (D.heap.size+1))/\R b D/\PF rb w D/\w'=JT D (cq ts s.i) V b:=by
 have HJ:Hid (∀D b,JT D (cq ts s.i) V b=(D.alloc (.cells #[Pq V,Pq b] 161 (0,0))).alloc (.cells #[Iq (cy (cq ts s.i)),Iq (cq ts s.i).pl,Iq (cV (cq ts s.i)),S (cE (cq ts s.i)),Sq D.heap.size 2 2,Iq 0] 229 (0,0))):=λ_ _=>rfl
 have HT:=vI h hi;unfold me at HT;unfold mv;unfold uR at hn;go_enter func266,ntmps266;go_wp2_with fail;apply HT.mono;rintro e z ⟨rfl,h1,F1⟩;generalize cy (cq ts s.i)=E at*;generalize (cq ts s.i).pl=G at*;generalize cV (cq ts s.i)=I at*;generalize cE (cq ts s.i)=J at*;have ad:=h1.rlt;have h2:=(h1.alloc (eB E G I J)).drew;have F2:=((F1.alloc (eB E G I J)).drew);have U:(z.alloc (eB E G I J)).drew.heap[z.heap.size]?=some (eB E G I J):=Qp z _;have Z:=HC _ h2 F2;have e1:z.heap.size≠rb:=by omega
 have aa:=be U;have O:∀w',PF rb (z.alloc (eB E G I J)).drew w'->(Cq w' z.heap.size 0 (Iq E)/\Cq w' z.heap.size 1 (Iq G)/\Cq w' z.heap.size 2 (Iq I)/\Cq w' z.heap.size 3 (S J)):=λw' hf=>
  (jB (by rw[hf.block _ aa e1];exact U)).1
 have KF:=Hi O;have H2:=Hi h2;have ab:=Hi F2;have hS:=O _ (PF.refl _ _);unfold eB at Z KF H2 ab hS aa;go_wp2;obtain⟨x0,x1,x2,x3⟩:=hS
 show Code.wp _ _ _ _ (z.alloc (.cells #[Iq E,Iq G,Iq I,S J] 160 (0,0)))
 generalize hg:z.alloc (.cells #[Iq E,Iq G,Iq I,S J] 160 (0,0))=w2 at*;generalize z.heap.size=Y at*
 go_region_held3 (λw'=>w'.cell? ⟨Y,0,none⟩=some (Iq E)/\w'.cell? ⟨Y,1,none⟩=some (Iq G)/\w'.cell? ⟨Y,2,none⟩=some (Iq I)/\w'.cell? ⟨Y,3,none⟩=some (S J)) (first|exact KF.out _ ac|go_keep) ((refine Z.mono ?_;rintro e D ⟨b,rfl,ac,hR⟩))
 rename_i hHeld
 go_wp2;go_ret;exact⟨b,D,rfl,hR,ab.out.trans ac,(HJ.out D b).symm⟩
end
variable {t E}
theorem de.lt {lt:Nat} (h:de L lt w i b):i<L.length:=h.ind (λi _=>i<L.length) λ_ _ _ _ z _ _ _ _ _ _=>z
theorem de.grow {lt} (h:de L lt w i b) (z:Below w.heap.size w w'):de L lt w' i b:=
 h.keep λk _ _ D _=>z.block k (be D)
theorem Dl (L:List Pt) (p:Pt):(L++[p]).getD L.length cz=p:=by simp[Qi]
def rT (w:World) (t:Tok) (z:List Nat):World:=(w.alloc (.cells (z.map λb=>Value.pointer (some ⟨b,0,none⟩)).toArray 161 (0,0))).alloc (gR t (.slice (some ⟨w.heap.size,0,none⟩) z.length z.length) 0)
theorem mj (w:World) (t:Tok) (z:List Nat):Below w.heap.size w (rT w t z):=
 ((Qq _ _).alloc (Qn _) _).alloc (by simp) _
theorem og (w:World) (t:Tok) (z D:Nat):JT w t z D=rT w t [z,D]:=rfl
theorem uS {L:List Pt} {w:World} (V:E<w.heap.size) (G:xs.length=z.length) (J:0<z.length) (h:∀j,j<z.length->de L E w (xs.getD j 0) (z.getD j 0)):
 de (L++[⟨t,xs⟩]) E (rT w t z) L.length (w.heap.size+1):=by
 have e:=Dl L ⟨t,xs⟩;have O:(rT w t z).heap[w.heap.size]?=some (.cells (z.map λb=>Value.pointer (some ⟨b,0,none⟩)).toArray 161 (0,0)):=by
  unfold rT;rw[Qu _ _ _ (by simp)];exact Qp w _
 have R:(rT w t z).heap[w.heap.size+1]?=some (gR t (Sq w.heap.size z.length z.length) 0):=by
  have:=Qp (w.alloc (.cells (z.map λb=>Value.pointer (some ⟨b,0,none⟩)).toArray 161 (0,0))) (gR t (Sq w.heap.size z.length z.length) 0)
  simp only[Qw] at this;exact this
 have U:(z.map λb=>Value.pointer (some ⟨b,0,none⟩))=(List.range z.length).map λj=>Value.pointer (some ⟨z.getD j 0,0,none⟩):=by
  apply S3
  ·simp
  ·intro j I Y
   simp at I;simp[Qi,Ql I]
 refine .mk L.length (w.heap.size+1) (Sq w.heap.size z.length z.length) (λj=>z.getD j 0) (by simp) (by omega) (by rw[e];exact R) ?_ ?_ ?_
 ·rw[e]
  simp only[G];refine .inr ⟨J,w.heap.size,rfl,?_⟩;rw[O,U]
 ·rw[e];intro j D
  simp only[G] at D;exact(h j D).lt
 ·rw[e];intro j D
  simp only[G] at D;exact((h j D).grow (mj w t z)).put _
section
attribute [local go_sem ↓] Go.wp_at_zero Go.wp_at_succ
variable {x r f g}
theorem JU {g z:Nat} {ts:List Tok} (h:P g z ts i L x=some r) (D:r.ok=true) (E:z<=6):∃new,r.L=L++new:=
 (yZ g z ts i L x L.length r h D (Qn _) (λk G I=>by omega) (by omega) (.inl E)).more
def fm (f R lv rb gl cl:Nat) (ts:List Tok):Prop:= ∀g,g<=f-> ∀(z:Q) (D:World) (L:List Pt) (G:Rd),RR rb gl cl ts z D->z.bad=false->P g lv ts z.i L 0=some G->Calls prog R #[Pq rb] D (kt rb gl cl ts z D G)
def eC (ks:List Nat):Obj:= .cells (ks.map λ(k:Nat)=>Value.int .i64 k).toArray 158 (0,0)
theorem oZ {w:World} {ks:List Nat} {z:Nat} (h:w.heap[z]?=some (eC ks)):∀j,j<ks.length->w.cell? ⟨z,j,none⟩=some (Iq (ks.getD j 0)):=λj D=>by
 rw[Qm w z j _ _ _ h];simp[Qi,Ql D]
def P8 (f rb gl cl:Nat) (ts:List Tok) (s:Q) (w:World) (n:Nat) (r:Rd) (v:Value) (wr:World):Prop:=
 ∃s' b,v= Pq b/\RR rb gl cl ts s' wr/\PF rb w wr/\((s'={s with i:=s'.i}/\ ∃g L x,g<=f/\P g (10+n) ts s'.i L x=some r/\de L rb wr x b)\/(r.ok=false/\s'=fO ts {s with i:=r.i}))
def Mc (rb:Nat) (w:World):Nat:=(intOf ((w.cell? ⟨rb,1,none⟩).getD (Iq 0))).toNat
theorem mM {ts:List Tok} (h:RR rb gl cl ts s w):Mc rb w=s.i:=by
 unfold Mc;rw[h.cells.1.2.1];simp[intOf]
theorem jq {ts:List Tok} {i:Nat} (h:i<ts.length):cq ts i∈ts:=by
 unfold cq;rw[Qi,Ql h];exact QD h
theorem pW {D:Nat} (h:de L D w x b) (E:∃new,z=L++new):de z D w x b:=by
 obtain⟨new,rfl⟩:=E;exact h.more (by simp) (λk G=>by simp[Qi,QT G])
def JV (rb gl cl:Nat) (ts:List Tok) (s':Q) (z:Rd) (O:Nat) (D:World):Prop:=(z.ok=true/\RR rb gl cl ts {s' with i:=z.i} D/\de z.L rb D z.top O)\/(z.ok=false/\RR rb gl cl ts (fO ts {s' with i:=z.i}) D)
theorem sY {ts:List Tok} {w:World} (h:RR rb gl cl ts s w) (hW:∀t∈ts,hY t) (J:s.bad=false) (n fn) (au:n=0\/n=1\/n=4) (hf:fm f fn (n+1) rb gl cl ts) (ah:uR fn) (jb)
 (Z:w.heap[jb]?=some (eC (jP n))) (L) (r) (hP:P (f+1) n ts s.i L 0=some r):
 Calls prog 246 #[Pq rb,mv fn rb,Sq jb (jP n).length (jP n).length] w (kt rb gl cl ts s w r):=by
 obtain⟨a,ai,aj⟩:=jN (by unfold dD;omega) hP
 have ak:=hf f (Qn _) s w L a h J ai;have av:jb≠rb:=λe=>by rw[e,h.rd] at Z;simp[mg,eC] at Z
 have aw:=be Z;have H1:=Hi aj;have ar:=ah;unfold mv;unfold uR at ar;clear hP ai aj;go_enter func246,ntmps246;go_wp2_with fail;apply ak.mono;rintro e w1 ⟨b1,rfl,F1,hL⟩;have R:P8 f rb gl cl ts s w n r (Pq b1) w1:=by
  rcases H1.out with⟨D,E⟩|⟨D,rfl⟩
  ·rcases hL with⟨_,z,hc⟩|⟨hh,_⟩
   ·exact⟨_,b1,rfl,z,F1,.inl ⟨rfl,f,a.L,a.top,Qn _,E,hc⟩⟩
   rw[D] at hh;simp at hh
  rcases hL with⟨hh,_⟩|⟨_,z⟩
  ·rw[D] at hh;simp at hh
  exact⟨_,b1,rfl,z,F1,.inr ⟨D,rfl⟩⟩
 have ax:=Hi R;clear hL ak F1 H1 R;go_wp2;have HJ:=Hi Z;have HG:=Hi J;clear Z h J;go_loopw [7] (λv wr=>P8 f rb gl cl ts s w n r v wr) (λ_ wr=>ts.length - Mc rb wr)
 case atStart=>exact ax.out
 case round=>
  obtain⟨s',b,rfl,z,U,ab⟩:=hrel;have ht:=hW _ (jq z.lt);have ac:wr.drew.heap[jb]?=some (eC (jP n)):=by show wr.heap[jb]?=_;rw[U.block _ aw av];exact HJ.out
  have am:n<=4:=by omega
  have ay:(jP n).length<=100:=by rcases au with rfl|rfl|rfl<;>decide
  have HK:=iV z;have V:=j9 (jP n) (cy (cq ts s'.i)) jb wr.drew ay (oZ ac);have G:=yx am ht;cases I:(jP n).contains (cy (cq ts s'.i)) with
  |false=>
   rw[I] at V G;have HL:Hid (kt rb gl cl ts s w r (.returned (Pq b)) wr.drew):=by
    refine⟨b,rfl,U.drew,?_⟩;rcases ab with⟨O,g,L',x,hg,E,hc⟩|⟨D,O⟩
    ·cases g with
     |zero=>rw[P] at E;simp at E
     |succ g=>
      have:=pO (by unfold dD;omega) E G
      subst this;exact .inl ⟨rfl,by rw[<-O];exact z.drew,hc.keep λk _ _ _ _=>rfl⟩
    exact .inr ⟨D,by rw[<-O];exact z.drew⟩
   clear ab I G ht ac z U;go_wp2_with fail;apply HK.mono;rintro e w' ⟨rfl,rfl⟩;go_wp2_with fail;apply V.mono;rintro e w' ⟨rfl,rfl⟩;go_wp2;go_ret;exact HL.out
  |true=>
   rw[I] at V G;have ad:cy (cq ts s'.i)≠0:=λe=>by
    rw[e,QJ] at I;have:=oX n am 0 I;omega
   have ag:=z.more ad;rcases ab with⟨O,g,L',x,hg,E,hc⟩|⟨D,O⟩
   ·cases g with
    |zero=>rw[P] at E;simp at E
    |succ g=>
     obtain⟨bb,ae,aa⟩:=oM (by unfold dD;omega) E G
     have an:s'.bad=false:=by rw[O];exact HG.out
     have af:=Bc z.drew ag fn b ah (JV rb gl cl ts s' bb) (λw1 h1 F1=>by
      apply(hf g (by omega) {s' with i:=s'.i+1} w1 L' bb h1 an ae).mono
      rintro e w2 ⟨b2,h2,h3,Y⟩;exact⟨b2,h2,h3,Y⟩)
     have HH:=Hi aa;have HP:=Hi ae;have HS:=Hi O;have az:=Hi hc;have HR:=Hi z;have HF:=Hi U;unfold mv at af;clear I G ht ac z U aa ae O hc E an ad;go_wp2_with fail;apply HK.mono;rintro e w' ⟨rfl,rfl⟩;go_wp2_with fail;apply V.mono;rintro e w' ⟨rfl,rfl⟩;go_wp2_with fail;apply af.mono;rintro e w' ⟨b2,w3,rfl,hA,F3,rfl⟩;clear HK V af;have HA:=Hi hA;have ao:=Hi F3;clear hA F3;go_wp2;have hB:=mj w3 (cq ts s'.i) [b,b2];rw[<-og] at hB;have hF:=(HF.out.drew.trans ao.out).trans (PF.of_below hB);rcases HA.out with⟨D,h3,aA⟩|⟨D,h3⟩
     ·have Y:=h3.below hB;have ap:=yZ g (n+1) ts (s'.i+1) L' 0 L'.length bb HP.out D (Qn _) (λk h1 h2=>by omega) (by omega) (.inl (by omega))
      have aC:=ap.fwd;refine⟨?_,by rw[mM Y,mM HR.out];simp only[];have:=Y.lt;simp only[] at this;omega⟩
      rcases HH.out with⟨no,_⟩|⟨_,⟨aD,_⟩|⟨_,E⟩⟩
      ·rw[D] at no;simp at no
      ·omega
      refine⟨_,_,rfl,Y,hF,.inl ⟨by rw[HS.out],g,_,_,by omega,E,?_⟩⟩
      rw[og];refine uS h3.rlt rfl (by simp) λj Z=>?_
      have aB:=pW ((az.out.pf HR.out (PF.refl rb wr).drew).pf HR.out.drew ao.out) ap.more;match j,Z with
      |0,_=>exact aB
      |1,_=>exact aA
     have Y:=h3.below hB;refine⟨?_,by rw[mM Y,mM HR.out];simp only[fO];omega⟩
     rcases HH.out with⟨_,rfl⟩|⟨aq,_⟩
     ·exact⟨_,_,rfl,Y,hF,.inr ⟨D,by rw[HS.out]⟩⟩
     rw[D] at aq;simp at aq
   exfalso;apply ad;have:s'.i=ts.length - 1:=by rw[O];rfl
   rw[this];exact z.fin
def rU (U rb gl cl:Nat) (ts:List Tok):Prop:= ∀(z:Q) (D:World),RR rb gl cl ts z D->z.bad=true->z.i=ts.length - 1->Calls prog U #[Pq rb] D (Fa rb gl cl ts z D)
theorem sZ {s:Q} (h:RR rb gl cl ts s w) (Z:s.bad=true) (O:s.i=ts.length - 1) (R) (hf:rU R rb gl cl ts) (aa:uR R) (ks) (ab:ks.length<=100) (J:0∉ks) (E)
 (G:w.heap[E]?=some (eC ks)):
 Calls prog 246 #[Pq rb,mv R rb,Sq E ks.length ks.length] w (Fa rb gl cl ts s w):=by
 have z:=hf s w h Z O;have ac:E≠rb:=λe=>by rw[e,h.rd] at G;simp[mg,eC] at G
 have ad:=be G;have U:=aa;unfold mv;unfold uR at U;have HJ:=Hi G;have HI:=Hi O;have ae:Hid (ks.contains 0=false):=by
  show _=_;rw[RU];intro e;rw[QJ] at e;exact J e
 go_enter func246,ntmps246;go_wp2_with fail;apply z.mono;rintro e V ⟨b1,rfl,Y,D⟩;have z:=Hi Y;have af:=Hi D;have HK:=iV D;have I:=j9 ks (cy (cq ts s.i)) E V.drew ab (oZ (by show V.heap[E]?=_;rw[Y.block _ ad ac];exact HJ.out))
 have hz:cy (cq ts s.i)=0:=by rw[HI.out];exact D.fin
 rw[hz] at HK I;rw[ae.out] at I;go_wp2;go_loopw [7] (λv wr=>v= Pq b1/\wr=V) (λ_ _=>0)
 case atStart=>exact⟨rfl,rfl⟩
 case round=>
  obtain⟨rfl,rfl⟩:=hrel;go_wp2_with fail;apply HK.mono;rintro e w' ⟨rfl,rfl⟩;go_wp2_with fail;apply I.mono;rintro e w' ⟨rfl,rfl⟩;go_wp2;go_ret;exact⟨b1,rfl,z.out.drew,af.out.drew⟩
theorem JW {s:Q} (h:RR rb gl cl ts s w) (Y:s.bad=true) (O:s.i=ts.length - 1) (R) (hf:rU R rb gl cl ts) (Z:uR R) (ks) (aa:ks.length<=100) (J:0∉ks) (E)
 (G:w.heap[E]?=some (eC ks)):
 Calls prog 282 #[Pq rb,mv R rb,Sq E ks.length ks.length] w (Fa rb gl cl ts s w):=by
 have z:=hf s w h Y O;have ab:E≠rb:=λe=>by rw[e,h.rd] at G;simp[mg,eC] at G
 have ac:=be G;have U:=Z;unfold mv;unfold uR at U;have HJ:=Hi G;have HI:=Hi O;have ad:Hid (ks.contains 0=false):=by
  show _=_;rw[RU];intro e;rw[QJ] at e;exact J e
 go_enter func282,ntmps282;go_wp2_with fail;apply z.mono;rintro e w1 ⟨b1,rfl,V,D⟩;have z:=Hi V;have ae:=Hi D;have HK:=iV D;have I:=j9 ks (cy (cq ts s.i)) E w1.drew aa (oZ (by show w1.heap[E]?=_;rw[V.block _ ac ab];exact HJ.out))
 have hz:cy (cq ts s.i)=0:=by rw[HI.out];exact D.fin
 rw[hz] at HK I;rw[ad.out] at I;go_wp2_with fail;apply HK.mono;rintro e w' ⟨rfl,rfl⟩;go_wp2_with fail;apply I.mono;rintro e w' ⟨rfl,rfl⟩;go_wp2;go_ret;exact⟨b1,rfl,z.out.drew,ae.out.drew⟩
theorem JX {ts:List Tok} {w:World} (h:RR rb gl cl ts s w) (hW:∀t∈ts,hY t) (O:s.bad=false) (fn) (hf:fm f fn 4 rb gl cl ts) (ag:uR fn) (jb)
 (U:w.heap[jb]?=some (eC (jP 3))) (L) (r) (hP:P (f+1) 3 ts s.i L 0=some r):
 Calls prog 282 #[Pq rb,mv fn rb,Sq jb (jP 3).length (jP 3).length] w (kt rb gl cl ts s w r):=by
 obtain⟨a,ah,ai⟩:=jN (by unfold dD;omega) hP
 have aj:=hf f (Qn _) s w L a h O ah;have ap:jb≠rb:=λe=>by rw[e,h.rd] at U;simp[mg,eC] at U
 have aq:=be U;have H1:=Hi ai;have an:=ag;unfold mv;unfold uR at an;have HJ:=Hi U;have HG:=Hi O;generalize aa:(jP 3).length=jl;have ar:=Hi aa;go_enter func282,ntmps282;go_wp2_with fail;apply aj.mono;rintro e V ⟨b1,rfl,F1,hL⟩;have R:∃s1,RR rb gl cl ts s1 V/\((s1={s with i:=a.i}/\a.ok=true/\P f 13 ts a.i a.L a.top=some r/\de a.L rb V a.top b1)\/(r.ok=false/\s1=fO ts {s with i:=r.i})):=by
  rcases H1.out with⟨z,E⟩|⟨z,rfl⟩
  ·rcases hL with⟨_,D,hc⟩|⟨hh,_⟩
   ·exact⟨_,D,.inl ⟨rfl,z,E,hc⟩⟩
   rw[z] at hh;simp at hh
  rcases hL with⟨hh,_⟩|⟨_,D⟩
  ·rw[z] at hh;simp at hh
  exact⟨_,D,.inr ⟨z,rfl⟩⟩
 obtain⟨s',D,R⟩:=R;have ht:=hW _ (jq D.lt);have ab:V.drew.heap[jb]?=some (eC (jP 3)):=by show V.heap[jb]?=_;rw[F1.block _ aq ap];exact HJ.out
 have HK:=iV D;have G:=j9 (jP 3) (cy (cq ts s'.i)) jb V.drew (by decide) (oZ ab)
 have I:=yx (n:=3) (by omega) ht
 rw[ar.out] at G;have HF:=Hi F1;cases J:(jP 3).contains (cy (cq ts s'.i)) with
 |false=>
  rw[J] at G I;have HL:Hid (kt rb gl cl ts s w r (.returned (Pq b1)) V.drew):=by
   refine⟨b1,rfl,HF.out.drew,?_⟩;rcases R with⟨Y,_,E,hc⟩|⟨z,Y⟩
   ·subst Y;cases f with
    |zero=>rw[P] at E;simp at E
    |succ g=>
     have:=pO (by unfold dD;omega) E I
     subst this;exact .inl ⟨rfl,D.drew,hc.keep λk _ _ _ _=>rfl⟩
   exact .inr ⟨z,by rw[<-Y];exact D.drew⟩
  go_wp2_with fail;apply HK.mono;rintro e w' ⟨rfl,rfl⟩;go_wp2_with fail;apply G.mono;rintro e w' ⟨rfl,rfl⟩;go_wp2;go_ret;exact HL.out
 |true=>
  rw[J] at G I;have ac:cy (cq ts s'.i)≠0:=λe=>by
   rw[e,QJ] at J;have:=oX 3 (by omega) 0 J;omega
  have af:=D.more ac;rcases R with⟨Y,_,E,hc⟩|⟨z,Y⟩
  ·cases f with
   |zero=>rw[P] at E;simp at E
   |succ g=>
    subst Y;obtain⟨bb,ad,Z⟩:=oM (by unfold dD;omega) E I
    have ae:=Bc D.drew af fn b1 ag (JV rb gl cl ts {s with i:=a.i} bb) (λw2 h1 F1=>by
     apply(hf g (by omega) {s with i:=a.i+1} w2 a.L bb h1 HG.out ad).mono
     rintro e w2 ⟨b2,h2,h3,h4⟩;exact⟨b2,h2,h3,h4⟩)
    have HH:=Hi Z;have HP:=Hi ad;have au:=Hi hc;have HR:=Hi D;unfold mv at ae;go_wp2_with fail;apply HK.mono;rintro e w' ⟨rfl,rfl⟩;go_wp2_with fail;apply G.mono;rintro e w' ⟨rfl,rfl⟩;go_wp2_with fail;apply ae.mono;rintro e w' ⟨b2,w3,rfl,hA,F3,rfl⟩;have HA:=Hi hA;have ak:=Hi F3;go_wp2;go_ret;have hB:=mj w3 (cq ts a.i) [b1,b2];rw[<-og] at hB;refine⟨_,rfl,(HF.out.drew.trans ak.out).trans (PF.of_below hB),?_⟩;rcases HA.out with⟨z,h3,av⟩|⟨z,h3⟩
    ·have h4:=h3.below hB;rcases HH.out with⟨no,_⟩|⟨_,⟨_,ao⟩|⟨no,_⟩⟩
     ·rw[z] at no;simp at no
     ·subst ao;refine .inl ⟨rfl,h4,?_⟩;rw[og];refine uS h3.rlt rfl (by simp) λj U=>?_
      have aw:=pW ((au.out.pf HR.out (PF.refl rb V).drew).pf HR.out.drew ak.out) (JU HP.out z (by omega))
      match j,U with
      |0,_=>exact aw
      |1,_=>exact av
     exact absurd rfl no
    have h4:=h3.below hB;rcases HH.out with⟨_,rfl⟩|⟨am,_⟩
    ·exact .inr ⟨z,h4⟩
    rw[z] at am;simp at am
  exfalso;apply ac;have:s'.i=ts.length - 1:=by rw[Y];rfl
  rw[this];exact D.fin
theorem vK:uR 286:=enters_of func286 (by kernel_rfl) rfl
theorem xI:uR 285:=enters_of func285 (by kernel_rfl) rfl
theorem Fb:uR 284:=enters_of func284 (by kernel_rfl) rfl
theorem Fc:uR 283:=enters_of func283 (by kernel_rfl) rfl
theorem rV:uR 279:=enters_of func279 (by kernel_rfl) rfl
theorem zz:uR 278:=enters_of func278 (by kernel_rfl) rfl
theorem Bd:uR 267:=enters_of func267 (by kernel_rfl) rfl
theorem Be:uR 247:=enters_of func247 (by kernel_rfl) rfl
theorem vL:uR 215:=enters_of func215 (by kernel_rfl) rfl
theorem Bf:uR 214:=enters_of func214 (by kernel_rfl) rfl
theorem ml {ts:List Tok} (h:RR rb gl cl ts s w) (z:s.i=ts.length - 1):cy (cq ts s.i)=0:=by rw[z];exact h.fin
theorem Md {rb gl cl:Nat} {ts:List Tok}:rU 284 rb gl cl ts:=by
 intro s w h I z;have D:=pV h 3 285 286 (by rw[ml h z];omega) vK (λb w'=>PF rb w w'/\RR rb gl cl ts s w') ((Dk h.drew I z).mono λe w' ⟨b,E,G,h3⟩=>⟨b,E,(PF.refl rb w).drew.trans G,h3⟩)
 unfold mv at D;go_enter func284,ntmps284;go_wp2_with fail;apply D.mono;rintro e w' ⟨b,rfl,E,G⟩;go_wp2;go_ret;exact⟨b,rfl,E,G⟩
theorem Me {rb gl cl:Nat} {ts:List Tok}:rU 283 rb gl cl ts:=by
 intro s w h E G;have z:(w.alloc (eC [6,7])).heap[w.heap.size]?=some (eC [6,7]):=Qp w _;have D:=sZ (h.alloc (eC [6,7])) E G 284 Md Fb [6,7] (by decide) (by decide) w.heap.size z
 unfold mv at D;have I:Hid (PF rb w (w.alloc (eC [6,7]))):=(PF.refl rb w).alloc _;go_enter func283,ntmps283;go_wp2_with fail;apply D.mono;rintro e w' ⟨b,rfl,J,O⟩;go_wp2;go_ret;exact⟨b,rfl,I.out.trans J,O⟩
theorem zA {rb gl cl:Nat} {ts:List Tok}:rU 279 rb gl cl ts:=by
 intro s w h E G;have z:(w.alloc (eC [8,10,9])).heap[w.heap.size]?=some (eC [8,10,9]):=Qp w _;have D:=JW (h.alloc (eC [8,10,9])) E G 283 Me Fc [8,10,9] (by decide) (by decide) w.heap.size z
 unfold mv at D;have I:Hid (PF rb w (w.alloc (eC [8,10,9]))):=(PF.refl rb w).alloc _;go_enter func279,ntmps279;go_wp2_with fail;apply D.mono;rintro e w' ⟨b,rfl,J,O⟩;go_wp2;go_ret;exact⟨b,rfl,I.out.trans J,O⟩
theorem JY {rb gl cl:Nat} {ts:List Tok}:rU 267 rb gl cl ts:=by
 intro s w h I z;have D:=pV h 19 278 279 (by rw[ml h z];omega) rV (λb w'=>PF rb w w'/\RR rb gl cl ts s w') ((zA s _ h.drew I z).mono λe w' ⟨b,E,G,h3⟩=>⟨b,E,(PF.refl rb w).drew.trans G,h3⟩)
 unfold mv at D;go_enter func267,ntmps267;go_wp2_with fail;apply D.mono;rintro e w' ⟨b,rfl,E,G⟩;go_wp2;go_ret;exact⟨b,rfl,E,G⟩
theorem JZ {rb gl cl:Nat} {ts:List Tok}:rU 247 rb gl cl ts:=by
 intro s w h E G;have z:(w.alloc (eC [18])).heap[w.heap.size]?=some (eC [18]):=Qp w _;have D:=sZ (h.alloc (eC [18])) E G 267 JY Bd [18] (by decide) (by decide) w.heap.size z
 unfold mv at D;have I:Hid (PF rb w (w.alloc (eC [18]))):=(PF.refl rb w).alloc _;go_enter func247,ntmps247;go_wp2_with fail;apply D.mono;rintro e w' ⟨b,rfl,J,O⟩;go_wp2;go_ret;exact⟨b,rfl,I.out.trans J,O⟩
theorem Dm {rb gl cl:Nat} {ts:List Tok}:rU 215 rb gl cl ts:=by
 intro s w h E G;have z:(w.alloc (eC [17])).heap[w.heap.size]?=some (eC [17]):=Qp w _;have D:=sZ (h.alloc (eC [17])) E G 247 JZ Be [17] (by decide) (by decide) w.heap.size z
 unfold mv at D;have I:Hid (PF rb w (w.alloc (eC [17]))):=(PF.refl rb w).alloc _;go_enter func215,ntmps215;go_wp2_with fail;apply D.mono;rintro e w' ⟨b,rfl,J,O⟩;go_wp2;go_ret;exact⟨b,rfl,I.out.trans J,O⟩
theorem qJ {rb gl cl:Nat} {ts:List Tok}:rU 152 rb gl cl ts:=by
 intro s w h I z;have D:=pV h 14 214 215 (by rw[ml h z];omega) vL (λb w'=>PF rb w w'/\RR rb gl cl ts s w') ((Dm s _ h.drew I z).mono λe w' ⟨b,E,G,h3⟩=>⟨b,E,(PF.refl rb w).drew.trans G,h3⟩)
 unfold mv at D;go_enter func152,ntmps152;go_wp2_with fail;apply D.mono;rintro e w' ⟨b,rfl,E,G⟩;go_wp2;go_ret;exact⟨b,rfl,E,G⟩
theorem mn (h:RR rb gl cl ts s w) (ks:List Nat) (O:ks.length<=100) (R:0∉ks):
 Calls prog 151 #[Pq rb,Sq w.heap.size ks.length ks.length] (w.alloc (eC ks)) λe w'=>e= .returned (oW ts s ks)/\RR rb gl cl ts (nD ts s ks) w'/\PF rb w w':=
 (JN (h.alloc (eC ks)) ks w.heap.size O R (oZ (Qp w _))).mono λe w' ⟨U,V,h3⟩=>⟨U,V,((PF.refl rb w).alloc _).trans h3⟩
theorem lU {ts:List Tok} {s:Q} {ks:List Nat} (h:ks.contains (cy (cq ts s.i))=true):nD ts s ks={s with i:=s.i+1}:=by unfold nD;rw[Qo h]
theorem nG {ts:List Tok} {s:Q} {ks:List Nat} (h:ks.contains (cy (cq ts s.i))=false):nD ts s ks=fO ts s:=by unfold nD;rw[h];rfl
theorem o8 (ts:List Tok) (s:Q):fO ts (fO ts s)=fO ts s:=by unfold fO;simp
theorem fB (k x:Nat):[k].contains x=decide (x=k):=by
 rw[RE,QJ];simp
theorem xJ {ts:List Tok} (hf:fm f 152 6 rb gl cl ts) (h:RR rb gl cl ts s w) (hW:∀t∈ts,hY t) (E:s.bad=false) (hk:cy (cq ts s.i)=3) (hg:g<=f) (V:P g 6 ts (s.i+1) L 0=some a)
 (J:(a.ok=true/\eJ (cq ts a.i) [41]=true/\r={a with i:=a.i+1})\/(¬(a.ok=true/\eJ (cq ts a.i) [41]=true)/\r.ok=false/\r.i=a.i)):
 Calls prog 285 #[Pq rb] w (kt rb gl cl ts s w r):=by
 have O:=mn h [3] (by decide) (by decide)
 rw[lU (by rw[fB,hk];rfl)] at O
 have HR:=Hi J;have HP:=Hi V;have HG:=Hi E;generalize oW ts s [3]=wv at*;go_enter func285,ntmps285;go_wp2_with fail;apply O.mono;rintro e w1 ⟨rfl,h1,F1⟩;go_wp2_with fail;apply(hf g hg _ w1 L a h1 HG.out HP.out).mono;rintro e w2 ⟨b,rfl,F2,hL⟩;have G:∃D,RR rb gl cl ts D w2/\((a.ok=true/\D={s with i:=a.i}/\de a.L rb w2 a.top b)\/(a.ok=false/\D=fO ts {s with i:=a.i})):=by
  rcases hL with⟨z,J,U⟩|⟨z,J⟩
  ·exact⟨_,J,.inl ⟨z,rfl,U⟩⟩
  ·exact⟨_,J,.inr ⟨z,rfl⟩⟩
 obtain⟨D,h2,G⟩:=G;have Y:=mn h2 [4] (by decide) (by decide)
 have hQ:Hid (nD ts D [4]=nD ts D [4]):=rfl;have aa:=Hi (F1.trans F2);have ab:=Hi G;have H2:=Hi h2;generalize oW ts D [4]=ae at*;go_wp2_with fail;apply Y.mono;rintro e w3 ⟨rfl,h3,F3⟩;go_wp2;go_ret;refine⟨b,rfl,aa.out.trans F3,?_⟩;have ht:=hW _ (jq H2.out.lt);have I:=rS ht (x:=[41]) (by decide)
 rw[show kn [41]=4 from by decide] at I
 rcases ab.out with⟨z,rfl,U⟩|⟨z,rfl⟩
 ·simp only[] at I h3 U ht
  rcases HR.out with⟨_,hw,rfl⟩|⟨ac,R,ri⟩
  ·rw[lU (by rw[fB];simpa using I.1 hw)] at h3
   exact .inl ⟨z,h3,U.pf H2.out F3⟩
  ·have ad: ¬eJ (cq ts a.i) [41]=true:=λe=>ac ⟨z,e⟩
   rw[nG (by rw[fB];simpa using λe=>ad (I.2 e))] at h3
   exact .inr ⟨R,by rw[ri];exact h3⟩
 ·rcases HR.out with⟨Z,_⟩|⟨_,R,ri⟩
  ·rw[z] at Z;simp at Z
  ·rw[nG (by rw[fB,ml H2.out rfl];rfl),o8] at h3
   exact .inr ⟨R,by rw[ri];exact h3⟩
theorem xK (h:RR rb gl cl ts s w) (hk:cy (cq ts s.i)=19) (R:Nat->World->Prop)
 (HC:∀z,RR rb gl cl ts {s with i:=s.i+1} z->PF rb w z->Calls prog 267 #[Pq rb] z λe w'=> ∃b,e= .returned (Pq b)/\PF rb z w'/\R b w'):
 Calls prog 278 #[Pq rb] w λe w'=> ∃b D,e= .returned (Pq (D.heap.size+1))/\R b D/\PF rb w D/\w'=rT D (cq ts s.i) [b]:=by
 have HJ:Hid (∀D b,rT D (cq ts s.i) [b]=(D.alloc (.cells #[Pq b] 161 (0,0))).alloc (.cells #[Iq (cy (cq ts s.i)),Iq (cq ts s.i).pl,Iq (cV (cq ts s.i)),S (cE (cq ts s.i)),Sq D.heap.size 1 1,Iq 0] 229 (0,0))):=λ_ _=>rfl
 have U:=mn h [19] (by decide) (by decide)
 have V:[19].contains (cy (cq ts s.i))=true:=by rw[fB,hk];rfl
 rw[lU V] at U;unfold oW at U;rw[Qo V] at U;unfold me at U;clear V hk;go_enter func278,ntmps278;go_wp2_with fail;apply U.mono;rintro e z ⟨rfl,h1,F1⟩;clear U;generalize cy (cq ts s.i)=E at*;generalize (cq ts s.i).pl=G at*;generalize cV (cq ts s.i)=I at*;generalize cE (cq ts s.i)=J at*;have ae:=h1.rlt;have h2:=(h1.alloc (eB E G I J)).drew;have F2:=((F1.alloc (eB E G I J)).drew);have Y:(z.alloc (eB E G I J)).drew.heap[z.heap.size]?=some (eB E G I J):=Qp z _;have aa:=HC _ h2 F2;have e1:z.heap.size≠rb:=by omega
 have ab:=be Y;have O:∀w',PF rb (z.alloc (eB E G I J)).drew w'->(Cq w' z.heap.size 0 (Iq E)/\Cq w' z.heap.size 1 (Iq G)/\Cq w' z.heap.size 2 (Iq I)/\Cq w' z.heap.size 3 (S J)):=λw' hf=>
  (jB (by rw[hf.block _ ab e1];exact Y)).1
 have KF:=Hi O;have H2:=Hi h2;have ac:=Hi F2;have hS:=O _ (PF.refl _ _);clear HC h1 F1 h2 F2 Y O h;unfold eB at aa KF H2 ac hS ab;go_wp2;obtain⟨x0,x1,x2,x3⟩:=hS
 show Code.wp _ _ _ _ (z.alloc (.cells #[Iq E,Iq G,Iq I,S J] 160 (0,0)))
 generalize hg:z.alloc (.cells #[Iq E,Iq G,Iq I,S J] 160 (0,0))=w2 at*;generalize z.heap.size=Z at*;clear hg ae
 go_region_held3 (λw'=>w'.cell? ⟨Z,0,none⟩=some (Iq E)/\w'.cell? ⟨Z,1,none⟩=some (Iq G)/\w'.cell? ⟨Z,2,none⟩=some (Iq I)/\w'.cell? ⟨Z,3,none⟩=some (S J)) (first|exact KF.out _ ad|go_keep) ((refine aa.mono ?_;rintro e D ⟨b,rfl,ad,hR⟩))
 rename_i hHeld
 clear hHeld;go_wp2;go_ret;exact⟨b,D,rfl,hR,ac.out.trans ad,(HJ.out D b).symm⟩
end
variable {c f x D}
def qK (rb gl cl:Nat) (ts:List Tok) (s:Q) (r:Rd) (b:Nat) (w':World):Prop:=(r.ok=true/\RR rb gl cl ts {s with i:=r.i} w'/\de r.L rb w' r.top b)\/(r.ok=false/\RR rb gl cl ts (fO ts {s with i:=r.i}) w')
def P9 (ts:List Tok) (s:Q) (f:Nat) (c a:Rd) (D:Q):Prop:=(D={s with i:=a.i+1}/\a.ok=true/\P f 6 ts (a.i+1) a.L 0=some c)\/(c.ok=false/\D=fO ts {s with i:=c.i})
theorem yz {rb gl cl:Nat} (h:qK rb gl cl ts s a b w) (hW:∀t∈ts,hY t) (z:Nx f ts a c x) (J:x∈cU.drop 3):
 ∃O,RR rb gl cl ts O w/\P9 ts s f c a (nD ts O [kn x]):=by
 unfold Nx at z;rcases h with⟨G,D,V⟩|⟨G,D⟩
 ·refine⟨_,D,?_⟩
  have U:=hW _ (jq D.lt);have E:=rS U J;simp only[] at E
  by_cases I:eJ (cq ts a.i) x=true
  ·rw[Qo ⟨G,I⟩] at z
   exact .inl ⟨lU (by rw[fB];simpa using E.1 I),G,z⟩
  ·rw[Qj (λe=>I e.2)] at z
   exact .inr ⟨z.1,by rw[z.2];exact nG (by rw[fB];simpa using λe=>I (E.2 e))⟩
 ·rw[Qj (λe=>by rw[G] at e;simp at e)] at z
  refine⟨_,D,.inr ⟨z.1,?_⟩⟩;have:=lT x J;have R: ¬(0=kn x):=by unfold kn;omega
  rw[nG (by rw[fB,ml D rfl];simpa using R),o8,z.2]
theorem yA {f rb gl cl:Nat} {ts:List Tok} (E:fm f 152 6 rb gl cl ts) (z:s.bad=false) (h:RR rb gl cl ts D w) (G:P9 ts s f c a D):
 Calls prog 152 #[Pq rb] w λe w'=> ∃b,e= .returned (Pq b)/\PF rb w w'/\qK rb gl cl ts s c b w':=by
 rcases G with⟨rfl,_,I⟩|⟨J,rfl⟩
 ·exact E f (Qn _) {s with i:=a.i+1} w a.L c h z I
 ·refine(qJ _ w h rfl rfl).mono ?_
  rintro e w' ⟨b,O,R,h3⟩;exact⟨b,O,R,.inr ⟨J,h3⟩⟩
section
attribute [local go_sem ↓] Go.wp_at_zero Go.wp_at_succ
variable {r}
theorem Bg (hf:fm f 152 6 rb gl cl ts) (h:RR rb gl cl ts s w) (hW:∀t∈ts,hY t) (aa:s.bad=false) (hk:cy (cq ts s.i)=14) (an:P f 6 ts (s.i+1) L 0=some a)
 (ao:Nx f ts a b lC) (ap:Nx f ts b c lD) (aq:r.ok=c.ok) (ar:r.i=c.i) (au:c.ok=true->a.ok=true/\b.ok=true/\r=mT c (cq ts s.i) [a.top,b.top,c.top]):
 Calls prog 214 #[Pq rb] w (kt rb gl cl ts s w r):=by
 have HJ:Hid (∀Y b1 b2 b3,rT Y (cq ts s.i) [b1,b2,b3]=(Y.alloc (.cells #[Pq b1,Pq b2,Pq b3] 161 (0,0))).alloc (.cells #[Iq (cy (cq ts s.i)),Iq (cq ts s.i).pl,Iq (cV (cq ts s.i)),S (cE (cq ts s.i)),Sq Y.heap.size 3 3,Iq 0] 229 (0,0))):=λ_ _ _ _=>rfl
 have Z:=mn h [14] (by decide) (by decide)
 have ad:[14].contains (cy (cq ts s.i))=true:=by rw[fB,hk];rfl
 rw[lU ad] at Z;unfold oW at Z;rw[Qo ad] at Z;unfold me at Z;have HG:=Hi aa;have aI:=Hi an;have av:=Hi ao;have ae:=Hi ap;have aJ:=Hi aq;have aK:=Hi ar;have aw:=Hi au;have HW:=Hi hW;generalize aL:cq ts s.i=t0 at HJ Z aw;generalize aM:cy t0=D at*;generalize aN:t0.pl=E at*;generalize aO:cV t0=G at*;generalize aP:cE t0=I at*;go_enter func214,ntmps214;go_wp2_with fail;apply Z.mono;rintro e J ⟨rfl,h1,F1⟩;have a0:=h1.rlt;have h2:=h1.alloc (eB D E G I);have F2:=F1.alloc (eB D E G I);have ab:(J.alloc (eB D E G I)).heap[J.heap.size]?=some (eB D E G I):=Qp J _;have e1:J.heap.size≠rb:=by omega
 unfold eB at h2 F2 ab;go_wp2_with fail
 show Calls _ _ _ (J.alloc (.cells #[Iq D,Iq E,Iq G,S I] 160 (0,0))) _
 have ax:=be ab;generalize J.alloc (.cells #[Iq D,Iq E,Iq G,S I] 160 (0,0))=w2 at*;generalize J.heap.size=O at*;apply(hf f (Qn _) {s with i:=s.i+1} w2 L a h2 HG.out aI.out).mono;rintro e Y ⟨ba,rfl,F3,V⟩;have V:=V;obtain⟨s3,h3,af⟩:=yz V HW.out av.out (by decide)
 rw[show kn lC=15 from by decide] at af
 have ay:=mn h3 [15] (by decide) (by decide)
 have aQ:=Hi V;have aR:=Hi af;generalize oW ts s3 [15]=a8 at*;go_wp2_with fail;apply ay.mono;rintro e w4 ⟨rfl,h4,F4⟩;go_wp2_with fail;apply(yA hf HG.out h4 aR.out).mono;rintro e w5 ⟨bb,rfl,F5,ag⟩;obtain⟨s5,h5,ah⟩:=yz ag HW.out ae.out (by decide)
 rw[show kn lD=16 from by decide] at ah
 have az:=mn h5 [16] (by decide) (by decide)
 have aS:=Hi ag;have aT:=Hi ah;have ai:=F4.trans F5;generalize oW ts s5 [16]=a9 at*;go_wp2_with fail;apply az.mono;rintro e w6 ⟨rfl,h6,F6⟩;have aA:=yA hf HG.out h6.drew aT.out;have aj:=((F3.trans ai).trans F6).drew;have aB:=F6.drew;have aC:=(ai.trans F6).drew;have ak:w6.drew.heap[O]?=some (.cells #[Iq D,Iq E,Iq G,S I] 160 (0,0)):=by rw[aj.block _ ax e1];exact ab
 have aU:=be ak;have R:∀w',PF rb w6.drew w'->(Cq w' O 0 (Iq D)/\Cq w' O 1 (Iq E)/\Cq w' O 2 (Iq G)/\Cq w' O 3 (S I)):=λw' hf=>
  (jB (by rw[hf.block _ aU e1];exact ak)).1
 have KF:=Hi R;have hS:=R _ (PF.refl _ _);obtain⟨x0,x1,x2,x3⟩:=hS;have aF:=Hi (F2.trans aj);have aG:=Hi aC;have aH:=Hi aB;go_wp2_with fail
 go_region_held3 (λw'=>w'.cell? ⟨O,0,none⟩=some (Iq D)/\w'.cell? ⟨O,1,none⟩=some (Iq E)/\w'.cell? ⟨O,2,none⟩=some (Iq G)/\w'.cell? ⟨O,3,none⟩=some (S I)) (first|exact KF.out _ ac|go_keep) ((refine aA.mono ?_;rintro e w7 ⟨bc,rfl,ac,aD⟩))
 rename_i hHeld
 have aV:=Hi aD;go_wp2;go_ret;have hE:=HJ.out w7 ba bb bc;have hB:=mj w7 t0 [ba,bb,bc];have am:=(aF.out.trans ac).trans (PF.of_below hB);rw[hE] at hB am;refine⟨w7.heap.size+1,rfl,am,?_⟩;have z:∀{p q:Rd} {x:List UInt8},Nx f ts p q x->q.ok=true-> ∃new,q.L=p.L++new:=λ{p q x} hN U=>by
  unfold Nx at hN
  by_cases hc:p.ok=true/\eJ (cq ts p.i) x=true
  ·rw[Qo hc] at hN;exact JU hN U (by omega)
  ·rw[Qj hc] at hN;rw[hN.1] at U;simp at U
 rcases aV.out with⟨U,h7,aW⟩|⟨U,h7⟩
 ·obtain⟨aX,aE,rfl⟩:=aw.out U
  refine .inl ⟨rfl,h7.below hB,?_⟩;rw[<-hE];rcases aQ.out with⟨_,ha,aY⟩|⟨no,_⟩
  ·rcases aS.out with⟨_,hb,aZ⟩|⟨no,_⟩
   ·refine uS h7.rlt rfl (by simp) λj hj=>?_
    match j,hj with
    |0,_=>exact pW (pW (aY.pf ha (aG.out.trans ac)) (z av.out aE)) (z ae.out U)
    |1,_=>exact pW (aZ.pf hb (aH.out.trans ac)) (z ae.out U)
    |2,_=>exact aW
   ·rw[aE] at no;simp at no
  ·rw[aX] at no;simp at no
 ·exact .inr ⟨by rw[aJ.out];exact U,by rw[aK.out];exact h7.below hB⟩
theorem J0 {ts:List Tok} (G:fm f 284 5 rb gl cl ts) (hW:∀t∈ts,hY t) (h:RR rb gl cl ts s w) (z:s.bad=false) (I:P (f+1) 4 ts s.i L 0=some r):
 Calls prog 283 #[Pq rb] w (kt rb gl cl ts s w r):=by
 have D:(w.alloc (eC [6,7])).heap[w.heap.size]?=some (eC [6,7]):=Qp w _;have E:=sY (h.alloc (eC [6,7])) hW z 4 284 (by omega) G Fb w.heap.size D L r I
 unfold mv at E;have J:Hid (PF rb w (w.alloc (eC [6,7]))):=(PF.refl rb w).alloc _;go_enter func283,ntmps283;go_wp2_with fail;apply E.mono;rintro e w' ⟨b,rfl,O,R⟩;go_wp2;go_ret;exact⟨b,rfl,J.out.trans O,R⟩
theorem xL {ts:List Tok} (G:fm f 283 4 rb gl cl ts) (hW:∀t∈ts,hY t) (h:RR rb gl cl ts s w) (z:s.bad=false) (I:P (f+1) 3 ts s.i L 0=some r):
 Calls prog 279 #[Pq rb] w (kt rb gl cl ts s w r):=by
 have D:(w.alloc (eC [8,10,9])).heap[w.heap.size]?=some (eC [8,10,9]):=Qp w _;have E:=JX (h.alloc (eC [8,10,9])) hW z 283 G Fc w.heap.size D L r I;unfold mv at E;have J:Hid (PF rb w (w.alloc (eC [8,10,9]))):=(PF.refl rb w).alloc _;go_enter func279,ntmps279;go_wp2_with fail;apply E.mono;rintro e w' ⟨b,rfl,O,R⟩;go_wp2;go_ret;exact⟨b,rfl,J.out.trans O,R⟩
theorem Gy {ts:List Tok} (G:fm f 267 2 rb gl cl ts) (hW:∀t∈ts,hY t) (h:RR rb gl cl ts s w) (z:s.bad=false) (I:P (f+1) 1 ts s.i L 0=some r):
 Calls prog 247 #[Pq rb] w (kt rb gl cl ts s w r):=by
 have D:(w.alloc (eC [18])).heap[w.heap.size]?=some (eC [18]):=Qp w _;have E:=sY (h.alloc (eC [18])) hW z 1 267 (by omega) G Bd w.heap.size D L r I
 unfold mv at E;have J:Hid (PF rb w (w.alloc (eC [18]))):=(PF.refl rb w).alloc _;go_enter func247,ntmps247;go_wp2_with fail;apply E.mono;rintro e w' ⟨b,rfl,O,R⟩;go_wp2;go_ret;exact⟨b,rfl,J.out.trans O,R⟩
theorem Bh {ts:List Tok} (G:fm f 247 1 rb gl cl ts) (hW:∀t∈ts,hY t) (h:RR rb gl cl ts s w) (z:s.bad=false) (I:P (f+1) 0 ts s.i L 0=some r):
 Calls prog 215 #[Pq rb] w (kt rb gl cl ts s w r):=by
 have D:(w.alloc (eC [17])).heap[w.heap.size]?=some (eC [17]):=Qp w _;have E:=sY (h.alloc (eC [17])) hW z 0 247 (by omega) G Be w.heap.size D L r I
 unfold mv at E;have J:Hid (PF rb w (w.alloc (eC [17]))):=(PF.refl rb w).alloc _;go_enter func215,ntmps215;go_wp2_with fail;apply E.mono;rintro e w' ⟨b,rfl,O,R⟩;go_wp2;go_ret;exact⟨b,rfl,J.out.trans O,R⟩
theorem Bi {rb:Nat} {w:World} {R:Nat->World->Prop} (z:Calls prog 213 #[Pq rb,Iq 3,mv 285 rb,mv 286 rb] w λe w'=> ∃b,e= .returned (Pq b)/\R b w'):
 Calls prog 284 #[Pq rb] w λe w'=> ∃b,e= .returned (Pq b)/\R b w':=by
 unfold mv at z;go_enter func284,ntmps284;go_wp2_with fail;apply z.mono;rintro e w' ⟨b,rfl,D⟩;go_wp2;go_ret;exact⟨b,rfl,D⟩
theorem yB {rb:Nat} {w:World} {R:Nat->World->Prop} (z:Calls prog 213 #[Pq rb,Iq 19,mv 278 rb,mv 279 rb] w λe w'=> ∃b,e= .returned (Pq b)/\R b w'):
 Calls prog 267 #[Pq rb] w λe w'=> ∃b,e= .returned (Pq b)/\R b w':=by
 unfold mv at z;go_enter func267,ntmps267;go_wp2_with fail;apply z.mono;rintro e w' ⟨b,rfl,D⟩;go_wp2;go_ret;exact⟨b,rfl,D⟩
theorem o9 {rb:Nat} {w:World} {R:Nat->World->Prop} (z:Calls prog 213 #[Pq rb,Iq 14,mv 214 rb,mv 215 rb] w λe w'=> ∃b,e= .returned (Pq b)/\R b w'):
 Calls prog 152 #[Pq rb] w λe w'=> ∃b,e= .returned (Pq b)/\R b w':=by
 unfold mv at z;go_enter func152,ntmps152;go_wp2_with fail;apply z.mono;rintro e w' ⟨b,rfl,D⟩;go_wp2;go_ret;exact⟨b,rfl,D⟩
end
variable {r j}
theorem yC {rb gl cl:Nat} {s:Q} {e:Ending} (h:kt rb gl cl ts s w.drew r e w'):∃b,e= .returned (Pq b)/\(PF rb w w'/\qK rb gl cl ts s r b w'):=by
 obtain⟨b,z,D,h3⟩:=h;exact⟨b,z,(PF.refl rb w).drew.trans D,h3⟩
theorem zB {ts:List Tok} {t:Tok} (z:hY t) {x:LB} (D:x∈cU.drop 3) (E:kn x=k) (h:eJ t x=true):cy t=k:=by rw[<-E];exact(rS z D).1 h
theorem tf {ts:List Tok} {t:Tok} (z:hY t) {x:LB} (D:x∈cU.drop 3) (E:kn x=k) (h: ¬eJ t x=true):cy t≠k:=by rw[<-E];exact λe=>h ((rS z D).2 e)
theorem Gz {ts:List Tok} (U:fm f 152 6 rb gl cl ts) (hW:∀t∈ts,hY t) (h:RR rb gl cl ts s w) (D:s.bad=false) (O:P (f+1) 5 ts s.i L 0=some r):
 Calls prog 284 #[Pq rb] w (kt rb gl cl ts s w r):=by
 have E:=hW _ (jq h.lt);by_cases G:eJ (cq ts s.i) [40]=true
 ·have I:=zB (ts:=ts) E (x:=[40]) (by decide) (k:=3) (by decide) G
  obtain⟨a,R,V⟩:=ns O G;exact Bi (vJ h 3 _ _ I xI (λb w'=>PF rb w w'/\qK rb gl cl ts s r b w') ((xJ U h.drew hW D I (Qn _) R V).mono λe w' z=>yC z))
 have I:=tf (ts:=ts) E (x:=[40]) (by decide) (k:=3) (by decide) G
 refine Bi (pV h 3 _ _ I vK (λb w'=>PF rb w w'/\qK rb gl cl ts s r b w') ?_)
 rcases lQ O G with⟨J,rfl⟩|⟨J,rfl⟩
 ·exact(Dj h.drew E J L).mono λe w' z=>yC z
 exact(Gv h.drew E J).mono λe w' z=>yC z
theorem GA (Z:fm f 267 2 rb gl cl ts) (O:fm f 279 3 rb gl cl ts) (hW:∀t∈ts,hY t) (h:RR rb gl cl ts s w) (z:s.bad=false) (R:P (f+1) 2 ts s.i L 0=some r):
 Calls prog 267 #[Pq rb] w (kt rb gl cl ts s w r):=by
 have U:=hW _ (jq h.lt);by_cases D:eJ (cq ts s.i) km=true
 ·have E:=zB (ts:=ts) U (x:=km) (by decide) (k:=19) (by decide) D
  obtain⟨a,V,Y,hi,G⟩:=pN R D;refine yB (vJ h 19 _ _ E zz (λb w'=>PF rb w w'/\qK rb gl cl ts s r b w') ?_)
  apply(xK h.drew E (qK rb gl cl ts s a) (λw1 h1 F1=>Z f (Qn _) {s with i:=s.i+1} w1 L a h1 z V)).mono
  rintro e w' ⟨b,w3,rfl,hL,F3,rfl⟩;have I:=mj w3 (cq ts s.i) [b];refine⟨_,rfl,((PF.refl rb w).drew.trans F3).trans (PF.of_below I),?_⟩;rcases hL with⟨J,h3,hc⟩|⟨J,h3⟩
  ·have e:=G J;subst e;refine .inl ⟨rfl,h3.below I,?_⟩;refine uS h3.rlt rfl (by simp) λj hj=>?_
   match j,hj with
   |0,_=>exact hc
  exact .inr ⟨by rw[Y];exact J,by rw[hi];exact h3.below I⟩
 have E:=tf (ts:=ts) U (x:=km) (by decide) (k:=19) (by decide) D
 exact yB (pV h 19 _ _ E rV (λb w'=>PF rb w w'/\qK rb gl cl ts s r b w') ((O f (Qn _) s _ L r h.drew z (qV R D)).mono λe w' hl=>yC hl))
theorem uD (hf:fm f 152 6 rb gl cl ts) (I:fm f 215 0 rb gl cl ts) (hW:∀t∈ts,hY t) (h:RR rb gl cl ts s w) (z:s.bad=false) (J:P (f+1) 6 ts s.i L 0=some r):
 Calls prog 152 #[Pq rb] w (kt rb gl cl ts s w r):=by
 have O:=hW _ (jq h.lt);by_cases D:eJ (cq ts s.i) oI=true
 ·have E:=zB (ts:=ts) O (x:=oI) (by decide) (k:=14) (by decide) D
  obtain⟨a,b,c,R,U,V,Y,Z,aa⟩:=nr J D;exact o9 (vJ h 14 _ _ E Bf (λb w'=>PF rb w w'/\qK rb gl cl ts s r b w') ((Bg hf h.drew hW z E R U V Y Z aa).mono λe w' G=>yC G))
 have E:=tf (ts:=ts) O (x:=oI) (by decide) (k:=14) (by decide) D
 exact o9 (pV h 14 _ _ E vL (λb w'=>PF rb w w'/\qK rb gl cl ts s r b w') ((I f (Qn _) s _ L r h.drew z (qW J D)).mono λe w' G=>yC G))
theorem Pb {rb gl cl:Nat} {ts:List Tok} (hW:∀t∈ts,hY t) (f:Nat):
 fm f 152 6 rb gl cl ts/\fm f 215 0 rb gl cl ts/\fm f 247 1 rb gl cl ts/\fm f 267 2 rb gl cl ts/\fm f 279 3 rb gl cl ts/\fm f 283 4 rb gl cl ts/\fm f 284 5 rb gl cl ts:=by
 induction f with
 |zero=>
  have E:∀G lv,fm 0 G lv rb gl cl ts:=λG lv g Y s w L r _ _ z=>by
   obtain rfl:g=0:=by omega
   rw[P] at z;simp at z
  exact⟨E _ _,E _ _,E _ _,E _ _,E _ _,E _ _,E _ _⟩
 |succ f ih=>
  obtain⟨c6,c0,c1,c2,c3,c4,c5⟩:=ih;have up:∀{G lv},fm f G lv rb gl cl ts->(∀I J L O,RR rb gl cl ts I J->I.bad=false->P (f+1) lv ts I.i L 0=some O->Calls prog G #[Pq rb] J (kt rb gl cl ts I J O))->fm (f+1) G lv rb gl cl ts:=λ{G lv} Z h2 g Y s w L r R D z=>by
   by_cases e:g=f+1
   ·subst e;exact h2 s w L r R D z
   exact Z g (by omega) s w L r R D z
  exact⟨up c6 λs w L r h D z=>uD c6 c0 hW h D z,up c0 λs w L r h D z=>Bh c1 hW h D z,up c1 λs w L r h D z=>Gy c2 hW h D z,up c2 λs w L r h D z=>GA c2 c3 hW h D z,up c3 λs w L r h D z=>xL c4 hW h D z,up c4 λs w L r h D z=>J0 c5 hW h D z,up c5 λs w L r h D z=>Gz c6 hW h D z⟩
def Bj (ts:List Tok) (s:Q) (G:Bool) (j:Nat):Q:=if G then{s with i:=j} else fO ts {s with i:=j}
theorem Dn (ts:List Tok) (s:Q) (j:Nat):Bj ts s true j={s with i:=j}:=rfl
theorem Dp (ts:List Tok) (s:Q) (j:Nat):Bj ts s false j=fO ts {s with i:=j}:=rfl
def kA (ts:List Tok) (ks:List Nat) (j:Nat):Bool:=ks.contains (cy (cq ts j))
def qL (b:Bool) (j:Nat):Nat:=if b then j+1 else j
theorem GB (h:RR rb gl cl ts (Bj ts s z j) w) (ks:List Nat) (E:0∉ks):
 nD ts (Bj ts s z j) ks=Bj ts s (z&&kA ts ks j) (qL (z&&kA ts ks j) j):=by
 cases z with
 |true=>
  rw[SA,Dn] at*
  cases D:kA ts ks j with
  |true=>rw[lU (by exact D)];rfl
  |false=>rw[nG (by exact D)];rfl
 |false=>
  rw[SZ,Dp] at*;rw[nG (by
   rw[ml h rfl,RU];intro e;rw[QJ] at e;exact E e),o8]
  rfl
def rW (ts:List Tok) (J:Bool) (j:Nat) (ks:List Nat):Value:=if J&&kA ts ks j then me (cq ts j) (cq ts j).pl else .agg #[Iq 0,Iq 0,Iq 0,S []]
theorem GC (h:RR rb gl cl ts (Bj ts s z j) w) (ks:List Nat) (D:0∉ks):
 oW ts (Bj ts s z j) ks=rW ts z j ks:=by
 unfold oW rW
 cases z with
 |true=>rw[SA,Dn];rfl
 |false=>
  rw[Dp] at*;rw[Qj (by rw[ml h rfl];intro e;rw[QJ] at e;exact D e)]
  simp
theorem mo (h:RR rb gl cl ts (Bj ts s z j) w) (ks:List Nat) (E:ks.length<=100) (D:0∉ks):
 Calls prog 151 #[Pq rb,Sq w.heap.size ks.length ks.length] (w.alloc (eC ks)) λe w'=>e= .returned (rW ts z j ks)/\RR rb gl cl ts (Bj ts s (z&&kA ts ks j) (qL (z&&kA ts ks j) j)) w'/\PF rb w w':=by
 rw[<-GC h ks D,<-GB h ks D];exact mn h ks E D
theorem Bk (R:fm f 152 6 rb gl cl ts) (D:s.bad=false) (h:RR rb gl cl ts (Bj ts s z j) w) (U:z=true->P f 6 ts j L 0=some a):
 Calls prog 152 #[Pq rb] w λe w'=> ∃b,e= .returned (Pq b)/\PF rb w w'/\RR rb gl cl ts (Bj ts s (z&&a.ok) (if z then a.i else j)) w'/\((z&&a.ok)=true->de a.L rb w' a.top b):=by
 cases z with
 |true=>
  rw[Dn] at h;apply(R f (Qn _) _ w L a h D (U rfl)).mono;rintro e w' ⟨b,G,I,h3⟩;refine⟨b,G,I,?_⟩;rcases h3 with⟨z,h3,V⟩|⟨z,h3⟩
  ·rw[z];exact⟨h3,λ_=>V⟩
  ·rw[z];exact⟨h3,λe=>by simp at e⟩
 |false=>
  rw[Dp] at h;apply(qJ _ w h rfl rfl).mono;rintro e w' ⟨b,G,I,h3⟩;exact⟨b,G,I,h3,λe=>by simp at e⟩
end Go.Proofs.YtfkdailfcmnjlaaGreatDoor
