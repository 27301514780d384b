/-
  A part.
-/
import Derived.Test.YtfkdailfcmnjlaaGreatDoorAll27
set_option linter.all false
set_option maxHeartbeats 40000000
set_option maxRecDepth 1000000
namespace Go.Proofs.YtfkdailfcmnjlaaGreatDoor
open Go Go.RowKit Tryz
section
attribute [local go_sem ↓] Go.wp_at_zero Go.wp_at_succ
variable {w A n D E G z I k x q i v0 v2 base wr a pre v J w4 R U b p cs ty l t vs fl s w' s' O pl r}
def mC (ins:List ek):(Nat->Int)×(Nat->Int)×(Nat->Int):=(λi=>((ins.getD i cH).op:Nat),λi=>(ins.getD i cH).n,λi=>((ins.getD i cH).pl:Nat))
def Ca (w:World) (A:Nat) (ins:List ek) (k:Nat):Prop:=uJ w A ins.length (mC ins).1 (mC ins).2.1 (λi=>if i<k then jJ ins (ins.getD i cH) else 0) (mC ins).2.2
theorem uJ.put (h:uJ w A n D E G I) (R:k<n) (J:z k=x) (O:∀i,i<n->i≠k->z i=G i):uJ (w.setCell ⟨A,k*4+2,none⟩ (Iq x)) A n D E z I:=by
 refine⟨λi q=>?_,λi q=>?_,λi q=>?_,λi q=>?_⟩
 ·rw[cN _ _ _ _ _ (by omega)];exact h.op i q
 ·rw[cN _ _ _ _ _ (by omega)];exact h.num i q
 ·by_cases e:i=k
  ·subst e;rw[cY _ _ _ _ (by rw[h.tos i q];rfl),J]
  rw[cN _ _ _ _ _ (by omega),O i q e];exact h.tos i q
 rw[cN _ _ _ _ _ (by omega)];exact h.pls i q
theorem uJ.weak (h:uJ w z n A D E G) (J:∀i,i<n->q i=E i):uJ w z n A D q G:=
 ⟨h.op,h.num,λi I=>by rw[J i I];exact h.tos i I,h.pls⟩
theorem Ih {b:LB} {ins} (h:fg b ins) (J:0<=x.n) (h0:i<=ins.length) (O:∀j,j<i->(mC ins).2.2 j<x.pl+3+x.n) (h2:∀j,i<=j->j<ins.length->x.pl+3+x.n<=(mC ins).2.2 j):
 gn ins x=if i<ins.length/\(mC ins).2.2 i=x.pl+3+x.n then some i else none:=by
 have A:∀j,(mC ins).2.2 j=((ins.getD j cH).pl):=λ_=>rfl
 by_cases q:i<ins.length/\(mC ins).2.2 i=x.pl+3+x.n
 ·rw[Qo q];unfold gn;rw[R2];refine⟨q.1,?_,λj z=>?_⟩
  ·have e:=q.2;rw[A,Qi,Ql q.1] at e;simp only[RZ] at e;simp;omega
  have e:=O j z;have R:j<ins.length:=by omega
  rw[A,Qi,Ql R] at e;simp only[RZ] at e;simp;omega
 rw[Qj q];unfold gn;rw[Ts];intro y hy;obtain⟨j,z,rfl⟩:=RG.1 hy;have D:(mC ins).2.2 j=((ins[j]).pl):=by rw[A,Qi,Ql z];rfl
 simp only[Sh,ne_eq];intro e;by_cases U:j<i
 ·have:=O j U;rw[D] at this;omega
 by_cases G:j=i
 ·subst G;exact q ⟨z,by rw[D];omega⟩
 have E:i<ins.length:=by omega
 have q1:=h2 i (Qn _) E;have q2:=mr (λx J=>(h.1 x J).size) h.2 i j (by omega) z
 rw[A] at q1;have q3:(ins.getD j cH).pl=(ins[j]).pl:=by rw[Qi,Ql z];rfl
 have q4:=(h.1 _ (gY E)).size;omega
theorem MK {b:LB} {ins} (h:fg b ins):∀i j,i<j->j<ins.length->(mC ins).2.2 i<(mC ins).2.2 j:=λi j q z=>by
 have D:=mr (λx A=>(h.1 x A).size) h.2 i j q z
 have E:cG (ins.getD i cH).op≠0:=(h.1 _ (gY (by omega))).size
 show(((ins.getD i cH).pl:Nat):Int)<((ins.getD j cH).pl:Nat);omega
abbrev yP (wr:World) (q k) (x:ek) (W:World):=Below wr.heap.size wr W/\W.cell? ⟨q,k*4,none⟩=some (.int .i64 (x.op:Nat))/\W.cell? ⟨q,k*4+1,none⟩=some (.int .i64 x.n)/\W.cell? ⟨q,k*4+2,none⟩=some (.int .i64 0)/\W.cell? ⟨q,k*4+3,none⟩=some (.int .i64 (x.pl:Nat))
theorem xV {b:LB} {ins cap} (h:fg b ins) (z:b.length<=4000) (hn:ins.length<=4000) (A:w.heap[G]?=some (.cells #[v0,Sq q ins.length cap,v2] 253 (0,0))) (O:∃cs,w.heap[q]?=some (.cells cs 247 (0,0))) (hr:Ca w q ins 0):
 Calls prog 187 #[Pq G] w λe w'=>e= .returned (.tuple #[])/\Ca w' q ins ins.length/\cI (λb=>b=q) w w':=by
 have p1:w.cell? ⟨G,1,none⟩=some (Sq q ins.length cap):=by rw[Qm w G 1 _ _ _ A];rfl
 have av:q≠G:=λe=>by obtain⟨cs,O⟩:=O;rw[e,A] at O;simp at O
 have H:=Hi h;have HC:=Hi A;have HG:=Hi O;have HR:=Hi hr;generalize af:ins.length=n at p1 hn;have HL:=Hi af;go_enter func187,ntmps187;go_wp2_with fail;go_loopw [11] (λkv wr=> ∃k:Nat,k<=n/\kv= Iq k/\Hid (cI (λb=>b=q) w wr)/\Hid (Ca wr q ins k)/\Hid (∀o,wr.frozen? ⟨q,o,none⟩=false)) (λkv _=>n - (intOf kv).toNat)
 case atStart=>exact⟨0,QA _,rfl,cI.refl _ _,HR.out,λo=>by obtain⟨cs,O⟩:=HG.out;simp[World.frozen?,O]⟩
 case round=>
  obtain⟨k,hk,rfl,HO,I,aw⟩:=hrel;have FR:=Hi aw.out;have am:wr.cell? ⟨G,1,none⟩=some (Sq q n cap):=by
   rw[Qz (w:=w) (a:=⟨G,1,none⟩) (HO.out.block G (be HC.out) (λe=>av e.symm))];exact p1
  by_cases ax:k<n
  ·have D:k<ins.length:=by rw[HL.out];exact ax
   have c0:=I.out.op k D;have c1:=I.out.num k D;have c2:=I.out.tos k D;have c3:=I.out.pls k D;rw[Qj (Nat.lt_irrefl k)] at c2;have aM:(0:Int)<=(k:Int)/\(k:Int)<(n:Int):=by omega
   have ab:=H.out.1 _ (gY D);have ag:=kf ab;have J:=ab.fits;have HX:Hid (∀x,ins.getD k cH=x->ins.getD k cH=x):=λ_ h=>h
   have e0:(mC ins).1 k=((ins.getD k cH).op:Nat):=rfl;have e1:(mC ins).2.1 k=(ins.getD k cH).n:=rfl;have e3:(mC ins).2.2 k=((ins.getD k cH).pl:Nat):=rfl;rw[e0] at c0;rw[e1] at c1;rw[e3] at c3;have ay:Hid (∀(W:World) (t:Int),(∀i,i<ins.length->(if i<k+1 then jJ ins (ins.getD i cH) else 0)=if i=k then t else(if i<k then jJ ins (ins.getD i cH) else 0))↔jJ ins (ins.getD k cH)=t):=λW t=>by
    constructor
    ·intro h;have:=h k D;rw[Qo (by omega),Qo rfl] at this;exact this
    intro h i hi;by_cases e:i=k
    ·subst e;rw[Qo (by omega),Qo rfl,h]
    rw[Qj e];by_cases E:i<k
    ·rw[Qo (by omega),Qo E]
    rw[Qj (by omega),Qj E]
   have az:Hid (∃t,jJ ins (ins.getD k cH)=t):=⟨_,rfl⟩;generalize hx:ins.getD k cH=x at*;have W1:=λw=>yO x.op x.n 0 (x.pl:Nat) w
   unfold fG at W1;by_cases R:x.op=15\/x.op=16
   ·have U:decide (x.op=15\/x.op=16)=true:=QZ R;rw[U] at W1;have hf:dq x.op=2:=by rcases R with e|e<;>rw[e]<;>rfl
    have aa:cG x.op=3:=by rcases R with e|e<;>rw[e]<;>rfl
    obtain⟨aA,aN⟩:=ag.jump aa;rw[aa] at J;have W2:∀w,Calls prog 139 #[.agg #[Iq (x.op:Nat),Iq x.n,Iq 0,Iq (x.pl:Nat)]] w λe w'=>e= .returned (Iq 3)/\Bl w w':=λw=>by
     have:=qo x.op x.n 0 (x.pl:Nat) w;rw[hf] at this;exact this
    have W3:∀W,Bl wr W->Calls prog 230 #[Pq G,Iq ((x.pl:Int)+3+x.n)] W λe w'=>nO n (mC ins).2.2 ((x.pl:Int)+3+x.n) e/\Bl W w':=λW z=>by
     rw[<-HL.out];exact xU (cap:=cap) (by show _=_;rw[z.cell (Qk wr _ am),HL.out];exact am) (I.out.below z) (by rw[HL.out];omega) (MK H.out)
    have HN:Hid (∀(w':World) (i:Nat),Bl wr w'->i<=n->(∀j,j<i->(mC ins).2.2 j<(x.pl:Int)+3+x.n)->(∀j,i<=j->j<n->(x.pl:Int)+3+x.n<=(mC ins).2.2 j)->((i<n/\(mC ins).2.2 i=(x.pl:Int)+3+x.n)->w'.frozen? ⟨q,k*4+2,none⟩=false/\w'.cell? ⟨q,k*4+2,none⟩=some (Iq 0)/\cI (λb=>b=q) w (w'.setCell ⟨q,k*4+2,none⟩ (Iq i))/\Ca (w'.setCell ⟨q,k*4+2,none⟩ (Iq i)) q ins (k+1))/\(¬(i<n/\(mC ins).2.2 i=(x.pl:Int)+3+x.n)->cI (λb=>b=q) w w'/\Ca w' q ins (k+1))):=λw' i z hi h1 h2=>by
     have V:=Ih H.out aA (x:=x) (i:=i) (by rw[HL.out];exact hi) h1 (by rw[HL.out];exact h2)
     rw[HL.out] at V;have ac:jJ ins x=((gn ins x).getD 0:Nat):=by unfold jJ;rw[Qo R]
     have an:cI (λb=>b=q) w w':=HO.out.trans (cI.of_below (F:=λ_=>False) z) (λ_ _ h=>h) (λ_ _ h=>h.elim)
     have ao:q<wr.heap.size:=Qk wr _ c0;refine⟨λA=>?_,λA=>?_⟩
     ·rw[Qo A] at V;rw[V] at ac;have au:jJ ins x=(i:Int):=ac;obtain⟨cs,aL⟩:=HG.out;have aB:w'.frozen? ⟨q,k*4+2,none⟩=false:=by
       have aC:wr.frozen? ⟨q,k*4+2,none⟩=false:=FR.out _;rw[z.frozen (p:=⟨q,k*4+2,none⟩) ao];exact aC
      refine⟨aB,by rw[z.cell (p:=⟨q,k*4+2,none⟩) ao];exact c2,an.setCell (.inl rfl) _,?_⟩
      refine(I.out.below z).put D (by rw[Qo (by omega),hx];exact au) (λi' aD aO=>?_)
      by_cases E:i'<k
      ·rw[Qo (by omega),Qo E]
      rw[Qj (by omega),Qj E]
     rw[Qj A] at V;rw[V] at ac;refine⟨an,(I.out.below z).weak (λi' aD=>?_)⟩
     by_cases e:i'=k
     ·subst e;rw[Qo (by omega),Qj (by omega),hx,ac];rfl
     by_cases E:i'<k
     ·rw[Qo (by omega),Qo E]
     rw[Qj (by omega),Qj E]
    have aE:=Qk wr ⟨q,k*4,none⟩ c0;have ap:Hid (∀(w':World) (v:Value),Bl wr w'->(∀o,w'.frozen? ⟨q,o,none⟩=false)/\ ∀o,(w'.setCell ⟨q,k*4+2,none⟩ v).frozen? ⟨q,o,none⟩=false):=λw' v z=>by
     have h1:∀o,w'.frozen? ⟨q,o,none⟩=false:=λo=>by rw[z.frozen (p:=⟨q,o,none⟩) aE];exact FR.out o
     exact⟨h1,λo=>by simpa using h1 o⟩
    have KP:Hid (∀W W',(yP wr q k x W)->Bl W W'->(yP wr q k x W')):=λW W' hS z=>by
     obtain⟨s0,s1,s2,s3,s4⟩:=hS;have ad:=Qk W ⟨q,k*4,none⟩ s1;exact⟨s0.trans (z.mono s0.size),by rw[z.cell (p:=⟨q,k*4,none⟩) ad];exact s1,by rw[z.cell (p:=⟨q,k*4+1,none⟩) ad];exact s2,by rw[z.cell (p:=⟨q,k*4+2,none⟩) ad];exact s3,by rw[z.cell (p:=⟨q,k*4+3,none⟩) ad];exact s4⟩
    have KD:Hid (∀W:World,(yP wr q k x W)->(yP wr q k x W.drew)):=λW hS=>⟨hS.1.drew,hS.2⟩
    have aq:yP wr q k x wr:=⟨Qq _ _,c0,c1,c2,c3⟩;have aP:x.pl<=4000:=by omega
    have aQ:IntKind.i64.wrap ((x.pl:Int)+3)=(x.pl:Int)+3:=by rw[Q0];omega
    have aR:IntKind.i64.wrap ((x.pl:Int)+3+x.n)=(x.pl:Int)+3+x.n:=by rw[Q0];omega
    go_wp2_with (
     go_at_call 138;apply(W1 _).mono;rintro e w2 ⟨rfl,Y⟩;have aF:=KP.out _ _ aq Y;clear Y)
    go_region_held3 (yP wr q k x) (first|with_reducible exact KD.out _ (by assumption)|with_reducible exact KP.out _ _ (by assumption) (by assumption)|with_reducible assumption|go_keep)
     (first
      |(go_at_call 139;refine(W2 _).mono ?_;rintro e w3 ⟨rfl,aG⟩)
      |(go_at_call 230;refine(W3 _ (by exact SL (by assumption))).mono ?_;rintro e w4 ⟨⟨j,aH,rfl,ah,ai⟩,aI⟩;generalize ar:decide (j<n/\(mC ins).2.2 j=(x.pl:Int)+3+x.n)=r;have ae:Hid _:=ar;clear ar))
    rename_i hHeld;obtain⟨a1,a2⟩:=HN.out w4 j hHeld.1 aH ah ai;obtain⟨z1,z2⟩:=ap.out w4 (Iq j) hHeld.1;have aJ:=Hi z1;have aK:=Hi z2;by_cases A:j<n/\(mC ins).2.2 j=(x.pl:Int)+3+x.n
    ·have Z:decide (j<n/\(mC ins).2.2 j=(x.pl:Int)+3+x.n)=true:=QZ A;obtain⟨b1,b2,b3,b4⟩:=a1 A;have aj:=Hi b3;have ak:=Hi b4;obtain rfl:r=_:=ae.out.symm.trans Z;go_wp2;go_roundw
     case rel=>exact⟨k+1,by omega,by go_num,aj.out,ak.out,aK.out⟩
     case measure=>simp[intOf];omega
    have Z:decide (j<n/\(mC ins).2.2 j=(x.pl:Int)+3+x.n)=false:=QM A;obtain⟨b3,b4⟩:=a2 A;have aj:=Hi b3;have ak:=Hi b4;obtain rfl:r=_:=ae.out.symm.trans Z;go_wp2;go_roundw
    case rel=>exact⟨k+1,by omega,by go_num,aj.out,ak.out,aJ.out⟩
    case measure=>simp[intOf];omega
   have U:decide (x.op=15\/x.op=16)=false:=QM R;rw[U] at W1;have HN:Hid (∀w',Bl wr w'->cI (λb=>b=q) w w'/\Ca w' q ins (k+1)/\ ∀o,w'.frozen? ⟨q,o,none⟩=false):=λw' z=>by
    refine⟨HO.out.trans (cI.of_below (F:=λ_=>False) z) (λ_ _ h=>h) (λ_ _ h=>h.elim),?_,λo=>by rw[z.frozen (p:=⟨q,o,none⟩) (show q<wr.heap.size from Qk wr ⟨q,k*4,none⟩ c0)];exact FR.out o⟩
    refine(I.out.below z).weak (λi hi=>?_)
    by_cases e:i=k
    ·subst e;rw[Qo (by omega),Qj (by omega),hx];unfold jJ;rw[Qj R]
    by_cases E:i<k
    ·rw[Qo (by omega),Qo E]
    rw[Qj (by omega),Qj E]
   go_wp2_with (
    go_at_call 138;apply(W1 _).mono;rintro e w2 ⟨rfl,Y⟩;have HU:=Hi (HN.out w2 Y);clear Y)
   exact⟨⟨k+1,by omega,by go_num,HU.out.1,HU.out.2.1,HU.out.2.2⟩,by simp[intOf];omega⟩
  obtain rfl:k=n:=by omega
  go_wp2;go_end0;exact⟨rfl,I.out,HO.out⟩
def pG (b:List UInt8):Prop:=b.length<4\/4000<b.length\/cr b 0≠71\/24<cr b 1
def Ii (b:List UInt8):Decidable (pG b):=by unfold pG;infer_instance
def Cb (b:List UInt8):Option (List ek):=@ite _ (pG b) (Ii b) none (qM (b.length+1) b 3)
def sE (b:List UInt8) (r:Option (List ek)) (w:World) (e:Ending) (w':World):Prop:=
 (match r with
  |none=> ∃v,e= .returned (.tuple #[v,.bool false])
  |some ins=> ∃z D cap,e= .returned (.tuple #[Pq z,.bool true])/\jz w' z D cap (cr b 2) (cr b 1) ins)/\Below w.heap.size w w'
def CH (l:List ek):List Value:=l.flatMap λx=>[Iq (x.op:Nat),Iq x.n,Iq 0,Iq (x.pl:Nat)]
theorem zY (l):∀i,i<l.length->(CH l)[i*4]?=some (Iq ((l.getD i cH).op))/\(CH l)[i*4+1]?=some (Iq (l.getD i cH).n)/\(CH l)[i*4+2]?=some (Iq 0)/\(CH l)[i*4+3]?=some (Iq ((l.getD i cH).pl)):=by
 induction l with
 |nil=>intro i z;simp at z
 |cons x r ih=>
  intro i z;have e:CH (x::r)=Value.int .i64 x.op:: Iq x.n:: Iq 0:: Iq x.pl::CH r:=rfl;cases i with
  |zero=>rw[e];exact⟨rfl,rfl,rfl,rfl⟩
  |succ i=>
   obtain⟨a,b,c,d⟩:=ih i (by simpa using z)
   rw[e,show(i+1)*4=i*4+1+1+1+1 by omega,show i*4+1+1+1+1+1=i*4+1+1+1+1+1 by rfl,show i*4+1+1+1+1+2=i*4+2+1+1+1+1 by omega,show i*4+1+1+1+1+3=i*4+3+1+1+1+1 by omega]
   simp only[Qv,QI];exact⟨a,b,c,d⟩
theorem K5 (l) (x):CH (l++[x])=CH l++[Iq x.op,Iq x.n,Iq 0,Iq x.pl]:=by simp[CH]
theorem Ps {cap ins} (h:w.ownsRow base 247 4 (Sq E ins.length cap) ins.length (CH ins)):Ca w E ins 0:=by
 have D:∀j,j<ins.length*4->w.cell? ⟨E,j,none⟩=(CH ins)[j]?:=λj G=>h.cellAt j G
 refine⟨λi z=>?_,λi z=>?_,λi z=>?_,λi z=>?_⟩
 ·rw[D _ (by omega)];exact(zY ins i z).1
 ·rw[D _ (by omega)];exact(zY ins i z).2.1
 ·rw[D _ (by omega),Qj (by omega)];exact(zY ins i z).2.2.1
 rw[D _ (by omega)];exact(zY ins i z).2.2.2
structure Ny (w wr) (b) (a) (D) (pre) (v):Prop where
 bel:Below w.heap.size w wr
 blk:wr.heap[w.heap.size]?=some (.cells #[Iq (cr b 2:Nat),v,Iq (cr b 1:Nat)] 253 (0,0))
 row:wr.ownsRow w.heap.size 247 4 v pre.length (CH pre)
 dcd:∃f,b.length<a+f/\D=(qM f b a).map (pre++ ·)
 len:pre.length+3<=a
 lo:a<=b.length
theorem Ny.at_ {b:LB} (h:Ny w wr b a D pre v) (h3:Bl wr z):z.heap[w.heap.size]?=some (.cells #[Iq (cr b 2),v,Iq (cr b 1)] 253 (0,0))/\z.ownsRow w.heap.size 247 4 v pre.length (CH pre)/\Bl w z/\w.heap.size<wr.heap.size:=
 ⟨(h3.block _ (be h.blk)).trans h.blk,cD h.row h3,h.bel.trans (h3.mono h.bel.size),be h.blk⟩
theorem tQ {w:World} {xs cs:List Value} (h:w.ownsRow base 247 4 v n xs) (E:w.heap[z]?=some (.cells cs.toArray 253 (0,0))):some z≠v.ownBlock:=λe=>by
 obtain⟨G,D⟩:=cK h e.symm;rw[E] at D;simp at D
theorem Ny.next {b:LB} (h:Ny w wr b a D pre v) (h3:Bl wr J) (z:(J.alloc U).grownBy w4 v.ownBlock) (G:w4.ownsRow w.heap.size 247 4 R (pre.length+1) (CH pre++[Iq x.op,Iq x.n,Iq 0,Iq x.pl]))
 (hd:∃f,b.length<E+f/\D=(qM f b E).map ((pre++[x])++ ·)) (ha:a+1<=E) (Y:E<=b.length):Ny w (w4.setCell ⟨w.heap.size,1,none⟩ R) b E D (pre++[x]) R:=by
 obtain⟨Z,q2,q3,q4⟩:=h.at_ h3;have hs:=h3.size;have aa:=tQ q2 Z;have I:=(z.block _ (by rw[Qw];omega) aa).trans ((Qu J U _ (by omega)).trans Z)
 have V:=tQ G I;refine⟨?_,?_,?_,hd,by have:=h.len;simp;omega,Y⟩
 ·have O:Bl w (J.alloc U):=q3.alloc q3.size _;exact(Tz O z O.size (λk hk=>(q2.lt k hk).1)).setCell (by simp) _
 ·rw[QB w4 _ 1 _ _ _ I];rfl
 rw[Qt,K5];exact Rg G (λe=>V e.symm) _
theorem Cc:(prog.info? 247).map (λi=>(i.zero,i.size,i.bytes))=some (some (.agg #[Iq 0,Iq 0,Iq 0,Iq 0]),4,32):=by kernel_rfl
theorem Ij {b:LB} (z:pG b) (w):Calls prog 142 #[S b] w λe w'=>sE b none w e w':=by
 have D:Hid (∀v,sE b none w (.returned (.tuple #[v,.bool false])) w):=λv=>⟨⟨v,rfl⟩,Qq _ _⟩
 by_cases h1:4000<b.length
 ·have O:4000<b.length:=by omega
  go_enter func142,ntmps142;go_wp2;go_ret2;exact D.out _
 by_cases h2:b.length<4
 ·have R:b.length<=3:=by omega
  go_enter func142,ntmps142;go_wp2;go_ret2;exact D.out _
 have E:0<(ByteArray.mk b.toArray).size:=by show 0<b.length;omega
 have G:1<(ByteArray.mk b.toArray).size:=by show 1<b.length;omega
 have I:=ry b 0 E;have b1:=ry b 1 G;have U:3<b.length:=by omega
 have V: ¬(4000<b.length):=by omega
 by_cases h3:cr b 0=71
 ·have h4:24<cr b 1:=by
   unfold pG at z;omega
  have Y:24<(cr b 1):=by omega
  rw[h3] at I;generalize cr b 1=y at*;go_enter func142,ntmps142;go_wp2;go_ret2;exact D.out _
 have Z:((cr b 0) !=71)=true:=by simp;omega
 generalize cr b 0=x at*;go_enter func142,ntmps142;go_wp2;go_ret2;exact D.out _
theorem En {b:LB} (hb: ¬pG b) (w:World):Calls prog 142 #[S b] w λe w'=>sE b (qM (b.length+1) b 3) w e w':=by
 have hb1:4<=b.length/\b.length<=4000/\cr b 0=71/\cr b 1<=24:=by unfold pG at hb;omega
 obtain⟨hl0,hl9,h71,h24⟩:=hb1;have hs0:0<(ByteArray.mk b.toArray).size:=by show 0<b.length;omega
 have hs1:1<(ByteArray.mk b.toArray).size:=by show 1<b.length;omega
 have hs2:2<(ByteArray.mk b.toArray).size:=by show 2<b.length;omega
 have b0:=ry b 0 hs0;have b1:=ry b 1 hs1;have b2:=ry b 2 hs2;rw[h71] at b0;have hc2:=eS b 2;have hl1:(3:Int)<(b.length:Int):=by omega
 have hl2: ¬((4000:Int)<(b.length:Int)):=by omega
 generalize hD:qM (b.length+1) b 3=D;have HI0:Hid (Ny w (w.alloc (.cells #[Iq (cr b 2:Nat),.slice none 0 0,Iq (cr b 1:Nat)] 253)).drew b 3 D [] (.slice none 0 0)):=
  ⟨((Qq _ _).alloc (Qn _) _).drew,Qp w _,QX _ _ _ _,⟨b.length+1,by omega,by rw[hD];cases D<;>rfl⟩,by simp,by omega⟩
 have HD0:=Hi hD;clear hb hD h71;go_enter func142,ntmps142;go_wp2;go_region;go_wp2;generalize (w.alloc (.cells #[Iq (cr b 2:Nat),.slice none 0 0,Iq (cr b 1:Nat)] 253)).drew=W0 at*;go_loopw [5] (λav wr=> ∃a:Nat,a<=b.length/\av= Iq a/\Hid (∃pre v,Ny w wr b a D pre v)) (λav _=>b.length - (intOf av).toNat)
 case atStart=>exact⟨3,by omega,rfl,_,_,HI0.out⟩
 case round=>
  obtain⟨a,ha,rfl,HI⟩:=hrel;obtain⟨pre,v,hI⟩:=HI.out;by_cases hlt:a<b.length
  ·have hsa:a<(ByteArray.mk b.toArray).size:=hlt;have ba:=ry b a hsa;have ho:=eS b a;have hf:=lW (cr b a);have W1:=λw=>qo (cr b a) 0 0 (a:Nat) w
   unfold fG at W1;have HSH:Hid (b.length<a+1+dq (cr b a)-> ¬K2 b a):=λh=>El h
   have HMA:Hid (a+1+dq (cr b a)<=b.length->(nj (cr b a) (uI b a) (cr b 2)=true↔K2 b a)):=λh=>MJ h
   have HIN:Hid (K2 b a->vP b a=⟨cr b a,uI b a,a⟩/\cG (cr b a)=1+dq (cr b a)):=λh=>B8 h
   have HDN:Hid (¬K2 b a->D=none):=λhno=>by
    obtain⟨f,h1,h2⟩:=hI.dcd;obtain⟨f',rfl⟩:∃f',f=f'+1:=⟨f - 1,by omega⟩
    rw[h2,B7 hlt,Qj hno];rfl
   have HDS:Hid (K2 b a-> ∃f,b.length<(a+(1+dq (cr b a)))+f/\D=(qM f b (a+(1+dq (cr b a)))).map ((pre++[⟨cr b a,uI b a,a⟩])++ ·)):=λhok=>by
    obtain⟨f,h1,h2⟩:=hI.dcd;obtain⟨f',rfl⟩:∃f',f=f'+1:=⟨f - 1,by omega⟩
    obtain⟨q1,q2⟩:=B8 hok;refine⟨f',by omega,?_⟩
    rw[h2,B7 hlt,Qo hok,q1,q2];cases qM f' b (a+(1+dq (cr b a)))<;>simp
   have hnumb:uI b a=fe (fb (cut b (a+1) (a+1+dq (cr b a))) 0 (dq (cr b a))):=by rw[K1 _ _ _ _ (by omega)];rfl
   have W2:=λw=>B6 (cut b (a+1) (a+1+dq (cr b a))) (by unfold cut;simp;omega) w
   have hBl:Hid (∀w',Bl wr w'->Bl w w'):=λw' h=>hI.bel.trans (h.mono hI.bel.size)
   clear HI;generalize hok:cr b a=o at*;generalize dq o=f at*;by_cases hsh:b.length<a+1+f
   ·have HDf:Hid (D=none):=HDN.out (HSH.out hsh);clear HSH HMA HIN HDN HDS W2 hnumb hI;go_wp2_with fail;apply(W1 _).mono;rintro e w2 ⟨rfl,hb2⟩;have HU:Hid (Bl w w2):=hBl.out w2 (((Qq wr.heap.size wr).alloc (Qn _) _).trans (hb2.mono (by simp)))
    clear hb2 W1;go_wp2;go_ret2;rw[HDf.out];exact⟨⟨_,rfl⟩,HU.out⟩
   obtain⟨w1,hw1⟩:∃w1,wr.alloc (.cells #[Iq (o:Nat),Iq 0,Iq 0,Iq (a:Nat)] 247)=w1:=⟨_,rfl⟩;have hb1:Bl wr w1:=by rw[<-hw1];exact(Qq _ _).alloc (Qn _) _
   have hk1:w1.heap[wr.heap.size]?=some (.cells #[Iq (o:Nat),Iq 0,Iq 0,Iq (a:Nat)] 247 (0,0)):=by rw[<-hw1];exact Qp wr _
   have HW1:=Hi hw1;have HI2:=Hi hI;have hcut:({data:=b.toArray}:ByteArray).extract (a+1) (a+1+f)=⟨(cut b (a+1) (a+1+f)).toArray⟩:=gm _ _ _;have hclen:(cut b (a+1) (a+1+f)).length=f:=by rw[pQ _ _ _ (by omega)];omega
   rw[hclen] at W2;rw[<-hnumb] at W2;have hsl:(0:Int)<=(a:Int)+1/\(a:Int)+1<=(a:Int)+1+f/\(a:Int)+1+f<=(b.length:Int):=by omega
   have hnsh: ¬((b.length:Int))<(a:Int)+((1+f:Nat):Int):=by omega
   generalize uI b a=m at*;clear hnumb hI hw1;go_wp2_with fail;rw[HW1.out];apply(W1 _).mono;rintro e w2 ⟨rfl,hb2⟩;have hk2:=(hb2.block _ (be hk1)).trans hk1;have hcc:=λj=>Qm w2 _ j _ _ _ hk2
   have d0:=hcc 0;have d1:=hcc 1;have d2:=hcc 2;have d3:=hcc 3;have df:w2.frozen? ⟨wr.heap.size,1,none⟩=false:=by simp[World.frozen?,hk2]
   have HB2:=Hi (hb1.trans (hb2.mono hb1.size));have HK2:=Hi hk2;clear hcc hb2 hk2 hb1 hk1 W1;go_wp2_with fail;rw[show a+(1+f)=a+1+f by omega,hcut]
   apply(W2 _).mono;rintro e w2' ⟨rfl,rfl⟩;clear W2;have hS3:(w2'.setCell ⟨wr.heap.size,1,none⟩ (Iq m)).heap[wr.heap.size]?=some (.cells #[Iq (o:Nat),Iq m,Iq 0,Iq (a:Nat)] 247 (0,0)):=by rw[QB w2' _ 1 _ _ _ HK2.out];rfl
   have hB3:Bl wr (w2'.setCell ⟨wr.heap.size,1,none⟩ (Iq m)):=HB2.out.setCell (by simp) _
   have hC3:(w2'.setCell ⟨wr.heap.size,1,none⟩ (Iq m)).cell? ⟨w.heap.size,0,none⟩=some (Iq (cr b 2:Nat)):=by rw[Qm _ _ 0 _ _ _ (HI2.out.at_ hB3).1];rfl
   have hE3:=λj=>Qm _ _ j _ _ _ hS3
   have e0:=hE3 0;have e1:=hE3 1;have e2:=hE3 2;have e3:=hE3 3;have W3:=If o m 0 (a:Nat) hC3;unfold fG at W3;have HS3:=Hi hS3;have HB3:=Hi hB3;clear hS3 hB3 hE3 hC3;go_wp2_with fail;apply W3.mono;rintro e w3 ⟨rfl,hb3⟩;have hk3:=(hb3.block _ (be HS3.out)).trans HS3.out;have hB3:=HB3.out.trans (hb3.mono HB3.out.size);clear W3 e0 e1 e2 e3 d0 d1 d2 d3 df hb3;have hma:=HMA.out (by omega)
   generalize hmm:nj o m (cr b 2)=r at*;clear hmm;cases r with
   |false=>
    have HDf:Hid (D=none):=HDN.out (λh=>by have:=hma.2 h;cases this)
    have HU:Hid (Bl w w3):=hBl.out w3 hB3;clear hk3 hB3 hma HSH HMA HIN HDN HDS;go_wp2;go_ret2;rw[HDf.out];exact⟨⟨_,rfl⟩,HU.out⟩
   |true=>
    obtain⟨q1,q2,q3,q4⟩:=HI2.out.at_ hB3;obtain⟨va,vcap,rfl⟩:∃va vcap,v= .slice va pre.length vcap:=by
     rcases q2.2 with⟨h,h0⟩|⟨g,c,_,h,_⟩
     ·exact⟨none,0,by rw[h,h0]⟩
     exact⟨_,_,h⟩
    have hcc:=λj=>Qm w3 _ j _ _ _ hk3
    have d0:=hcc 0;have d1:=hcc 1;have d2:=hcc 2;have d3:=hcc 3;have c1:w3.cell? ⟨w.heap.size,1,none⟩=some (.slice va pre.length vcap):=by rw[Qm w3 _ 1 _ _ _ q1];rfl
    have cf:w3.frozen? ⟨w.heap.size,1,none⟩=false:=by simp[World.frozen?,q1]
    have hne:=tQ (cs:=[_,_,_]) q2 q1;obtain⟨i0,hi,hz⟩:=QP.1 Cc;simp only[QS] at hz;obtain⟨hz0,hz1,hz2⟩:=hz;have hplen:pre.length<=4000:=by have:=HI2.out.len;omega
    have hcp3:w.heap.size<w3.heap.size:=by have:=hB3.size;omega
    have hnews:∀j u,[Value.int .i64 (o:Nat),Iq m,Iq 0,Iq (a:Nat)][j]?=some u->((w3.alloc (.cells #[Iq (o:Nat),Iq m,Iq 0,Iq (a:Nat)] 247)).drew).cell? ((⟨w3.heap.size,0,none⟩:Addr).add j)=some u:=World.news_of_block (w:=(w3.alloc (.cells #[Iq (o:Nat),Iq m,Iq 0,Iq (a:Nat)] 247)).drew) (Qp w3 _);have hone:∀u∈[Value.int .i64 (o:Nat),Iq m,Iq 0,Iq (a:Nat)],u.oneCell'=true:=by
     intro u hu;simp at hu;rcases hu with rfl|rfl|rfl|rfl<;>rfl
    have hown3:((w3.alloc (.cells #[Iq (o:Nat),Iq m,Iq 0,Iq (a:Nat)] 247)).drew).ownsRow w.heap.size 247 4 (.slice va pre.length vcap) pre.length (CH pre):=q2.alloc _;have hfar:∀w4,((w3.alloc (.cells #[Iq (o:Nat),Iq m,Iq 0,Iq (a:Nat)] 247)).drew).grownBy w4 (Value.slice va pre.length vcap).ownBlock->w4.cell? ⟨w.heap.size,1,none⟩=some (.slice va pre.length vcap)/\w4.frozen? ⟨w.heap.size,1,none⟩=false:=λw4 hg=>by
     have e:w4.heap[w.heap.size]?=w3.heap[w.heap.size]?:=(hg.block _ (by show w.heap.size<(w3.alloc _).heap.size;rw[Qw];omega) hne).trans (Qu w3 _ _ hcp3)
     exact⟨by rw[Qz (a:=⟨w.heap.size,1,none⟩) e];exact c1,by rw[Re (a:=⟨w.heap.size,1,none⟩) e];exact cf⟩
    have HB3b:=Hi hB3;have hd':=HDS.out (hma.1 rfl);have HD':=Hi hd';clear q1 q2 q3 hcc hk3 hB3 hma HSH HMA HIN HDN HDS hd';go_wp2;go_region_law
     ((refine step_append_lies _ (by rfl) _ _ _ (by rfl) w.heap.size 247 i0 _ 4 32 underlying192 hi hz0 hz1 hz2 (by rfl) (by decide) (.slice va pre.length vcap) pre.length (CH pre) (by rfl) hown3 ⟨w3.heap.size,0,none⟩ 1 1 [Iq (o:Nat),Iq m,Iq 0,Iq (a:Nat)] (by rfl) (by rfl) hnews hone (by decide) (by unfold maxLen;omega) (by omega) (by simp;omega) (w3.heap.size+1) (by simp) ?_;intro gg cap4 w4 hown4 hgrow4 hat4 hlt4;obtain⟨g1,g2⟩:=hfar w4 hgrow4))
    all_goals
     have HN:Hid (∃pre' v',Ny w (w4.setCell ⟨w.heap.size,1,none⟩ (Sq gg (pre.length+1) cap4)) b (a+(1+f)) D pre' v'):=⟨_,_,HI2.out.next HB3b.out (x:=⟨o,m,a⟩) ⟨hgrow4.os,hgrow4.tape,hgrow4.output,hgrow4.size,hgrow4.block⟩ hown4 HD'.out (by omega) (by omega)⟩
     clear hown4 hgrow4 hat4 hlt4 g1 g2 hfar hown3 hone hnews d0 d1 d2 d3 c1 cf;go_wp2;go_roundw
     case rel=>exact⟨a+(1+f),by omega,by go_num,HN.out⟩
     case measure=>simp[intOf];omega
  obtain rfl:a=b.length:=by omega
  have hDp:D=some pre:=by
   obtain⟨f,h1,h2⟩:=hI.dcd;obtain⟨f',rfl⟩:∃f',f=f'+1:=⟨f - 1,by omega⟩
   rw[h2,qM,Qo (Qn _)];simp
  have hcok0:=zE _ (HD0.out.trans hDp) (by omega)
  have hcok:fg b pre:=⟨hcok0.1,hcok0.2⟩;have hp0:0<pre.length:=by
   rcases Tm pre.length with h|h
   ·have e:pre=[]:=Rc h;have hbh:=hcok.2;rw[e] at hbh;have:3=b.length:=hbh;omega
   exact h
  have hplen:pre.length<=4000:=by have:=hI.len;omega
  obtain⟨gi,cap,rfl,_,_⟩:=hI.row.form hp0;have hgb:=cK hI.row (k:=gi) rfl;have W4:=xV hcok hl9 hplen hI.blk hgb (Ps hI.row);have HA:Hid (∀w',Ca w' gi pre pre.length->cI (λb=>b=gi) wr w'->sE b D w (.returned (.tuple #[Pq w.heap.size,.bool true])) w'):=λw' h1 h2=>by
   have hbl:=hI.bel.trans (h2.below hI.bel.size (λk _ hk=>by omega))
   have hgc:w.heap.size≠gi:=λe=>by
    obtain⟨cs,hgb⟩:=hgb;rw[<-e,hI.blk] at hgb;simp at hgb
   rw[hDp];refine⟨⟨w.heap.size,gi,cap,rfl,⟨(h2.block _ (be hI.blk) hgc).trans hI.blk,h1.op,h1.num,λi hi=>?_,h1.pls⟩⟩,hbl⟩
   have:=h1.tos i hi;rw[Qo hi] at this;exact this
  clear hI HI hcok hcok0 hp0 hDp hgb;go_wp2_with fail;apply W4.mono;rintro e w2 ⟨rfl,hj,ho⟩;have HU:=Hi (HA.out w2 hj ho);clear hj ho W4 HA;go_wp2;go_ret2;exact HU.out
theorem Eo (b:LB) (w:World):Calls prog 142 #[S b] w λe w'=>sE b (Cb b) w e w':=by
 unfold Cb;by_cases h:pG b
 ·rw[Qo h];exact Ij h w
 rw[Qj h];exact En h w
theorem K6 (b:List UInt8):fD b=match Cb b with
 |none=>none
 |some ins=>if jw ins (cr b 1) ins 0 (iX (cr b 2) ins.length) then some ins else none:=by
 by_cases h:pG b
 ·rw[show Cb b=none from Qo h]
  exact Qo h
 ·rw[show Cb b=qM (b.length+1) b 3 from Qj h]
  exact Qj h
theorem ML {ins:List ek} (h:Cb b=some ins):fg b ins/\0<ins.length/\ins.length<=4000/\cr b 1<=24:=by
 unfold Cb at h
 by_cases z:pG b
 ·rw[Qo z] at h;cases h
 ·rw[Qj z] at h
  unfold pG at z;obtain⟨E,D⟩:=zE _ h (by omega)
  have I:=(nJ (λx G=>(E x G).size) D).1
  refine⟨⟨E,D⟩,?_,by omega,by omega⟩
  cases ins with
  |nil=>have:3=b.length:=D;omega
  |cons x r=>simp
def jD (b:List UInt8) (w:World) (e:Ending) (w':World):Prop:=
 (match fD b with
  |none=>e= .returned (.tuple #[.pointer none,.bool false])
  |some ins=> ∃E I cap,e= .returned (.tuple #[Pq E,.bool true])/\jz w' E I cap (cr b 2) (cr b 1) ins)/\Below w.heap.size w w'
theorem zZ (b) (hE:Ef w):Calls prog 99 #[S b] w λe w'=>jD b w e w':=by
 have U:=Eo b w;have I:=K6 b
 cases V:Cb b with
 |none=>
  rw[V] at U I;have Y:Hid (∀w',Below w.heap.size w w'->jD b w (.returned (.tuple #[.pointer none,.bool false])) w'):=λw' E=>by
   unfold jD;rw[I];exact⟨rfl,E⟩
  go_enter func99,ntmps99;go_wp2_with fail;apply U.mono;rintro e z ⟨⟨v,rfl⟩,E⟩;have Z:Hid (jD b w (.returned (.tuple #[.pointer none,.bool false])) z):=Y.out z E
  go_wp2
  go_ret2
  exact Z.out
 |some ins=>
  rw[V] at U I;obtain⟨q1,q2,q3,q4⟩:=ML V;have W2:∀z D J cap,Below w.heap.size w z->jz z D J cap (cr b 2) (cr b 1) ins->_:=λz D J cap E R=>Ie (hE.below hE.pos E) q1 R q2 q3 q4
  have aa:fD b=if jw ins (cr b 1) ins 0 (iX (cr b 2) ins.length) then some ins else none:=I
  generalize jw ins (cr b 1) ins 0 (iX (cr b 2) ins.length)=r at*;have Y:Hid (∀G z D J cap,jz G D J cap (cr b 2) (cr b 1) ins->Below w.heap.size w G->Below G.heap.size G z->(r=false->jD b w (.returned (.tuple #[.pointer none,.bool false])) z)/\(r=true->jD b w (.returned (.tuple #[Pq D,.bool true])) z)):=λG z D J cap R h1 h2=>by
   have O:=h1.trans (h2.mono h1.size);unfold jD;rw[aa];refine⟨λe=>?_,λe=>?_⟩
   ·subst e;exact⟨rfl,O⟩
   ·subst e;exact⟨⟨D,J,cap,rfl,R.below h2⟩,O⟩
  go_enter func99,ntmps99;go_wp2_with fail;apply U.mono;rintro e G ⟨⟨D,J,cap,rfl,R⟩,E⟩;have W3:=W2 G D J cap E R;have ab:Hid (∀z,Below G.heap.size G z->_):=λz h2=>Y.out G z D J cap R E h2
  go_wp2_with fail;apply W3.mono;rintro e z ⟨rfl,O⟩;obtain⟨a1,a2⟩:=ab.out z O
  cases r with
  |false=>
   have Z:Hid (jD b w (.returned (.tuple #[.pointer none,.bool false])) z):=a1 rfl
   go_wp2
   go_ret2
   exact Z.out
  |true=>
   have Z:Hid (jD b w (.returned (.tuple #[Pq D,.bool true])) z):=a2 rfl
   go_wp2
   go_ret2
   exact Z.out
def wX (b:List UInt8) (w:World) (e:Ending) (w':World):Prop:=
 (match fD b with
  |none=>e= .returned (.tuple #[.pointer none,Iq 7])
  |some ins=> ∃lp E J cap,e= .returned (.tuple #[Pq lp,Iq 0])/\w'.heap[lp]?=some (.cells #[Pq E] 207 (0,0))/\jz w' E J cap (cr b 2) (cr b 1) ins)/\Below w.heap.size w w'
theorem Ik (b) (O:Ef w):Calls prog 52 #[S b] w λe w'=>wX b w e w':=by
 have z:=zZ b O;unfold jD at z;unfold wX
 cases G:fD b with
 |none=>
  rw[G] at z;go_enter func52,ntmps52;go_wp2_with fail;apply z.mono;rintro e I ⟨rfl,D⟩;have E:=Hi D
  go_wp2
  go_ret2
  exact⟨rfl,E.out⟩
 |some ins=>
  rw[G] at z;go_enter func52,ntmps52;go_wp2_with fail;apply z.mono;rintro e I ⟨⟨R,U,cap,rfl,J⟩,D⟩;have E:=Hi (And.intro D J)
  go_wp2
  go_ret2
  refine⟨⟨I.heap.size,R,U,cap,rfl,Qp _ _,E.out.2.below ((Qq _ _).alloc (Qn _) _)⟩,E.out.1.alloc E.out.1.size _⟩
theorem uw:(prog.info? 112).map (λi=>(i.zero,i.size,i.bytes))=some (some (Iq 0),1,8):=by kernel_rfl
theorem Il (x) (G:w.heap[p]?=some (.cells cs ty (0,0))) (Y:cs[0]?=some v) (I:IR w 112 v l) (Z:ty≠112) (hl:l.length<=5000):
 Calls prog 238 #[Pq p,Iq x] w λe w'=>e= .returned (.tuple #[])/\ ∃U,w'.heap[p]?=some (.cells (cs.setIfInBounds 0 U) ty (0,0))/\IR w' 112 U (l++[x])/\cI (λb=>b=p\/v.ownBlock=some b) w w'/\ ∀b,U.ownBlock=some b->v.ownBlock=some b\/w.heap.size<=b:=by
 have aa:w.cell? ⟨p,0,none⟩=some v:=by rw[Qm w p 0 _ _ _ G];exact Y
 have ab:w.frozen? ⟨p,0,none⟩=false:=by simp[World.frozen?,G]
 have ac:=be G;have O:=I.ne G Z;obtain⟨a,cap,rfl⟩:=I.sl;obtain⟨i0,hi,hz⟩:=QP.1 uw;simp only[QS] at hz;obtain⟨ad,ae,af⟩:=hz;have HP:=Hi G;have HR:=Hi I;have HN:=Hi O;go_enter func238,ntmps238
 go_wp2_with (
  at_builtin
  go_must (refine wpList_append_lies _ (by rfl) _ _ 179 (by rfl) 0 112 i0 (Iq 0) 1 8 underlying179 hi ad ae af (by rfl) (by decide) _ _ _ (by rfl) (HR.out.alloc _) ⟨w.heap.size,0,none⟩ 1 1 [Iq x] (by rfl) (by rfl) (World.news_of_block (Qp w _)) (λx hx=>by simp at hx;rcases hx with rfl;rfl) (by decide) (by unfold maxLen;omega) (by omega) (by simp) _ rfl ?_)
  intro gg D V E z R aj;have J:=(z.block _ (by simp;omega) (λe=>HN.out e.symm)).trans (Qu w _ _ ac)
  have e1:=(Qz (a:=⟨p,0,none⟩) J).trans aa;have e2:=(Re (a:=⟨p,0,none⟩) J).trans ab;have ag:=Hi J;have ah:=Hi E;have ai:=Hi z
  clear J E z)
 go_end0
 refine⟨rfl,Sq gg (l.length+1) D,?_,?_,?_,?_⟩
 ·rw[QB V p 0 _ _ _ (ag.out.trans HP.out)]
 ·have h1:V.ownsRow 0 112 1 (Sq gg (l.length+1) D) (l.length+1) (l.map (Value.int .i64)++[Iq x]):=ah.out
  have h2:=Rg h1 (a:=⟨p,0,none⟩) (by
   intro e;simp[Value.ownBlock] at e;rcases R with h|h
   ·exact HN.out (by rw[h,e])
   ·rw[Qw] at h;omega) (Sq gg (l.length+1) D)
  unfold IR;simpa using h2
 ·exact(((cI.refl _ w).alloc _).grown ai.out (λk hk=> .inl (.inr hk))).setCell (.inl (.inl rfl)) _
 ·intro b hb
  simp[Value.ownBlock] at hb;subst hb;rcases R with h|h
  ·exact .inl h
  ·right;rw[h,Qw];omega
theorem K8 (E:w.heap[p]?=some (.cells cs ty (0,0))) (I:cs[0]?=some v) (z:IR w 112 v l) (O:ty≠112) (V:l.length<=5000):
 Calls prog 239 #[Pq p] w λe w'=>e= .returned (Iq (l.getLast?.getD 0))/\ ∃G,w'.heap[p]?=some (.cells (cs.setIfInBounds 0 G) ty (0,0))/\IR w' 112 G l.dropLast/\cI (λb=>b=p) w w'/\G.ownBlock=v.ownBlock:=by
 have R:w.cell? ⟨p,0,none⟩=some v:=by rw[Qm w p 0 _ _ _ E];exact I
 have aa:w.frozen? ⟨p,0,none⟩=false:=by simp[World.frozen?,E]
 have D:=z.ne E O;rcases List.eq_nil_or_concat l with rfl|⟨r,x,rfl⟩
 ·have Y:Hid (∃G,w.heap[p]?=some (.cells (cs.setIfInBounds 0 G) ty (0,0))/\IR w 112 G ([]:List Int).dropLast/\cI (λb=>b=p) w w/\G.ownBlock=v.ownBlock):=⟨v,by
   rw[E]
   congr 2
   apply Array.ext_getElem?
   intro i;rw[Rk]
   split
   ·rename_i e;subst e;split
    ·exact I
    ·rename_i hh;rw[RY (by omega)]
   ·rfl,z,cI.refl _ _,rfl⟩
  obtain⟨a,cap,rfl⟩:=z.sl;simp only[Q7] at*;go_enter func239,ntmps239
  go_wp2
  go_ret;exact⟨rfl,Y.out⟩
 ·rw[List.concat_eq_append] at*
  obtain⟨g,cap,rfl,hg⟩:=z.form (by simp)
  obtain⟨_,hx⟩:=BP z;have U:(r++[x]).length=r.length+1:=by simp
  rw[U] at R z D V;have J:=z.cap;rw[U] at J;have q2:(0:Int)<=(r.length:Int)/\(r.length:Int)<=(cap:Int):=by omega
  have Z:=Hi E;have HR:=Hi z;have e2:(r++[x]).getLast?.getD 0=x:=by simp
  have e3:(r++[x]).dropLast=r:=by simp
  have ab:g≠p:=λe=>D (by rw[e];rfl)
  have q1:(0:Int)<=(r.length:Int)/\(r.length:Int)<(r.length:Int)+1:=by omega
  rw[e2,e3];go_enter func239,ntmps239
  go_wp2
  go_ret;refine⟨rfl,Sq g r.length cap,?_,?_,(cI.refl (λb=>b=p) w).setCell (.inl rfl) _,rfl⟩
  ·rw[QB w p 0 _ _ _ Z.out]
  ·exact(IR.pop HR.out).only ((cI.refl (λb=>b=p) _).setCell (.inl rfl) _) (λk hk=>by simp[Value.ownBlock] at hk;omega)
def xW (n:Nat):Value:= .func (.func n) #[] #[]
def Av:List Value:=[.nilFunc,xW 192,xW 192,xW 192,xW 193,xW 194,xW 195,xW 196,xW 197,xW 198,xW 199,xW 200,xW 201,xW 202,xW 203,xW 204,xW 205,xW 206,xW 207]
theorem Fx:∀v∈Av,v.oneCell'=true:=by
 intro v z;simp only[Av,Ra,RQ,Tn] at z;rcases z with rfl|rfl|rfl|rfl|rfl|rfl|rfl|rfl|rfl|rfl|rfl|rfl|rfl|rfl|rfl|rfl|rfl|rfl|rfl<;>rfl
theorem yQ {w:World} (h:w.heap[b]?=some (.cells cs t (0,0))):w.there b 0 cs.size:=λj z=>by
 rw[QO];refine⟨?_,by simp[World.frozen?,h]⟩
 rw[Qm w b j _ _ _ h];simp[z]
theorem Ep (w:World):Calls prog 144 #[] w λe w'=>e= .returned (.agg Av.toArray)/\Below w.heap.size w w':=by
 have E:Option.map (λx=>x.size) (prog.info? 259)=some 19:=by kernel_rfl
 obtain⟨z,D⟩:∃z,w.alloc (.cells #[Value.nilFunc,Value.nilFunc,Value.nilFunc,Value.nilFunc,Value.nilFunc,Value.nilFunc,Value.nilFunc,Value.nilFunc,Value.nilFunc,Value.nilFunc,Value.nilFunc,Value.nilFunc,Value.nilFunc,Value.nilFunc,Value.nilFunc,Value.nilFunc,Value.nilFunc,Value.nilFunc,Value.nilFunc] 259)=z:=⟨_,rfl⟩;have V:z.heap[w.heap.size]?=some (.cells #[Value.nilFunc,Value.nilFunc,Value.nilFunc,Value.nilFunc,Value.nilFunc,Value.nilFunc,Value.nilFunc,Value.nilFunc,Value.nilFunc,Value.nilFunc,Value.nilFunc,Value.nilFunc,Value.nilFunc,Value.nilFunc,Value.nilFunc,Value.nilFunc,Value.nilFunc,Value.nilFunc,Value.nilFunc] 259 (0,0)):=by rw[<-D];exact Qp w _
 have J:=yQ V;have Y:=Hi D;have Z:Hid (Below w.heap.size w z):=by rw[<-D];exact(Qq _ _).alloc (Qn _) _
 have G:=Si w.heap.size Av 0 z (λj O=>(J j O).1)
 have I:Hid (∀j v,Av[j]?=some v->Cq ((z.setCells w.heap.size 0 Av)) w.heap.size j v):=λj v R=>by
  obtain⟨O,rfl⟩:=Rz.1 R;have:=G j O;rw[QO] at this;exact this
 clear G D V;go_enter func144,ntmps144
 go_wp2_with (
  rw[Y.out];refine wpList_store_mid (by rfl) _ _ _ (by rfl) w.heap.size 0 Av.toArray (by rfl) (by rfl) J E (all_oneCell_toArray Fx) ?_)
 have aa:Hid (Below w.heap.size w (z.setCells w.heap.size 0 Av)):=jh (Qn _) _ _ Z.out;have HF:=I;clear I J Y Z E;generalize z.setCells w.heap.size 0 Av=U at*;simp only[Act.put];have ab:(loadVar 259 ⟨w.heap.size,0,none⟩).run prog U= .ok (.agg Av.toArray) U:=
  run_loadVar_mid (P:=prog) U w.heap.size 0 259 Av _ (λj v R=>by rw[QO];exact HF.out j v R) underlying259 rfl (by kernel_rfl)
 refine Qs (v:= .agg Av.toArray) ?_ rfl ?_
 ·simp only[results,results144]
  simp[asAddr,ab]
 exact⟨rfl,aa.out⟩
structure MS where
 st:List Int
 cl:List Int
 next:Int
 ended:Bool
 al:Bool
 ru:Int
 stp:Int
def MM (vs z:Value) (fl:List Int) (s:MS):Array Value:= #[vs,z,Iq (fl.getD 0 0),Iq (fl.getD 1 0),Iq (fl.getD 2 0),Iq (fl.getD 3 0),Iq (fl.getD 4 0),Iq (fl.getD 5 0),Iq (fl.getD 6 0),Iq (fl.getD 7 0),Iq (fl.getD 8 0),Iq s.next,.bool s.ended,.bool s.al,Iq s.ru,Iq s.stp]
structure gA (w:World) (p:Nat) (vs vc) (fl) (s):Prop where
 blk:w.heap[p]?=some (.cells (MM vs vc fl s) 257 (0,0))
 st:IR w 112 vs s.st
 cl:IR w 112 vc s.cl
 ne:∀b,vs.ownBlock=some b->vc.ownBlock≠some b
theorem gA.lt {w p vs D fl s} (h:gA w p vs D fl s) {b} (z:eF p vs D b):b<w.heap.size:=by
 rcases z with rfl|z|z
 ·exact be h.blk
 ·exact(h.st.lt b z).2
 exact(h.cl.lt b z).2
theorem gA.only {w w' p vs z fl s} (h:gA w p vs z fl s) {F} (D:cI F w w') (E:∀b,eF p vs z b-> ¬F b):gA w' p vs z fl s:=
 ⟨(D.block p (be h.blk) (E p (.inl rfl))).trans h.blk,h.st.only D (λg G=>E g (.inr (.inl G))),h.cl.only D (λg G=>E g (.inr (.inr G))),h.ne⟩
theorem gA.drew (h:gA w p vs z fl s):gA w.drew p vs z fl s:=⟨h.blk,h.st,h.cl,h.ne⟩
def dR (w w':World) (p:Nat) (vs z:Value) (fl:List Int) (s:MS):Prop:=
 ∃D,gA w' p D z fl s/\cI (eF p vs z) w w'/\ ∀b,eF p D z b->eF p vs z b\/w.heap.size<=b
theorem dR.refl {w p vs z fl s} (h:gA w p vs z fl s):dR w w p vs z fl s:=⟨vs,h,cI.refl _ _,λ_ D=> .inl D⟩
theorem dR.then (J:cI (eF p vs z) w E) (O:∀b,eF p D z b->eF p vs z b\/w.heap.size<=b) (Y:dR E G p D z fl I):dR w G p vs z fl I:=by
 obtain⟨R,Z,U,V⟩:=Y;refine⟨R,Z,J.trans U (λ_ _ h=>h) (λi hi h=>?_),λb hb=>?_⟩
 ·rcases O i h with h|h
  ·exact h
  omega
 rcases V b hb with h|h
 ·exact O b h
 right;have:=J.size;omega
theorem dR.only (h:dR w w' p vs z fl s):cI (eF p vs z) w w':=by
 obtain⟨_,_,h,_⟩:=h;exact h
theorem dR.drew {w w' p vs z fl s} (h:dR w w' p vs z fl s):dR w w'.drew p vs z fl s:=by
 obtain⟨D,E,G,h3⟩:=h;exact⟨D,E.drew,G.drew,h3⟩
theorem rz:257≠112:=by decide
theorem dR.push {w G p vs I fl s} (h:dR w G p vs I fl s) (x) (hl:s.st.length<=5000):
 Calls prog 238 #[Pq p,Iq x] G λe w'=>e= .returned (.tuple #[])/\dR w w' p vs I fl {s with st:=s.st++[x]}:=by
 obtain⟨J,h,O,R⟩:=h;apply(Il x h.blk rfl h.st rz hl).mono;rintro e w' ⟨rfl,v',z,D,U,V⟩;refine⟨rfl,dR.then O R ?_⟩;have Y:=h.cl.ne h.blk rz;refine⟨v',⟨z,D,h.cl.only U (λg Z E=>?_),λb h1 h2=>?_⟩,U.weak (λi _ D=>?_),λb z=>?_⟩
 ·rcases E with rfl|E
  ·exact Y Z
  exact h.ne g E Z
 ·rcases V b h1 with h3|h3
  ·exact h.ne b h3 h2
  have:=(h.cl.lt b h2).2;omega
 ·rcases D with rfl|D
  ·exact .inl rfl
  exact .inr (.inl D)
 rcases z with rfl|z|z
 ·exact .inl (.inl rfl)
 ·rcases V b z with h3|h3
  ·exact .inl (.inr (.inl h3))
  exact .inr h3
 exact .inl (.inr (.inr z))
theorem dR.pop (h:dR w E p vs G fl s) (Z:s.st.length<=5000):
 Calls prog 239 #[Pq p] E λe w'=>e= .returned (Iq (s.st.getLast?.getD 0))/\dR w w' p vs G fl {s with st:=s.st.dropLast}:=by
 obtain⟨I,h,J,O⟩:=h;apply(K8 h.blk rfl h.st rz Z).mono;rintro e w' ⟨rfl,v',z,D,R,U⟩;refine⟨rfl,dR.then J O ?_⟩;have V:=h.cl.ne h.blk rz;refine⟨v',⟨z,D,h.cl.only R (λg hg hn=>?_),λb Y h2=>?_⟩,R.weak (λi _ D=> .inl D),λb z=>?_⟩
 ·subst hn;exact V hg
 ·rw[U] at Y;exact h.ne b Y h2
 unfold eF at z⊢;rw[U] at z;exact .inl z
theorem dR.put (h:dR w z p vs D fl s) (o) (v) (Y:∀vs D,(MM vs D fl s).setIfInBounds o v=MM vs D fl s') (Z:s'.st=s.st) (h2:s'.cl=s.cl):dR w (z.setCell ⟨p,o,none⟩ v) p vs D fl s':=by
 obtain⟨O,h,R,U⟩:=h;refine dR.then R U ?_;have G:cI (λb=>b=p) z (z.setCell ⟨p,o,none⟩ v):=(cI.refl (λb=>b=p) z).setCell (.inl rfl) _
 refine⟨O,⟨by rw[QB z p o _ _ _ h.blk,Y],?_,?_,h.ne⟩,G.weak (λi _ hi=> .inl hi),λb hb=> .inl hb⟩
 ·rw[Z];exact h.st.only G (λg I e=>h.st.ne h.blk rz (by rw[<-e];exact I))
 rw[h2];exact h.cl.only G (λg I e=>h.cl.ne h.blk rz (by rw[<-e];exact I))
theorem dR.cells {w z p vs E fl s} (h:dR w z p vs E fl s):Cq z p 11 (Iq s.next)/\Cq z p 12 (.bool s.ended)/\Cq z p 13 (.bool s.al)/\Cq z p 14 (Iq s.ru)/\Cq z p 15 (Iq s.stp)/\ ∀o,z.frozen? ⟨p,o,none⟩=false:=by
 obtain⟨G,h,_,_⟩:=h;have D:=λj=>Qm z p j _ _ _ h.blk
 exact⟨D 11,D 12,D 13,D 14,D 15,λo=>by simp[World.frozen?,h.blk]⟩
structure ux (w w1:World) (p) (vs vc) (fl) (s) (o):Prop where
 out0:dR w1 w1 p vs vc fl s
 far:∀b,eF p vs vc b->b<w.heap.size
 blk:w1.heap[w.heap.size]?=some o
 siz:w.heap.size<w1.heap.size
 out:∀w' s,dR w1 w' p vs vc fl s->dR w w' p vs vc fl s
theorem ux.of (h:gA w p vs D fl s) (o):ux w (w.alloc o) p vs D fl s o:=
 ⟨dR.refl (h.only ((cI.refl (λ_=>False) w).alloc _) (λ_ _ h=>h)),λb z=>h.lt z,Qp w _,by rw[Qw];omega,λ_ _ h=>dR.then ((cI.refl _ w).alloc o) (λ_ z=> .inl z) h⟩
theorem ux.after (h:ux w E p vs G fl s (oD I n J pl)) (R:dR E z p vs G fl O):Cq z w.heap.size 0 (Iq I)/\Cq z w.heap.size 1 (Iq n)/\Cq z w.heap.size 2 (Iq J)/\Cq z w.heap.size 3 (Iq pl):=by
 have U:=(R.only.block _ h.siz (λV=>by have:=h.far _ V;omega)).trans h.blk
 have D:=λj=>Qm z _ j _ _ _ U
 exact⟨D 0,D 1,D 2,D 3⟩
theorem wY (J) (n O pl) (h:gA w p vs E fl s) (hl:s.st.length<=4000):
 Calls prog 192 #[Pq p,fG J n O pl] w λe w'=>e= .returned (.tuple #[])/\dR w w' p vs E fl {s with st:=s.st++[n]}:=by
 obtain⟨G,I,z⟩:∃G,w.alloc (.cells #[Iq J,Iq n,Iq O,Iq pl] 247)=G/\ux w G p vs E fl s (oD J n O pl):=⟨_,rfl,ux.of h _⟩;unfold fG;have H:=Hi z;obtain⟨c0,c1,c2,c3⟩:=z.after z.out0;have U:=z.out0.drew.push n (by omega)
 have V:=Hi I;have Y:Hid (∀R s',dR G R p vs E fl s'->Cq R w.heap.size 1 (Iq n)):=λR _ h=>(z.after h).2.1
 clear h z I;go_enter func192,ntmps192;go_wp2_with fail;rw[V.out];go_region_held3 (λW=>W.cell? ⟨w.heap.size,1,none⟩=some (Iq n)) (first|with_reducible exact Y.out _ _ (by assumption)|with_reducible assumption|go_keep)
  (first|(go_at_call 238;refine U.mono ?_;rintro e w2 ⟨rfl,D⟩))
 rename_i hHeld;have Z:=Hi D;clear hHeld D;go_end0;exact⟨rfl,H.out.out _ _ Z.out⟩
theorem dR.field (h:dR w D p vs E fl s) (I:n<=8):Cq D p (2+n) (Iq (fl.getD n 0)):=by
 obtain⟨G,h,_,_⟩:=h;have z:=λj=>Qm D p j _ _ _ h.blk
 have e:n=0\/n=1\/n=2\/n=3\/n=4\/n=5\/n=6\/n=7\/n=8:=by omega
 rcases e with rfl|rfl|rfl|rfl|rfl|rfl|rfl|rfl|rfl
 ·exact z 2
 ·exact z 3
 ·exact z 4
 ·exact z 5
 ·exact z 6
 ·exact z 7
 ·exact z 8
 ·exact z 9
 exact z 10
theorem Er (O n:Nat) (R pl) (h:gA w p vs E fl s) (hl:s.st.length<=4000) (V:n<=8):
 Calls prog 193 #[Pq p,fG O n R pl] w λe w'=>e= .returned (.tuple #[])/\dR w w' p vs E fl {s with st:=s.st++[fl.getD n 0]}:=by
 obtain⟨G,J,z⟩:∃G,w.alloc (.cells #[Iq O,Iq n,Iq R,Iq pl] 247)=G/\ux w G p vs E fl s (oD O n R pl):=⟨_,rfl,ux.of h _⟩;unfold fG;have H:=Hi z;have Y:=z.out0.drew.push (fl.getD n 0) (by omega)
 have Z:=Hi J;have U:Hid (∀I s',dR G I p vs E fl s'->(Cq I w.heap.size 1 (Iq n)/\Cq I p (2+n) (Iq (fl.getD n 0)))):=λI _ h=>⟨(z.after h).2.1,h.field V⟩
 have aa:=U.out _ _ z.out0;have ab:(0:Int)<=n/\(n:Int)<9:=by omega
 generalize fl.getD n 0=x at*;clear h z J;go_enter func193,ntmps193;go_wp2_with fail;rw[Z.out];go_region_held3 (λW=>W.cell? ⟨w.heap.size,1,none⟩=some (Iq n)/\W.cell? ⟨p,2+n,none⟩=some (Iq x)) (first|with_reducible exact U.out _ _ (by assumption)|with_reducible assumption|go_keep)
  (first|(go_at_call 238;refine Y.mono ?_;rintro e w2 ⟨rfl,D⟩))
 rename_i hHeld;have HU:=Hi D;clear hHeld D;go_end0;exact⟨rfl,H.out.out _ _ HU.out⟩
theorem K9 (U n) (V pl) (h:gA w p vs O fl s) (hl:s.st.length<=4000) (Y:n<s.cl.length) (hc:s.cl.length<=300):
 Calls prog 195 #[Pq p,fG U n V pl] w λe w'=>e= .returned (.tuple #[])/\dR w w' p vs O fl {s with st:=s.st++[s.cl.getD n 0]}:=by
 obtain⟨z,I,E⟩:∃z,w.alloc (.cells #[Iq U,Iq n,Iq V,Iq pl] 247)=z/\ux w z p vs O fl s (oD U n V pl):=⟨_,rfl,ux.of h _⟩;unfold fG;have H:=Hi E;have W1:=E.out0.drew.push (s.cl.getD n 0) (by omega)
 have D:gA z p vs O fl s:=by rw[<-I];exact h.only ((cI.refl (λ_=>False) w).alloc _) (λ_ _ h=>h)
 obtain⟨g,cap,rfl,hg⟩:=D.cl.form (by omega)
 have R:=D.cl.cell Y;have Z:z.cell? ⟨p,1,none⟩=some (Sq g s.cl.length cap):=by rw[Qm z p 1 _ _ _ D.blk];rfl
 obtain⟨c0,c1,c2,c3⟩:=E.after E.out0;have HW:=Hi I;have aa:0<=n/\n<s.cl.length:=by omega
 have HK:Hid (∀G,dR z G p vs (Sq g s.cl.length cap) fl {s with st:=s.st++[s.cl.getD n 0]}->(Cq G w.heap.size 1 (Iq n)/\G.cell? ⟨p,1,none⟩=some (Sq g s.cl.length cap)/\G.cell? ⟨g,n,none⟩=some (Iq (s.cl.getD n 0)))):=λG ho=>by
  refine⟨(E.after ho).2.1,?_⟩;obtain⟨ab,hm,_,_⟩:=ho;exact⟨by rw[Qm G p 1 _ _ _ hm.blk];rfl,hm.cl.cell Y⟩
 have ac:Cq z w.heap.size 1 (Iq n)/\Cq z p 1 (Sq g s.cl.length cap)/\Cq z g n (Iq (s.cl.getD n 0)):=⟨c1,Z,R⟩;generalize s.cl.getD n 0=x at*;clear h E I D;go_enter func195,ntmps195;go_wp2_with fail;rw[HW.out];go_region_held3 (λW=>W.cell? ⟨w.heap.size,1,none⟩=some (Iq n)/\W.cell? ⟨p,1,none⟩=some (Sq g s.cl.length cap)/\W.cell? ⟨g,n,none⟩=some (Iq x)) (first|with_reducible exact HK.out _ (by assumption)|with_reducible assumption|go_keep)
  (first|(go_at_call 238;refine W1.mono ?_;rintro e w2 ⟨rfl,J⟩))
 rename_i hHeld;have HU:=Hi J;clear hHeld J;go_end0;exact⟨rfl,H.out.out _ _ HU.out⟩
theorem La (V n) (Y pl) (h:gA w p vs O fl s) (hl:s.st.length<=4000) (hn:n<s.cl.length) (hc:s.cl.length<=300):
 Calls prog 194 #[Pq p,fG V n Y pl] w λe w'=>e= .returned (.tuple #[])/\dR w w' p vs O fl {s with st:=s.st.dropLast,cl:=s.cl.set n (s.st.getLast?.getD 0)}:=by
 obtain⟨z,G,E⟩:∃z,w.alloc (.cells #[Iq V,Iq n,Iq Y,Iq pl] 247)=z/\ux w z p vs O fl s (oD V n Y pl):=⟨_,rfl,ux.of h _⟩;unfold fG;have H:=Hi E;have W1:=E.out0.drew.pop (by omega)
 have D:gA z p vs O fl s:=by rw[<-G];exact h.only ((cI.refl (λ_=>False) w).alloc _) (λ_ _ h=>h)
 obtain⟨g,cap,rfl,hg⟩:=D.cl.form (by omega)
 have aa:z.cell? ⟨p,1,none⟩=some (Sq g s.cl.length cap):=by rw[Qm z p 1 _ _ _ D.blk];rfl
 obtain⟨c0,c1,c2,c3⟩:=E.after E.out0;have R:g≠p:=λe=>D.cl.ne D.blk rz (by rw[e];rfl)
 have ab:g≠w.heap.size:=λe=>by have:=E.far g (.inr (.inr rfl));omega
 have HW:=Hi G;have ah:(0:Int)<=(n:Int)/\(n:Int)<(s.cl.length:Int):=by omega
 generalize hx:s.st.getLast?.getD 0=x at*;have HK:Hid (∀q,dR z q p vs (Sq g s.cl.length cap) fl {s with st:=s.st.dropLast}->((q.cell? ⟨w.heap.size,1,none⟩=some (Iq n)/\q.cell? ⟨p,1,none⟩=some (Sq g s.cl.length cap))/\q.cell? ⟨g,n,none⟩=some (Iq (s.cl.getD n 0))/\q.frozen? ⟨g,n,none⟩=false/\dR z (q.setCell ⟨g,n,none⟩ (Iq x)) p vs (Sq g s.cl.length cap) fl {s with st:=s.st.dropLast,cl:=s.cl.set n x})):=λq ho=>by
  have ha:=(E.after ho).2.1;obtain⟨ac,A,ad,hf⟩:=ho;refine⟨⟨ha,by rw[Qm q p 1 _ _ _ A.blk];rfl⟩,A.cl.cell hn,A.cl.frz n,dR.then ad hf ?_⟩
  have I:cI (λb=>b=g) q (q.setCell ⟨g,n,none⟩ (Iq x)):=(cI.refl (λb=>b=g) q).setCell (.inl rfl) _
  refine⟨ac,⟨(I.block p (be A.blk) (λe=>R e.symm)).trans A.blk,A.st.only I (λb Z e=>A.ne b Z (by rw[e];rfl)),A.cl.set hn x,A.ne⟩,I.weak (λi _ hi=> .inr (.inr (by rw[hi];rfl))),λb Z=> .inl Z⟩
 have KS:Hid (∀(W:World) (v:Value),(W.cell? ⟨w.heap.size,1,none⟩=some (Iq n)/\W.cell? ⟨p,1,none⟩=some (Sq g s.cl.length cap))->((W.setCell ⟨g,n,none⟩ v).cell? ⟨w.heap.size,1,none⟩=some (Iq n)/\(W.setCell ⟨g,n,none⟩ v).cell? ⟨p,1,none⟩=some (Sq g s.cl.length cap))):=λW v hS=>⟨by rw[World.cell?_setCell_far _ _ _ _ (by simpa using ab)];exact hS.1,by rw[World.cell?_setCell_far _ _ _ _ (by simpa using R)];exact hS.2⟩
 have ai:z.cell? ⟨w.heap.size,1,none⟩=some (Iq n)/\z.cell? ⟨p,1,none⟩=some (Sq g s.cl.length cap):=⟨c1,aa⟩;clear h E G D hx;go_enter func194,ntmps194;go_wp2_with fail;rw[HW.out];go_region_held3 (λW=>W.cell? ⟨w.heap.size,1,none⟩=some (Iq n)/\W.cell? ⟨p,1,none⟩=some (Sq g s.cl.length cap)) (first|with_reducible exact KS.out _ _ (by assumption)|with_reducible exact SL (HK.out _ (by assumption))|with_reducible assumption|go_keep)
  (first|(go_at_call 239;refine W1.mono ?_;rintro e w2 ⟨rfl,J⟩;obtain⟨ae,af,ag,U⟩:=HK.out _ J;have HU:Hid _:=U;clear U))
 rename_i hHeld;clear hHeld J ae af ag;go_end0;exact⟨rfl,H.out.out _ _ HU.out⟩
theorem Cd {m:Nat} (J:m=164\/m=165\/m=166\/m=167\/m=168\/m=169\/m=170) (h:dR w w p vs z fl s) (Z:s.st.length<=4000) (G:s.st.getLast?.getD 0=r) (E:s.st.dropLast.getLast?.getD 0=l) (O:∀w,Calls prog m #[Iq l,Iq r] w λe w'=>e= .returned (Iq x)/\w'=w):
 Calls prog 240 #[Pq p,xW m] w λe w'=>e= .returned (.tuple #[])/\dR w w' p vs z fl {s with st:=s.st.dropLast.dropLast++[x]}:=by
 unfold xW;have I:=h.drew.pop (by omega)
 rw[G] at I;have R:∀W,dR w W p vs z fl {s with st:=s.st.dropLast}->Calls prog 239 #[Pq p] W λe w'=>e= .returned (Iq l)/\dR w w' p vs z fl {s with st:=s.st.dropLast.dropLast}:=λW h=>by
  have:=h.pop (by simp;omega)
  simp only[E] at this;exact this
 have U:∀W,dR w W p vs z fl {s with st:=s.st.dropLast.dropLast}->Calls prog 238 #[Pq p,Iq x] W λe w'=>e= .returned (.tuple #[])/\dR w w' p vs z fl {s with st:=s.st.dropLast.dropLast++[x]}:=λW h=>h.push x (by simp;omega)
 rcases J with rfl|rfl|rfl|rfl|rfl|rfl|rfl
 all_goals
  go_enter func240,ntmps240;go_wp2;go_region_held3 (λw'=>True) (exact trivial)
   (first
    |(go_at_call 239;refine(R _ (by assumption)).mono ?_;rintro e w3 ⟨rfl,q⟩)
    |(go_at_call 239;refine I.mono ?_;rintro e w2 ⟨rfl,D⟩))
  have V:=Hi q;go_wp2;go_region_held3 (λw'=>True) (exact trivial)
   (first
    |((first|go_at_call 164|go_at_call 165|go_at_call 166|go_at_call 167|go_at_call 168|go_at_call 169|go_at_call 170);refine(O _).mono ?_;rintro e w4 ⟨rfl,rfl⟩)
    |(go_at_call 238;refine(U _ (dR.drew V.out)).mono ?_;rintro e w5 ⟨rfl,A⟩;have Y:Hid _:=A;clear A))
  go_wp2;go_end0;exact⟨rfl,Y.out⟩
theorem Lb {k m:Nat} (U:(k=196/\m=164)\/(k=197/\m=165)\/(k=198/\m=166)\/(k=199/\m=167)\/(k=200/\m=168)\/(k=202/\m=169)\/(k=203/\m=170)) (D) (n E pl) (h:gA w p vs A fl s) (V:s.st.length<=4000) (Y:s.st.getLast?.getD 0=r) (O:s.st.dropLast.getLast?.getD 0=l) (R:∀w,Calls prog m #[Iq l,Iq r] w λe w'=>e= .returned (Iq x)/\w'=w):
 Calls prog k #[Pq p,fG D n E pl] w λe w'=>e= .returned (.tuple #[])/\dR w w' p vs A fl {s with st:=s.st.dropLast.dropLast++[x]}:=by
 obtain⟨G,z,I⟩:∃G,w.alloc (.cells #[Iq D,Iq n,Iq E,Iq pl] 247)=G/\ux w G p vs A fl s (oD D n E pl):=⟨_,rfl,ux.of h _⟩;unfold fG;have H:=Hi I;have J:=Cd (by omega) I.out0 V Y O R
 unfold xW at J;have Z:=Hi z;clear h I z R;rcases U with⟨rfl,rfl⟩|⟨rfl,rfl⟩|⟨rfl,rfl⟩|⟨rfl,rfl⟩|⟨rfl,rfl⟩|⟨rfl,rfl⟩|⟨rfl,rfl⟩
 all_goals
  first|go_enter func196,ntmps196|go_enter func197,ntmps197|go_enter func198,ntmps198|go_enter func199,ntmps199|go_enter func200,ntmps200|go_enter func202,ntmps202|go_enter func203,ntmps203
  go_wp2_with fail;rw[Z.out];apply J.mono;rintro e w2 ⟨rfl,q⟩;have HU:=Hi q;clear q J;go_wp2;go_end0;exact⟨rfl,H.out.out _ _ HU.out⟩
theorem Lc (J) (n O pl) (h:gA w p vs z fl s) (hl:s.st.length<=4000) (U:s.st.getLast?.getD 0=r) (Y:∀w,Calls prog 125 #[Iq r] w λe w'=>e= .returned (Iq x)/\w'=w):
 Calls prog 201 #[Pq p,fG J n O pl] w λe w'=>e= .returned (.tuple #[])/\dR w w' p vs z fl {s with st:=s.st.dropLast++[x]}:=by
 obtain⟨D,I,R⟩:∃D,w.alloc (.cells #[Iq J,Iq n,Iq O,Iq pl] 247)=D/\ux w D p vs z fl s (oD J n O pl):=⟨_,rfl,ux.of h _⟩;unfold fG;have H:=Hi R;have V:=R.out0.drew.pop (by omega)
 rw[U] at V;have Z:∀W,dR D W p vs z fl {s with st:=s.st.dropLast}->Calls prog 238 #[Pq p,Iq x] W λe w'=>e= .returned (.tuple #[])/\dR D w' p vs z fl {s with st:=s.st.dropLast++[x]}:=λW h=>h.push x (by simp;omega)
 have HW:=Hi I;clear h R I U;go_enter func201,ntmps201;go_wp2;rw[HW.out];go_region_held3 (λw'=>True) (exact trivial)
  (first
   |(go_at_call 125;refine(Y _).mono ?_;rintro e w4 ⟨rfl,rfl⟩)
   |(go_at_call 238;refine(Z _ (by assumption)).mono ?_;rintro e w5 ⟨rfl,E⟩)
   |(go_at_call 239;refine V.mono ?_;rintro e w2 ⟨rfl,G⟩))
 have HV:=Hi E;clear E G;go_end0;exact⟨rfl,H.out.out _ _ HV.out⟩
theorem yR (R) (n E pl) (h:dR w w p vs D fl s):
 Calls prog 205 #[Pq p,fG R n E pl] w λe w'=>e= .returned (.tuple #[])/\dR w w' p vs D fl {s with next:=E}:=by
 have hm:∃z,gA w p z D fl s/\(∀b,eF p z D b->eF p vs D b\/w.heap.size<=b):=by obtain⟨z,I,_,h3⟩:=h;exact⟨z,I,h3⟩
 obtain⟨z,I,h3⟩:=hm;obtain⟨J,O,G⟩:∃J,w.alloc (.cells #[Iq R,Iq n,Iq E,Iq pl] 247)=J/\ux w J p z D fl s (oD R n E pl):=⟨_,rfl,ux.of I _⟩;unfold fG;obtain⟨c0,c1,c2,c3⟩:=G.after G.out0;obtain⟨V,aa,ab,ac,ad,Y⟩:=G.out0.cells;have U:=Y 11;have HA:Hid (dR w (J.setCell ⟨p,11,none⟩ (Iq E)) p vs D fl {s with next:=E}):=
  dR.then (cI.refl _ w) h3 (G.out _ _ (G.out0.put 11 (Iq E) (λ_ _=>rfl) rfl rfl))
 have Z:=Hi O;clear h I h3 G O Y;rw[<-Z.out] at c2 V U;go_enter func205,ntmps205;go_wp2;rw[Z.out];go_end0;exact⟨rfl,HA.out⟩
theorem Es (G) (n D pl) (h:gA w p vs E fl s) (hl:s.st.length<=4000):
 Calls prog 204 #[Pq p,fG G n D pl] w λe w'=>e= .returned (.tuple #[])/\dR w w' p vs E fl {s with st:=s.st.dropLast,next:=if s.st.getLast?.getD 0=0 then D else s.next}:=by
 obtain⟨I,Z,U⟩:∃I,w.alloc (.cells #[Iq G,Iq n,Iq D,Iq pl] 247)=I/\ux w I p vs E fl s (oD G n D pl):=⟨_,rfl,ux.of h _⟩;unfold fG;have H:=Hi U;have W1:=U.out0.pop (by omega)
 generalize s.st.getLast?.getD 0=r at*;obtain⟨V,O⟩:∃V,(if r=0 then D else s.next)=V:=⟨_,rfl⟩;rw[O];have R:=Hi O;clear O;have W2:∀W,dR I W p vs E fl {s with st:=s.st.dropLast}->Calls prog 205 #[Pq p,.agg #[Iq G,Iq n,Iq D,Iq pl]] W λe w'=>e= .returned (.tuple #[])/\dR I w' p vs E fl {s with st:=s.st.dropLast,next:=D}:=λW h=>by
  obtain⟨aa,h1,h2,h3⟩:=h;have:=yR G n D pl (dR.refl h1);unfold fG at this;apply this.mono;rintro e w' ⟨rfl,ho⟩;exact⟨rfl,dR.then h2 h3 ho⟩
 have HK:Hid (∀J s',dR I J p vs E fl s'->Cq J w.heap.size 0 (Iq G)/\Cq J w.heap.size 1 (Iq n)/\Cq J w.heap.size 2 (Iq D)/\Cq J w.heap.size 3 (Iq pl)):=λJ _ h=>U.after h
 have HW:=Hi Z;clear h U Z;by_cases Y:r=0
 ·subst Y;obtain rfl:V=D:=by rw[<-R.out,Qo rfl]
  go_enter func204,ntmps204;go_wp2_with fail;rw[HW.out];apply W1.mono;rintro e w2 ⟨rfl,z⟩;obtain⟨c0,c1,c2,c3⟩:=HK.out _ _ z;have HU:=Hi z;clear z;go_wp2_with fail;apply(W2 _ HU.out).mono;rintro e w3 ⟨rfl,z⟩;have HV:=Hi z;clear z;go_wp2;go_end0;exact⟨rfl,H.out.out _ _ HV.out⟩
 have ab:(r==0)=false:=by simpa using Y
 obtain rfl:V=s.next:=by rw[<-R.out,Qj Y]
 clear Y R;go_enter func204,ntmps204;go_wp2_with fail;rw[HW.out];apply W1.mono;rintro e w2 ⟨rfl,z⟩;have HU:=Hi z;clear z;go_wp2;go_end0;exact⟨rfl,H.out.out _ _ HU.out⟩
theorem sF (b) (V) (n Y pl) (h:dR w w p vs E fl s):
 Calls prog 241 #[Pq p,.bool b,fG V n Y pl] w λe w'=>e= .returned (.tuple #[])/\dR w w' p vs E fl {s with al:=b,ru:=n,ended:=true}:=by
 have hm:∃D,gA w p D E fl s/\(∀b,eF p D E b->eF p vs E b\/w.heap.size<=b):=by obtain⟨D,I,_,h3⟩:=h;exact⟨D,I,h3⟩
 obtain⟨D,I,h3⟩:=hm;obtain⟨z,R,G⟩:∃z,w.alloc (.cells #[Iq V,Iq n,Iq Y,Iq pl] 247)=z/\ux w z p D E fl s (oD V n Y pl):=⟨_,rfl,ux.of I _⟩;unfold fG;obtain⟨c0,c1,c2,c3⟩:=G.after G.out0;obtain⟨ah,aa,ai,ab,aj,J⟩:=G.out0.cells;have Z:=J 12;have ad:=J 13;have ae:=J 14;have hg:w.heap.size≠p:=λe=>by have:=G.far p (.inl rfl);omega
 have HA:Hid (dR w (((z.setCell ⟨p,13,none⟩ (.bool b)).setCell ⟨p,14,none⟩ (Iq n)).drew.setCell ⟨p,12,none⟩ (.bool true)) p vs E fl {s with al:=b,ru:=n,ended:=true}):=
  dR.then (cI.refl _ w) h3 (G.out _ _ (((G.out0.put (s':={s with al:=b}) 13 (.bool b) (λ_ _=>rfl) rfl rfl).put (s':={s with al:=b,ru:=n}) 14 (Iq n) (λ_ _=>rfl) rfl rfl).drew.put (s':={s with al:=b,ru:=n,ended:=true}) 12 (.bool true) (λ_ _=>rfl) rfl rfl))
 have HW:=Hi R;have ac:∀v,(z.setCell ⟨p,13,none⟩ v).cell? ⟨p,14,none⟩=some (Iq s.ru):=λv=>by rw[cN _ _ _ _ _ (by decide)];exact ab
 have U:∀v u,((z.setCell ⟨p,13,none⟩ v).setCell ⟨p,14,none⟩ u).cell? ⟨p,12,none⟩=some (.bool s.ended):=λv u=>by rw[cN _ _ _ _ _ (by decide),cN _ _ _ _ _ (by decide)];exact aa
 have O:Hid (∀(W:World) (o:Nat) (v:Value),W.cell? ⟨w.heap.size,1,none⟩=some (Iq n)->(W.setCell ⟨p,o,none⟩ v).cell? ⟨w.heap.size,1,none⟩=some (Iq n)):=λW o v hS=>by rw[World.cell?_setCell_far _ _ _ _ (by simpa using λe=>hg e.symm)];exact hS
 clear h I h3 G R J;go_enter func241,ntmps241;go_wp2_with fail;rw[HW.out];go_region_held3 (λW=>W.cell? ⟨w.heap.size,1,none⟩=some (Iq n)) (first|with_reducible assumption|exact O.out z 13 _ c1|exact O.out _ 14 _ (O.out z 13 _ c1)|go_keep) (fail)
 rename_i hHeld;clear hHeld O;have af:=U (.bool b) (Iq n);have ag:((z.setCell ⟨p,13,none⟩ (.bool b)).setCell ⟨p,14,none⟩ (Iq n)).frozen? ⟨p,12,none⟩=false:=by simpa using Z
 clear U ac;generalize ak:(z.setCell ⟨p,13,none⟩ (.bool b)).setCell ⟨p,14,none⟩ (Iq n)=ww at*;go_wp2;go_end0;exact⟨rfl,HA.out⟩
theorem Et (D) (n E pl) (h:gA w p vs O fl s):
 Calls prog 206 #[Pq p,fG D n E pl] w λe w'=>e= .returned (.tuple #[])/\dR w w' p vs O fl {s with al:=true,ru:=n,ended:=true}:=by
 obtain⟨J,G,z⟩:∃J,w.alloc (.cells #[Iq D,Iq n,Iq E,Iq pl] 247)=J/\ux w J p vs O fl s (oD D n E pl):=⟨_,rfl,ux.of h _⟩;have R:=sF true D n E pl z.out0;have V:=sF (w:=J.drew) true D n E pl (dR.refl (by obtain⟨Z,hm,_,_⟩:=z.out0;exact(h.only (by rw[<-G];exact(cI.refl (λ_=>False) w).alloc _) (λ_ _ h=>h)).drew))
 unfold fG at*;have H:=Hi z;obtain⟨c0,c1,c2,c3⟩:=z.after z.out0;have U:=Hi G;clear h z G;rw[<-U.out] at c0 c1 c2 c3;go_enter func206,ntmps206;go_wp2_with fail;rw[U.out];apply R.mono;rintro e w2 ⟨rfl,I⟩;have Y:=Hi I;clear I R V;go_wp2;go_end0;exact⟨rfl,H.out.out _ _ Y.out⟩
theorem Im (D) (n E pl) (h:gA w p vs O fl s):
 Calls prog 207 #[Pq p,fG D n E pl] w λe w'=>e= .returned (.tuple #[])/\dR w w' p vs O fl {s with al:=false,ru:=n,ended:=true}:=by
 obtain⟨J,G,z⟩:∃J,w.alloc (.cells #[Iq D,Iq n,Iq E,Iq pl] 247)=J/\ux w J p vs O fl s (oD D n E pl):=⟨_,rfl,ux.of h _⟩;have R:=sF false D n E pl z.out0;have V:=sF (w:=J.drew) false D n E pl (dR.refl (by obtain⟨Z,hm,_,_⟩:=z.out0;exact(h.only (by rw[<-G];exact(cI.refl (λ_=>False) w).alloc _) (λ_ _ h=>h)).drew))
 unfold fG at*;have H:=Hi z;obtain⟨c0,c1,c2,c3⟩:=z.after z.out0;have U:=Hi G;clear h z G;rw[<-U.out] at c0 c1 c2 c3;go_enter func207,ntmps207;go_wp2_with fail;rw[U.out];apply R.mono;rintro e w2 ⟨rfl,I⟩;have Y:=Hi I;clear I R V;go_wp2;go_end0;exact⟨rfl,H.out.out _ _ Y.out⟩
end
variable {w p vs z fl s a b x r vc k k' st cl st' cl' j}
def Eu (q:Nat):Nat:=[0,192,192,192,193,194,195,196,197,198,199,200,201,202,203,204,205,206,207].getD q 0
theorem Og {q:Nat} (h:1<=q/\q<=18):Av[q]?=some (.func (.func (Eu q)) #[] #[]):=by
 have e:q=1\/q=2\/q=3\/q=4\/q=5\/q=6\/q=7\/q=8\/q=9\/q=10\/q=11\/q=12\/q=13\/q=14\/q=15\/q=16\/q=17\/q=18:=by omega
 rcases e with rfl|rfl|rfl|rfl|rfl|rfl|rfl|rfl|rfl|rfl|rfl|rfl|rfl|rfl|rfl|rfl|rfl|rfl<;>rfl
theorem nP (v) (r:List Int):(v::r).reverse.getLast?.getD 0=v:=by simp
theorem kI (v) (r:List Int):(v::r).reverse.dropLast=r.reverse:=by simp
theorem jK (v) (r:List Int):r.reverse++[v]=(v::r).reverse:=by simp
theorem qz {α β γ:Type} {a q:α} {b z:β} {c A:γ} (h:some (a,b,c)=some (q,z,A)):q=a/\z=b/\A=c:=by cases h;exact⟨rfl,rfl,rfl⟩
theorem kK {k m:Nat} (E:(k=196/\m=164)\/(k=197/\m=165)\/(k=198/\m=166)\/(k=199/\m=167)\/(k=200/\m=168)\/(k=202/\m=169)\/(k=203/\m=170)) (A) (n D pl) (h:gA w p vs z fl s) (G:s.st.length<=4000) (q:s.st=(b::a::r).reverse) (I:∀w,Calls prog m #[Iq a,Iq b] w λe w'=>e= .returned (Iq x)/\w'=w):
 Calls prog k #[Pq p,fG A n D pl] w λe w'=>e= .returned (.tuple #[])/\dR w w' p vs z fl {s with st:=(x::r).reverse}:=by
 have:=Lb E A n D pl h G (by rw[q];exact nP b (a::r)) (by rw[q,kI];exact nP a r) I
 rw[q,kI,kI,jK] at this;exact this
theorem Io {cells} (E) (h:gA w p vs vc fl s) (Y:J4 cells x) (O:uE k cells st cl) (I:eo x.op x.n.toNat k=some k') (hs:s.st=st.reverse) (hc:s.cl=cl) (ad:cells<=256) (hl:st.length<=100) (A:iP fl x st cl=some (st',cl',j)) (ae: ¬(x.op=17\/x.op=18)):
 Calls prog (Eu x.op) #[Pq p,fG x.op x.n E x.pl] w λe w'=>e= .returned (.tuple #[])/\dR w w' p vs vc fl {s with st:=st'.reverse,cl:=cl',next:=if j then E else s.next}:=by
 obtain⟨G,n,pl⟩:=x;obtain⟨ak,af,V,ag,ah,ai,ab⟩:=s;simp only[] at hs hc I ae⊢;subst hs hc;have D:({st:=st.reverse,cl:=af,next:=V,ended:=ag,al:=ah,ru:=ai,stp:=ab}:MS).st.length<=4000:=by simp;omega
 have e:G=1\/G=2\/G=3\/G=4\/G=5\/G=6\/G=7\/G=8\/G=9\/G=10\/G=11\/G=12\/G=13\/G=14\/G=15\/G=16:=by have:1<=G/\G<=18:=Y.op;omega
 have two:∀{t u:Nat} {more:List Nat},kD [t,u] more k=some k'-> ∃b a r,st=b::a::r/\pj t b/\pj u a:=λ{t u more} he=>by
  obtain⟨e1,_⟩:=kg he;have R:=O.typ;rw[e1] at R;obtain⟨b,r1,rfl,Z,h2⟩:=jG.cons R;obtain⟨a,r2,rfl,h3,_⟩:=jG.cons h2;exact⟨b,a,r2,rfl,Z,h3⟩
 have one:∀{t:Nat} {more:List Nat},kD [t] more k=some k'-> ∃b r,st=b::r/\pj t b:=λ{t more} he=>by
  obtain⟨e1,_⟩:=kg he;have R:=O.typ;rw[e1] at R;obtain⟨b,r1,rfl,Z,_⟩:=jG.cons R;exact⟨b,r1,rfl,Z⟩
 rcases e with rfl|rfl|rfl|rfl|rfl|rfl|rfl|rfl|rfl|rfl|rfl|rfl|rfl|rfl|rfl|rfl
 ·obtain⟨rfl,rfl,rfl⟩:=qz A;have:=wY 1 n E (pl:Nat) h D;rw[jK] at this;exact this
 ·obtain⟨rfl,rfl,rfl⟩:=qz A;have:=wY 2 n E (pl:Nat) h D;rw[jK] at this;exact this
 ·obtain⟨rfl,rfl,rfl⟩:=qz A;have:=wY 3 n E (pl:Nat) h D;rw[jK] at this;exact this
 ·obtain⟨rfl,rfl,rfl⟩:=qz A;obtain⟨a1,a2,_⟩:=Y.two rfl;have aa:n<=8:=a2;obtain⟨m,rfl⟩:∃m:Nat,n=m:=⟨n.toNat,by have:0<=n:=a1;omega⟩
  have:=Er 4 m E (pl:Nat) h D (by omega)
  rw[jK] at this;exact this
 ·obtain⟨a1,a2,_⟩:=Y.two rfl;have aa:n<=(cells:Int) - 1:=a2;obtain⟨m,rfl⟩:∃m:Nat,n=m:=⟨n.toNat,by have:0<=n:=a1;omega⟩
  have ac:=O.len;cases st with
  |nil=>exact absurd A (by simp[iP])
  |cons v r=>
   obtain⟨rfl,rfl,rfl⟩:=qz A;have:=La 5 m E (pl:Nat) h D (by simp only[];omega) (by simp only[];omega)
   simp only[] at this;rw[nP,kI] at this;exact this
 ·obtain⟨a1,a2,_⟩:=Y.two rfl;have aa:n<=(cells:Int) - 1:=a2;obtain⟨m,rfl⟩:∃m:Nat,n=m:=⟨n.toNat,by have:0<=n:=a1;omega⟩
  have ac:=O.len;obtain⟨rfl,rfl,rfl⟩:=qz A;have:=K9 6 m E (pl:Nat) h D (by simp only[];omega) (by simp only[];omega)
  rw[jK] at this;exact this
 ·obtain⟨b,a,r,rfl,J,U⟩:=two I;obtain⟨rfl,rfl,rfl⟩:=qz A;exact kK (k:=Eu 7) (by decide) 7 n E (pl:Nat) h D rfl (λw=>A2 U.1 J.1 w)
 ·obtain⟨b,a,r,rfl,J,U⟩:=two I;obtain⟨rfl,rfl,rfl⟩:=qz A;exact kK (k:=Eu 8) (by decide) 8 n E (pl:Nat) h D rfl (λw=>A3 U.1 J.1 w)
 ·have h9:∃b a r,st=b::a::r:=by
   have e9:eo 9 n.toNat k=(match k.st with
    |x::y::r=>if x=y then some ⟨2::r,k.cl⟩ else none
    |_=>none):=rfl
   rw[e9] at I;split at I
   ·rename_i y z q aj;have R:=O.typ;rw[aj] at R;obtain⟨b,r1,rfl,Z,h2⟩:=jG.cons R;obtain⟨a,r2,rfl,h3,_⟩:=jG.cons h2;exact⟨b,a,r2,rfl⟩
   cases I
  obtain⟨b,a,r,rfl⟩:=h9;obtain⟨rfl,rfl,rfl⟩:=qz A;exact kK (k:=Eu 9) (by decide) 9 n E (pl:Nat) h D rfl (λw=>vB a b w)
 ·obtain⟨b,a,r,rfl,J,U⟩:=two I;obtain⟨rfl,rfl,rfl⟩:=qz A;exact kK (k:=Eu 10) (by decide) 10 n E (pl:Nat) h D rfl (λw=>yq a b w)
 ·obtain⟨b,a,r,rfl,J,U⟩:=two I;obtain⟨rfl,rfl,rfl⟩:=qz A;exact kK (k:=Eu 11) (by decide) 11 n E (pl:Nat) h D rfl (λw=>ug a b w)
 ·obtain⟨b,r,rfl,J⟩:=one I;obtain⟨rfl,rfl,rfl⟩:=qz A;have:=Lc 12 n E (pl:Nat) h D (nP b r) (λw=>A1 (J.2 rfl) w)
  simp only[] at this;rw[kI,jK] at this;exact this
 ·obtain⟨b,a,r,rfl,J,U⟩:=two I;obtain⟨rfl,rfl,rfl⟩:=qz A;exact kK (k:=Eu 13) (by decide) 13 n E (pl:Nat) h D rfl (λw=>A0 a b w)
 ·obtain⟨b,a,r,rfl,J,U⟩:=two I;obtain⟨rfl,rfl,rfl⟩:=qz A;exact kK (k:=Eu 14) (by decide) 14 n E (pl:Nat) h D rfl (λw=>E9 a b w)
 ·obtain⟨b,r,rfl,J⟩:=one I;obtain⟨rfl,rfl,rfl⟩:=qz A;have:=Es 15 n E (pl:Nat) h D;simp only[] at this;rw[nP,kI] at this;have e2:(if b=0 then E else V)=(if(b==0)=true then E else V):=by simp
  rw[e2] at this;exact this
 obtain⟨rfl,rfl,rfl⟩:=qz A;exact yR 16 n E (pl:Nat) (dR.refl h)
end Go.Proofs.YtfkdailfcmnjlaaGreatDoor
