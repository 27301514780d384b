/-
  A part.
-/
import Derived.Test.YtfkdailfcmnjlaaGreatDoorAll05
import Derived.Deep.RegionHeld3
import Derived.Deep.DrawnRows
set_option linter.all false
set_option maxHeartbeats 40000000
set_option maxRecDepth 1000000
namespace Go.Proofs.YtfkdailfcmnjlaaGreatDoor
open Go Go.RowKit
attribute [local go_sem ↓] Go.wp_at_zero Go.wp_at_succ
variable {rb pv w w' z k o base e size v n xs B gl cl ts s}
def gJ (bad:Bool) (t:Tok) (s:List UInt8):Bool:=!bad&&eJ t s
theorem Jp (rb gl cl n i) (t) (bad) (s:LB) (w) (O:n<=2000) (J:i<n)
 (z:Cq w rb 0 (Sq gl n cl)) (D:Cq w rb 1 (Iq i)) (h3:Cq w rb 3 (.bool bad))
 (E:Cq w gl (i*3) (.int .u8 t.k)) (G:Cq w gl (i*3+1) (S t.text)) (I:Cq w gl (i*3+2) (Iq t.pl)):
 Calls Tryz.prog 113 #[Pq rb,S s] w λe w'=>e= .returned (.bool (gJ bad t s))/\Bl w w':=by
 have R:0<=i:=by omega
 have U:(i:Int)<(n:Int):=by omega
 go_enter Tryz.func113,Tryz.ntmps113;go_wp2;go_region_held (λw'=>w'.cell? ⟨rb,0,none⟩=some (Sq gl n cl)/\w'.cell? ⟨rb,1,none⟩=some (Iq i)/\w'.cell? ⟨rb,3,none⟩=some (.bool bad)/\w'.cell? ⟨gl,i*3,none⟩=some (.int .u8 t.k)/\w'.cell? ⟨gl,i*3+1,none⟩=some (S t.text)/\w'.cell? ⟨gl,i*3+2,none⟩=some (Iq t.pl)) (go_keep) (fail)
 cases bad
 all_goals go_wp2
 all_goals go_ret
 all_goals exact⟨iG (by simp[gJ,eJ];try omega),((Qq _ _).alloc (Qn _) _).drew⟩
structure ey where
 tok:Tok
 subs:List Nat
 n:Int
 sv:Value
def eI (ps:List ey):List Value:=ps.flatMap λp=>[.int .u8 p.tok.k,S p.tok.text,Iq p.tok.pl,p.sv,Iq p.n]
theorem vp (ps) (p):eI (ps++[p])=eI ps++[.int .u8 p.tok.k,S p.tok.text,Iq p.tok.pl,p.sv,Iq p.n]:=by simp[eI]
def Jq (l:List Nat):Array Value:=(l.map λx:Nat=>Value.int .i64 (x:Int)).toArray
def k7 (w:World) (p:ey):Prop:=(p.subs=[]/\p.sv= .slice none 0 0)\/ ∃E,p.sv= .slice (some ⟨E,0,none⟩) p.subs.length p.subs.length/\w.heap[E]?=some (.cells (Jq p.subs) 3 (0,0))
structure St where
 i:Nat
 pv:Value
 ps:List ey
 bad:Bool
structure RS (B rb gl cl:Nat) (ts:List Tok) (s:St) (w:World):Prop where
 rd:w.heap[rb]?=some (.cells #[.slice (some ⟨gl,0,none⟩) ts.length cl,Iq s.i,s.pv,.bool s.bad] 149 (0,0))
 words:w.ownsRow B 151 3 (.slice (some ⟨gl,0,none⟩) ts.length cl) ts.length (iH ts)
 parts:w.ownsRow B 169 5 s.pv s.ps.length (eI s.ps)
 subs:∀p∈s.ps,k7 w p
 hb:B<=rb
 hi:s.i<ts.length
 hn:ts.length<=1001
 fin:∀i,i+1=ts.length->(ts.getD i ik).k=101
 few:s.ps.length<=s.i
structure Fr (rb) (pv pv':Value) (w w':World):Prop where
 os:w'.os=w.os
 tape:w'.tape=w.tape
 output:w'.output=w.output
 size:w.heap.size<=w'.heap.size
 block:∀k,k<w.heap.size->k≠rb->some k≠pv.ownBlock->w'.heap[k]?=w.heap[k]?
 own:pv'.ownBlock=pv.ownBlock\/ ∃g,pv'.ownBlock=some g/\w.heap.size<=g
theorem Fr.refl (rb) (pv:Value) (w:World):Fr rb pv pv w w:=⟨rfl,rfl,rfl,Qn _,λ_ _ _ _=>rfl,.inl rfl⟩
theorem Fr.trans {rb pv z D w E G} (h:Fr rb pv z w E) (k:Fr rb z D E G):Fr rb pv D w G:=by
 refine⟨k.os.trans h.os,k.tape.trans h.tape,k.output.trans h.output,QV h.size k.size,?_,?_⟩
 ·intro i I J O;rw[k.block i (Rh I h.size) J ?_,h.block i I J O];rcases h.own with e|⟨g,e,R⟩
  ·rw[e];exact O
  rw[e];intro U;simp at U;omega
 rcases k.own with e|⟨g,e,R⟩
 ·rw[e];exact h.own
 exact .inr ⟨g,e,QV h.size R⟩
theorem Fr.of_below (h:Bl w w'):Fr rb pv pv w w':=
 ⟨h.os,h.tape,h.output,h.size,λk z _ _=>h.block k z,.inl rfl⟩
theorem Fr.set (h:Fr rb pv z w w') (I:rb<w.heap.size) (i) (v):Fr rb pv z w (w'.setCell ⟨rb,i,none⟩ v):=
 ⟨h.os,h.tape,h.output,by simpa using h.size,λk E D G=>by rw[Qr _ _ _ _ (by exact D)];exact h.block k E D G,h.own⟩
theorem be {w:World} (h:w.heap[k]?=some o):k<w.heap.size:=by
 rcases Rq k w.heap.size with z|D
 ·exact z
 rw[RY D] at h;cases h
theorem cM {w w':World} (h:w.ownsRow base e size v n xs) (E:∀k,v.ownBlock=some k->w'.heap[k]?=w.heap[k]?):w'.ownsRow base e size v n xs:=by
 obtain⟨G,z⟩:=h;refine⟨G,?_⟩;rcases z with z|⟨g,cap,D,a,b,c,d⟩
 ·exact .inl z
 exact .inr ⟨g,cap,D,a,b,by rw[E g (by rw[a];rfl)];exact c,d⟩
theorem cK {w:World} (h:w.ownsRow base e size v n xs) (z:v.ownBlock=some k):∃cs,w.heap[k]?=some (.cells cs e (0,0)):=by
 rcases h.2 with⟨E,_⟩|⟨g,cap,D,a,b,c,d⟩
 ·rw[E] at z;cases z
 rw[a] at z;simp[Value.ownBlock] at z;subst z;exact⟨D,c⟩
theorem RS.below (h:RS B rb gl cl ts s w) (z:Bl w w'):RS B rb gl cl ts s w':=by
 refine⟨?_,cD h.words z,cD h.parts z,?_,h.hb,h.hi,h.hn,h.fin,h.few⟩
 ·rw[z.block rb (be h.rd)];exact h.rd
 intro p G;rcases h.subs p G with e|⟨D,e,E⟩
 ·exact .inl e
 exact .inr ⟨D,e,by rw[z.block D (be E)];exact E⟩
theorem RS.set (h:RS B rb gl cl ts s w) (j) (v) (s')
 (V:(#[Sq gl ts.length cl,Iq s.i,s.pv,.bool s.bad]).setIfInBounds j v= #[Sq gl ts.length cl,Iq s'.i,s'.pv,.bool s'.bad])
 (E:s'.ps=s.ps) (O:s'.pv=s.pv) (Y:s'.i<ts.length) (Z:s'.ps.length<=s'.i):RS B rb gl cl ts s' (w.setCell ⟨rb,j,none⟩ v):=by
 have I:∀k,k≠rb->(w.setCell ⟨rb,j,none⟩ v).heap[k]?=w.heap[k]?:=λk z=>Qr _ _ _ _ z
 refine⟨?_,?_,?_,?_,h.hb,Y,h.hn,h.fin,Z⟩
 ·rw[QB w rb j _ _ v h.rd,V]
 ·refine cM h.words λk z=>I k λe=>?_
  subst e;obtain⟨cs,D⟩:=cK h.words z;rw[h.rd] at D;simp at D
 ·rw[E,O];refine cM h.parts λk z=>I k λe=>?_
  subst e;obtain⟨cs,D⟩:=cK h.parts z;rw[h.rd] at D;simp at D
 rw[E];intro p hp;rcases h.subs p hp with e|⟨R,e,J⟩
 ·exact .inl e
 refine .inr ⟨R,e,?_⟩;rw[I R (λe=>by subst e;rw[h.rd] at J;simp at J)];exact J
theorem AP (ts) (i) (z:i<ts.length):(iH ts)[i*3]?=some (.int .u8 (ts.getD i ik).k)/\(iH ts)[i*3+1]?=some (S (ts.getD i ik).text)/\(iH ts)[i*3+2]?=some (Iq (ts.getD i ik).pl):=by
 induction ts generalizing i with
 |nil=>simp at z
 |cons t ts ih=>
  cases i with
  |zero=>simp[iH]
  |succ i=>
   have:=ih i (by simpa using z)
   have e:iH (t::ts)=[.int .u8 t.k,S t.text,Iq t.pl]++iH ts:=rfl;rw[e,show(i+1)*3=i*3+1+1+1 from by omega,show i*3+1+1+1+1=i*3+1+1+1+1 from rfl,show i*3+1+1+1+2=i*3+2+1+1+1 from by omega]
   simpa using this
theorem RS.word (h:RS B rb gl cl ts s w) (i:Nat) (I:i<ts.length):
 Cq w gl (i*3) (.int .u8 (ts.getD i ik).k)/\Cq w gl (i*3+1) (S (ts.getD i ik).text)/\Cq w gl (i*3+2) (Iq (ts.getD i ik).pl):=by
 have z:=h.words.cells (g:=gl) rfl;obtain⟨a,b,c⟩:=AP ts i I;have J:∀j,(⟨gl,0,none⟩:Addr).add j=⟨gl,j,none⟩:=λj=>by unfold Addr.add;split<;>simp_all
 have D:=z _ _ a;have E:=z _ _ b;have G:=z _ _ c;rw[J] at D E G;exact⟨D,E,G⟩
theorem RS.cells {B rb gl cl:Nat} {ts:List Tok} {s w} (h:RS B rb gl cl ts s w):
 Cq w rb 0 (Sq gl ts.length cl)/\Cq w rb 1 (Iq s.i)/\Cq w rb 2 s.pv/\Cq w rb 3 (.bool s.bad):=by
 have z:=λj=>Qm w rb j _ _ _ h.rd
 exact⟨z 0,z 1,z 2,z 3⟩
theorem RS.free (h:RS B rb gl cl ts s w) (j:Nat):w.frozen? ⟨rb,j,none⟩=false:=by
 simp[World.frozen?,h.rd]
theorem iI (h:RS B rb gl cl ts s w) (x:LB):
 Calls Tryz.prog 113 #[Pq rb,S x] w λe w'=>e= .returned (.bool (gJ s.bad (cq ts s.i) x))/\Bl w w':=by
 obtain⟨c0,c1,_,c3⟩:=h.cells;obtain⟨z,D,E⟩:=h.word s.i h.hi;exact Jp rb gl cl ts.length s.i (cq ts s.i) s.bad x w (by have:=h.hn;omega) h.hi c0 c1 c3 z D E
end Go.Proofs.YtfkdailfcmnjlaaGreatDoor
