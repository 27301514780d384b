/-
  A part.
-/
import Derived.Test.YtfkdailfcmnjlaaGreatDoorMeant05
import Derived.Deep.RegionHeld3
import Derived.Deep.DrawnRows
set_option linter.unusedVariables false
set_option linter.unusedSimpArgs false
set_option maxHeartbeats 40000000
set_option maxRecDepth 1000000
namespace Go.Proofs.YtfkdailfcmnjlaaGreatDoor
open Go Go.RowKit
attribute [local go_sem ↓] Go.wp_at_zero Go.wp_at_succ
structure kf where
 tok:Tok
 subs:List Nat
 n:Int
 sv:Value
def hZ (ps:List kf):List Value:=ps.flatMap fun p=>[.int .u8 p.tok.k,S p.tok.text,Iq p.tok.pl,p.sv,Iq p.n]
def M2 (l:List Nat):Array Value:=(l.map fun x:Nat=>Value.int .i64 (x:Int)).toArray
def oK (w:World) (p:kf):Prop:=(p.subs=[]∧p.sv= .slice none 0 0)∨ ∃E,p.sv= .slice (some ⟨E,0,none⟩) p.subs.length p.subs.length∧w.heap[E]?=some (.cells (M2 p.subs) 3 (0,0))
structure St where
 i:Nat
 pv:Value
 ps:List kf
 bad:Bool
structure RS (B rb gl cl:Nat) (ts:List Tok) (s:St) (w:World):Prop where
 rd:w.heap[rb]?=some (.cells #[.slice (some ⟨gl,0,none⟩) ts.length cl,Iq s.i,s.pv,.bool s.bad] 149 (0,0))
 words:w.ownsRow B 151 3 (.slice (some ⟨gl,0,none⟩) ts.length cl) ts.length (I5 ts)
 parts:w.ownsRow B 169 5 s.pv s.ps.length (hZ s.ps)
 subs:∀p∈s.ps,oK w p
 hb:B≤rb
 hi:s.i<ts.length
 hn:ts.length≤1001
 fin:∀i,i+1=ts.length→(ts.getD i ku).k=101
 few:s.ps.length≤s.i
structure Fr (rb:Nat) (pv pv':Value) (w w':World):Prop where
 os:w'.os=w.os
 tape:w'.tape=w.tape
 output:w'.output=w.output
 size:w.heap.size≤w'.heap.size
 block:∀k,k<w.heap.size→k≠rb→some k≠pv.ownBlock→w'.heap[k]?=w.heap[k]?
 own:pv'.ownBlock=pv.ownBlock∨ ∃g,pv'.ownBlock=some g∧w.heap.size≤g
theorem Fr.refl (rb:Nat) (pv:Value) (w:World):Fr rb pv pv w w:=⟨rfl,rfl,rfl,Zw _,fun _ _ _ _=>rfl,.inl rfl⟩
theorem Fr.trans {rb:Nat} {pv z D:Value} {w E G:World} (h:Fr rb pv z w E) (k:Fr rb z D E G):Fr rb pv D w G:=by
 refine⟨k.os.trans h.os,k.tape.trans h.tape,k.output.trans h.output,Z8 h.size k.size,?_,?_⟩
 ·intro i I J O
  rw[k.block i (aau I h.size) J ?_,h.block i I J O];rcases h.own with e|⟨g,e,R⟩
  ·rw[e];exact O
  ·rw[e];intro U;simp at U;omega
 ·rcases k.own with e|⟨g,e,R⟩
  ·rw[e];exact h.own
  ·exact .inr ⟨g,e,Z8 h.size R⟩
variable {rb k base size n B gl cl:Nat} {pv z v:Value} {w w':World} {e:TypeId} {xs:List Value} {ts:List Tok}
theorem Fr.of_below (h:Below w.heap.size w w'):Fr rb pv pv w w':=
 ⟨h.os,h.tape,h.output,h.size,fun k z _ _=>h.block k z,.inl rfl⟩
theorem Fr.set (h:Fr rb pv z w w') (I:rb<w.heap.size) (i:Nat) (v:Value):Fr rb pv z w (w'.setCell ⟨rb,i,none⟩ v):=
 ⟨h.os,h.tape,h.output,by simpa using h.size,fun k E D G=>by rw[ZO _ _ _ _ (by exact D)];exact h.block k E D G,h.own⟩
theorem be {o:Obj} (h:w.heap[k]?=some o):k<w.heap.size:=by
 rcases aaL k w.heap.size with z|D
 ·exact z
 ·rw[aa9 D] at h;cases h
theorem dE (h:w.ownsRow base e size v n xs) (E:∀k,v.ownBlock=some k→w'.heap[k]?=w.heap[k]?):w'.ownsRow base e size v n xs:=by
 obtain⟨G,z⟩:=h;refine⟨G,?_⟩;rcases z with z|⟨g,cap,D,a,b,c,d⟩
 ·exact .inl z
 ·exact .inr ⟨g,cap,D,a,b,by rw[E g (by rw[a];rfl)];exact c,d⟩
theorem dF (h:w.ownsRow base e size v n xs) (z:v.ownBlock=some k):∃cs,w.heap[k]?=some (.cells cs e (0,0)):=by
 rcases h.2 with⟨E,_⟩|⟨g,cap,D,a,b,c,d⟩
 ·rw[E] at z;cases z
 ·rw[a] at z;simp[Value.ownBlock] at z;subst z;exact⟨D,c⟩
theorem RS.below {s:St} (h:RS B rb gl cl ts s w) (z:Below w.heap.size w w'):RS B rb gl cl ts s w':=by
 refine⟨?_,dn h.words z,dn h.parts z,?_,h.hb,h.hi,h.hn,h.fin,h.few⟩
 ·rw[z.block rb (be h.rd)];exact h.rd
 ·intro p G
  rcases h.subs p G with e|⟨D,e,E⟩
  ·exact .inl e
  ·exact .inr ⟨D,e,by rw[z.block D (be E)];exact E⟩
theorem RS.set {s:St} (h:RS B rb gl cl ts s w) (j:Nat) (v:Value) (s':St)
 (V:(#[Sq gl ts.length cl,Iq s.i,s.pv,.bool s.bad]:Array Value).setIfInBounds j v= #[Sq gl ts.length cl,Iq s'.i,s'.pv,.bool s'.bad])
 (E:s'.ps=s.ps) (O:s'.pv=s.pv) (Y:s'.i<ts.length) (Z:s'.ps.length≤s'.i):RS B rb gl cl ts s' (w.setCell ⟨rb,j,none⟩ v):=by
 have I:∀k,k≠rb→(w.setCell ⟨rb,j,none⟩ v).heap[k]?=w.heap[k]?:=fun k z=>ZO _ _ _ _ z
 refine⟨?_,?_,?_,?_,h.hb,Y,h.hn,h.fin,Z⟩
 ·rw[ZK w rb j _ _ v h.rd,V]
 ·refine dE h.words fun k z=>I k fun e=>?_
  subst e;obtain⟨cs,D⟩:=dF h.words z;rw[h.rd] at D;simp at D
 ·rw[E,O]
  refine dE h.parts fun k z=>I k fun e=>?_
  subst e;obtain⟨cs,D⟩:=dF h.parts z;rw[h.rd] at D;simp at D
 ·rw[E]
  intro p hp;rcases h.subs p hp with e|⟨R,e,J⟩
  ·exact .inl e
  ·refine .inr ⟨R,e,?_⟩
   rw[I R (fun e=>by subst e;rw[h.rd] at J;simp at J)];exact J
theorem RS.cells {B rb gl cl:Nat} {ts:List Tok} {s:St} {w:World} (h:RS B rb gl cl ts s w):
 Cq w rb 0 (Sq gl ts.length cl)∧Cq w rb 1 (Iq s.i)∧w.cell? ⟨rb,2,none⟩=some s.pv∧Cq w rb 3 (.bool s.bad):=by
 have z:=fun j=>Zz w rb j _ _ _ h.rd
 exact⟨z 0,z 1,z 2,z 3⟩
theorem RS.free {s:St} (h:RS B rb gl cl ts s w) (j:Nat):w.frozen? ⟨rb,j,none⟩=false:=by
 simp[World.frozen?,h.rd]
end Go.Proofs.YtfkdailfcmnjlaaGreatDoor
