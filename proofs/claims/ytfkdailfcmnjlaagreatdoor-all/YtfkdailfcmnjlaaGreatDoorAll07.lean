/-
  A part.
-/
import Derived.Test.YtfkdailfcmnjlaaGreatDoorAll06
import Derived.Deep.RegionHeldLaw
set_option linter.all false
set_option maxHeartbeats 40000000
set_option maxRecDepth 1000000
namespace Go.Proofs.YtfkdailfcmnjlaaGreatDoor
open Go Go.RowKit Tryz
attribute [local go_sem ↓] Go.wp_at_zero Go.wp_at_succ
variable {B rb gl cl ts s w x}
def eO (ts:List Tok) (s:St) (x:List UInt8):St:=if gJ s.bad (cq ts s.i) x then{s with i:=s.i+1} else{s with bad:=true}
theorem nx (h:RS B rb gl cl ts s w) (z:gJ s.bad (cq ts s.i) x=true):s.i+1<ts.length/\s.bad=false:=by
 have E:=h.hi;have D:=h.fin s.i;unfold gJ eJ at z;simp at z;refine⟨?_,z.1⟩;rcases Rq (s.i+1) ts.length with h3|h3
 ·exact h3
 ·have G:(cq ts s.i).k=101:=D (by omega)
  omega
theorem RS.next (h:RS B rb gl cl ts s w) (z:s.i+1<ts.length):RS B rb gl cl ts {s with i:=s.i+1} (w.setCell ⟨rb,1,none⟩ (Iq (s.i+1))):=
 h.set 1 _ _ (by simp) rfl rfl z (by have:=h.few;simp;omega)
theorem RS.fails (h:RS B rb gl cl ts s w):RS B rb gl cl ts {s with bad:=true} (w.setCell ⟨rb,3,none⟩ (.bool true)):=
 h.set 3 _ _ (by simp) rfl rfl h.hi h.few
theorem ny (h:RS B rb gl cl ts s w) (x):
 Calls prog 114 #[Pq rb,S x] w λe w'=>e= .returned (.tuple #[])/\RS B rb gl cl ts (eO ts s x) w'/\Fr rb s.pv s.pv w w':=by
 have G:=be h.rd
 cases z:gJ s.bad (cq ts s.i) x with
 |true=>
  obtain⟨J,O⟩:=nx h z;have I:Hid (eO ts s x={s with i:=s.i+1}):=by show _=_;unfold eO;rw[Qo z]
  have V:=h.hn;go_enter func114,ntmps114;go_wp2_with fail;apply(iI h x).mono;rintro e R ⟨rfl,E⟩;have D:=h.below E;obtain⟨c0,c1,c2,c3⟩:=D.cells;have U:=D.free;rw[z];go_wp2
  go_end0
  refine⟨rfl,?_,(Fr.of_below E).set G _ _⟩;rw[I.out];exact D.next J
 |false=>
  have I:Hid (eO ts s x={s with bad:=true}):=by show _=_;unfold eO;rw[Qj (by simp[z])]
  go_enter func114,ntmps114;go_wp2_with fail;apply(iI h x).mono;rintro e R ⟨rfl,E⟩;have D:=h.below E;obtain⟨c0,c1,c2,c3⟩:=D.cells;have U:=D.free;rw[z];go_wp2
  go_end0
  refine⟨rfl,?_,(Fr.of_below E).set G _ _⟩;rw[I.out];exact D.fails
end Go.Proofs.YtfkdailfcmnjlaaGreatDoor
