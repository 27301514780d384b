/-
  A part.
-/
import Derived.Test.YtfkdailfcmnjlaaGreatDoorAll08
import Derived.Lib.ParseIntBCases
set_option linter.all false
set_option maxHeartbeats 40000000
set_option maxRecDepth 1000000
namespace Go.Proofs.YtfkdailfcmnjlaaGreatDoor
open Go Go.RowKit
theorem Gr (n) (l):n<=dv n l:=by
 rw[qZ];have:1<=10^l.length:=SP (by simp)
 calc n=n*1:=by omega
  _<=n*10^l.length:=RV n this
  _<=_:=by omega
theorem rR (l):∀z,(∀c∈l,jk c=true)->z<=18446744073709551615->Lib.parseUintM 18446744073709551615 z l=if 18446744073709551615<dv z l then .range else .ok (dv z l):=by
 induction l with
 |nil=>intro z _ G;unfold Lib.parseUintM;rw[Qj (by show ¬_<dv z [];unfold dv;simp;omega)];rfl
 |cons c r ih=>
  intro z h G;have I:=re (h c (by simp))
  unfold Lib.parseUintM;rw[Qo I,kN];have O:=Gr (z*10+(c.toNat - 48)) r
  by_cases D:1844674407370955162<=z
  ·rw[Qo D,Qo (by omega)]
  ·rw[Qj D]
   by_cases E:18446744073709551615<z*10+(c.toNat - 48)
   ·rw[Qo E,Qo (by omega)]
   ·rw[Qj E]
    exact ih _ (λx J=>h x (by simp[J])) (by omega)
theorem zq (l) (z:l≠[]) (h:∀c∈l,jk c=true):Lib.parseIntB 64 l=if big l then .range else .ok (dW l):=by
 cases l with
 |nil=>exact absurd rfl z
 |cons c r=>
  have I:=re (h c (by simp))
  rw[Lib.parseIntB_plain 64 c r (by omega) (by omega)]
  unfold Lib.parseUintB;rw[Qj z,show(2:Nat)^64 - 1=18446744073709551615 from rfl,rR _ 0 h (by omega),show(2:Nat)^(64 - 1)=9223372036854775808 from rfl]
  have G:dW (c::r)=dv 0 (c::r):=rfl;unfold big;rw[G]
  by_cases D:18446744073709551615<dv 0 (c::r)
  ·rw[Qo D,Qo (by simp;omega)];rfl
  ·rw[Qj D]
   unfold Lib.signlessC
   by_cases E:9223372036854775807<dv 0 (c::r)
   ·simp only[]
    rw[Qo (by omega),Qo (by simpa using E)]
   ·simp only[]
    rw[Qj (by omega),Qj (by simpa using E)]
def vD (s:List UInt8):Value×Nat:=if big s then(.agg #[Iq 0,Iq 0,Iq 0,S []],0) else(.agg #[Iq 1,Iq 0,Iq (dW s),S []],s.length)
end Go.Proofs.YtfkdailfcmnjlaaGreatDoor
