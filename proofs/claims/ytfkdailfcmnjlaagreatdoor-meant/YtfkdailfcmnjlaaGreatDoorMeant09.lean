/-
  A part.
-/
import Derived.Test.YtfkdailfcmnjlaaGreatDoorMeant08
import Derived.Lib.ParseIntBCases
set_option linter.unusedVariables false
set_option linter.unusedSimpArgs false
set_option maxHeartbeats 40000000
set_option maxRecDepth 1000000
namespace Go.Proofs.YtfkdailfcmnjlaaGreatDoor
open Go Go.RowKit
theorem Gg (n:Nat) (l:List UInt8):n≤dv n l:=by
 rw[M1];have:1≤10^l.length:=Nat.pos_of_ne_zero (by simp)
 calc n=n*1:=by omega
  _≤n*10^l.length:=Nat.mul_le_mul_left n this
  _≤_:=by omega
theorem sN (l:List UInt8):∀z:Nat,(∀c∈l,ld c=true)→z≤18446744073709551615→Lib.parseUintM 18446744073709551615 z l=if 18446744073709551615<dv z l then .range else .ok (dv z l):=by
 induction l with
 |nil=>intro z _ G;unfold Lib.parseUintM;rw[Zt (by show ¬_<dv z [];unfold dv;simp;omega)];rfl
 |cons c r ih=>
  intro z h G;have I:=I3 (h c (by simp))
  unfold Lib.parseUintM;rw[Zu I,zF];have O:=Gg (z*10+(c.toNat - 48)) r
  by_cases D:1844674407370955162≤z
  ·rw[Zu D,Zu (by omega)]
  ·rw[Zt D]
   by_cases E:18446744073709551615<z*10+(c.toNat - 48)
   ·rw[Zu E,Zu (by omega)]
   ·rw[Zt E]
    exact ih _ (fun x J=>h x (by simp[J])) (by omega)
theorem zJ (l:List UInt8) (z:l≠[]) (h:∀c∈l,ld c=true):Lib.parseIntB 64 l=if big l then .range else .ok ((eP l:Nat):Int):=by
 cases l with
 |nil=>exact absurd rfl z
 |cons c r=>
  have I:=I3 (h c (by simp))
  rw[Lib.parseIntB_plain 64 c r (by omega) (by omega)]
  unfold Lib.parseUintB;rw[Zt z,show(2:Nat)^64 - 1=18446744073709551615 from rfl,sN _ 0 h (by omega),show(2:Nat)^(64 - 1)=9223372036854775808 from rfl]
  have G:eP (c::r)=dv 0 (c::r):=rfl;unfold big;rw[G]
  by_cases D:18446744073709551615<dv 0 (c::r)
  ·rw[Zu D,Zu (by simp;omega)];rfl
  ·rw[Zt D]
   unfold Lib.signlessC
   by_cases E:9223372036854775807<dv 0 (c::r)
   ·simp only[]
    rw[Zu (by omega),Zu (by simpa using E)]
   ·simp only[]
    rw[Zt (by omega),Zt (by simpa using E)]
def wE (s:List UInt8):Value×Nat:=if big s then(.agg #[Iq 0,Iq 0,Iq 0,S []],0) else(.agg #[Iq 1,Iq 0,Iq (eP s),S []],s.length)
end Go.Proofs.YtfkdailfcmnjlaaGreatDoor
