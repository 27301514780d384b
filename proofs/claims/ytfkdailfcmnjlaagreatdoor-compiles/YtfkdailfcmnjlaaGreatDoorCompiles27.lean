/-
  A part.
-/
import Derived.Test.YtfkdailfcmnjlaaGreatDoorCompiles12
import Derived.Test.YtfkdailfcmnjlaaGreatDoorCompiles22
set_option linter.all false
set_option maxHeartbeats 40000000
set_option maxRecDepth 1000000
namespace Go.Proofs.YtfkdailfcmnjlaaGreatDoor
open Go Go.RowKit
attribute [local go_sem ↓] Go.wp_at_zero Go.wp_at_succ
theorem Ja (l) (w) (hW:Wd w) (I:l.length<=maxLen):Calls Tryz.prog 32 #[S l] w (GF (cF l).1.1 (cF l).1.2 (cF l).2.1 (cF l).2.2 w):=by
 unfold cF
 by_cases D:1000<l.length
 ·rw[RK D];exact Fb l w D I _ _
 ·rw[RH D]
  cases E:(jQ (l.length+1) l 0).2 with
  |some p=>exact Fc l w hW (by omega) (jQ (l.length+1) l 0).1 p (by rw[<-E]) _ _
  |none=>
   have z:jQ (l.length+1) l 0=((jQ (l.length+1) l 0).1,none):=by rw[<-E]
   obtain⟨O,U,V,J,Y⟩:=tS l (by omega) (l.length+1) 0 _ (R0 _) (by omega) z
   generalize (jQ (l.length+1) l 0).1=ts at*;obtain⟨R,G⟩:=j6 (F:=16*ts.length+8) (RL _) J (ts.length+1) 0 [] [] (by omega)
   have e:lQ ts=R:=by unfold lQ;rw[G];rfl
   rw[e];exact CN l w hW (by omega) ts z G
theorem xr (l):(cF l).1.1<=6:=by
 unfold cF
 split
 ·simp
 ·split
  ·simp
  ·unfold da
   repeat' split
   all_goals simp
theorem GG (n:Nat) (z:n<=6) (w):Calls Tryz.prog 13 #[Iq n] w λe w'=>e= .returned (Iq n)/\w'=w:=by
 go_enter Tryz.func13,Tryz.ntmps13
 go_wp2
 all_goals go_ret
 all_goals refine⟨dh ?_,rfl⟩
 all_goals omega
end Go.Proofs.YtfkdailfcmnjlaaGreatDoor
