/-
  A part.
-/
import Derived.Test.YtfkdailfcmnjlaaGreatDoorAll10
import Derived.Test.YtfkdailfcmnjlaaGreatDoorAll16
set_option linter.all false
set_option maxHeartbeats 40000000
set_option maxRecDepth 1000000
namespace Go.Proofs.YtfkdailfcmnjlaaGreatDoor
open Go Go.RowKit Tryz
attribute [local go_sem ↓] Go.wp_at_zero Go.wp_at_succ
theorem qh (l) (w) (hW:Wd w) (I:l.length<=maxLen):Calls prog 32 #[S l] w (Fo (cF l).1.1 (cF l).1.2 (cF l).2.1 (cF l).2.2 w):=by
 unfold cF
 by_cases D:1000<l.length
 ·rw[Qo D];exact DM l w D I _ _
 ·rw[Qj D]
  cases E:(kP (l.length+1) l 0).2 with
  |some p=>exact DN l w hW (by omega) (kP (l.length+1) l 0).1 p (by rw[<-E]) _ _
  |none=>
   have z:kP (l.length+1) l 0=((kP (l.length+1) l 0).1,none):=by rw[<-E]
   obtain⟨O,U,V,J,Y⟩:=zn l (by omega) (l.length+1) 0 _ (QA _) (by omega) z
   generalize (kP (l.length+1) l 0).1=ts at*;obtain⟨R,G⟩:=mK (F:=16*ts.length+8) (Qn _) J (ts.length+1) 0 [] [] (by omega)
   have e:oV ts=R:=by unfold oV;rw[G];rfl
   rw[e];exact BE l w hW (by omega) ts z G
theorem jf (l):(cF l).1.1<=6:=by
 unfold cF
 split
 ·simp
 ·split
  ·simp
  ·unfold di
   repeat' split
   all_goals simp
theorem DZ (l) (w) (hW:Wd w) (D:l.length<=maxLen):Calls prog 11 #[S l] w λe w'=>e= .returned (.tuple #[Iq (cF l).1.1,Iq (cF l).1.2])/\Below w.heap.size w w':=by
 have z:=qh l w hW D;generalize (cF l).1.1=n at*;generalize (cF l).1.2=k at*;generalize (cF l).2.1=L at*;generalize (cF l).2.2=xs at*;go_enter func11,ntmps11;go_wp2_with fail;apply z.mono;rintro e G ⟨E,v,rfl,_⟩;go_wp2;refine Qs (v:= .tuple #[Iq n,Iq k]) (by simp[results,results11,go_sem]) rfl ?_
 exact⟨rfl,E⟩
theorem uW (n:Nat) (z:n<=6) (w):Calls prog 13 #[Iq n] w λe w'=>e= .returned (Iq n)/\w'=w:=by
 go_enter func13,ntmps13
 go_wp2
 all_goals go_ret
 all_goals refine⟨da ?_,rfl⟩
 all_goals omega
theorem D4 (l) (w) (hW:Wd w) (z:l.length<=maxLen):Calls prog 3 #[S l] w λe w'=>e= .returned (.bool true)/\Below w.heap.size w w':=by
 have D:=DZ l w hW z;have E:=λw=>yo l w z
 have O:=jf l;have G:=λw=>uW (cF l).1.1 O w
 generalize (cF l).1.1=n at*;generalize (cF l).1.2=k at*;go_enter func3,ntmps3;go_wp2_with fail;apply D.mono;rintro e R ⟨rfl,I⟩;go_wp2_with fail;apply(E R).mono;rintro e U ⟨rfl,J⟩;go_wp2_with fail;apply(G U).mono;rintro e V ⟨rfl,rfl⟩;go_wp2;go_ret;exact⟨rfl,I.trans (J.mono I.size)⟩
end Go.Proofs.YtfkdailfcmnjlaaGreatDoor
