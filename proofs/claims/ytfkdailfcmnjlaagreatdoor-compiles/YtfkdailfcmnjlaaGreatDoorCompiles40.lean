/-
  A part.
-/
import Derived.Test.YtfkdailfcmnjlaaGreatDoorCompiles39
import Derived.Deep.MidRow
set_option linter.all false
set_option maxHeartbeats 40000000
set_option maxRecDepth 1000000
namespace Go.Proofs.YtfkdailfcmnjlaaGreatDoor
open Go Go.RowKit
variable {base e size n g xs o m ys zs i}
theorem J9 {cap} {w:World} (h:w.ownsRow base e size (Sq g n cap) n xs) (J:o+m<=n*size):w.there g o m:=by
 obtain⟨O,D⟩:=h;rcases D with⟨e,_⟩|⟨R,E,I,e,U,z,G,V,Y,Z⟩
 ·simp at e
 ·simp only[Sb,R6,Tx,Uj,TV] at e
  obtain⟨rfl,rfl⟩:=e;have hc:n*size<=cap*size:=TT _ G;intro j hj;exact⟨by rw[RM w g (o+j) _ _ _ z];simp;omega,by simp[World.frozen?,z]⟩
def xV (ys zs:List Yt) (i:Nat):Prop:=zs.length=ys.length/\ ∀m,m<ys.length->zs.getD m Dx=if m<i\/ys.length<=m+i then ys.getD (ys.length - 1 - m) Dx else ys.getD m Dx
theorem xV.start (ys:List Yt):xV ys ys 0:=⟨rfl,λm z=>by rw[RH (by omega)]⟩
theorem xV.next (h:xV ys zs i) (I:i+1+i<ys.length):xV ys ((zs.set i (zs.getD (ys.length - 1 - i) Dx)).set (ys.length - 1 - i) (zs.getD i Dx)) (i+1):=by
 have E:=h.1;refine⟨by simp[E],λm G=>?_⟩
 by_cases z:ys.length - 1 - i=m
 ·subst z
  rw[cT (by simp;omega),h.2 i (by omega),RH (by omega),RK (by omega)]
  congr 1;omega
 ·rw[getD_set_ne z]
  by_cases D:i=m
  ·subst D
   rw[cT (by omega),h.2 _ (by omega),RH (by omega),RK (by omega)]
  ·rw[getD_set_ne D,h.2 m G]
   by_cases q:m<i\/ys.length<=m+i
   ·rw[RK q,RK (by omega)]
   ·rw[RH q,RH (by omega)]
end Go.Proofs.YtfkdailfcmnjlaaGreatDoor
