/-
  A part.
-/
import Derived.Test.YtfkdailfcmnjlaaGreatDoorMeant26
import Derived.Deep.MidRow
set_option linter.unusedVariables false
set_option linter.unusedSimpArgs false
set_option maxHeartbeats 40000000
set_option maxRecDepth 1000000
namespace Go.Proofs.YtfkdailfcmnjlaaGreatDoor
open Go Go.RowKit
variable {base size n g o m i:Nat}
theorem Iz {e:TypeId} {cap:Nat} {w:World} {xs:List Value} (h:w.ownsRow base e size (Sq g n cap) n xs) (J:o+m≤n*size):w.there g o m:=by
 obtain⟨O,D⟩:=h;rcases D with⟨e,_⟩|⟨R,E,I,e,U,z,G,V,Y,Z⟩
 ·simp at e
 ·simp only[aak,ZR,aaJ,aby,abf] at e
  obtain⟨rfl,rfl⟩:=e;have hc:n*size≤cap*size:=Nat.mul_le_mul_right _ G;intro j hj;exact⟨by rw[Zz w g (o+j) _ _ _ z];simp;omega,by simp[World.frozen?,z]⟩
def EZ (ys zs:List Yt) (i:Nat):Prop:=zs.length=ys.length∧ ∀m,m<ys.length→zs.getD m CY=if m<i∨ys.length≤m+i then ys.getD (ys.length - 1 - m) CY else ys.getD m CY
theorem EZ.next {ys zs:List Yt} (h:EZ ys zs i) (I:i+1+i<ys.length):EZ ys ((zs.set i (zs.getD (ys.length - 1 - i) CY)).set (ys.length - 1 - i) (zs.getD i CY)) (i+1):=by
 have E:=h.1;refine⟨by simp[E],fun m G=>?_⟩
 by_cases z:ys.length - 1 - i=m
 ·subst z
  rw[dD (by simp;omega),h.2 i (by omega),Zt (by omega),Zu (by omega)]
  congr 1;omega
 ·rw[getD_set_ne z]
  by_cases D:i=m
  ·subst D
   rw[dD (by omega),h.2 _ (by omega),Zt (by omega),Zu (by omega)]
  ·rw[getD_set_ne D,h.2 m G]
   by_cases q:m<i∨ys.length≤m+i
   ·rw[Zu q,Zu (by omega)]
   ·rw[Zt q,Zt (by omega)]
end Go.Proofs.YtfkdailfcmnjlaaGreatDoor
