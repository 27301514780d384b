/-
  A part.
-/
import Derived.Test.YtfkdailfcmnjlaaGreatDoorAll31
import Derived.Deep.MidRow
set_option linter.all false
set_option maxHeartbeats 40000000
set_option maxRecDepth 1000000
namespace Go.Proofs.YtfkdailfcmnjlaaGreatDoor
open Go Go.RowKit
variable {base e size n g xs o m ys zs i}
theorem IW {cap} {w:World} (h:w.ownsRow base e size (Sq g n cap) n xs) (J:o+m<=n*size):w.there g o m:=by
 obtain⟨O,D⟩:=h;rcases D with⟨e,_⟩|⟨R,E,I,e,U,z,G,V,Y,Z⟩
 ·simp at e
 ·simp only[QK,QE,RL,SC,R8] at e
  obtain⟨rfl,rfl⟩:=e;have hc:n*size<=cap*size:=R6 _ G;intro j hj;exact⟨by rw[Qm w g (o+j) _ _ _ z];simp;omega,by simp[World.frozen?,z]⟩
def EP (ys zs:List Yt) (i:Nat):Prop:=zs.length=ys.length/\ ∀m,m<ys.length->zs.getD m Cs=if m<i\/ys.length<=m+i then ys.getD (ys.length - 1 - m) Cs else ys.getD m Cs
theorem EP.next (h:EP ys zs i) (I:i+1+i<ys.length):EP ys ((zs.set i (zs.getD (ys.length - 1 - i) Cs)).set (ys.length - 1 - i) (zs.getD i Cs)) (i+1):=by
 have E:=h.1;refine⟨by simp[E],λm G=>?_⟩
 by_cases z:ys.length - 1 - i=m
 ·subst z
  rw[cQ (by simp;omega),h.2 i (by omega),Qj (by omega),Qo (by omega)]
  congr 1;omega
 ·rw[getD_set_ne z]
  by_cases D:i=m
  ·subst D
   rw[cQ (by omega),h.2 _ (by omega),Qj (by omega),Qo (by omega)]
  ·rw[getD_set_ne D,h.2 m G]
   by_cases q:m<i\/ys.length<=m+i
   ·rw[Qo q,Qo (by omega)]
   ·rw[Qj q,Qj (by omega)]
end Go.Proofs.YtfkdailfcmnjlaaGreatDoor
