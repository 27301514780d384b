/-
  A part.
-/
import Derived.Test.YtfkdailfcmnjlaaGreatDoorMeant02
import Derived.Test.YtfkdailfcmnjlaaGreatDoorMeant03
set_option linter.unusedVariables false
set_option linter.unusedSimpArgs false
set_option maxHeartbeats 40000000
set_option maxRecDepth 1000000
set_option maxHeartbeats 40000000
set_option maxRecDepth 1000000
namespace Go.Proofs.YtfkdailfcmnjlaaGreatDoor
open Go Go.RowKit
theorem ug (t:TypeId) (a b:ByteArray):binOp .gtr t (.string a) (.string b)=pure (.bool (!Op.bytesLess a.toList b.toList&&!a.toList==b.toList)):=by simp[binOp,Op.stringOp]
attribute [local go_sem] ug
theorem uh (l:List UInt8) (a b:Nat):(ByteArray.mk l.toArray).extract a b=⟨(cut l a b).toArray⟩:=ByteArray.extract_mk l a b
theorem vF (l:List UInt8) (a b:Nat) (h:b≤l.length):(cut l a b).length=b - a:=by
 unfold cut;simp;omega
theorem I4 (p:UInt8→Bool) (l:List UInt8) (a:Nat):∀c∈cut l a (eA p l a),p c=true:=by
 intro c z;unfold cut eA at z;have D:a+((l.drop a).takeWhile p).length - a=((l.drop a).takeWhile p).length:=by omega
 rw[D] at z;have E:(l.drop a).take ((l.drop a).takeWhile p).length=(l.drop a).takeWhile p:=by
  have:=(List.takeWhile_prefix (l:=l.drop a) p);exact(abJ.1 this).symm
 rw[E] at z;have h3:=List.all_takeWhile (p:=p) (l:=l.drop a);exact abn.1 h3 c z
theorem fg (w:World) (b i:Nat) (v:Value) (h:(w.cell? ⟨b,i,none⟩).isSome=true):Cq ((w.setCell ⟨b,i,none⟩ v)) b i v:=by
 cases e:w.cell? ⟨b,i,none⟩ with
 |none=>rw[e] at h;simp at h
 |some u=>exact World.cell?_setCell_same _ _ _ e
theorem dU (w:World) (b i j:Nat) (v:Value) (h:i≠j):(w.setCell ⟨b,i,none⟩ v).cell? ⟨b,j,none⟩=w.cell? ⟨b,j,none⟩:=
 abC _ _ _ _ (by simp[h])
theorem lR (w:World) (b i j:Nat) (v:Value) (h:(w.cell? ⟨b,j,none⟩).isSome=true):((w.setCell ⟨b,i,none⟩ v).cell? ⟨b,j,none⟩).isSome=true:=by
 by_cases e:i=j
 ·subst e;rw[fg _ _ _ _ h];rfl
 ·rw[dU _ _ _ _ _ e];exact h
end Go.Proofs.YtfkdailfcmnjlaaGreatDoor
