/-
  A part.
-/
import Derived.Test.YtfkdailfcmnjlaaGreatDoorCompiles22
import Derived.Lib.LaidTab
import Derived.Lib.AppendIntMem
set_option linter.all false
set_option maxHeartbeats 40000000
set_option maxRecDepth 1000000
namespace Go.Proofs.YtfkdailfcmnjlaaGreatDoor
open Go Go.RowKit
section
attribute [local go_sem ↓] Go.wp_at_zero Go.wp_at_succ
variable {bs : Nat}
variable {w w'}
def Tb (w:World):Prop:=Lib.TabIs Tryz.prog w "internal/strconv.uint64pow10" .u64 Lib.pow10Tab
theorem Rl:Tryz.prog.globalNamed "internal/strconv.uint64pow10"=some 2:=by kernel_rfl
theorem Tb.below (h:Tb w) (E:Below w.heap.size w w'):Tb w':=by
 unfold Tb Lib.TabIs World.var? at*;rw[Rl] at*;simp only[Option.bind_some] at*;have D:2<w.heap.size:=by
  rcases SZ 2 w.heap.size with z|z
  ·exact z
  ·rw[TK z] at h;simp at h
 rw[E.block _ D];exact h
end
section
attribute [local go_sem ↓] Go.wp_at_zero Go.wp_at_succ
variable {bs : Nat}
structure oQ (L:List Pt):Prop where
 tokw:∀k,k<L.length->ik (L.getD k cD).tok
 short:∀k,k<L.length->(L.getD k cD).tok.text.length<=1000
 num:∀k,k<L.length->(L.getD k cD).tok.k=110->dG (L.getD k cD).tok.text<=9223372036854775807
 few:L.length<=5000
end
section
variable {bs : Nat}
variable {j}
theorem NT {l:List Nat} (h:j<l.length):l.getD j 0∈l:=by rw[RG,RI h];exact R4 h
end
end Go.Proofs.YtfkdailfcmnjlaaGreatDoor
