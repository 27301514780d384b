/-
  A part.
-/
import Derived.Test.YtfkdailfcmnjlaaGreatDoorMeant04
import Derived.Deep.AppendLies
set_option linter.unusedVariables false
set_option linter.unusedSimpArgs false
set_option maxHeartbeats 40000000
set_option maxRecDepth 1000000
namespace Go.Proofs.YtfkdailfcmnjlaaGreatDoor
open Go Go.RowKit
def I5 (ts:List Tok):List Value:=ts.flatMap fun t=>[.int .u8 t.k,S t.text,Iq t.pl]
variable {a base size n:Nat} {c:UInt8} {w w' E G:World} {e:TypeId} {v:Value} {xs:List Value} {I J:Obj}
theorem oJ {l:List UInt8} {t:Tok} (E:a<l.length) (h:ji l a=some t):1≤t.text.length∧a+t.text.length≤l.length∧t.pl=a∧t.k≤255:=by
 unfold ji at h;have G:=mu ld l a (by omega)
 have D:=mu lf l a (by omega)
 split at h
 ·split at h
  ·simp at h
  ·simp at h;subst h;refine⟨?_,?_,rfl,by simp⟩<;>simp only[vF l a _ G]<;>omega
 ·split at h
  ·split at h
   ·simp at h;subst h;refine⟨?_,?_,rfl,by simp⟩<;>simp only[vF l a _ D]<;>omega
   ·split at h
    ·simp at h;subst h;refine⟨?_,?_,rfl,by simp⟩<;>simp only[vF l a _ D]<;>omega
    ·simp at h
  ·rw[Zv E] at h
   simp only at h
   split at h
   ·split at h
    ·simp at h;subst h
     rename_i h3
     have:a+1<l.length:=by
      rcases aaL (a+1) l.length with z|z
      ·exact z
      ·rw[Zs,ZQ z] at h3;simp at h3
     simp;omega
    ·simp at h;subst h;simp;omega
   ·split at h
    ·simp at h;subst h;simp;omega
    ·simp at h
theorem Ol (h:(c.toNat:Int)=32):lL c=true:=by unfold lL;simp;omega
theorem OO (h:((c.toNat:Int)==32)=true∨((c.toNat:Int)==10)=true):lL c=true:=by unfold lL;simp at h⊢;omega
theorem Om (h:((c.toNat:Int)==32)=false∧((c.toNat:Int)==10)=false):lL c=false:=by unfold lL;simp at h⊢;omega
theorem dn (h:w.ownsRow base e size v n xs) (I:Below w.heap.size w w'):w'.ownsRow base e size v n xs:=by
 obtain⟨J,z⟩:=h;refine⟨J,?_⟩;rcases z with z|⟨g,cap,D,a,b,c,d⟩
 ·exact .inl z
 ·refine .inr ⟨g,cap,D,a,b,?_,d⟩
  rw[I.block g ?_];exact c
  rcases aaL g w.heap.size with E|G
  ·exact E
  ·rw[aa9 G] at c;cases c
theorem Gb (z:Below w.heap.size w E) (D:E.ownsRow w.heap.size e size v n xs) (O:((E.alloc I).alloc J).grownBy G v.ownBlock):Below w.heap.size w G:=by
 have U:=z.size;exact abZ ((z.alloc (by omega) _).alloc (by simp;omega) _) O (by simp;omega) (fun j R=>(D.lt _ R).1)
theorem rT (z:Below w.heap.size w E) (D:E.ownsRow w.heap.size e size v n xs) (J:(E.alloc I).grownBy G v.ownBlock):Below w.heap.size w G:=by
 have R:=z.size;exact abZ (z.alloc (by omega) _) J (by simp;omega) (fun j O=>(D.lt _ O).1)
theorem I6 (l:List UInt8) (k f j:Nat) (E:0<f) (G:j<l.length) (z:eA lL l k=j) (D:ji l j=none):nx f l k=([],some j):=by
 obtain⟨f,rfl⟩:∃f',f=f'+1:=⟨f - 1,by omega⟩
 rw[nx,z,Zt (by omega),D]
theorem I7 (l:List UInt8) (k f j:Nat) (t:Tok) (E:j<l.length) (z:eA lL l k=j) (D:ji l j=some t):nx (f+1) l k=(t::(nx f l (j+t.text.length)).1,(nx f l (j+t.text.length)).2):=by
 rw[nx,z,Zt (by omega),D]
theorem Li (l:List UInt8) (k f:Nat) (D:0<f) (z:eA lL l k=l.length):nx f l k=([⟨101,[],l.length⟩],none):=by
 obtain⟨f,rfl⟩:∃f',f=f'+1:=⟨f - 1,by omega⟩
 rw[nx,z,Zu (by omega)]
end Go.Proofs.YtfkdailfcmnjlaaGreatDoor
