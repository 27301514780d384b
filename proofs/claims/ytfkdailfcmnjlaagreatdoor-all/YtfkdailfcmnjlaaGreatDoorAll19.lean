/-
  A part.
-/
import Derived.Test.YtfkdailfcmnjlaaGreatDoorAll12
import Derived.Test.YtfkdailfcmnjlaaGreatDoorLays2
import Derived.Shelf.Strings.Builder1
set_option linter.all false
set_option maxHeartbeats 40000000
set_option maxRecDepth 1000000
namespace Go.Proofs.YtfkdailfcmnjlaaGreatDoor
open Go Go.RowKit Tryz
variable {w b cs fr}
theorem sr:(prog.info? 157).map (λi=>i.size)=some 2:=by kernel_rfl
theorem wI (b) (w) (D:Cq w b 0 (Pq b)):
 Calls prog 118 #[Pq b] w λe w'=>e= .returned (.tuple #[])/\w'=w:=by
 obtain⟨j,z,_⟩:=QP.1 sr;go_enter func118,ntmps118;go_wp2;rw[Lib.run_neq_ptr_same w _ underlying154 z];go_wp2;go_end0;exact⟨rfl,rfl⟩
theorem uG (b) (w) (I:Cq w b 0 (.pointer none)) (z:w.shape? b=some (157,2)) (G:w.frozen? ⟨b,0,none⟩=false):
 Calls prog 118 #[Pq b] w λe w'=>e= .returned (.tuple #[])/\w'=w.setCell ⟨b,0,none⟩ (Pq b):=by
 obtain⟨j,D,E⟩:=QP.1 sr;go_enter func118,ntmps118;go_wp2;rw[Lib.run_to_unsafe w ⟨b,0,none⟩ underlying154 underlying270 D (by rw[E];decide) z (Nat.zero_lt_succ 1)]
 simp only[Result.andThen];rw[TH];go_wp2;rw[run_callFunc_extern func162 (by kernel_rfl) (by kernel_rfl) (by kernel_rfl) (by kernel_rfl)]
 rw[Lib.run_noEscape];simp only[Result.andThen];rw[TH];go_wp2;rw[Lib.run_from_unsafe w ⟨b,0,none⟩ underlying270 underlying154 D z extra169.liesBuilder];simp only[Result.andThen];rw[TH];go_wp2;go_end0;exact⟨rfl,rfl⟩
def WF (w w':World):Prop:= ∀(k:Nat) (cs:Array Value) (ty:TypeId) (fr:Nat×Nat),w.heap[k]?=some (.cells cs ty fr)->ty≠5->ty≠157->w'.heap[k]?=w.heap[k]?
theorem WF.refl (w:World):WF w w:=λ_ _ _ _ _ _ _=>rfl
theorem WF.trans {w z D} (h:WF w z) (k:WF z D):WF w D:=λj cs ty fr E G I=>by
 have e:=h j cs ty fr E G I;exact(k j cs ty fr (e.trans E) G I).trans e
theorem WF.set (D:w.heap[b]?=some (.cells cs 157 fr)) (j) (v):WF w (w.setCell ⟨b,j,none⟩ v):=λk G ty I z J E=>by
 refine Qr _ _ _ _ ?_;simp only;intro e;rw[e,D] at z;simp only[QE,RN] at z;exact E z.2.1.symm
theorem WF.grown {w w' base n v xs} (E:w.ownsRow base 5 1 v n xs) (G:w.grownBy w' v.ownBlock):WF w w':=λk cs ty fr z I O=>by
 refine G.block k (be z) λe=>?_
 rcases E.2 with⟨rfl,_⟩|⟨g,cap,J,rfl,_,D,_⟩
 ·simp[Value.ownBlock] at e
 simp[Value.ownBlock] at e;rw[e,D] at z;simp only[QE,RN] at z;exact I z.2.1.symm
theorem xR (B b) (z) (w) (h:Lib.IsBuilder 157 5 B b z w):
 Calls prog 118 #[Pq b] w λe w'=>e= .returned (.tuple #[])/\(Lib.BuilderAt 157 5 B b (Pq b) z w'/\Below B w w'/\WF w w'):=by
 rcases h with h|h
 ·refine(uG b w h.cell0 h.shape h.frozen0).mono ?_;rintro e w' ⟨rfl,rfl⟩;exact⟨rfl,h.used _,(Qq B w).setCell h.1 _,WF.set h.2.choose_spec.1 _ _⟩
 refine(wI b w h.cell0).mono ?_;rintro e w' ⟨rfl,rfl⟩;exact⟨rfl,h,Qq B _,WF.refl _⟩
theorem lq (B b) (J) (s) (w) (h:Lib.IsBuilder 157 5 B b J w) (ae:J.length+s.size<=140737488355328) (af:B<=w.heap.size):
 Calls prog 65 #[Pq b,.string s] w λe w'=>e= .returned (.tuple #[Iq s.size,.nilIface])/\(Lib.BuilderAt 157 5 B b (Pq b) (J++Lib.strCells s) w'/\Below B w w'/\WF w w'):=by
 obtain⟨i0,hi,Y,Z,aa⟩:=Ry extra169.infoByte;have W1:=xR B b J w h;go_enter func65,ntmps65;go_wp2_with fail;apply W1.mono;rintro e U ⟨rfl,h1,O,ab⟩;obtain⟨hB,v,G,E,ac⟩:=h1;have c1:U.cell? ⟨b,1,none⟩=some v:=by rw[Lib.cell_of_heap G];rfl
 go_wp2_with (at_builtin;refine Lib.wpList_append_own_string _ rfl _ _ 155 9 rfl B 5 i0 underlying155 underlying9 hi Y Z aa _ _ _ rfl E s rfl ?c3 ?c4 ?c5 ?_)
 case c3=>unfold maxLen;omega
 case c4=>omega
 case c5=>have:=O.size;omega
 intro v' R I z _;have ad:=be G;have D:R.heap[b]?=some (.cells #[Pq b,v] 157 (0,0)):=by
  rw[z.block b ad (λe=>ac e.symm)]
  exact G
 have d1:R.cell? ⟨b,1,none⟩=some v:=by rw[Lib.cell_of_heap D];rfl
 have f1:=Lib.frozen_of_heap D 1;obtain⟨ao,n',cap,rfl⟩:∃ao n' cap,v'= .slice ao n' cap:=by
  rcases I.2 with⟨V,_⟩|⟨g,cap,ag,V,_⟩
  ·exact⟨_,_,_,V⟩
  exact⟨_,_,_,V⟩
 go_wp2;go_ret2;refine⟨rfl,?_,?_,?_⟩
 ·exact Lib.BuilderAt.put hB D (by simpa [Lib.strCells_length] using I) (by decide)
 ·exact(O.grown z (by have:=O.size;omega) (λk hk=>(E.lt k hk).1)).setCell hB _
 exact(ab.trans (WF.grown E z)).trans (WF.set D _ _)
theorem su (B b) (l:LB) (w) (h:Lib.IsBuilder 157 5 B b (Lib.byteCells l) w) (z:B<=w.heap.size):
 Calls prog 68 #[Pq b] w λe w'=>e= .returned (S l)/\Below B w w':=Any.Builder_String_any lays169 extra169 B b l w h z
end Go.Proofs.YtfkdailfcmnjlaaGreatDoor
