/-
  Proved: for every script of calls, gavellaw.All answers true (whatever is checked, printed, meant, loaded, compiled and judged, in every order, on several codes beside one another, the program answers as the document does), and the script reads as it did; where the listed package-level variables begin as the program's text lays them.
-/
import Derived.Test.YtfkdailfcmnjlaaGreatDoorAll44
import Derived.Test.YtfkdailfcmnjlaaGreatDoorAll41
import Derived.Test.YtfkdailfcmnjlaaGreatDoorAll43
import Derived.Test.YtfkdailfcmnjlaaGreatDoorCards
import Derived.Test.YtfkdailfcmnjlaaGreatDoorTie
import Derived.SevenTiedAt
import Derived.Carry
set_option linter.all false
set_option maxHeartbeats 40000000
set_option maxRecDepth 1000000
namespace Go.Proofs.YtfkdailfcmnjlaaGreatDoor
open Go Go.ChangeShapes Go.WideShapes Go.ChangeAt Go.WideMaps Go.WideElems Go.RowKit Go.Deep Go.Joins
set_option maxRecDepth 100000
theorem ET (os) (started:os.Started) (H) (enc:TypeId×Value->H):
 ReturnsInHanded {} Tryz.checked os 10 .any (λw args=>(Rows.allSpec.pre enc Tryz.prog Tryz.f10 [] false w args/\laidMetH Tryz.prog qT w)/\sizedMet enc Tryz.prog Tryz.f10 (OpenSpec.ofChange Rows.allSpec) false w args)
  (Rows.allSpec.post enc Tryz.prog Tryz.f10 false true false false):=by
 refine returnsInHanded_of_change_and (C:=Tryz.checked) (X:=λw _=>laidMetH Tryz.prog qT w) (λ_ _ _ hh h=>h.of_heap hh) own started (by kernel_rfl) Tryz.func10
  (ChangeSpec.witness_shaped (enc:=enc) (C:=Tryz.checked) (os:=os) (X:=λw _=>laidMetH Tryz.prog qT w) false (World.doorLaid Tryz.prog 400 os) #[.slice none 0 0] 8 rfl (World.shaped_of_RefB (by kernel_rfl) (by kernel_rfl)) (by kernel_rfl) (by kernel_rfl) (by kernel_rfl) (I6 os _)) ?_
 intro W base args ds gs before hval0 hW _ hsz hL _
 have hval:∀(j:Nat) t v,Tryz.f10.params[j]?=some t->args[j]?=some v->Value.okWide Tryz.prog W .any base t v:=hval0
 have hW':=hW
 obtain⟨p,q,hA0,hV,rfl,hfz,hnd⟩:=hW
 have hA:DataW.TrodAll enc Tryz.prog W 0 (λ_=>true) true Tryz.f10.params.toList args.toList ds p:=hA0
 rw[Tryz.params10] at hA hval hsz
 obtain⟨v0,d0,rfl,rfl,h0⟩:=trodAll_one hA
 obtain⟨rfl,rfl⟩:=trodVars_none hV
 have h0k:=h0
 obtain⟨a0,l0,c0,rfl⟩:=okWide_slice Tryz.underlying71 (hval 0 71 v0 rfl rfl)
 obtain⟨fuel,hf⟩:=h0
 have hsz2:∀n∈d0.weights Tryz.prog 71,n<=140737488351232:=λn hn=>by
  rw[Sk] at hsz
  have:=hsz n (by simp only[RW,Sd,DataW.weightsEach];first|exact hn|exact Rn.2 (.inl hn))
  simpa [show reachBytes=140737488351232 from rfl] using this
 obtain⟨a,len,cap,ops,e,hl,hs⟩:=CB hf hsz2
 have hcall:=Nd (cap:=cap) (LI hL) (LK hL) (LJ hL) hs hl
 rw[<-e] at hcall
 refine hcall.mono λe W' ⟨he,hb⟩=>?_
 subst he
 have hlt:∀x∈p,x.block<W.heap.size:=λx hx=>hW'.lt x (by simp only[Sd,RW];exact hx)
 have e1:∀a:DataW H,Rows.allSpec.fn H ([a]++[])={results:=[.lit (.bool true)],args:=[a]}:=λa=>by simp[Rows.allSpec]
 refine⟨_,rfl,_,_,_,[],p,[],hW',?_,?_,?_,hb.frame _,λh=>by cases h⟩
 ·rw[e1];exact trodAll_mk1 (shut_bool Tryz.underlying4 true)
 ·rw[e1]
  exact trodAll_mk1 (Below.trod I5 (by kernel_rfl) (Tx (by kernel_rfl)) h0k hb hlt)
 ·rw[e1];rfl
theorem Nh:Rows.AllSaid:=
 OpenClaim.holds_of_wide 10 Tryz.f10 rfl rfl rfl rfl rfl rfl rfl ⟨rfl,rfl,rfl,rfl,rfl⟩ rfl rfl rfl rfl rfl (by kernel_rfl) Tryz.func10 EU
  (Tx (by kernel_rfl)) (by unfold Func.isWrapper;first|(rw[Qo (by decide+kernel)];kernel_rfl)|(rw[Qj (by decide+kernel)];exact⟨rfl,rfl⟩))
  (λos started H enc _=>ET os started H enc)
theorem all_card:Rows.AllCardSaid:=
 Claim7.holds_tied_plain_at .later [] [.data,.data,.data,.wider,.sentinel,.sentinel,.data] true (true,"40ff3d9dad59f5f98b55aa2d57afbf509805ca6e9e570cc5824883c58f705c11") true
  Nh (λ_ h=>by cases h) (by kernel_rfl) (λ_ h=>by cases h) all_row_tie rfl ⟨rfl,rfl⟩ (by kernel_rfl) rfl
  (λf fn hf hfn=>by
   obtain rfl:f=10:=Rf ((show Tryz.prog.funcNamed "gavel/gavellaw.All"=some 10 by kernel_rfl).symm.trans hf)|>.symm
   obtain rfl:fn=Tryz.f10:=(Rf (Tryz.func10.symm.trans hfn)).symm
   exact⟨by kernel_rfl,λj t ht=>by
    rw[Tryz.params10] at ht
    have h3:t=71:=by
     rcases j with _|j
     ·simpa using ht.symm
     ·simp at ht
    subst h3
    exact(show Tryz.prog.wantsStandIn 71=false by kernel_rfl)⟩)
  (by kernel_rfl)
#print axioms all_card
end Go.Proofs.YtfkdailfcmnjlaaGreatDoor
