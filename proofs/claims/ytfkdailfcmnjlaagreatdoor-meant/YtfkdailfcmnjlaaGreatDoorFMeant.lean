/-
  Proved: for every scene, every row of raw numbers, every text and number of passes, gavelkeep.Meant answers true (what is compiled of the policy that is written of the numbers, under each of the sixteen sets of passes, and of the text under these passes, is a code where the text is a policy, judges the scene's event and state as the policy means, in one step or more and no more steps than it has bytes, and is the same of the passes' last four bits; what is written says what its words say), and the arguments read as they did; where the listed package-level variables begin as the program's text lays them.
-/
import Derived.Test.YtfkdailfcmnjlaaGreatDoorMeant25
import Derived.Test.YtfkdailfcmnjlaaGreatDoorMeant29
import Derived.Test.YtfkdailfcmnjlaaGreatDoorMeant30
import Derived.Test.YtfkdailfcmnjlaaGreatDoorCards
import Derived.Test.YtfkdailfcmnjlaaGreatDoorTie
import Derived.SevenTiedAt
import Derived.Carry
set_option linter.unusedVariables false
set_option linter.unusedSimpArgs false
set_option maxHeartbeats 40000000
set_option maxRecDepth 1000000
namespace Go.Proofs.YtfkdailfcmnjlaaGreatDoor
open Go Go.ChangeShapes Go.WideShapes Go.ChangeAt Go.WideMaps Go.WideElems Go.RowKit Go.Deep Go.Joins
set_option maxRecDepth 100000
theorem zr (os:Os) (started:os.Started) (H:Type) (enc:TypeId×Value→H):
 ReturnsInHanded {} Tryz.checked os 9 .any (fun w args=>(Rows.meantSpec.pre enc Tryz.prog Tryz.f9 [] false w args∧laidMetH Tryz.prog vr w)∧sizedMet enc Tryz.prog Tryz.f9 (OpenSpec.ofChange Rows.meantSpec) false w args)
  (Rows.meantSpec.post enc Tryz.prog Tryz.f9 false true false false):=by
 refine returnsInHanded_of_change_and (C:=Tryz.checked) (X:=fun w _=>laidMetH Tryz.prog vr w) (fun _ _ _ hh h=>h.of_heap hh) own started (by kernel_rfl) Tryz.func9
  (ChangeSpec.witness_shaped (enc:=enc) (C:=Tryz.checked) (os:=os) (X:=fun w _=>laidMetH Tryz.prog vr w) false (World.doorLaid Tryz.prog 400 os) #[.agg #[.int .i64 0,.int .i64 0,.int .i64 0,.int .i64 0,.int .i64 0,.int .i64 0,.int .i64 0,.int .i64 0,.int .i64 0,.int .i64 0,.int .i64 0,.bool false,.bool false,.bool false,.int .i64 0,.bool false],.slice none 0 0,.string ⟨#[]⟩,.int .i64 0] 8 rfl (World.shaped_of_RefB (by kernel_rfl) (by kernel_rfl)) (by kernel_rfl) (by kernel_rfl) (by kernel_rfl) (IJ os _)) ?_
 intro W base args ds gs before hval0 hW _ hsz hL _
 have hval:∀(j:Nat) t v,Tryz.f9.params[j]?=some t→args[j]?=some v→Value.okWide Tryz.prog W .any base t v:=hval0
 have hW':=hW
 obtain⟨p,q,hA0,hV,rfl,hfz,hnd⟩:=hW
 have hA:DataW.TrodAll enc Tryz.prog W 0 (fun _=>true) true Tryz.f9.params.toList args.toList ds p:=hA0
 rw[Tryz.params9] at hA hval
 obtain⟨v0,v1,v2,v3,d0,d1,d2,d3,p0,p1,p2,p3,rfl,rfl,rfl,h0,h1,h2,h3⟩:=trodAll_four hA
 obtain⟨rfl,rfl⟩:=trodVars_none hV
 have h0k:=h0
 have h1k:=h1
 have h2k:=h2
 have h3k:=h3
 obtain⟨c,rfl,hc⟩:=EV (hval 0 37 v0 rfl rfl) h0
 obtain⟨zs,hz,hin⟩:=KK (hval 1 38 v1 rfl rfl) h1
 obtain⟨s,rfl,rfl,rfl,hs⟩:=Go.ChangeMaps.open_string Tryz.underlying9 (hval 2 9 v2 rfl rfl) h2
 obtain⟨n,rfl,rfl,rfl,_⟩:=open_int Tryz.underlying3 (hval 3 3 v3 rfl rfl) h3
 have hsl:s.data.toList.length≤maxLen:=by rw[abY];exact hs
 have hcall:=IH (c:=c) hc (rv:=v1) (l:=s.data.toList) (n:=n) (w:=W) (fun w' hb=>CU hc (hz.below hb) hin) (K4 hL) (K5 hL) hsl
 refine hcall.mono fun e W' ⟨he,hb⟩=>?_
 subst he
 have hlt:∀x∈p0++p1++[]++[]++[],x.block<W.heap.size:=fun x hx=>hW'.lt x hx
 have hlt0:∀x∈p0,x.block<W.heap.size:=fun x hx=>hlt x (by simp[hx])
 have hlt1:∀x∈p1,x.block<W.heap.size:=fun x hx=>hlt x (by simp[hx])
 have e1:∀a b c d:DataW H,Rows.meantSpec.fn H ([a,b,c,d]++[])={results:=[.lit (.bool true)],args:=[a,b,c,d]}:=fun a b c d=>by simp[Rows.meantSpec]
 refine⟨_,rfl,_,_,_,[],p0++p1++[]++[],[],hW',?_,?_,?_,hb.frame _,fun h=>by cases h⟩
 ·rw[e1];exact trodAll_mk1 (shut_bool Tryz.underlying4 true)
 ·rw[e1]
  have hm:=trodAll_mk4 (Below.trod tP (by kernel_rfl) (abg (by kernel_rfl)) h0k hb hlt0) (Below.trod tP (by kernel_rfl) (abg (by kernel_rfl)) h1k hb hlt1) (Below.trod tP (by kernel_rfl) (abg (by kernel_rfl)) h2k hb (fun x hx=>absurd hx aal)) (Below.trod tP (by kernel_rfl) (abg (by kernel_rfl)) h3k hb (fun x hx=>absurd hx aal))
  simp only[aaW,ZZ,aaF] at hm⊢
  exact hm
 ·rw[e1];rfl
set_option maxHeartbeats 40000000 in
theorem zt:joinedFacts Tryz.prog 9 Tryz.f9 Rows.meantSpec Rows.meantRow=true:=by
 unfold joinedFacts
 simp only[abb]
 and_intros
 all_goals as_aux_lemma=>kernel_rfl
theorem FQ:Rows.MeantSaid:=
 OpenClaim.holds_of_wide 9 Tryz.f9 rfl rfl rfl rfl rfl rfl rfl ⟨rfl,rfl,rfl,rfl,rfl⟩ rfl rfl rfl rfl rfl (by kernel_rfl) Tryz.func9 zt
  (abg (by kernel_rfl)) (by unfold Func.isWrapper;first|(rw[Zu (by decide+kernel)];kernel_rfl)|(rw[Zt (by decide+kernel)];exact⟨rfl,rfl⟩))
  (fun os started H enc _=>zr os started H enc)
theorem meant_card:Rows.MeantCardSaid:=
 Claim7.holds_tied_plain_at .later [] [.data,.data,.data,.wider,.sentinel,.sentinel,.data] true (true,"40ff3d9dad59f5f98b55aa2d57afbf509805ca6e9e570cc5824883c58f705c11") true
  FQ (fun _ h=>by cases h) (by kernel_rfl) (fun _ h=>by cases h) meant_row_tie rfl ⟨rfl,rfl⟩ (by kernel_rfl) rfl
  (fun f fn hf hfn=>by
   obtain rfl:f=9:=aan ((show Tryz.prog.funcNamed "gavel/gavelkeep.Meant"=some 9 by kernel_rfl).symm.trans hf)|>.symm
   obtain rfl:fn=Tryz.f9:=(aan (Tryz.func9.symm.trans hfn)).symm
   exact⟨by kernel_rfl,fun j t ht=>by
    rw[Tryz.params9] at ht
    have h3:t=37∨t=38∨t=9∨t=3:=by
     rcases j with _|_|_|_|j
     ·left;simpa using ht.symm
     ·right;left;simpa using ht.symm
     ·right;right;left;simpa using ht.symm
     ·right;right;right;simpa using ht.symm
     ·simp at ht
    rcases h3 with rfl|rfl|rfl|rfl
    ·exact(show Tryz.prog.wantsStandIn 37=false by kernel_rfl)
    ·exact(show Tryz.prog.wantsStandIn 38=false by kernel_rfl)
    ·exact(show Tryz.prog.wantsStandIn 9=false by kernel_rfl)
    ·exact(show Tryz.prog.wantsStandIn 3=false by kernel_rfl)⟩)
  (by kernel_rfl)
#print axioms meant_card
end Go.Proofs.YtfkdailfcmnjlaaGreatDoor
