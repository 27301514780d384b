/-
  Proved: for every text, number of passes, event and state, gavellaw.Compiles answers true (the program's Compile gives the document's error and place; what it gives of a policy is a code by the document, not too long, that judges as the policy means, is the same of the policy's plain form and of the passes' last four bits, and that the program loads and judges as the document does), and the arguments read as they did; where the listed package-level variables begin as the program's text lays them.
-/
import Derived.Test.YtfkdailfcmnjlaaGreatDoorCompiles49
import Derived.Test.YtfkdailfcmnjlaaGreatDoorCompiles45
import Derived.Test.YtfkdailfcmnjlaaGreatDoorCompiles47
import Derived.Test.YtfkdailfcmnjlaaGreatDoorCompiles48
import Derived.Test.YtfkdailfcmnjlaaGreatDoorCards
import Derived.Test.YtfkdailfcmnjlaaGreatDoorTie
import Derived.SevenTiedAt
import Derived.Carry
set_option linter.all false
set_option maxHeartbeats 40000000
set_option maxRecDepth 1000000
namespace Go.Proofs.YtfkdailfcmnjlaaGreatDoor
open Go Go.ChangeShapes Go.WideShapes Go.ChangeAt Go.WideMaps Go.WideElems Go.RowKit Go.Deep Go.Joins
set_option maxRecDepth 100000
theorem DL:reachBytes=140737488351232:=rfl
theorem OJ {l:List Nat} (h:l.all (λn=>decide (n<=reachBytes))=true):∀n∈l,n<=reachBytes:=λn hn=>by
 rw[TL] at h
 simpa using h n hn
theorem DM {H} {d0 dn d1 y0 y1 y2 y3:DataW H} (h:(DataW.weightsEach Tryz.prog [9,3,46,50] [d0,dn,d1,.agg [y0,y1,y2,y3]]).all (· <=reachBytes)=true):
 (∀el sp,y0= .slice el sp->el.length<=5900000000000)/\(∀el sp,y2= .slice el sp->el.length<=5900000000000):=by
 have hm:=OJ h
 have b1:Tryz.prog.bytesOf 108=24:=by kernel_rfl
 have b2:Tryz.prog.bytesOf 110=24:=by kernel_rfl
 refine⟨λel sp e=>?_,λel sp e=>?_⟩
 ·have:=hm ((el.length+sp.length)*Tryz.prog.bytesOf 108) (by
   subst e
   simp[DataW.weightsEach,DataW.weights,Tryz.underlying50,Tryz.underlying47])
  rw[b1,DL] at this
  omega
 ·have:=hm ((el.length+sp.length)*Tryz.prog.bytesOf 110) (by
   subst e
   simp[DataW.weightsEach,DataW.weights,Tryz.underlying50,Tryz.underlying48])
  rw[b2,DL] at this
  omega
theorem vz (os) (started:os.Started) (H) (enc:TypeId×Value->H):
 ReturnsInHanded {} Tryz.checked os 8 .any (λw args=>(Rows.compilesSpec.pre enc Tryz.prog Tryz.f8 [] false w args/\laidMetH Tryz.prog vb w)/\sizedMet enc Tryz.prog Tryz.f8 (OpenSpec.ofChange Rows.compilesSpec) false w args)
  (Rows.compilesSpec.post enc Tryz.prog Tryz.f8 false true false false):=by
 refine returnsInHanded_of_change_and (C:=Tryz.checked) (X:=λw _=>laidMetH Tryz.prog vb w) (λ_ _ _ hh h=>h.of_heap hh) own started (by kernel_rfl) Tryz.func8
  (ChangeSpec.witness_shaped (enc:=enc) (C:=Tryz.checked) (os:=os) (X:=λw _=>laidMetH Tryz.prog vb w) false (World.doorLaid Tryz.prog 400 os) #[.string ⟨#[]⟩,.int .i64 0,.agg #[.string ⟨#[]⟩,.string ⟨#[]⟩,.int .i64 0,.int .i64 0,.int .i64 0],.agg #[.slice none 0 0,.int .i64 0,.slice none 0 0,.bool false]] 8 rfl (World.shaped_of_RefB (by kernel_rfl) (by kernel_rfl)) (by kernel_rfl) (by kernel_rfl) (by kernel_rfl) (Km os _)) ?_
 intro W base args ds gs before hval0 hW _ hsz hL _
 have hval:∀(j:Nat) t v,Tryz.f8.params[j]?=some t->args[j]?=some v->Value.okWide Tryz.prog W .any base t v:=hval0
 have hW':=hW
 obtain⟨p,q,hA0,hV,rfl,hfz,hnd⟩:=hW
 have hA:DataW.TrodAll enc Tryz.prog W 0 (λ_=>true) true Tryz.f8.params.toList args.toList ds p:=hA0
 rw[Tryz.params8] at hA hval hsz
 obtain⟨v0,vn,v1,v2,d0,dn,d1,d2,p0,pn,p1,p2,rfl,rfl,rfl,h0,hn,h1,h2⟩:=trodAll_four hA
 obtain⟨rfl,rfl⟩:=trodVars_none hV
 have h0k:=h0
 have hnk:=hn
 have h1k:=h1
 have h2k:=h2
 obtain⟨s,rfl,rfl,rfl,hs⟩:=Go.ChangeMaps.open_string Tryz.underlying9 (hval 0 9 v0 rfl rfl) h0
 obtain⟨n0,rfl,rfl,rfl,hn0⟩:=open_int Tryz.underlying3 (hval 1 3 vn rfl rfl) hn
 obtain⟨e0,e1,e2,e3,e4,y0,y1,y2,y3,y4,n,rfl,rfl,hp1,q0,q1,q2,q3,q4⟩:=Ko Tryz.underlying46 (by kernel_rfl) (by kernel_rfl) (hval 2 46 v1 rfl rfl) h1
 obtain⟨sn,w0,_,_⟩:=Uz Tryz.underlying9 q0
 obtain⟨tg,w1,_,_⟩:=Uz Tryz.underlying9 q1
 obtain⟨wa,w2,_,wwa⟩:=TS Tryz.underlying3 q2
 obtain⟨nd,w3,_,wnd⟩:=TS Tryz.underlying2 q3
 obtain⟨wh,w4,_,wwh⟩:=TS Tryz.underlying2 q4
 simp at w0 w1 w2 w3 w4
 subst w0;subst w1;subst w2;subst w3;subst w4
 obtain⟨a0,a1,a2,a3,z0,z1,z2,z3,m,rfl,rfl,hp2,r0,r1,r2,r3⟩:=open_agg4 Tryz.underlying50 (by kernel_rfl) (by kernel_rfl) (hval 3 50 v2 rfl rfl) h2
 obtain⟨df,x1,_,wdf⟩:=TS Tryz.underlying2 r1
 obtain⟨op,x3,_⟩:=DataW.trod_bool Tryz.underlying4 r3
 simp at x1 x3
 subst x1;subst x3
 obtain⟨ls,P1,I1,L1⟩:=ya Tryz.underlying47 Tryz.underlying108 (by kernel_rfl) rfl rfl (by kernel_rfl) (by kernel_rfl) Tryz.underlying9 Tryz.underlying2 r0
 obtain⟨ms,P2,I2,L2⟩:=ya Tryz.underlying48 Tryz.underlying110 (by kernel_rfl) rfl rfl (by kernel_rfl) (by kernel_rfl) Tryz.underlying9 Tryz.underlying3 r2
 have hWd:=M9 hL
 have hEf:=Na hL
 have hsl:s.data.toList.length<=maxLen:=by rw[UO];exact hs
 have hr:=DM hsz
 have hl1:ls.length<=5900000000000:=by
  rcases L1 with⟨_,e⟩|⟨el,sp,e,hl⟩
  ·rw[e];simp
  ·rw[<-hl];exact hr.1 el sp e
 have hl2:ms.length<=5900000000000:=by
  rcases L2 with⟨_,e⟩|⟨el,sp,e,hl⟩
  ·rw[e];simp
  ·rw[<-hl];exact hr.2 el sp e
 have hF:=Je ⟨sn.data.toList,tg.data.toList,wa,nd,wh⟩ ⟨ls,df,ms,op⟩ (tJ wnd) (tJ wwh) (tJ wdf) I1
 have hcall:=Bf s.data.toList n0 ⟨sn.data.toList,tg.data.toList,wa,nd,wh⟩ ⟨ls,df,ms,op⟩ W hWd hEf hsl P1 P2 hl1 hl2 (tJ wwa) hF
 refine hcall.mono λe W' ⟨he,hb⟩=>?_
 subst he
 have hlt:∀x∈[]++[]++p1++p2++[],x.block<W.heap.size:=λx hx=>hW'.lt x hx
 have hlt1:∀x∈p1,x.block<W.heap.size:=λx hx=>hlt x (by simp only[Tp,TZ,SV];exact .inl hx)
 have hlt2:∀x∈p2,x.block<W.heap.size:=λx hx=>hlt x (by simp only[Tp,TZ,SV];exact .inr hx)
 have e1:∀a b c d:DataW H,Rows.compilesSpec.fn H ([a,b,c,d]++[])={results:=[.lit (.bool true)],args:=[a,b,c,d]}:=λa b c d=>by simp[Rows.compilesSpec]
 refine⟨_,rfl,_,_,_,[],[]++[]++p1++p2,[],hW',?_,?_,?_,hb.frame _,λh=>by cases h⟩
 ·rw[e1];exact trodAll_mk1 (shut_bool Tryz.underlying4 true)
 ·rw[e1]
  exact trodAll_mk4 (Below.trod qN (by kernel_rfl) (TY (by kernel_rfl)) h0k hb (λx hx=>absurd hx SJ)) (Below.trod qN (by kernel_rfl) (TY (by kernel_rfl)) hnk hb (λx hx=>absurd hx SJ)) (Below.trod qN (by kernel_rfl) (TY (by kernel_rfl)) h1k hb hlt1) (Below.trod qN (by kernel_rfl) (TY (by kernel_rfl)) h2k hb hlt2)
 ·rw[e1];rfl
theorem Bg:Rows.CompilesSaid:=
 OpenClaim.holds_of_wide 8 Tryz.f8 rfl rfl rfl rfl rfl rfl rfl ⟨rfl,rfl,rfl,rfl,rfl⟩ rfl rfl rfl rfl rfl (by kernel_rfl) Tryz.func8 vA
  (TY (by kernel_rfl)) (by unfold Func.isWrapper;first|(rw[RK (by decide+kernel)];kernel_rfl)|(rw[RH (by decide+kernel)];exact⟨rfl,rfl⟩))
  (λos started H enc _=>vz os started H enc)
theorem compiles_card:Rows.CompilesCardSaid:=
 Claim7.holds_tied_plain_at .later [] [.data,.data,.data,.wider,.sentinel,.sentinel,.data] true (true,"40ff3d9dad59f5f98b55aa2d57afbf509805ca6e9e570cc5824883c58f705c11") true
  Bg (λ_ h=>by cases h) (by kernel_rfl) (λ_ h=>by cases h) compiles_row_tie rfl ⟨rfl,rfl⟩ (by kernel_rfl) rfl
  (λf fn hf hfn=>by
   obtain rfl:f=8:=SK ((show Tryz.prog.funcNamed "gavel/gavellaw.Compiles"=some 8 by kernel_rfl).symm.trans hf)|>.symm
   obtain rfl:fn=Tryz.f8:=(SK (Tryz.func8.symm.trans hfn)).symm
   exact⟨by kernel_rfl,λj t ht=>by
    rw[Tryz.params8] at ht
    have h3:t=9\/t=3\/t=46\/t=50:=by
     rcases j with _|_|_|_|j
     ·left;simpa using ht.symm
     ·right;left;simpa using ht.symm
     ·right;right;left;simpa using ht.symm
     ·right;right;right;simpa using ht.symm
     ·simp at ht
    rcases h3 with rfl|rfl|rfl|rfl
    ·exact(show Tryz.prog.wantsStandIn 9=false by kernel_rfl)
    ·exact(show Tryz.prog.wantsStandIn 3=false by kernel_rfl)
    ·exact(show Tryz.prog.wantsStandIn 46=false by kernel_rfl)
    ·exact(show Tryz.prog.wantsStandIn 50=false by kernel_rfl)⟩)
  (by kernel_rfl)
#print axioms compiles_card
end Go.Proofs.YtfkdailfcmnjlaaGreatDoor
