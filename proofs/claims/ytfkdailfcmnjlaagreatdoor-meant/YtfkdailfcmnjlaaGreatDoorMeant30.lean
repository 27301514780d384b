/-
  A part.
-/
import Derived.Test.YtfkdailfcmnjlaaGreatDoorMeant19
import Derived.Test.YtfkdailfcmnjlaaGreatDoorMeant24
import Derived.Deep.Strs
set_option linter.unusedVariables false
set_option linter.unusedSimpArgs false
set_option maxHeartbeats 40000000
set_option maxRecDepth 1000000
namespace Go.Proofs.YtfkdailfcmnjlaaGreatDoor
open Go Go.ChangeShapes Go.WideShapes Go.ChangeAt Go.RowKit
def vr:List (String×DataW Unit):=[("math/bits.deBruijn32tab",Rows.laid_math_bits_deBruijn32tab),("math/bits.deBruijn64tab",Rows.laid_math_bits_deBruijn64tab),("internal/strconv.uint64pow10",Rows.laid_internal_strconv_uint64pow10),("gavel/code.effects",Rows.laid_gavel_code_effects),("strconv.ErrRange",Rows.laid_strconv_ErrRange),("strconv.ErrSyntax",Rows.laid_strconv_ErrSyntax),("gavel/words.spellings",Rows.laid_gavel_words_spellings)]
variable {W:World}
theorem Pg:Tryz.prog.globalNamed "gavel/code.effects"=some 1:=by kernel_rfl
theorem K4 (h:laidMetH Tryz.prog vr W):Wd W:=by
 have h':laidMet Tryz.prog vr W:=by
  rw[MakeChecks.laidMetH_plain _ _ _ (by kernel_rfl)] at h
  exact h
 have h3:=h'.tail.tail.tail.tail;have h5:=h3.tail.tail;constructor
 ·obtain⟨ps,⟨g0,t0,E,f0,p0,q0,D,I,J,z,_,_⟩,_,_⟩:=h5
  obtain rfl:=aan (NW.symm.trans D);obtain rfl:=aan (NY.symm.trans I);obtain⟨xs,m,rfl,V,Y,hn,aa⟩:=DataW.trod_array N3 z;rw[N2] at Y;simp only[ZT] at V;rw[CV] at V;have ab:dI.map (fun s=>(DataW.lit (.string s):DataW Unit))=xs.map (·.1):=by
   have:=V.1
   injection this
  intro k hk;have Z:=aa k hk;rw[Mo,Nat.mul_one] at Z;have O:k<xs.length:=by omega
  rw[Zv O] at Z;obtain⟨s,e1,e2,_⟩:=DataW.trod_string Tryz.underlying9 Z;have G:=acu D J k;rw[G];have R:k<E.toList.length:=by omega
  have e3:E[k]?=some (.string s):=by
   rw[ZW R] at e1;simp only[aaR,List.take_zero,ab2,aby] at e1;rw[←abT,Zv R,e1]
  rw[e3];have e4:=aaY (fun l=>l[k]?) ab
  have U:k<dI.length:=by rw[show dI.length=36 from by decide];exact hk
  simp only[aaj,Zv O,Zv U,abI,e2,ZR,DataW.lit.injEq,Lit.string.injEq] at e4;have e5:dI.getD k []=s.data.toList:=by rw[Zs,Zv U];exact e4
  rw[e5]
 ·obtain⟨ps,⟨g0,t0,E,f0,p0,q0,D,I,J,z,_,_⟩,_,_⟩:=h3
  obtain rfl:=aan (NX.symm.trans D);obtain rfl:=aan (NZ.symm.trans I);have G:=acu D J 0;obtain⟨l0⟩:=E
  cases f0 with
  |zero=>simp[DataW.trod] at z
  |succ m=>
   unfold DataW.trod at z;rw[Tryz.underlying165] at z
   split at z<;>simp_all
theorem Ph:(Tryz.prog.globals[1]?).map (·.type)=some 322:=by kernel_rfl
theorem Pj:Tryz.prog.cellsOf 322=57:=by kernel_rfl
theorem OL:Tryz.prog.cellsOf 321=3:=by kernel_rfl
theorem Pk:Tryz.prog.underlying 322=some (.array 19 321):=by kernel_rfl
theorem II:Rows.laid_gavel_code_effects (H:=Unit)= .agg ((List.range 19).map fun k=> .agg [.lit (.int .i64 (nB.getD (k*3) 0)),.lit (.int .i64 (nB.getD (k*3+1) 0)),.lit (.int .i64 (nB.getD (k*3+2) 0))]):=by kernel_rfl
theorem E9 {l:List Value} {a r:Nat} {x:Value} (z:r<3) (h:((((l.drop a).take 3).drop r).take 1)=[x]):l[a+r]?=some x:=by
 have:=aaY (fun l=>l[0]?) h
 simp[abe,abH,z] at this;exact this
theorem OM:Tryz.prog.cellsOf 3=1:=by kernel_rfl
theorem Py:Tryz.prog.cellsOf 220=1:=by kernel_rfl
theorem Ps:Tryz.prog.underlying 220=some (.int .i64):=by kernel_rfl
theorem K5 (h:laidMetH Tryz.prog vr W):Ef W:=by
 have h':laidMet Tryz.prog vr W:=by
  rw[MakeChecks.laidMetH_plain _ _ _ (by kernel_rfl)] at h
  exact h
 obtain⟨ps,⟨g0,t0,ab,f0,p0,q0,E,R,U,V,_,_⟩,_,_⟩:=h'.tail.tail.tail;obtain rfl:=aan (Pg.symm.trans E);obtain rfl:=aan (Ph.symm.trans R);obtain⟨xs,m,rfl,I,J,hn,Y⟩:=DataW.trod_array Pk V;rw[Pj] at J;simp only[ZT] at I;rw[II] at I;have Z:=I.1
 injection Z with aa
 intro j hj;have hk:j / 3<19:=by omega
 have O:=Y (j / 3) hk;rw[OL] at O;have G:j / 3<xs.length:=by omega
 rw[Zv G] at O;obtain⟨y0,y1,y2,n,hy,ac,i0,i1,i2⟩:=Go.Deep.trod_struct3 Tryz.underlying321 O;simp only[OM,Py] at i0 i1 i2;obtain⟨n0,e0,d0,_⟩:=aaB Tryz.underlying3 i0;obtain⟨n1,e1,d1,_⟩:=aaB Ps i1;obtain⟨n2,e2,d2,_⟩:=aaB Ps i2;have h3:=aaY (fun l=>l[j / 3]?) aa
 simp only[aaj,abm hk,Zv G,abI,hy,d0,d1,d2,ZR,DataW.agg.injEq,ab2,DataW.lit.injEq,Lit.int.injEq,aby,abf] at h3;obtain⟨k0,k1,k2⟩:=h3;have D:=acu E U j;rw[D,←abT];have z:j=j / 3*3∨j=j / 3*3+1∨j=j / 3*3+2:=by omega
 rcases z with z|z|z
 ·rw[z]
  have:=E9 (r:=0) (by omega) e0
  rw[abG] at this;rw[this,k0]
 ·rw[z]
  have:=E9 (r:=1) (by omega) e1
  rw[this,k1]
 ·rw[z]
  have:=E9 (r:=2) (by omega) e2
  rw[this,k2]
theorem IJ (os:Os) (args:Array Value):laidMetH Tryz.prog vr ((World.doorLaid Tryz.prog 400 os).forCall (fun _ _=>0) ⟨#[],args,[]⟩).memory:=
 laidMetH_of_parts3 (fuel:=8) (laidMet_of_run' 8 (by kernel_rfl) (by kernel_rfl)) (by kernel_rfl) (by kernel_rfl)
end Go.Proofs.YtfkdailfcmnjlaaGreatDoor
