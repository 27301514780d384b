/-
  A part.
-/
import Derived.Test.YtfkdailfcmnjlaaGreatDoorCompiles35
import Derived.Test.YtfkdailfcmnjlaaGreatDoorCompiles46
import Derived.Deep.Strs
set_option linter.all false
set_option maxHeartbeats 40000000
set_option maxRecDepth 1000000
namespace Go.Proofs.YtfkdailfcmnjlaaGreatDoor
open Go Go.RowKit Go.ChangeAt Go.ChangeShapes Go.WideShapes
variable {W a r x}
def vb:List (String×DataW Unit):=[("math/bits.deBruijn32tab",Rows.laid_math_bits_deBruijn32tab),("math/bits.deBruijn64tab",Rows.laid_math_bits_deBruijn64tab),("internal/strconv.uint64pow10",Rows.laid_internal_strconv_uint64pow10),("gavel/code.effects",Rows.laid_gavel_code_effects),("strconv.ErrRange",Rows.laid_strconv_ErrRange),("strconv.ErrSyntax",Rows.laid_strconv_ErrSyntax),("gavel/words.spellings",Rows.laid_gavel_words_spellings)]
theorem Rq:Tryz.prog.globalNamed "gavel/code.effects"=some 1:=by kernel_rfl
theorem M9 (h:laidMetH Tryz.prog vb W):Wd W:=by
 have h':laidMet Tryz.prog vb W:=by
  rw[MakeChecks.laidMetH_plain _ _ _ (by kernel_rfl)] at h
  exact h
 have h3:=h'.tail.tail.tail.tail;have h5:=h3.tail.tail;constructor
 ·obtain⟨ps,⟨g0,t0,E,f0,p0,q0,D,I,J,z,_,_⟩,_,_⟩:=h5;obtain rfl:=SK (Qe.symm.trans D);obtain rfl:=SK (Qg.symm.trans I);obtain⟨xs,m,rfl,V,Y,hn,aa⟩:=DataW.trod_array Qj z;rw[Qi] at Y;simp only[Sj] at V;rw[DK] at V;have ab:cZ.map (λs=>(DataW.lit (.string s)))=xs.map (·.1):=by
   have:=V.1;injection this
  intro k hk;have Z:=aa k hk;rw[OI,Vi] at Z;have O:k<xs.length:=by omega
  rw[RI O] at Z;obtain⟨s,e1,e2,_⟩:=Uz Tryz.underlying9 Z;have G:=Vg D J k;rw[G];have R:k<E.toList.length:=by omega
  have e3:E[k]?=some (.string s):=by
   rw[R5 R] at e1;simp only[Tj,List.take_zero,TX,Uj] at e1;rw[<-UC,RI R,e1]
  rw[e3];have e4:=Te (λl=>l[k]?) ab
  have U:k<cZ.length:=by rw[show cZ.length=36 from by decide];exact hk
  simp only[Se,RI O,RI U,TH,e2,R6,DataW.lit.injEq,Lit.string.injEq] at e4;have e5:cZ.getD k []=s.data.toList:=by rw[RG,RI U];exact e4
  rw[e5]
 obtain⟨ps,⟨g0,t0,E,f0,p0,q0,D,I,J,z,_,_⟩,_,_⟩:=h3;obtain rfl:=SK (Qf.symm.trans D);obtain rfl:=SK (Qh.symm.trans I);have G:=Vg D J 0;obtain⟨l0⟩:=E;cases f0 with
 |zero=>simp[DataW.trod] at z
 |succ m=>
  unfold DataW.trod at z;rw[Tryz.underlying165] at z;split at z<;>simp_all
theorem Rr:(Tryz.prog.globals[1]?).map (·.type)=some 322:=by kernel_rfl
theorem Rs:Tryz.prog.cellsOf 322=57:=by kernel_rfl
theorem Q6:Tryz.prog.cellsOf 321=3:=by kernel_rfl
theorem Rt:Tryz.prog.underlying 322=some (.array 19 321):=by kernel_rfl
theorem Kl:Rows.laid_gavel_code_effects (H:=Unit)= .agg ((List.range 19).map λk=> .agg [.lit (.int .i64 (mZ.getD (k*3) 0)),.lit (.int .i64 (mZ.getD (k*3+1) 0)),.lit (.int .i64 (mZ.getD (k*3+2) 0))]):=by kernel_rfl
theorem Gc {l:List Value} (z:r<3) (h:((((l.drop a).take 3).drop r).take 1)=[x]):l[a+r]?=some x:=by
 have:=Te (λl=>l[0]?) h
 simp[Ud,TN,z] at this;exact this
theorem Q7:Tryz.prog.cellsOf 3=1:=by kernel_rfl
theorem RE:Tryz.prog.cellsOf 220=1:=by kernel_rfl
theorem Rz:Tryz.prog.underlying 220=some (.int .i64):=by kernel_rfl
theorem Na (h:laidMetH Tryz.prog vb W):Ef W:=by
 have h':laidMet Tryz.prog vb W:=by
  rw[MakeChecks.laidMetH_plain _ _ _ (by kernel_rfl)] at h
  exact h
 obtain⟨ps,⟨g0,t0,ab,f0,p0,q0,E,R,U,V,_,_⟩,_,_⟩:=h'.tail.tail.tail;obtain rfl:=SK (Rq.symm.trans E);obtain rfl:=SK (Rr.symm.trans R);obtain⟨xs,m,rfl,I,J,hn,Y⟩:=DataW.trod_array Rt V;rw[Rs] at J;simp only[Sj] at I;rw[Kl] at I;have Z:=I.1;injection Z with aa;intro j hj;have hk:j / 3<19:=by omega
 have O:=Y (j / 3) hk;rw[Q6] at O;have G:j / 3<xs.length:=by omega
 rw[RI G] at O;obtain⟨y0,y1,y2,n,hy,ac,i0,i1,i2⟩:=Go.Deep.trod_struct3 Tryz.underlying321 O;simp only[Q7,RE] at i0 i1 i2;obtain⟨n0,e0,d0,_⟩:=TS Tryz.underlying3 i0;obtain⟨n1,e1,d1,_⟩:=TS Rz i1;obtain⟨n2,e2,d2,_⟩:=TS Rz i2;have h3:=Te (λl=>l[j / 3]?) aa
 simp only[Se,TJ hk,RI G,TH,hy,d0,d1,d2,R6,DataW.agg.injEq,TX,DataW.lit.injEq,Lit.int.injEq,Uj,TV] at h3;obtain⟨k0,k1,k2⟩:=h3;have D:=Vg E U j;rw[D,<-UC];have z:j=j / 3*3\/j=j / 3*3+1\/j=j / 3*3+2:=by omega
 rcases z with z|z|z
 ·rw[z];have:=Gc (by omega) e0
  rw[Us] at this;rw[this,k0]
 ·rw[z];have:=Gc (by omega) e1
  rw[this,k1]
 rw[z];have:=Gc (by omega) e2
 rw[this,k2]
theorem qN:laidOutB Tryz.prog=true:=by kernel_rfl
theorem Km (os) (args):laidMetH Tryz.prog vb ((World.doorLaid Tryz.prog 400 os).forCall (λ_ _=>0) ⟨#[],args,[]⟩).memory:=
 laidMetH_of_parts3 (fuel:=8) (laidMet_of_run' 8 (by kernel_rfl) (by kernel_rfl)) (by kernel_rfl) (by kernel_rfl)
end Go.Proofs.YtfkdailfcmnjlaaGreatDoor
