/-
  A part.
-/
import Derived.Test.YtfkdailfcmnjlaaGreatDoorAll28
import Derived.Test.YtfkdailfcmnjlaaGreatDoorAll42
import Derived.Deep.Strs
set_option linter.all false
set_option maxHeartbeats 40000000
set_option maxRecDepth 1000000
namespace Go.Proofs.YtfkdailfcmnjlaaGreatDoor
open Go Go.RowKit Go.ChangeAt Go.ChangeShapes Go.WideShapes
variable {W a r x}
def qT:List (String×DataW Unit):=[("math/bits.deBruijn32tab",Rows.laid_math_bits_deBruijn32tab),("math/bits.deBruijn64tab",Rows.laid_math_bits_deBruijn64tab),("internal/strconv.uint64pow10",Rows.laid_internal_strconv_uint64pow10),("gavel/code.effects",Rows.laid_gavel_code_effects),("strconv.ErrRange",Rows.laid_strconv_ErrRange),("strconv.ErrSyntax",Rows.laid_strconv_ErrSyntax),("gavel/words.spellings",Rows.laid_gavel_words_spellings)]
theorem P4:Tryz.prog.globalNamed "gavel/code.effects"=some 1:=by kernel_rfl
theorem LI (h:laidMetH Tryz.prog qT W):Wd W:=by
 have h':laidMet Tryz.prog qT W:=by
  rw[MakeChecks.laidMetH_plain _ _ _ (by kernel_rfl)] at h
  exact h
 have h3:=h'.tail.tail.tail.tail;have h5:=h3.tail.tail;constructor
 ·obtain⟨ps,⟨g0,t0,E,f0,p0,q0,D,I,J,z,_,_⟩,_,_⟩:=h5;obtain rfl:=Rf (OE.symm.trans D);obtain rfl:=Rf (OG.symm.trans I);obtain⟨xs,m,rfl,V,Y,hn,aa⟩:=DataW.trod_array OJ z;rw[OI] at Y;simp only[QS] at V;rw[CG] at V;have ab:cU.map (λs=>(DataW.lit (.string s)))=xs.map (·.1):=by
   have:=V.1;injection this
  intro k hk;have Z:=aa k hk;rw[Ng,TL] at Z;have O:k<xs.length:=by omega
  rw[Ql O] at Z;obtain⟨s,e1,e2,_⟩:=SD Tryz.underlying9 Z;have G:=TK D J k;rw[G];have R:k<E.toList.length:=by omega
  have e3:E[k]?=some (.string s):=by
   rw[QF R] at e1;simp only[RA,List.take_zero,Sv,SC] at e1;rw[<-S1,Ql R,e1]
  rw[e3];have e4:=RK (λl=>l[k]?) ab
  have U:k<cU.length:=by rw[show cU.length=36 from by decide];exact hk
  simp only[QN,Ql O,Ql U,Sz,e2,QE,DataW.lit.injEq,Lit.string.injEq] at e4;have e5:cU.getD k []=s.data.toList:=by rw[Qi,Ql U];exact e4
  rw[e5]
 obtain⟨ps,⟨g0,t0,E,f0,p0,q0,D,I,J,z,_,_⟩,_,_⟩:=h3;obtain rfl:=Rf (OF.symm.trans D);obtain rfl:=Rf (OH.symm.trans I);have G:=TK D J 0;obtain⟨l0⟩:=E;cases f0 with
 |zero=>simp[DataW.trod] at z
 |succ m=>
  unfold DataW.trod at z;rw[Tryz.underlying165] at z;split at z<;>simp_all
theorem P5:(Tryz.prog.globals[1]?).map (·.type)=some 322:=by kernel_rfl
theorem P6:Tryz.prog.cellsOf 322=57:=by kernel_rfl
theorem PA:Tryz.prog.cellsOf 321=3:=by kernel_rfl
theorem P7:Tryz.prog.underlying 322=some (.array 19 321):=by kernel_rfl
theorem I4:Rows.laid_gavel_code_effects (H:=Unit)= .agg ((List.range 19).map λk=> .agg [.lit (.int .i64 (mE.getD (k*3) 0)),.lit (.int .i64 (mE.getD (k*3+1) 0)),.lit (.int .i64 (mE.getD (k*3+2) 0))]):=by kernel_rfl
theorem ES {l:List Value} (z:r<3) (h:((((l.drop a).take 3).drop r).take 1)=[x]):l[a+r]?=some x:=by
 have:=RK (λl=>l[0]?) h
 simp[Tp,SV,z] at this;exact this
theorem PB:Tryz.prog.cellsOf 3=1:=by kernel_rfl
theorem Qh:Tryz.prog.cellsOf 220=1:=by kernel_rfl
theorem Qd:Tryz.prog.underlying 220=some (.int .i64):=by kernel_rfl
theorem LJ (h:laidMetH Tryz.prog qT W):Ef W:=by
 have h':laidMet Tryz.prog qT W:=by
  rw[MakeChecks.laidMetH_plain _ _ _ (by kernel_rfl)] at h
  exact h
 obtain⟨ps,⟨g0,t0,ab,f0,p0,q0,E,R,U,V,_,_⟩,_,_⟩:=h'.tail.tail.tail;obtain rfl:=Rf (P4.symm.trans E);obtain rfl:=Rf (P5.symm.trans R);obtain⟨xs,m,rfl,I,J,hn,Y⟩:=DataW.trod_array P7 V;rw[P6] at J;simp only[QS] at I;rw[I4] at I;have Z:=I.1;injection Z with aa;intro j hj;have hk:j / 3<19:=by omega
 have O:=Y (j / 3) hk;rw[PA] at O;have G:j / 3<xs.length:=by omega
 rw[Ql G] at O;obtain⟨y0,y1,y2,n,hy,ac,i0,i1,i2⟩:=Go.Deep.trod_struct3 Tryz.underlying321 O;simp only[PB,Qh] at i0 i1 i2;obtain⟨n0,e0,d0,_⟩:=RM Tryz.underlying3 i0;obtain⟨n1,e1,d1,_⟩:=RM Qd i1;obtain⟨n2,e2,d2,_⟩:=RM Qd i2;have h3:=RK (λl=>l[j / 3]?) aa
 simp only[QN,RX hk,Ql G,Sz,hy,d0,d1,d2,QE,DataW.agg.injEq,Sv,DataW.lit.injEq,Lit.int.injEq,SC,R8] at h3;obtain⟨k0,k1,k2⟩:=h3;have D:=TK E U j;rw[D,<-S1];have z:j=j / 3*3\/j=j / 3*3+1\/j=j / 3*3+2:=by omega
 rcases z with z|z|z
 ·rw[z];have:=ES (by omega) e0
  rw[S2] at this;rw[this,k0]
 ·rw[z];have:=ES (by omega) e1
  rw[this,k1]
 rw[z];have:=ES (by omega) e2
 rw[this,k2]
theorem PC:(Tryz.prog.globals[2]?).map (·.type)=some 333:=by kernel_rfl
theorem PD:Tryz.prog.underlying 333=some (.array 20 202):=by kernel_rfl
theorem OK:Rows.laid_internal_strconv_uint64pow10 (H:=Unit)=Lib.tabData .u64 Lib.pow10Tab:=by kernel_rfl
theorem I5:laidOutB Tryz.prog=true:=by kernel_rfl
theorem LK (h:laidMetH Tryz.prog qT W):Tb W:=by
 have D:laidMet Tryz.prog qT W:=by
  rw[MakeChecks.laidMetH_plain _ _ _ (by kernel_rfl)] at h
  exact h
 have z:=D.tail.tail;rw[OK] at z;exact Lib.tabIs_of_head Pf PC PD Tryz.underlying202 (by kernel_rfl) (by kernel_rfl) z
theorem I6 (os) (args):laidMetH Tryz.prog qT ((World.doorLaid Tryz.prog 400 os).forCall (λ_ _=>0) ⟨#[],args,[]⟩).memory:=
 laidMetH_of_parts3 (fuel:=8) (laidMet_of_run' 8 (by kernel_rfl) (by kernel_rfl)) (by kernel_rfl) (by kernel_rfl)
end Go.Proofs.YtfkdailfcmnjlaaGreatDoor
