/-
  A part.
-/
import Derived.Test.YtfkdailfcmnjlaaGreatDoorMeant21a
import Derived.Shelf.Abstract
set_option linter.unusedVariables false
set_option linter.unusedSimpArgs false
set_option maxHeartbeats 40000000
set_option maxRecDepth 1000000
set_option maxHeartbeats 40000000
set_option maxRecDepth 1000000
namespace Go.Proofs.YtfkdailfcmnjlaaGreatDoor
open Go Go.RowKit Tryz
attribute [local go_sem ↓] Go.wp_at_zero Go.wp_at_succ
variable {z G E l:List (List UInt8×Int)} {w W J U:World} {p n k e size:Nat} {O D R Z v:Value} {s2:MS} {b:List UInt8} {V I Y o:Obj} {x:Int}
variable {c:jV}
theorem EL (x a b:Mk) (hx:x.text.length≤1000∧x.bare.length≤1000∧x.deep≤100) (ha:a.text.length≤1000∧a.bare.length≤1000∧a.deep≤100) (hb:b.text.length≤1000∧b.bare.length≤1000∧b.deep≤100) (w:World):Calls prog 77 #[pB x,pB a,pB b] w fun e w'=>e= .returned (pB (Ky x a b))∧Below w.heap.size w w':=by
 have W1:=fun w=>xx x.deep a.deep b.deep (by omega) (by omega) (by omega) w
 have HD:Hid (max (max x.deep a.deep) b.deep+1=(Ky x a b).deep):=rfl;rw[HD.out] at W1;generalize hr:Ky x a b=r at*;obtain⟨D,E,xv,Y⟩:=x;obtain⟨at_,G,av,Z⟩:=a;obtain⟨I,J,V,bd⟩:=b;simp only[] at*;have HR:=Hi hr;clear HD hr;have HT:Hid (r.text=sH++D++kD++at_++kF++I++[41]):=by show _=_;rw[←HR.out];rfl
 have ab:Hid (r.bare=[105,102,40]++E++[41,116,104,101,110,40]++G++[41,101,108,115,101,40]++J++[41]):=by show _=_;rw[←HR.out];rfl
 have HV:Hid (r.told=if xv=1 then av else V):=by show _=_;rw[←HR.out];rfl
 unfold pB;simp only[];obtain⟨z,U⟩:∃z,(((w.alloc (.cells #[S D,S E,Iq xv,Iq (Y:Nat)] 104)).alloc (.cells #[S at_,S G,Iq av,Iq (Z:Nat)] 104)).alloc (.cells #[S I,S J,Iq V,Iq (bd:Nat)] 104)).alloc (.cells #[.string ⟨#[]⟩,.string ⟨#[]⟩,Iq 0,Iq 0] 104)=z:=⟨_,rfl⟩;have ac:Below w.heap.size w z:=by rw[←U];exact((((ZA _ _).alloc (Zw _) _).alloc (by simp) _).alloc (by simp;omega) _).alloc (by simp;omega) _
 have ad:z.heap[w.heap.size]?=some (.cells #[S D,S E,Iq xv,Iq (Y:Nat)] 104 (0,0)):=by rw[←U];exact(ZE _ _ _ (by simp;omega)).trans ((ZE _ _ _ (by simp;omega)).trans ((ZE _ _ _ (by simp)).trans (Zy w _)))
 have ae:z.heap[w.heap.size+1]?=some (.cells #[S at_,S G,Iq av,Iq (Z:Nat)] 104 (0,0)):=by
  rw[←U];refine(ZE _ _ _ (by first|(simp;done)|(simp;omega))).trans ((ZE _ _ _ (by simp)).trans ?_)
  have:=Zy (w.alloc (.cells #[S D,S E,Iq xv,Iq (Y:Nat)] 104)) (.cells #[S at_,S G,Iq av,Iq (Z:Nat)] 104);rw[ZB] at this;exact this
 have af:z.heap[w.heap.size+1+1]?=some (.cells #[S I,S J,Iq V,Iq (bd:Nat)] 104 (0,0)):=by
  rw[←U];refine(ZE _ _ _ (by simp)).trans ?_
  have:=Zy ((w.alloc (.cells #[S D,S E,Iq xv,Iq (Y:Nat)] 104)).alloc (.cells #[S at_,S G,Iq av,Iq (Z:Nat)] 104)) (.cells #[S I,S J,Iq V,Iq (bd:Nat)] 104);rw[ZB,ZB] at this;exact this
 have aa:z.heap[w.heap.size+1+1+1]?=some (.cells #[.string ⟨#[]⟩,.string ⟨#[]⟩,Iq 0,Iq 0] 104 (0,0)):=by
  rw[←U];have:=Zy (((w.alloc (.cells #[S D,S E,Iq xv,Iq (Y:Nat)] 104)).alloc (.cells #[S at_,S G,Iq av,Iq (Z:Nat)] 104)).alloc (.cells #[S I,S J,Iq V,Iq (bd:Nat)] 104)) (.cells #[.string ⟨#[]⟩,.string ⟨#[]⟩,Iq 0,Iq 0] 104);rw[ZB,ZB,ZB] at this;exact this
 have aj:z.heap.size=w.heap.size+1+1+1+1:=by rw[←U,ZB,ZB,ZB,ZB]
 have q0:=fun j=>Zz z _ j _ _ _ ad
 have q1:=fun j=>Zz z _ j _ _ _ ae
 have q2:=fun j=>Zz z _ j _ _ _ af
 have ak:Below z.heap.size z z∧z.cell? ⟨w.heap.size,0,none⟩=some (S D)∧z.cell? ⟨w.heap.size,1,none⟩=some (S E)∧z.cell? ⟨w.heap.size,3,none⟩=some (Iq (Y:Nat))∧z.cell? ⟨w.heap.size+1,0,none⟩=some (S at_)∧z.cell? ⟨w.heap.size+1,1,none⟩=some (S G)∧z.cell? ⟨w.heap.size+1,3,none⟩=some (Iq (Z:Nat))∧z.cell? ⟨w.heap.size+1+1,0,none⟩=some (S I)∧z.cell? ⟨w.heap.size+1+1,1,none⟩=some (S J)∧z.cell? ⟨w.heap.size+1+1,2,none⟩=some (Iq V)∧z.cell? ⟨w.heap.size+1+1,3,none⟩=some (Iq (bd:Nat)):=⟨ZA _ _,q0 0,q0 1,q0 3,q1 0,q1 1,q1 3,q2 0,q2 1,q2 2,q2 3⟩;have KP:Hid (∀W R:World,(Below z.heap.size z W∧W.cell? ⟨w.heap.size,0,none⟩=some (S D)∧W.cell? ⟨w.heap.size,1,none⟩=some (S E)∧W.cell? ⟨w.heap.size,3,none⟩=some (Iq (Y:Nat))∧W.cell? ⟨w.heap.size+1,0,none⟩=some (S at_)∧W.cell? ⟨w.heap.size+1,1,none⟩=some (S G)∧W.cell? ⟨w.heap.size+1,3,none⟩=some (Iq (Z:Nat))∧W.cell? ⟨w.heap.size+1+1,0,none⟩=some (S I)∧W.cell? ⟨w.heap.size+1+1,1,none⟩=some (S J)∧W.cell? ⟨w.heap.size+1+1,2,none⟩=some (Iq V)∧W.cell? ⟨w.heap.size+1+1,3,none⟩=some (Iq (bd:Nat)))→Below W.heap.size W R→(Below z.heap.size z R∧R.cell? ⟨w.heap.size,0,none⟩=some (S D)∧R.cell? ⟨w.heap.size,1,none⟩=some (S E)∧R.cell? ⟨w.heap.size,3,none⟩=some (Iq (Y:Nat))∧R.cell? ⟨w.heap.size+1,0,none⟩=some (S at_)∧R.cell? ⟨w.heap.size+1,1,none⟩=some (S G)∧R.cell? ⟨w.heap.size+1,3,none⟩=some (Iq (Z:Nat))∧R.cell? ⟨w.heap.size+1+1,0,none⟩=some (S I)∧R.cell? ⟨w.heap.size+1+1,1,none⟩=some (S J)∧R.cell? ⟨w.heap.size+1+1,2,none⟩=some (Iq V)∧R.cell? ⟨w.heap.size+1+1,3,none⟩=some (Iq (bd:Nat)))):=fun W R hS hb=>by
  obtain⟨ag,s1,s2,s3,s4,s5,s6,s7,s8,s9,an⟩:=hS;refine⟨ag.trans (hb.mono ag.size),?_,?_,?_,?_,?_,?_,?_,?_,?_,?_⟩
  all_goals (rw[hb.cell (Zx W _ (by assumption))];assumption)
 have KD:Hid (∀W:World,(Below z.heap.size z W∧W.cell? ⟨w.heap.size,0,none⟩=some (S D)∧W.cell? ⟨w.heap.size,1,none⟩=some (S E)∧W.cell? ⟨w.heap.size,3,none⟩=some (Iq (Y:Nat))∧W.cell? ⟨w.heap.size+1,0,none⟩=some (S at_)∧W.cell? ⟨w.heap.size+1,1,none⟩=some (S G)∧W.cell? ⟨w.heap.size+1,3,none⟩=some (Iq (Z:Nat))∧W.cell? ⟨w.heap.size+1+1,0,none⟩=some (S I)∧W.cell? ⟨w.heap.size+1+1,1,none⟩=some (S J)∧W.cell? ⟨w.heap.size+1+1,2,none⟩=some (Iq V)∧W.cell? ⟨w.heap.size+1+1,3,none⟩=some (Iq (bd:Nat)))→(Below z.heap.size z W.drew∧W.drew.cell? ⟨w.heap.size,0,none⟩=some (S D)∧W.drew.cell? ⟨w.heap.size,1,none⟩=some (S E)∧W.drew.cell? ⟨w.heap.size,3,none⟩=some (Iq (Y:Nat))∧W.drew.cell? ⟨w.heap.size+1,0,none⟩=some (S at_)∧W.drew.cell? ⟨w.heap.size+1,1,none⟩=some (S G)∧W.drew.cell? ⟨w.heap.size+1,3,none⟩=some (Iq (Z:Nat))∧W.drew.cell? ⟨w.heap.size+1+1,0,none⟩=some (S I)∧W.drew.cell? ⟨w.heap.size+1+1,1,none⟩=some (S J)∧W.drew.cell? ⟨w.heap.size+1+1,2,none⟩=some (Iq V)∧W.drew.cell? ⟨w.heap.size+1+1,3,none⟩=some (Iq (bd:Nat)))):=fun W hS=>⟨hS.1.drew,hS.2⟩
 have HC:Hid ((∀W,Below z.heap.size z W→W.cell? ⟨w.heap.size,2,none⟩=some (Iq xv)∧W.cell? ⟨w.heap.size+1,2,none⟩=some (Iq av)∧W.heap[w.heap.size+1+1+1]?=some (.cells #[.string ⟨#[]⟩,.string ⟨#[]⟩,Iq 0,Iq 0] 104 (0,0)))):=fun W h=>by
  refine⟨?_,?_,(h.block _ (by omega)).trans aa⟩
  ·rw[h.cell (p:=⟨w.heap.size,2,none⟩) (by simp only[];omega)];exact q0 2
  ·rw[h.cell (p:=⟨w.heap.size+1,2,none⟩) (by simp only[];omega)];exact q1 2
 have ao:=q0 2;have ap:=q1 2;have q3:=fun j=>Zz z _ j _ _ _ aa
 have qf:∀o,z.frozen? ⟨w.heap.size+1+1+1,o,none⟩=false:=fun o=>by simp[World.frozen?,aa]
 have r0:=q3 0;have g0:=qf 0;have r1:=q3 1;have g1:=qf 1;have r2:=q3 2;have g2:=qf 2;have r3:=q3 3;have g3:=qf 3;have aq:w.heap.size<z.heap.size:=by omega
 have aw:w.heap.size+1<z.heap.size:=by omega
 have am:w.heap.size+1+1+1<z.heap.size:=by omega
 clear q3 qf;have HW:=Hi U;have ah:=Hi ac;clear U ac ad ae af aa q0 q1 q2 HR aj;have aB: ¬9223372036854775807<4+D.length:=by omega
 have aC: ¬9223372036854775807<4+D.length+6:=by omega
 have aD: ¬9223372036854775807<4+D.length+6+at_.length:=by omega
 have aE: ¬9223372036854775807<4+D.length+6+at_.length+6:=by omega
 have aF: ¬9223372036854775807<4+D.length+6+at_.length+6+I.length:=by omega
 have aG: ¬9223372036854775807<4+D.length+6+at_.length+6+I.length+1:=by omega
 have aH: ¬9223372036854775807<3+E.length:=by omega
 have aI: ¬9223372036854775807<3+E.length+6:=by omega
 have aJ: ¬9223372036854775807<3+E.length+6+G.length:=by omega
 have aK: ¬9223372036854775807<3+E.length+6+G.length+6:=by omega
 have aL: ¬9223372036854775807<3+E.length+6+G.length+6+J.length:=by omega
 have aM: ¬9223372036854775807<3+E.length+6+G.length+6+J.length+1:=by omega
 have ai:Hid (∀(W:World) (O:Obj) (o:Nat),W.heap.size=z.heap.size→(W.alloc O).drew.cell? ⟨w.heap.size+1+1+1,o,none⟩=W.cell? ⟨w.heap.size+1+1+1,o,none⟩):=fun W O o h=>ZI (w:=W) (a:=⟨w.heap.size+1+1+1,o,none⟩) (ZE W O _ (by rw[h];exact am))
 have eX:Hid (((⟨#[40,105,102,32]⟩:ByteArray)++(⟨D.toArray⟩:ByteArray)++(⟨#[32,116,104,101,110,32]⟩:ByteArray)++(⟨at_.toArray⟩:ByteArray)++(⟨#[32,101,108,115,101,32]⟩:ByteArray)++(⟨I.toArray⟩:ByteArray)++(⟨#[41]⟩:ByteArray))=⟨(sH++D++kD++at_++kF++I++[41]:List UInt8).toArray⟩):=aae (by simp[sH,kD,kF])
 have eY:Hid (((⟨#[105,102,40]⟩:ByteArray)++(⟨E.toArray⟩:ByteArray)++(⟨#[41,116,104,101,110,40]⟩:ByteArray)++(⟨G.toArray⟩:ByteArray)++(⟨#[41,101,108,115,101,40]⟩:ByteArray)++(⟨J.toArray⟩:ByteArray)++(⟨#[41]⟩:ByteArray))=⟨([105,102,40]++E++[41,116,104,101,110,40]++G++[41,101,108,115,101,40]++J++[41]:List UInt8).toArray⟩):=aae (by simp)
 go_enter func77,ntmps77;go_wp2;rw[HW.out]
 go_region_held3 (fun W=>Below z.heap.size z W∧Cq W w.heap.size 0 (S D)∧Cq W w.heap.size 1 (S E)∧Cq W w.heap.size 3 (Iq (Y:Nat))∧Cq W (w.heap.size+1) 0 (S at_)∧Cq W (w.heap.size+1) 1 (S G)∧Cq W (w.heap.size+1) 3 (Iq (Z:Nat))∧Cq W (w.heap.size+1+1) 0 (S I)∧Cq W (w.heap.size+1+1) 1 (S J)∧Cq W (w.heap.size+1+1) 2 (Iq V)∧Cq W (w.heap.size+1+1) 3 (Iq (bd:Nat))) (first|with_reducible assumption|with_reducible exact KD.out _ (by assumption)|exact KP.out _ _ (by assumption) ((ZA _ _).alloc (Zw _) _)|exact KD.out _ (KP.out _ _ (by assumption) ((ZA _ _).alloc (Zw _) _))|exact KD.out _ (KP.out _ _ ak ((ZA _ _).alloc (Zw _) _))|go_keep)
  (first
   |(go_at_call 124;refine(W1 _).mono ?_;rintro e w1 ⟨rfl,rfl⟩))
 all_goals
  rename_i hHeld
  clear hHeld
  by_cases hv:xv=1
  ·subst hv
   go_wp2;refine ZH (v:= .agg #[.string ((⟨#[40,105,102,32]⟩:ByteArray)++(⟨D.toArray⟩:ByteArray)++(⟨#[32,116,104,101,110,32]⟩:ByteArray)++(⟨at_.toArray⟩:ByteArray)++(⟨#[32,101,108,115,101,32]⟩:ByteArray)++(⟨I.toArray⟩:ByteArray)++(⟨#[41]⟩:ByteArray)),.string ((⟨#[105,102,40]⟩:ByteArray)++(⟨E.toArray⟩:ByteArray)++(⟨#[41,116,104,101,110,40]⟩:ByteArray)++(⟨G.toArray⟩:ByteArray)++(⟨#[41,101,108,115,101,40]⟩:ByteArray)++(⟨J.toArray⟩:ByteArray)++(⟨#[41]⟩:ByteArray)),Iq av,Iq (r.deep:Nat)]) (by simp[results,results77,go_sem,fg,dU,lR,r0,r1,r2,r3,ai.out]) rfl ?_
   refine⟨by rw[eX.out,eY.out,HT.out,ab.out,HV.out,Zu trivial],?_⟩
   exact(((((ah.out.setCell (by simp only[];omega) _).setCell (by simp only[];omega) _).setCell (by simp only[];omega) _).setCell (by simp only[];omega) _).alloc (by simp;omega) _).drew
  ·have aO:(xv==1)=false:=by simp[hv]
   go_wp2;refine ZH (v:= .agg #[.string ((⟨#[40,105,102,32]⟩:ByteArray)++(⟨D.toArray⟩:ByteArray)++(⟨#[32,116,104,101,110,32]⟩:ByteArray)++(⟨at_.toArray⟩:ByteArray)++(⟨#[32,101,108,115,101,32]⟩:ByteArray)++(⟨I.toArray⟩:ByteArray)++(⟨#[41]⟩:ByteArray)),.string ((⟨#[105,102,40]⟩:ByteArray)++(⟨E.toArray⟩:ByteArray)++(⟨#[41,116,104,101,110,40]⟩:ByteArray)++(⟨G.toArray⟩:ByteArray)++(⟨#[41,101,108,115,101,40]⟩:ByteArray)++(⟨J.toArray⟩:ByteArray)++(⟨#[41]⟩:ByteArray)),Iq V,Iq (r.deep:Nat)]) (by simp[results,results77,go_sem,fg,dU,lR,r0,r1,r2,r3,ai.out]) rfl ?_
   refine⟨by rw[eX.out,eY.out,HT.out,ab.out,HV.out,Zt hv],?_⟩
   exact(((((ah.out.setCell (by simp only[];omega) _).setCell (by simp only[];omega) _).setCell (by simp only[];omega) _).setCell (by simp only[];omega) _).alloc (by simp;omega) _).drew
variable {b p k j gz:Nat} {w W w0 w':World} {v:Nat→Value} {l:Nat→List Mk} {c:jV} {n x:Int} {o A0 B0 a r:Mk} {V:Value} {z D:UInt8}
theorem Ii (hn:dG n) (hT:TI b w p v l) (hb:b≤w.heap.size) (hl:(l 2).length≤1000):
 Calls prog 37 #[Pq p,.agg (je c),Iq 2,Iq n] w fun e w'=>e= .returned (.tuple #[])∧ ∃(k:Nat) (U:Nat→Value),k<2∧TI b w' p U (EP l 2 (l 2++[⟨[ky,jL].getD k [],[ky,jL].getD k [],k,1⟩]))∧Below b w w':=by
 have W1:=fun w=>lH hn (n:=2) (by decide) (by decide) w
 have p1:=kX n (n:=2) (by decide)
 generalize kW n 2=k at*;unfold je;obtain⟨i0,hi,hz⟩:=ZP.1 iJ;simp only[ZT] at hz;obtain⟨aa,ab,ac⟩:=hz;have hk:k=0∨k=1:=by omega
 rcases hk with rfl|rfl
 ·go_enter func37,ntmps37
  go_upto_region 22 with(first
   |(go_at_call 36;refine(W1 _).mono ?_;rintro e w' ⟨rfl,rfl⟩))
  go_name_world z I
  have G:Below w.heap.size w z:=by rw[←I];first|exact((ZA _ _).alloc (Zw _) _).alloc (by simp) _|exact(((ZA _ _).alloc (Zw _) _).alloc (by simp) _).drew|exact(((ZA _ _).alloc (Zw _) _).drew).alloc (by simp) _
  have af:b≤z.heap.size:=by have:=G.size;omega
  obtain⟨V,Y,O⟩:=hT.ready hb G.drew (j:=2) (by decide)
  have t0:Cq z p 2 (.slice V (l 2).length Y):=O.cell;have pa:p<z.heap.size:=Zx z _ t0
  have R:=Hi O
  go_region_law (first
   |(refine step_append_lies _ (by rfl) _ _ _ (by rfl) b 104 i0 _ 4 48 underlying98 hi aa ab ac (by rfl) (by decide) (.slice V (l 2).length Y) (l 2).length ((l 2).flatMap yq) (by rfl) (aac R.out.row _) ⟨z.heap.size,0,none⟩ 1 1 [S [102,97,108,115,101],S [102,97,108,115,101],Iq 0,Iq 1] (by rfl) (by rfl) (World.news_of_block (Zy z.drew _)) (fun x Z=>by simp at Z;rcases Z with rfl|rfl|rfl|rfl<;>rfl) (by decide) (by unfold maxLen;omega) (by omega) (by simp;omega) (z.heap.size+1) (by simp) ?_;intro gg ad w5 E D J ae;obtain⟨y0,ag⟩:=R.out.far _ _ D;have HN:Hid _:=R.out.put _ ⟨[102,97,108,115,101],[102,97,108,115,101],0,1⟩ _ _ _ D (by rcases J with h|h;exact .inl h;right;rw[h,ZB];rfl) E;clear E D J)
   |(go_simp;go_at_call 36;refine(W1 _).mono ?_;rintro e w' ⟨rfl,rfl⟩;dsimp only))
  all_goals
   go_wp2
   go_end0
   obtain⟨⟨U,h1⟩,h2⟩:=HN.out;exact⟨rfl,0,U,by omega,h1,h2⟩
 ·go_enter func37,ntmps37
  go_upto_region 22 with(first
   |(go_at_call 36;refine(W1 _).mono ?_;rintro e w' ⟨rfl,rfl⟩))
  go_name_world z I
  have G:Below w.heap.size w z:=by rw[←I];first|exact((ZA _ _).alloc (Zw _) _).alloc (by simp) _|exact(((ZA _ _).alloc (Zw _) _).alloc (by simp) _).drew|exact(((ZA _ _).alloc (Zw _) _).drew).alloc (by simp) _
  have af:b≤z.heap.size:=by have:=G.size;omega
  obtain⟨V,Y,O⟩:=hT.ready hb G.drew (j:=2) (by decide)
  have t0:Cq z p 2 (.slice V (l 2).length Y):=O.cell;have pa:p<z.heap.size:=Zx z _ t0
  have R:=Hi O
  go_region_law (first
   |(refine step_append_lies _ (by rfl) _ _ _ (by rfl) b 104 i0 _ 4 48 underlying98 hi aa ab ac (by rfl) (by decide) (.slice V (l 2).length Y) (l 2).length ((l 2).flatMap yq) (by rfl) (aac R.out.row _) ⟨z.heap.size,0,none⟩ 1 1 [S [116,114,117,101],S [116,114,117,101],Iq 1,Iq 1] (by rfl) (by rfl) (World.news_of_block (Zy z.drew _)) (fun x Z=>by simp at Z;rcases Z with rfl|rfl|rfl|rfl<;>rfl) (by decide) (by unfold maxLen;omega) (by omega) (by simp;omega) (z.heap.size+1) (by simp) ?_;intro gg ad w5 E D J ae;obtain⟨y0,ag⟩:=R.out.far _ _ D;have HN:Hid _:=R.out.put _ ⟨[116,114,117,101],[116,114,117,101],1,1⟩ _ _ _ D (by rcases J with h|h;exact .inl h;right;rw[h,ZB];rfl) E;clear E D J)
   |(go_simp;go_at_call 36;refine(W1 _).mono ?_;rintro e w' ⟨rfl,rfl⟩;dsimp only))
  all_goals
   go_wp2
   go_end0
   obtain⟨⟨U,h1⟩,h2⟩:=HN.out;exact⟨rfl,1,U,by omega,h1,h2⟩
variable {b_ c_ e_ f_ g_ h_ j_ k_ l_ m_ n_ o_ p_ q_ r_ s_ t_ u_ v_ w_ x_ y_ z_ A_ B_ C_ D_ E_ F_ G_ H_ I_ J_ K_ L_ M_ N_ O_ P_ Q_ R_ S_ T_ U_ V_ W_ X_ Y_ Z_ _a _b _c _d _e _f _g _h _i _j _k _l _m _n _o _p _q _r _s _t _u _v _w _x _y _z _A _B _C _D _E _F _G _H _I _J _K _L _M _N _O _P _Q _R _S _T _U _V _W _X _Y _Z _0 _1 _2 _3 _4 _5 _6 _7 _8 _9 a'1 b'1 c'1 d'1 e'1 f'1 g'1 h'1 i'1 j'1 k'1 l'1 m'1 n'1 o'1 p'1 q'1 r'1 s'1 t'1 u'1 v'1 w'1 x'1 y'1 z'1 A'1 B'1 C'1 D'1 E'1 F'1 G'1 H'1 I'1 J'1 K'1 L'1 M'1 N'1 O'1 P'1 Q'1 R'1 S'1 T'1 U'1 V'1 W'1 X'1 Y'1 Z'1 a? b? c? d? e? f? g? h? i? j? k? l? m? n? o? p? q? r? s? t? u? v? w? x? y? z? A? B? C? D? E? F? G? H? I? J? K? L? M? N? O? P? Q? R? S? T? U? V? W? X? Y? Z? Z' Y' X' V' U' T' S':Value}
theorem NK (hn3:dG (n.tdiv 3)) (hz:fW w0 gz o) (ht:Cq w0 p 0 V)
 (WA:∀W,Below w0.heap.size w0 W→Calls prog 72 #[V,Iq n,pB o] W fun e w'=>e= .returned (pB A0)∧w'=(W.alloc (xV o)).alloc (xV A0))
 (WB:∀W,Below w0.heap.size w0 W→Calls prog 72 #[V,Iq (n.tdiv 3),pB o] W fun e w'=>e= .returned (pB B0)∧w'=(W.alloc (xV o)).alloc (xV B0)):
 Code.wp prog ((f38.body.bind (oD 4)).getD .skip) (JN (fun a' w'=> ∃(ga gb:Nat) (u21 u22 u23 u24 u25 u26 u27 u28 u29 u30 u31 u32 u33 u34 u35:Value),a'=⟨#[Pq p,b_,c_,Iq n,e_,f_,g_,h_,Pq gz,j_,k_,Pq ga,Pq gb,n_,o_,p_,q_,r_,s_,t_,u_,u21,u22,u23,u24,u25,u26,u27,u28,u29,u30,u31,u32,u33,u34,u35,K_,L_,M_,N_,O_,P_,Q_,R_,S_,T_,U_,V_,W_,X_,Y_,Z_,_a,_b,_c,_d,_e,_f,_g,_h,_i,_j,_k,_l,_m,_n,_o,_p,_q,_r,_s,_t,_u,_v,_w,_x,_y,_z,_A,_B,_C,_D,_E,_F,_G,_H,_I,_J,_K,_L,_M,_N,_O,_P,_Q,_R,_S,_T,_U,_V,_W,_X,_Y,_Z,_0,_1,_2,_3,_4,_5,_6,_7,_8,_9,a'1,b'1,c'1,d'1,e'1,f'1,g'1,h'1,i'1,j'1,k'1,l'1,m'1,n'1,o'1,p'1,q'1,r'1,s'1,t'1,u'1,v'1,w'1,x'1,y'1,z'1,A'1,B'1,C'1,D'1,E'1,F'1,G'1,H'1,I'1,J'1,K'1,L'1,M'1,N'1,O'1,P'1,Q'1,R'1,S'1,T'1,U'1,V'1,W'1,X'1,Y'1,Z'1,a?,b?,c?,d?,e?,f?,g?,h?,i?,j?,k?,l?,m?,n?,o?,p?,q?,r?,s?,t?,u?,v?,w?,x?,y?,z?,A?,B?,C?,D?,E?,F?,G?,H?,I?,J?,K?,L?,M?,N?,O?,P?,Q?,R?,S?,T?,U?,V?,W?,X?,Y?,Z?,Z',Y',X',V',U',T',S'],[]⟩∧fW w' ga A0∧fW w' gb B0∧Below w0.heap.size w0 w')) ⟨#[Pq p,b_,c_,Iq n,e_,f_,g_,h_,Pq gz,j_,k_,l_,m_,n_,o_,p_,q_,r_,s_,t_,u_,v_,w_,x_,y_,z_,A_,B_,C_,D_,E_,F_,G_,H_,I_,J_,K_,L_,M_,N_,O_,P_,Q_,R_,S_,T_,U_,V_,W_,X_,Y_,Z_,_a,_b,_c,_d,_e,_f,_g,_h,_i,_j,_k,_l,_m,_n,_o,_p,_q,_r,_s,_t,_u,_v,_w,_x,_y,_z,_A,_B,_C,_D,_E,_F,_G,_H,_I,_J,_K,_L,_M,_N,_O,_P,_Q,_R,_S,_T,_U,_V,_W,_X,_Y,_Z,_0,_1,_2,_3,_4,_5,_6,_7,_8,_9,a'1,b'1,c'1,d'1,e'1,f'1,g'1,h'1,i'1,j'1,k'1,l'1,m'1,n'1,o'1,p'1,q'1,r'1,s'1,t'1,u'1,v'1,w'1,x'1,y'1,z'1,A'1,B'1,C'1,D'1,E'1,F'1,G'1,H'1,I'1,J'1,K'1,L'1,M'1,N'1,O'1,P'1,Q'1,R'1,S'1,T'1,U'1,V'1,W'1,X'1,Y'1,Z'1,a?,b?,c?,d?,e?,f?,g?,h?,i?,j?,k?,l?,m?,n?,o?,p?,q?,r?,s?,t?,u?,v?,w?,x?,y?,z?,A?,B?,C?,D?,E?,F?,G?,H?,I?,J?,K?,L?,M?,N?,O?,P?,Q?,R?,S?,T?,U?,V?,W?,X?,Y?,Z?,Z',Y',X',V',U',T',S'],[]⟩ w0:=by
 have hp0:p<w0.heap.size:=Zx w0 _ ht;have hz0:gz<w0.heap.size:=be hz;have hS0:Below w0.heap.size w0 w0:=ZA _ _;have E0:∀W,Below w0.heap.size w0 W→W.cell? ⟨p,0,none⟩=some V:=fun W h=>by rw[h.cell (p:=⟨p,0,none⟩) hp0];exact ht
 have Z0:∀W,Below w0.heap.size w0 W→W.cell? ⟨gz,0,none⟩=some (S o.text):=fun W h=>by rw[h.cell (p:=⟨gz,0,none⟩) hz0];exact Zz w0 _ 0 _ _ _ hz
 have Z1:∀W,Below w0.heap.size w0 W→W.cell? ⟨gz,1,none⟩=some (S o.bare):=fun W h=>by rw[h.cell (p:=⟨gz,1,none⟩) hz0];exact Zz w0 _ 1 _ _ _ hz
 have Z2:∀W,Below w0.heap.size w0 W→W.cell? ⟨gz,2,none⟩=some (Iq o.told):=fun W h=>by rw[h.cell (p:=⟨gz,2,none⟩) hz0];exact Zz w0 _ 2 _ _ _ hz
 have Z3:∀W,Below w0.heap.size w0 W→W.cell? ⟨gz,3,none⟩=some (Iq (o.deep:Nat)):=fun W h=>by rw[h.cell (p:=⟨gz,3,none⟩) hz0];exact Zz w0 _ 3 _ _ _ hz
 have KD:Hid (∀W:World,Below w0.heap.size w0 W→Below w0.heap.size w0 W.drew):=fun W h=>h.drew
 have KA:Hid (∀(W:World) (o:Obj),Below w0.heap.size w0 W→Below w0.heap.size w0 (W.alloc o)):=fun W o h=>h.alloc h.size _
 have hq3:IntKind.i64.wrap (n.tdiv 3)=n.tdiv 3:=by unfold dG at hn3;rw[ZY];omega
 unfold pB at WA WB
 conv=>arg 2;whnf
 go_region_held3 (fun W=>Below w0.heap.size w0 W) (first|assumption|(repeat' first|exact hS0|with_reducible assumption|with_reducible apply KD.out|with_reducible apply KA.out|(with_reducible refine KS.out _ _ _ (by simp;omega) ?_)))
  (first
   |(go_at_call 72;(first|with_reducible refine aaU (WA _ (by assumption)) ?_|with_reducible refine aaU (WB _ (by assumption)) ?_);rintro e w' ⟨rfl,rfl⟩))
 all_goals
  rename_i hHeld
  exact⟨_,_,_,_,_,_,_,_,_,_,_,_,_,_,_,_,_,rfl,eJ (by repeat' first|(refine nu ?_;simp;done)|refine pC ?_),eJ (by repeat' first|(refine nu ?_;simp;done)|refine pC ?_),hHeld⟩
end Go.Proofs.YtfkdailfcmnjlaaGreatDoor
