/-
  A part.
-/
import Derived.Test.YtfkdailfcmnjlaaGreatDoorMeant22f
set_option linter.unusedVariables false
set_option linter.unusedSimpArgs false
set_option maxHeartbeats 40000000
set_option maxRecDepth 1000000
namespace Go.Proofs.YtfkdailfcmnjlaaGreatDoor
open Go Go.RowKit Tryz
attribute [local go_sem ↓] Go.wp_at_zero Go.wp_at_succ mI
theorem NS {c:jV} (hc:jC c) {b p cb N cap:Nat} {a:Option Addr} {zs:List Int} {D:World} {a_ d_ e_ h_ i_ j_ k_ l_ m_ n_ o_ p_ q_ r_ s_ t_ u_ v_ w_ x_ y_ z_ A_ B_ C_ D_ E_ F_ G_ H_ I_ J_ K_ L_ M_ N_ O_ P_ Q_ R_ S_ T_ U_ V_ W_ X_ Y_ Z_ _a _b _c _d _e _f _g _h _i _j _k _l _m _n _o _p _q _r _s _t _u _v _w _x _y _z _A _B _C _D _E _F _G _H _I _J _K _L _M _N _O _P _Q _R _S _T _U _V _W _X _Y _Z _0 _1 _2 _3 _4 _5 _6 _7 _8 _9 a'1 b'1 c'1 d'1 e'1 f'1 g'1 h'1 i'1 j'1 k'1 l'1 m'1 n'1 o'1 p'1 q'1 r'1 s'1 t'1 u'1 v'1 w'1 x'1 y'1 z'1:Value} (hN:zs.length=N) (ak:N≤maxLen) (ha:∀i,i<N→ ∃rb E,a=some ⟨rb,E,none⟩∧rb<b∧Cq D rb (E+i) (Iq (zs.getD i 0))) (af:∀z∈zs,dG z)
 (ag:D.heap[cb]?=some (.cells (je c) 37 (0,0))) (ab:cb<b) (hb:b≤D.heap.size) (hI:xO c b p D D 0):
 Code.wp prog ((f16.body.bind tO).getD .skip) (JN (fun a' w'=> ∃(g_ h_ p_ q_ r_ s_ t_ u_ v_ w_ x_ y_ z_ A_ B_ C_ D_ E_ F_ G_ H_ I_ J_ K_ L_ M_ N_ O_ P_ Q_ R_ S_ T_ U_ V_ W_ X_ Y_ Z_:Value),a'=⟨#[a_,.slice a N cap,Pq cb,d_,e_,Pq p,g_,h_,i_,j_,k_,l_,m_,n_,o_,p_,q_,r_,s_,t_,u_,v_,w_,x_,y_,z_,A_,B_,C_,D_,E_,F_,G_,H_,I_,J_,K_,L_,M_,N_,O_,P_,Q_,R_,S_,T_,U_,V_,W_,X_,Y_,Z_,_a,_b,_c,_d,_e,_f,_g,_h,_i,_j,_k,_l,_m,_n,_o,_p,_q,_r,_s,_t,_u,_v,_w,_x,_y,_z,_A,_B,_C,_D,_E,_F,_G,_H,_I,_J,_K,_L,_M,_N,_O,_P,_Q,_R,_S,_T,_U,_V,_W,_X,_Y,_Z,_0,_1,_2,_3,_4,_5,_6,_7,_8,_9,a'1,b'1,c'1,d'1,e'1,f'1,g'1,h'1,i'1,j'1,k'1,l'1,m'1,n'1,o'1,p'1,q'1,r'1,s'1,t'1,u'1,v'1,w'1,x'1,y'1,z'1],[]⟩∧xO c b p D w' 20)) ⟨#[a_,.slice a N cap,Pq cb,d_,e_,Pq p,Iq 0,h_,i_,j_,k_,l_,m_,n_,o_,p_,q_,r_,s_,t_,u_,v_,w_,x_,y_,z_,A_,B_,C_,D_,E_,F_,G_,H_,I_,J_,K_,L_,M_,N_,O_,P_,Q_,R_,S_,T_,U_,V_,W_,X_,Y_,Z_,_a,_b,_c,_d,_e,_f,_g,_h,_i,_j,_k,_l,_m,_n,_o,_p,_q,_r,_s,_t,_u,_v,_w,_x,_y,_z,_A,_B,_C,_D,_E,_F,_G,_H,_I,_J,_K,_L,_M,_N,_O,_P,_Q,_R,_S,_T,_U,_V,_W,_X,_Y,_Z,_0,_1,_2,_3,_4,_5,_6,_7,_8,_9,a'1,b'1,c'1,d'1,e'1,f'1,g'1,h'1,i'1,j'1,k'1,l'1,m'1,n'1,o'1,p'1,q'1,r'1,s'1,t'1,u'1,v'1,w'1,x'1,y'1,z'1],[]⟩ D:=by
 unfold maxLen at ak;have HA:Hid (∀i,i<N→ ∃rb E,a=some ⟨rb,E,none⟩∧rb<b∧Cq D rb (E+i) (Iq (zs.getD i 0))):=ha;have HZ:Hid (∀i,i<N→dG (zs.getD i 0)):=fun i hi=>by
  rw[Zs,Zv (by omega)]
  exact af _ (ZV _)
 have HC:Hid (D.heap[cb]?=some (.cells (je c) 37 (0,0))):=ag;have am:Hid (xO c b p D D 0):=hI
 conv=>arg 2;whnf
 go_wp2
 go_loopw [6] (fun iv wr=> ∃k:Nat,k≤20∧iv= Iq ((2*k:Nat):Int)∧Hid (xO c b p D wr k)) (fun iv _=>41 - (intOf iv).toNat)
 case atStart=>exact⟨0,by omega,rfl,am.out⟩
 case round=>
  obtain⟨k,hk,rfl,HI⟩:=hrel
  by_cases h1:2*k+1<N
  ·by_cases h2:k<20
   ·obtain⟨v,l,hT,hg,hl,hB⟩:=HI.out
    obtain⟨rb,E,rfl,Z,q0⟩:=HA.out (2*k) (by omega)
    obtain⟨_,_,e0,_,q1⟩:=HA.out (2*k+1) h1;simp only[ZR,aaJ,aby] at e0;obtain⟨rfl,rfl⟩:=e0;have z0:=HZ.out (2*k) (by omega)
    have z1:=HZ.out (2*k+1) h1;have r0:wr.cell? ⟨rb,E+2*k,none⟩=some (Iq (zs.getD (2*k) 0)):=by rw[hB.cell (p:=⟨rb,E+2*k,none⟩) Z];exact q0
    have R1:∀W,Below b wr W→W.cell? ⟨rb,E+(2*k+1),none⟩=some (Iq (zs.getD (2*k+1) 0)):=fun W h=>by
     rw[h.cell (p:=⟨rb,E+(2*k+1),none⟩) Z,hB.cell (p:=⟨rb,E+(2*k+1),none⟩) Z];exact q1
    have HO:∀W,Below b wr W→(nt (Pq cb)).run prog W= .ok (.agg (je c)) W:=fun W h=>by
     exact jt W _ _ ((h.block _ ab).trans ((hB.block _ ab).trans HC.out)) rfl
    have W1:=fun w=>lH z0 (n:=16) (by decide) (by decide) w
    have p1:=kX (zs.getD (2*k) 0) (n:=16) (by decide)
    generalize kW (zs.getD (2*k) 0) 16=kk at*;generalize zs.getD (2*k) 0=x0 at*;generalize zs.getD (2*k+1) 0=x1 at*;have ac:b≤wr.heap.size:=by have:=hB.size;omega
    have HB:Hid (Below b D wr):=hB;have HL:Hid (∀j,j<3→(l j).length≤k):=hl;have ah:Below b wr wr:=ZA _ _;have aa:Below wr.heap.size wr wr.drew:=(ZA _ _).drew;have KD:Hid (∀W:World,Below b wr W→Below b wr W.drew):=fun W h=>h.drew
    have KC:Hid (∀w2:World,Below b wr.drew w2→Below b wr w2):=fun w2 h=>((ZA b wr).drew).trans h
    have ao:(0:Int)≤2*(k:Int)+1∧2*(k:Int)+1<(N:Int):=by omega
    have ap:IntKind.i64.wrap (2*(k:Int)+1)=2*(k:Int)+1:=by rw[ZY];omega
    have aq:(2*(k:Int)+1).toNat=2*k+1:=by omega
    have ad:Hid (∀(W w':World) (Y:Nat→List Mk) (v2:Nat→Value),Below wr.heap.size wr W→TI b w' p v2 Y→rN (qS c) Y→(∀j,j<3→(Y j).length≤(l j).length+1)→Below b W w'→xO c b p D w' (k+1)):=fun W w' Y v2 hW G I J O=>⟨v2,Y,G,I,fun j R=>by have:=J j R;have:=HL.out j R;omega,HB.out.trans ((hW.mono ac).trans O)⟩
    by_cases h6:kk<6
    ·have W2:Calls prog 37 #[Pq p,.agg (je c),Iq kk,Iq x1] wr.drew (vT c b p wr.drew l):=Ml hc z1 (by omega) (hT.below aa) ac hg (fun j R=>by have:=HL.out j R;omega)
     have i6:(kk:Int)<6:=by omega
     go_upto_region 7 with(go_at_call 36;refine(W1 _).mono ?_;rintro e w' ⟨rfl,U⟩;have ae:=U.symm;clear U;subst ae)
     go_region_held3 (fun W=>Below b wr W) (first|assumption|with_reducible exact KD.out _ (by assumption)|exact KD.out _ ah|exact KC.out _ (by assumption)|go_keep)
      (first
       |(go_at_call 37;refine aaU W2 ?_;rintro e w2 ⟨rfl,v2,Y,G,I,J,O⟩))
     all_goals
      have HN:=Hi (ad.out _ _ _ _ aa G I J O);go_wp2
      go_roundw
      case rel=>exact⟨k+1,by omega,by congr 1,HN.out⟩
      case measure=>simp[intOf];omega
    ·obtain⟨V,rfl⟩:∃V,kk=V+6:=⟨kk - 6,by omega⟩
     have W2:Calls prog 38 #[Pq p,.agg (je c),Iq V,Iq x1] wr.drew (vT c b p wr.drew l):=Ik z1 (by omega) (hT.below aa) ac hg (fun j R=>by have:=HL.out j R;omega)
     have i6: ¬(V:Int)+6<6:=by omega
     have i7:(V:Int)+6 - 6=(V:Int):=by omega
     have i8:IntKind.i64.wrap (V:Int)=(V:Int):=by rw[ZY];omega
     go_upto_region 8 with(go_at_call 36;refine(W1 _).mono ?_;rintro e w' ⟨rfl,U⟩;have ae:=U.symm;clear U;subst ae)
     go_region_held3 (fun W=>Below b wr W) (first|assumption|with_reducible exact KD.out _ (by assumption)|exact KD.out _ ah|exact KC.out _ (by assumption)|go_keep)
      (first
       |(go_at_call 38;refine aaU W2 ?_;rintro e w2 ⟨rfl,v2,Y,G,I,J,O⟩))
     all_goals
      have HN:=Hi (ad.out _ _ _ _ aa G I J O);go_wp2
      go_roundw
      case rel=>exact⟨k+1,by omega,by congr 1,HN.out⟩
      case measure=>simp[intOf];omega
   ·have i2: ¬((2*k:Nat):Int)<40:=by omega
    have aj:(((2*k:Nat):Int)+1)<(N:Int):=by omega
    obtain rfl:k=20:=by omega
    go_wp2
    first|exact⟨_,_,_,_,_,_,_,_,_,_,_,_,_,_,_,_,_,_,_,_,_,_,_,_,_,_,_,_,_,_,_,_,_,_,_,_,_,_,_,rfl,HI.out⟩|exact⟨⟨_,_,_,_,_,_,_,_,_,_,_,_,_,_,_,_,_,_,_,_,_,_,_,_,_,_,_,_,_,_,_,_,_,_,_,_,_,_,_,rfl⟩,HI.out⟩
  ·have i1: ¬(((2*k:Nat):Int)+1)<(N:Int):=by omega
   have ai:Hid (xO c b p D wr 20):=by
    obtain⟨v,l,a1,a2,a3,a4⟩:=HI.out;exact⟨v,l,a1,a2,fun j R=>by have:=a3 j R;omega,a4⟩
   go_wp2
   first|exact⟨_,_,_,_,_,_,_,_,_,_,_,_,_,_,_,_,_,_,_,_,_,_,_,_,_,_,_,_,_,_,_,_,_,_,_,_,_,_,_,rfl,ai.out⟩|exact⟨⟨_,_,_,_,_,_,_,_,_,_,_,_,_,_,_,_,_,_,_,_,_,_,_,_,_,_,_,_,_,_,_,_,_,_,_,_,_,_,_,rfl⟩,ai.out⟩
end Go.Proofs.YtfkdailfcmnjlaaGreatDoor
