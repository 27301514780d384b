/-
  A part.
-/
import Derived.Test.YtfkdailfcmnjlaaGreatDoorMeant22b
import Derived.Test.YtfkdailfcmnjlaaGreatDoorMeant22c
import Derived.Test.YtfkdailfcmnjlaaGreatDoorMeant22d
set_option linter.unusedVariables false
set_option linter.unusedSimpArgs false
set_option maxHeartbeats 40000000
set_option maxRecDepth 1000000
namespace Go.Proofs.YtfkdailfcmnjlaaGreatDoor
open Go Go.RowKit Tryz
attribute [local go_sem ↓] Go.wp_at_zero Go.wp_at_succ
variable {z w0:World} {g p i L n xb pb r:Nat} {m:Mk} {hd:List UInt8} {al bb:Bool} {fl:List Int} {q:List (Mk×Bool)}
variable {a_ b_ c_ d_ e_ f_ g_ h_ k_ l_ m_ n_ o_ p_ q_ r_ s_ t_ u_ v_ w_ x_ y_ z_ A_ B_ C_ D_ E_ F_ G_ H_ I_ J_ K_ L_ M_ N_ O_ P_ Q_ R_ S_ T_ U_ V_ W_ X_ Y_ Z_ _a _b _c _d _e _f _g _h _i _j _k _l _m _n _o _p _q _r _s _t _u _v _w _x _y _z _A _B _C _D _E _F _G _H _I _J _K _L _M _N _O _P _Q _R _S _T _U _V _W _X _Y _Z _0 _1 _2 _3 _4 _5 _6 _7 _8 _9 a'1 b'1 c'1 d'1 e'1 f'1 g'1 h'1 i'1 j'1 k'1 l'1 m'1 n'1 o'1 p'1 q'1 r'1 s'1 t'1 u'1 v'1 w'1 x'1 y'1 z'1:Value}
theorem Pc {z:Bool} (hx:fW w0 xb m) (hp:mA w0 pb (gh q) (gK q) al r) (hn:n=q.length+1) (cg:xb≠pb) (hm:m.text.length≤1000∧m.bare.length≤1000∧(ik z).length≤100∧(gh q).length≤10000∧(gK q).length≤10000):
 Code.wp prog (ml (im 4 ((f16.body.bind (ju 3)).getD .skip))) (JN (fun a' w'=> ∃(_E _F _G _H _I _J _K _L _M _N _O _P _Q _R _S _T _U _V _W _X _Y _Z _0 _1 _2 _3 _4 _5 _6 _7 _8 _9 a'1 b'1 c'1 d'1 e'1 f'1 g'1 h'1 i'1 j'1 k'1:Value),a'=⟨#[a_,b_,c_,d_,e_,f_,g_,h_,Pq pb,Iq (n:Nat),k_,Pq xb,S (ik z),n_,o_,p_,q_,r_,s_,t_,u_,v_,w_,x_,y_,z_,A_,B_,C_,D_,E_,F_,G_,H_,I_,J_,K_,L_,M_,N_,O_,P_,Q_,R_,S_,T_,U_,V_,W_,X_,Y_,Z_,_a,_b,_c,_d,_e,_f,_g,_h,_i,_j,_k,_l,_m,_n,_o,_p,_q,_r,_s,_t,_u,_v,_w,_x,_y,_z,_A,_B,_C,_D,_E,_F,_G,_H,_I,_J,_K,_L,_M,_N,_O,_P,_Q,_R,_S,_T,_U,_V,_W,_X,_Y,_Z,_0,_1,_2,_3,_4,_5,_6,_7,_8,_9,a'1,b'1,c'1,d'1,e'1,f'1,g'1,h'1,i'1,j'1,k'1,l'1,m'1,n'1,o'1,p'1,q'1,r'1,s'1,t'1,u'1,v'1,w'1,x'1,y'1,z'1],[]⟩∧mA w' pb (gh (q++[(m,z)])) (gK (q++[(m,z)])) al r∧fW w' xb m∧Below pb w0 w')) ⟨#[a_,b_,c_,d_,e_,f_,g_,h_,Pq pb,Iq (n:Nat),k_,Pq xb,S (ik z),n_,o_,p_,q_,r_,s_,t_,u_,v_,w_,x_,y_,z_,A_,B_,C_,D_,E_,F_,G_,H_,I_,J_,K_,L_,M_,N_,O_,P_,Q_,R_,S_,T_,U_,V_,W_,X_,Y_,Z_,_a,_b,_c,_d,_e,_f,_g,_h,_i,_j,_k,_l,_m,_n,_o,_p,_q,_r,_s,_t,_u,_v,_w,_x,_y,_z,_A,_B,_C,_D,_E,_F,_G,_H,_I,_J,_K,_L,_M,_N,_O,_P,_Q,_R,_S,_T,_U,_V,_W,_X,_Y,_Z,_0,_1,_2,_3,_4,_5,_6,_7,_8,_9,a'1,b'1,c'1,d'1,e'1,f'1,g'1,h'1,i'1,j'1,k'1,l'1,m'1,n'1,o'1,p'1,q'1,r'1,s'1,t'1,u'1,v'1,w'1,x'1,y'1,z'1],[]⟩ w0:=by
 cases q with
 |nil=>exact OE hx hp (by simpa using hn) cg hm (xP (m,z)).1 (xP (m,z)).2
 |cons y q=>exact OF hx hp (by simp at hn;omega) cg hm (zp (y::q) (m,z) (by simp)).1 (zp (y::q) (m,z) (by simp)).2
theorem Io {cap:Nat} (hp2:Cq w0 p 2 (Sq g L cap)) (hi:i<L) (hL:L≤1000) (h0:Cq w0 g (i*4) (S m.text)) (h1:Cq w0 g (i*4+1) (S m.bare)) (h2:Cq w0 g (i*4+2) (Iq m.told)) (h3:Cq w0 g (i*4+3) (Iq (m.deep:Nat)))
 (hpb:mA w0 pb (gh q) (gK q) (eT q 0).1 (eT q 0).2) (hn:q.length=n) (hn3:n<3) (hq:qj fl q) (hm:gW fl 116 m):
 Code.wp prog ((f16.body.bind (ju 3)).getD .skip) (JN (fun a' w'=> ∃(u11 u12 u66 u67 u68 u69 u70 u71 u72 u73 u74 u75 u76 u77 u78 u79 u80 u81 u82 u83 u84 u85 u86 u87 u88 u89 u90 u91 u92 u93 u94 u95 u96 u97 u98 u99 u100 u101 u102 u103 u104 u105 u106 u107 u108 u109 u110 u111 u112 u113 u114 u115 u116 u117 u118 u119 u120 u121 u122 u123 u124 u125 u126 u127 u128 u129 u130 u131 u132 u133 u134 u135 u136 u137 u138:Value),a'=⟨#[a_,b_,c_,d_,e_,Pq p,g_,h_,Pq pb,Iq ((n+1:Nat):Int),Iq (i:Nat),u11,u12,n_,o_,p_,q_,r_,s_,t_,u_,v_,w_,x_,y_,z_,A_,B_,C_,D_,E_,F_,G_,H_,I_,J_,K_,L_,M_,N_,O_,P_,Q_,R_,S_,T_,U_,V_,W_,X_,Y_,Z_,_a,_b,_c,_d,_e,_f,_g,_h,_i,_j,_k,_l,_m,_n,u66,u67,u68,u69,u70,u71,u72,u73,u74,u75,u76,u77,u78,u79,u80,u81,u82,u83,u84,u85,u86,u87,u88,u89,u90,u91,u92,u93,u94,u95,u96,u97,u98,u99,u100,u101,u102,u103,u104,u105,u106,u107,u108,u109,u110,u111,u112,u113,u114,u115,u116,u117,u118,u119,u120,u121,u122,u123,u124,u125,u126,u127,u128,u129,u130,u131,u132,u133,u134,u135,u136,u137,u138,z'1],[]⟩∧(mA w' pb (gh (q++[(m,(m.text.length+i) %2==0)])) (gK (q++[(m,(m.text.length+i) %2==0)])) (eT (q++[(m,(m.text.length+i) %2==0)]) 0).1 (eT (q++[(m,(m.text.length+i) %2==0)]) 0).2∧Below pb w0 w'))) ⟨#[a_,b_,c_,d_,e_,Pq p,g_,h_,Pq pb,Iq (n:Nat),Iq (i:Nat),l_,m_,n_,o_,p_,q_,r_,s_,t_,u_,v_,w_,x_,y_,z_,A_,B_,C_,D_,E_,F_,G_,H_,I_,J_,K_,L_,M_,N_,O_,P_,Q_,R_,S_,T_,U_,V_,W_,X_,Y_,Z_,_a,_b,_c,_d,_e,_f,_g,_h,_i,_j,_k,_l,_m,_n,_o,_p,_q,_r,_s,_t,_u,_v,_w,_x,_y,_z,_A,_B,_C,_D,_E,_F,_G,_H,_I,_J,_K,_L,_M,_N,_O,_P,_Q,_R,_S,_T,_U,_V,_W,_X,_Y,_Z,_0,_1,_2,_3,_4,_5,_6,_7,_8,_9,a'1,b'1,c'1,d'1,e'1,f'1,g'1,h'1,i'1,j'1,k'1,l'1,m'1,n'1,o'1,p'1,q'1,r'1,s'1,t'1,u'1,v'1,w'1,x'1,y'1,z'1],[]⟩ w0:=by
 have hm1:=hm.text;have hm2:=hm.bare;obtain⟨hw1,hw2⟩:=NU hq (by omega)
 have hd:=zo ((m.text.length+i) %2==0);have hsl:=Mn q 0;have hpl:pb<w0.heap.size:=be hpb;rw[NT];refine wp_seq (iG (O7 hp2 hi h0 h1 h2 h3) ?_);rintro a1 w1 ⟨u66,u67,u68,u69,u70,u71,u72,rfl,rfl⟩
 show Code.wp _ _ _ _ _
 refine wp_seq (iG (O8 (by omega)) ?_)
 rintro a2 w2 ⟨u73,u74,rfl,rfl⟩;rw[show((n:Int)+1)=((n+1:Nat):Int) from by omega]
 show Code.wp _ _ _ _ _
 refine wp_seq (iG (O9) ?_);rintro a3 w3 ⟨rfl,rfl⟩
 show Code.wp _ _ _ _ _
 have hx:fW (w0.alloc (xV m)) w0.heap.size m:=nu rfl;have hpb1:mA (w0.alloc (xV m)) pb (gh q) (gK q) (eT q 0).1 (eT q 0).2:=(ZE _ _ _ hpl).trans hpb;refine wp_seq (iG (Pa hx (by omega) (by omega)) ?_)
 rintro a4 w4 ⟨u75,u76,u77,u78,u79,u80,u81,rfl,rfl⟩
 show Code.wp _ _ _ _ _
 generalize hbb:((m.text.length+i) %2==0)=bb at*;refine wp_seq (iG (Pc (q:=q) hx hpb1 (by omega) (by omega) ⟨by omega,by omega,by omega,by omega,by omega⟩) ?_)
 intro a5 w5 h5;obtain⟨u82,h5⟩:=h5;obtain⟨u83,h5⟩:=h5;obtain⟨u84,h5⟩:=h5;obtain⟨u85,h5⟩:=h5;obtain⟨u86,h5⟩:=h5;obtain⟨u87,h5⟩:=h5;obtain⟨u88,h5⟩:=h5;obtain⟨u89,h5⟩:=h5;obtain⟨u90,h5⟩:=h5;obtain⟨u91,h5⟩:=h5;obtain⟨u92,h5⟩:=h5;obtain⟨u93,h5⟩:=h5;obtain⟨u94,h5⟩:=h5;obtain⟨u95,h5⟩:=h5;obtain⟨u96,h5⟩:=h5;obtain⟨u97,h5⟩:=h5;obtain⟨u98,h5⟩:=h5;obtain⟨u99,h5⟩:=h5;obtain⟨u100,h5⟩:=h5;obtain⟨u101,h5⟩:=h5;obtain⟨u102,h5⟩:=h5;obtain⟨u103,h5⟩:=h5;obtain⟨u104,h5⟩:=h5;obtain⟨u105,h5⟩:=h5;obtain⟨u106,h5⟩:=h5;obtain⟨u107,h5⟩:=h5;obtain⟨u108,h5⟩:=h5;obtain⟨u109,h5⟩:=h5;obtain⟨u110,h5⟩:=h5;obtain⟨u111,h5⟩:=h5;obtain⟨u112,h5⟩:=h5;obtain⟨u113,h5⟩:=h5;obtain⟨u114,h5⟩:=h5;obtain⟨u115,h5⟩:=h5;obtain⟨u116,h5⟩:=h5;obtain⟨u117,h5⟩:=h5;obtain⟨u118,h5⟩:=h5;obtain⟨u119,h5⟩:=h5;obtain⟨u120,h5⟩:=h5;obtain⟨u121,h5⟩:=h5;obtain⟨u122,h5⟩:=h5;obtain⟨u123,h5⟩:=h5;obtain⟨u124,h5⟩:=h5;obtain⟨rfl,hpb5,hx5,hB5⟩:=h5
 show Code.wp _ _ _ _ _
 refine iG (Pb hx5 hpb5 (by omega) (by omega)) ?_
 rintro a6 w6 ⟨u125,u126,u127,u128,u129,u130,u131,u132,u133,u134,u135,u136,u137,u138,rfl,hpb6,hB6⟩;obtain⟨e1,e2⟩:=Im q m bb;rw[hn] at e2;rw[←e1,←e2] at hpb6;exact⟨_,_,_,_,_,_,_,_,_,_,_,_,_,_,_,_,_,_,_,_,_,_,_,_,_,_,_,_,_,_,_,_,_,_,_,_,_,_,_,_,_,_,_,_,_,_,_,_,_,_,_,_,_,_,_,_,_,_,_,_,_,_,_,_,_,_,_,_,_,_,_,_,_,_,_,rfl,hpb6,(((ZA _ _).alloc (by omega) _).trans hB5).trans hB6⟩
end Go.Proofs.YtfkdailfcmnjlaaGreatDoor
