/-
  A part.
-/
import Derived.Test.YtfkdailfcmnjlaaGreatDoorMeant22a
set_option linter.unusedVariables false
set_option linter.unusedSimpArgs false
set_option maxHeartbeats 40000000
set_option maxRecDepth 1000000
namespace Go.Proofs.YtfkdailfcmnjlaaGreatDoor
open Go Go.RowKit Tryz
attribute [local go_sem ↓] Go.wp_at_zero Go.wp_at_succ
variable {z w0:World} {g p i L n xb pb r E:Nat} {m:Mk} {hd tq bq br:List UInt8} {al bb:Bool}
variable {a_ b_ c_ d_ e_ f_ g_ h_ i_ j_ k_ l_ m_ n_ o_ p_ q_ r_ s_ t_ u_ v_ w_ x_ y_ z_ A_ B_ C_ D_ E_ F_ G_ H_ I_ J_ K_ L_ M_ N_ O_ P_ Q_ R_ S_ T_ U_ V_ W_ X_ Y_ Z_ _a _b _c _d _e _f _g _h _i _j _k _l _m _n _o _p _q _r _s _t _u _v _w _x _y _z _A _B _C _D _E _F _G _H _I _J _K _L _M _N _O _P _Q _R _S _T _U _V _W _X _Y _Z _0 _1 _2 _3 _4 _5 _6 _7 _8 _9 a'1 b'1 c'1 d'1 e'1 f'1 g'1 h'1 i'1 j'1 k'1 l'1 m'1 n'1 o'1 p'1 q'1 r'1 s'1 t'1 u'1 v'1 w'1 x'1 y'1 z'1:Value}
theorem O7 {cap:Nat} (hp:Cq z p 2 (Sq g L cap)) (hi:i<L) (h0:Cq z g (i*4) (S m.text)) (h1:Cq z g (i*4+1) (S m.bare)) (h2:Cq z g (i*4+2) (Iq m.told)) (h3:Cq z g (i*4+3) (Iq (m.deep:Nat))):
 Code.wp prog (ml ((f16.body.bind (ju 3)).getD .skip)) (JN (fun a' w'=> ∃(ch ci cj ck cm cn co:Value),a'=⟨#[a_,b_,c_,d_,e_,Pq p,g_,h_,i_,j_,Iq (i:Nat),Pq z.heap.size,m_,n_,o_,p_,q_,r_,s_,t_,u_,v_,w_,x_,y_,z_,A_,B_,C_,D_,E_,F_,G_,H_,I_,J_,K_,L_,M_,N_,O_,P_,Q_,R_,S_,T_,U_,V_,W_,X_,Y_,Z_,_a,_b,_c,_d,_e,_f,_g,_h,_i,_j,_k,_l,_m,_n,ch,ci,cj,ck,cm,cn,co,_v,_w,_x,_y,_z,_A,_B,_C,_D,_E,_F,_G,_H,_I,_J,_K,_L,_M,_N,_O,_P,_Q,_R,_S,_T,_U,_V,_W,_X,_Y,_Z,_0,_1,_2,_3,_4,_5,_6,_7,_8,_9,a'1,b'1,c'1,d'1,e'1,f'1,g'1,h'1,i'1,j'1,k'1,l'1,m'1,n'1,o'1,p'1,q'1,r'1,s'1,t'1,u'1,v'1,w'1,x'1,y'1,z'1],[]⟩∧w'=z.alloc (xV m))) ⟨#[a_,b_,c_,d_,e_,Pq p,g_,h_,i_,j_,Iq (i:Nat),l_,m_,n_,o_,p_,q_,r_,s_,t_,u_,v_,w_,x_,y_,z_,A_,B_,C_,D_,E_,F_,G_,H_,I_,J_,K_,L_,M_,N_,O_,P_,Q_,R_,S_,T_,U_,V_,W_,X_,Y_,Z_,_a,_b,_c,_d,_e,_f,_g,_h,_i,_j,_k,_l,_m,_n,_o,_p,_q,_r,_s,_t,_u,_v,_w,_x,_y,_z,_A,_B,_C,_D,_E,_F,_G,_H,_I,_J,_K,_L,_M,_N,_O,_P,_Q,_R,_S,_T,_U,_V,_W,_X,_Y,_Z,_0,_1,_2,_3,_4,_5,_6,_7,_8,_9,a'1,b'1,c'1,d'1,e'1,f'1,g'1,h'1,i'1,j'1,k'1,l'1,m'1,n'1,o'1,p'1,q'1,r'1,s'1,t'1,u'1,v'1,w'1,x'1,y'1,z'1],[]⟩ z:=by
 have i0:(0:Int)≤(i:Int)∧(i:Int)<(L:Int):=by omega
 unfold xV
 conv=>arg 2;whnf
 go_wp2
 first|exact⟨_,_,_,_,_,_,_,rfl,rfl⟩|exact⟨⟨_,_,_,_,_,_,_,rfl⟩,rfl⟩
theorem OF {tr:List UInt8} (hx:fW w0 xb m) (hp:mA w0 pb tq bq al r) (hn:1<n) (hne:xb≠pb) (hm:m.text.length≤1000∧m.bare.length≤1000∧hd.length≤100∧tq.length≤10000∧bq.length≤10000)
 (ht:tr=tq++hd++m.text++[59,10]) (hb:br=bq++hd++[10]++m.bare++[32,59]):
 Code.wp prog (ml (im 4 ((f16.body.bind (ju 3)).getD .skip))) (JN (fun a' w'=> ∃(_E _F _G _H _I _J _K _L _M _N _O _P _Q _R _S _T _U _V _W _X _Y _Z _0 _1 _2 _3 _4 _5 _6 _7 _8 _9 a'1 b'1 c'1 d'1 e'1 f'1 g'1 h'1 i'1 j'1 k'1:Value),a'=⟨#[a_,b_,c_,d_,e_,f_,g_,h_,Pq pb,Iq (n:Nat),k_,Pq xb,S hd,n_,o_,p_,q_,r_,s_,t_,u_,v_,w_,x_,y_,z_,A_,B_,C_,D_,E_,F_,G_,H_,I_,J_,K_,L_,M_,N_,O_,P_,Q_,R_,S_,T_,U_,V_,W_,X_,Y_,Z_,_a,_b,_c,_d,_e,_f,_g,_h,_i,_j,_k,_l,_m,_n,_o,_p,_q,_r,_s,_t,_u,_v,_w,_x,_y,_z,_A,_B,_C,_D,_E,_F,_G,_H,_I,_J,_K,_L,_M,_N,_O,_P,_Q,_R,_S,_T,_U,_V,_W,_X,_Y,_Z,_0,_1,_2,_3,_4,_5,_6,_7,_8,_9,a'1,b'1,c'1,d'1,e'1,f'1,g'1,h'1,i'1,j'1,k'1,l'1,m'1,n'1,o'1,p'1,q'1,r'1,s'1,t'1,u'1,v'1,w'1,x'1,y'1,z'1],[]⟩∧mA w' pb tr br al r∧fW w' xb m∧Below pb w0 w')) ⟨#[a_,b_,c_,d_,e_,f_,g_,h_,Pq pb,Iq (n:Nat),k_,Pq xb,S hd,n_,o_,p_,q_,r_,s_,t_,u_,v_,w_,x_,y_,z_,A_,B_,C_,D_,E_,F_,G_,H_,I_,J_,K_,L_,M_,N_,O_,P_,Q_,R_,S_,T_,U_,V_,W_,X_,Y_,Z_,_a,_b,_c,_d,_e,_f,_g,_h,_i,_j,_k,_l,_m,_n,_o,_p,_q,_r,_s,_t,_u,_v,_w,_x,_y,_z,_A,_B,_C,_D,_E,_F,_G,_H,_I,_J,_K,_L,_M,_N,_O,_P,_Q,_R,_S,_T,_U,_V,_W,_X,_Y,_Z,_0,_1,_2,_3,_4,_5,_6,_7,_8,_9,a'1,b'1,c'1,d'1,e'1,f'1,g'1,h'1,i'1,j'1,k'1,l'1,m'1,n'1,o'1,p'1,q'1,r'1,s'1,t'1,u'1,v'1,w'1,x'1,y'1,z'1],[]⟩ w0:=by
 obtain⟨x0,x1,_,_⟩:=dk hx;have HX:=Hi hx;have HP:=Hi hp;have y0:=Zz w0 _ 0 _ _ _ hp;have y1:=Zz w0 _ 1 _ _ _ hp;have f0:w0.frozen? ⟨pb,0,none⟩=false:=by unfold mA at hp;simp[World.frozen?,hp]
 have f1:w0.frozen? ⟨pb,1,none⟩=false:=by unfold mA at hp;simp[World.frozen?,hp]
 obtain⟨m1,m2,m3,m4,m5⟩:=hm;obtain⟨t1,ht1⟩:∃z:List UInt8,z=tq++hd:=⟨_,rfl⟩;have et1:(⟨tq.toArray⟩:ByteArray)++⟨hd.toArray⟩=⟨t1.toArray⟩:=aae (by rw[ht1];simp)
 have nt1:t1.length=tq.length+hd.length:=by rw[ht1];simp
 have lt1: ¬9223372036854775807<tq.length+hd.length:=by omega
 obtain⟨t2,ht2⟩:∃z:List UInt8,z=t1++m.text:=⟨_,rfl⟩;have et2:(⟨t1.toArray⟩:ByteArray)++⟨m.text.toArray⟩=⟨t2.toArray⟩:=aae (by rw[ht2];simp)
 have nt2:t2.length=t1.length+m.text.length:=by rw[ht2];simp
 have lt2: ¬9223372036854775807<t1.length+m.text.length:=by omega
 obtain⟨t3,ht3⟩:∃z:List UInt8,z=t2++[59,10]:=⟨_,rfl⟩;have et3:(⟨t2.toArray⟩:ByteArray)++⟨#[59,10]⟩=⟨t3.toArray⟩:=aae (by rw[ht3];simp)
 have nt3:t3.length=t2.length+2:=by rw[ht3];simp
 have lt3: ¬9223372036854775807<t2.length+2:=by omega
 obtain⟨b1,hb1⟩:∃z:List UInt8,z=bq++hd:=⟨_,rfl⟩;have eb1:(⟨bq.toArray⟩:ByteArray)++⟨hd.toArray⟩=⟨b1.toArray⟩:=aae (by rw[hb1];simp)
 have nb1:b1.length=bq.length+hd.length:=by rw[hb1];simp
 have lb1: ¬9223372036854775807<bq.length+hd.length:=by omega
 obtain⟨b2,hb2⟩:∃z:List UInt8,z=b1++[10]:=⟨_,rfl⟩;have eb2:(⟨b1.toArray⟩:ByteArray)++⟨#[10]⟩=⟨b2.toArray⟩:=aae (by rw[hb2];simp)
 have nb2:b2.length=b1.length+1:=by rw[hb2];simp
 have lb2: ¬9223372036854775807<b1.length+1:=by omega
 obtain⟨b3,hb3⟩:∃z:List UInt8,z=b2++m.bare:=⟨_,rfl⟩;have eb3:(⟨b2.toArray⟩:ByteArray)++⟨m.bare.toArray⟩=⟨b3.toArray⟩:=aae (by rw[hb3];simp)
 have nb3:b3.length=b2.length+m.bare.length:=by rw[hb3];simp
 have lb3: ¬9223372036854775807<b2.length+m.bare.length:=by omega
 obtain⟨b4,hb4⟩:∃z:List UInt8,z=b3++[32,59]:=⟨_,rfl⟩;have eb4:(⟨b3.toArray⟩:ByteArray)++⟨#[32,59]⟩=⟨b4.toArray⟩:=aae (by rw[hb4];simp)
 have nb4:b4.length=b3.length+2:=by rw[hb4];simp
 have lb4: ¬9223372036854775807<b3.length+2:=by omega
 have HT:Hid (tr=t3):=by show _=_;rw[ht,ht3,ht2,ht1]
 have HB:Hid (br=b4):=by show _=_;rw[hb,hb4,hb3,hb2,hb1]
 rw[HT.out,HB.out];have k1:((n:Int)==1)=false:=by simp;omega
 clear hx hp ht hb HT HB ht1 nt1 ht2 nt2 ht3 nt3 hb1 nb1 hb2 nb2 hb3 nb3 hb4 nb4
 conv=>arg 2;whnf
 go_wp2
 first|refine⟨_,_,_,_,_,_,_,_,_,_,_,_,_,_,_,_,_,_,_,_,_,_,_,_,_,_,_,_,_,_,_,_,_,_,_,_,_,_,_,_,_,_,_,rfl,?_,?_,?_⟩|refine⟨⟨_,_,_,_,_,_,_,_,_,_,_,_,_,_,_,_,_,_,_,_,_,_,_,_,_,_,_,_,_,_,_,_,_,_,_,_,_,_,_,_,_,_,_,rfl⟩,?_,?_,?_⟩
 ·have h1:=ZK w0 pb 0 _ _ (S t3) HP.out
  exact ZK _ pb 1 _ _ (S b4) h1
 ·unfold fW
  rw[ZO _ _ _ _ hne,ZO _ _ _ _ hne];exact HX.out
 ·exact iX (iX (ZA _ _))
theorem Pb (hx:fW w0 xb m) (hp:mA w0 pb tq bq al r) (hr:r≤100) (hn:n≤100):
 Code.wp prog (im 5 ((f16.body.bind (ju 3)).getD .skip)) (JN (fun a' w'=> ∃(u125 u126 u127 u128 u129 u130 u131 u132 u133 u134 u135 u136 u137 u138:Value),a'=⟨#[a_,b_,c_,d_,e_,f_,g_,h_,Pq pb,Iq (n:Nat),k_,Pq xb,S (ik bb),n_,o_,p_,q_,r_,s_,t_,u_,v_,w_,x_,y_,z_,A_,B_,C_,D_,E_,F_,G_,H_,I_,J_,K_,L_,M_,N_,O_,P_,Q_,R_,S_,T_,U_,V_,W_,X_,Y_,Z_,_a,_b,_c,_d,_e,_f,_g,_h,_i,_j,_k,_l,_m,_n,_o,_p,_q,_r,_s,_t,_u,_v,_w,_x,_y,_z,_A,_B,_C,_D,_E,_F,_G,_H,_I,_J,_K,_L,_M,_N,_O,_P,_Q,_R,_S,_T,_U,_V,_W,_X,_Y,_Z,_0,_1,_2,_3,_4,_5,_6,_7,_8,_9,a'1,b'1,c'1,d'1,e'1,f'1,g'1,h'1,i'1,j'1,k'1,u125,u126,u127,u128,u129,u130,u131,u132,u133,u134,u135,u136,u137,u138,z'1],[]⟩∧mA w' pb tq bq (if m.told=1∧r=0 then bb else al) (if m.told=1∧r=0 then n else r)∧Below pb w0 w')) ⟨#[a_,b_,c_,d_,e_,f_,g_,h_,Pq pb,Iq (n:Nat),k_,Pq xb,S (ik bb),n_,o_,p_,q_,r_,s_,t_,u_,v_,w_,x_,y_,z_,A_,B_,C_,D_,E_,F_,G_,H_,I_,J_,K_,L_,M_,N_,O_,P_,Q_,R_,S_,T_,U_,V_,W_,X_,Y_,Z_,_a,_b,_c,_d,_e,_f,_g,_h,_i,_j,_k,_l,_m,_n,_o,_p,_q,_r,_s,_t,_u,_v,_w,_x,_y,_z,_A,_B,_C,_D,_E,_F,_G,_H,_I,_J,_K,_L,_M,_N,_O,_P,_Q,_R,_S,_T,_U,_V,_W,_X,_Y,_Z,_0,_1,_2,_3,_4,_5,_6,_7,_8,_9,a'1,b'1,c'1,d'1,e'1,f'1,g'1,h'1,i'1,j'1,k'1,l'1,m'1,n'1,o'1,p'1,q'1,r'1,s'1,t'1,u'1,v'1,w'1,x'1,y'1,z'1],[]⟩ w0:=by
 obtain⟨_,_,x2,_⟩:=dk hx;have HP:=Hi hp;have y2:=Zz w0 _ 2 _ _ _ hp;have y3:=Zz w0 _ 3 _ _ _ hp;have y4:=Zz w0 _ 4 _ _ _ hp;have f2:w0.frozen? ⟨pb,2,none⟩=false:=by unfold mA at hp;simp[World.frozen?,hp]
 have f3:w0.frozen? ⟨pb,3,none⟩=false:=by unfold mA at hp;simp[World.frozen?,hp]
 have f4:w0.frozen? ⟨pb,4,none⟩=false:=by unfold mA at hp;simp[World.frozen?,hp]
 by_cases h1:m.told=1
 ·have i1:(m.told==1)=true:=by simp[h1]
  by_cases h2:r=0
  ·rw[Zu ⟨h1,h2⟩,Zu ⟨h1,h2⟩]
   subst h2
   cases bb with
   |true=>
    have eb:ik true=qx:=rfl;rw[eb];unfold qx
    conv=>arg 2;whnf
    go_wp2
    first|refine⟨_,_,_,_,_,_,_,_,_,_,_,_,_,_,rfl,?_,?_⟩|refine⟨⟨_,_,_,_,_,_,_,_,_,_,_,_,_,_,rfl⟩,?_,?_⟩
    ·have h1:=ZK w0 pb 2 _ _ (.bool true) HP.out
     have h2:=ZK _ pb 3 _ _ (Iq (n:Nat)) h1;exact ZK _ pb 4 _ _ (Iq 0) h2
    ·exact iX (iX (iX (ZA _ _)))
   |false=>
    have eb:ik false=pP:=rfl;rw[eb];unfold pP
    conv=>arg 2;whnf
    go_wp2
    first|refine⟨_,_,_,_,_,_,_,_,_,_,_,_,_,_,rfl,?_,?_⟩|refine⟨⟨_,_,_,_,_,_,_,_,_,_,_,_,_,_,rfl⟩,?_,?_⟩
    ·have h1:=ZK w0 pb 2 _ _ (.bool false) HP.out
     have h2:=ZK _ pb 3 _ _ (Iq (n:Nat)) h1;exact ZK _ pb 4 _ _ (Iq 0) h2
    ·exact iX (iX (iX (ZA _ _)))
  ·rw[Zt (fun h=>h2 h.2),Zt (fun h=>h2 h.2)]
   have i2:((r:Int)==0)=false:=by simp;omega
   conv=>arg 2;whnf
   go_wp2
   first|exact⟨_,_,_,_,_,_,_,_,_,_,_,_,_,_,rfl,HP.out,ZA _ _⟩|exact⟨⟨_,_,_,_,_,_,_,_,_,_,_,_,_,_,rfl⟩,HP.out,ZA _ _⟩
 ·rw[Zt (fun h=>h1 h.1),Zt (fun h=>h1 h.1)]
  have i1:(m.told==1)=false:=by simpa using h1
  conv=>arg 2;whnf
  go_wp2
  first|exact⟨_,_,_,_,_,_,_,_,_,_,_,_,_,_,rfl,HP.out,ZA _ _⟩|exact⟨⟨_,_,_,_,_,_,_,_,_,_,_,_,_,_,rfl⟩,HP.out,ZA _ _⟩
end Go.Proofs.YtfkdailfcmnjlaaGreatDoor
namespace Go.Proofs.YtfkdailfcmnjlaaGreatDoor
open Go Go.RowKit Tryz
attribute [local go_sem ↓] Go.wp_at_zero Go.wp_at_succ mI
variable {p cb Ru k:Nat} {W z:World} {l:List UInt8} {c:jV} {D E:Value} {A:Bool}
variable {a_ b_ c_ d_ e_ g_ h_ i_ j_ k_ l_ m_ n_ o_ p_ q_ r_ s_ t_ u_ v_ w_ x_ y_ z_ A_ B_ C_ D_ E_ F_ G_ H_ I_ J_ K_ L_ M_ N_ O_ P_ Q_ R_ S_ T_ U_ V_ W_ X_ Y_ Z_ _a _b _c _d _e _f _g _h _i _j _k _l _m _n _o _p _q _r _s _t _u _v _w _x _y _z _A _B _C _D _E _F _G _H _I _J _K _L _M _N _O _P _Q _R _S _T _U _V _W _X _Y _Z _0 _1 _2 _3 _4 _5 _6 _7 _8 _9 a'1 b'1:Value}
theorem OH (hc:jC c) {St:Nat} (ah:z.heap[cb]?=some (.cells (je c) 37 (0,0)))
 (HM:∀W lv mv,Below z.heap.size z W→eW lv (jJ c).levels W→eW mv (jJ c).members W→Calls prog 18 #[S l,DX (oB c),tf lv mv (jJ c)] W fun en w'=>en= .returned (.tuple #[.agg #[.bool A,Iq (Ru:Nat),Iq (St:Nat)],Iq (k:Nat)])∧Below W.heap.size W w'):
 Code.wp prog ((f28.body.bind (oD 11)).getD .skip) (JN (fun a' w'=> ∃(vb:Nat) (b4 b5 b6 b7 b8 b9 ca cc cd:Value),a'=⟨#[S l,b_,c_,d_,e_,Pq cb,g_,h_,i_,j_,k_,l_,m_,n_,o_,Pq vb,Iq (k:Nat),r_,s_,t_,u_,v_,w_,x_,y_,z_,A_,B_,C_,D_,E_,F_,G_,H_,I_,J_,K_,L_,M_,N_,O_,P_,Q_,R_,S_,T_,U_,V_,W_,X_,Y_,Z_,_a,_b,_c,_d,_e,_f,_g,_h,_i,_j,_k,_l,_m,_n,b4,b5,b6,b7,b8,b9,ca,cc,cd,_x,_y,_z,_A,_B,_C,_D,_E,_F,_G,_H,_I,_J,_K,_L,_M,_N,_O,_P,_Q,_R,_S,_T,_U,_V,_W,_X,_Y,_Z,_0,_1,_2,_3,_4,_5,_6,_7,_8,_9,a'1,b'1],[]⟩∧(w'.heap[vb]?=some (.cells #[.bool A,Iq (Ru:Nat),Iq (St:Nat)] 40 (0,0))∧Below z.heap.size z w'))) ⟨#[S l,b_,c_,d_,e_,Pq cb,g_,h_,i_,j_,k_,l_,m_,n_,o_,p_,q_,r_,s_,t_,u_,v_,w_,x_,y_,z_,A_,B_,C_,D_,E_,F_,G_,H_,I_,J_,K_,L_,M_,N_,O_,P_,Q_,R_,S_,T_,U_,V_,W_,X_,Y_,Z_,_a,_b,_c,_d,_e,_f,_g,_h,_i,_j,_k,_l,_m,_n,_o,_p,_q,_r,_s,_t,_u,_v,_w,_x,_y,_z,_A,_B,_C,_D,_E,_F,_G,_H,_I,_J,_K,_L,_M,_N,_O,_P,_Q,_R,_S,_T,_U,_V,_W,_X,_Y,_Z,_0,_1,_2,_3,_4,_5,_6,_7,_8,_9,a'1,b'1],[]⟩ z:=by
 have bP:=be ah;have HO:∀W,Below z.heap.size z W→(nt (Pq cb)).run prog W= .ok (.agg (je c)) W:=fun W h=>jt W _ _ ((h.block _ bP).trans ah) rfl
 have E1:=fun W=>uK hc W
 have E2:=fun W=>uL hc W
 have HJ:=Hi HM;have ce:Below z.heap.size z z:=ZA _ _;have KB:Hid (∀W W':World,Below z.heap.size z W→Below W.heap.size W W'→Below z.heap.size z W'):=fun W W' h h'=>h.trans (h'.mono h.size)
 have KD:Hid (∀W:World,Below z.heap.size z W→Below z.heap.size z W.drew):=fun W h=>h.drew
 have KA:Hid (∀(W:World) (o:Obj),Below z.heap.size z W→Below z.heap.size z (W.alloc o)):=fun W o h=>h.alloc h.size _
 have KS:Hid (∀(W:World) (a:Addr) (u:Value),z.heap.size≤a.block→Below z.heap.size z W→Below z.heap.size z (W.setCell a u)):=fun W a u h h'=>h'.setCell h _
 conv=>arg 2;whnf
 go_region_held3 (fun W=>Below z.heap.size z W) (first|assumption|exact KB.out _ _ (by assumption) ai|exact KB.out _ _ (by assumption) E|exact KB.out _ _ (by assumption) D|(repeat' first|exact ce|with_reducible assumption|with_reducible apply KD.out|with_reducible apply KA.out|(with_reducible refine KS.out _ _ _ (by simp only[];omega) ?_)))
  (first
   |(go_at_call 21;refine(E1 _).mono ?_;rintro e w3 ⟨rfl,ai⟩;have z3:z.heap.size≤w3.heap.size:=Z8 (by first|exact Zw _|(show z.heap.size≤(World.alloc z _).heap.size;rw[ZB];exact abv _)) ai.size;(first|(have bQ:=(ai.block z.heap.size (by show z.heap.size<(World.alloc z _).heap.size;rw[ZB];exact aaM _)).trans (Zy z _))|skip))
   |(go_at_call 22;refine(E2 _).mono ?_;rintro e w4 ⟨lv,mv,rfl,bR,bS,E⟩;have z4:w3.heap.size≤w4.heap.size:=Z8 (by first|exact Zw _|(rw[ZB];exact abv _)) E.size;(first|(have aj:=(E.block _ (be bQ)).trans bQ)|(have aj:=(E.block w3.heap.size (by rw[ZB];exact aaM _)).trans (Zy w3 _))|skip))
   |(go_at_call 18;refine(HJ.out _ lv mv (by assumption) ?_ ?_).mono ?_;(first|exact bR|exact bR.below ((ZA _ _).alloc (Zw _) _));(first|exact bS|exact bS.below ((ZA _ _).alloc (Zw _) _));rintro e w5 ⟨rfl,D⟩;have S5:=KB.out _ _ (by assumption) D;have z5:w4.heap.size≤w5.heap.size:=Z8 (by first|exact Zw _|(rw[ZB];exact abv _)) D.size;(first|(have ak:=(D.block _ (be aj)).trans aj)|(have ak:=(D.block w4.heap.size (by rw[ZB];exact aaM _)).trans (Zy w4 _))|skip);(first|(have cf:=mJ ak;obtain⟨k0,k1,k2,j0,j1,j2⟩:=cf)|skip)))
 all_goals
  rename_i hHeld
  first
   |exact⟨_,_,_,_,_,_,_,_,_,_,rfl,AA ak,hHeld⟩
   |exact⟨_,_,_,_,_,_,_,_,_,_,rfl,Zy w5 _,hHeld⟩
end Go.Proofs.YtfkdailfcmnjlaaGreatDoor
