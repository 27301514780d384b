/-
  A part.
-/
import Derived.Test.YtfkdailfcmnjlaaGreatDoorMeant22a
set_option linter.unusedVariables false
set_option linter.unusedSimpArgs false
set_option maxHeartbeats 40000000
set_option maxRecDepth 1000000
namespace Go.Proofs.YtfkdailfcmnjlaaGreatDoor
open Go Go.RowKit Tryz
attribute [local go_sem ↓] Go.wp_at_zero Go.wp_at_succ
variable {a:Act} {w0:World} {p gz kd:Nat} {r m k:Mk} {l:Nat→List Mk} {n:Int}
variable {b_ d_ e_ f_ g_ h_ i_ j_ k_ l_ m_ n_ o_ p_ q_ s_ t_ u_ v_ w_ x_ y_ z_ A_ B_ C_ D_ E_ F_ G_ H_ I_ J_ K_ L_ M_ N_ O_ P_ Q_ R_ S_ T_ U_ V_ W_ X_ Y_ Z_ _a _b _c _d _e _f _g _h _i _j _k _l _m _n _o _p _q _r _s _t _u _v _w _x _y _z _A _B _C _D _E _F _G _H _I _J _K _L _M _N _O _P _Q _R _S _T _U _V _W _X _Y _Z _0 _1 _2 _3 _4 _5 _6 _7 _8 _9 a'1 b'1 c'1 d'1 e'1 f'1 g'1 h'1 i'1 j'1 k'1 l'1 m'1 n'1 o'1 p'1 q'1 r'1 s'1 t'1 u'1 v'1 w'1 x'1 y'1 z'1 A'1 B'1 C'1 D'1 E'1 F'1 G'1 H'1 I'1 J'1 K'1 L'1 M'1 N'1 O'1 P'1 Q'1 R'1 S'1 T'1 U'1 V'1 W'1 X'1 Y'1 Z'1 a? b? c? d? e? f? g? h? i? j? k? l? m? n? o? p? q? r? s? t? u? v? w? x? y? z? A? B? C? D? E? F? G? H? I? J? K? L? M? N? O? P? Q? R? S? T? U? V? W? X? Y? Z? Z' Y' X' V' U' T' S':Value}
theorem Mm (hz:fW w0 gz r) (hs:r.text.length≤100000∧r.bare.length≤100000∧r.deep≤100000) (hbad: ¬(r.deep≤12∧r.bare.length≤140∧r.text.length≤140)):
 Code.wp prog ((f38.body.map (im 9)).getD .skip) (JR (fun w'=>w'=w0)) ⟨#[Pq p,b_,Iq kd,d_,e_,f_,g_,h_,i_,j_,k_,l_,m_,n_,o_,p_,q_,Pq gz,s_,t_,u_,v_,w_,x_,y_,z_,A_,B_,C_,D_,E_,F_,G_,H_,I_,J_,K_,L_,M_,N_,O_,P_,Q_,R_,S_,T_,U_,V_,W_,X_,Y_,Z_,_a,_b,_c,_d,_e,_f,_g,_h,_i,_j,_k,_l,_m,_n,_o,_p,_q,_r,_s,_t,_u,_v,_w,_x,_y,_z,_A,_B,_C,_D,_E,_F,_G,_H,_I,_J,_K,_L,_M,_N,_O,_P,_Q,_R,_S,_T,_U,_V,_W,_X,_Y,_Z,_0,_1,_2,_3,_4,_5,_6,_7,_8,_9,a'1,b'1,c'1,d'1,e'1,f'1,g'1,h'1,i'1,j'1,k'1,l'1,m'1,n'1,o'1,p'1,q'1,r'1,s'1,t'1,u'1,v'1,w'1,x'1,y'1,z'1,A'1,B'1,C'1,D'1,E'1,F'1,G'1,H'1,I'1,J'1,K'1,L'1,M'1,N'1,O'1,P'1,Q'1,R'1,S'1,T'1,U'1,V'1,W'1,X'1,Y'1,Z'1,a?,b?,c?,d?,e?,f?,g?,h?,i?,j?,k?,l?,m?,n?,o?,p?,q?,r?,s?,t?,u?,v?,w?,x?,y?,z?,A?,B?,C?,D?,E?,F?,G?,H?,I?,J?,K?,L?,M?,N?,O?,P?,Q?,R?,S?,T?,U?,V?,W?,X?,Y?,Z?,Z',Y',X',V',U',T',S'],[]⟩ w0:=by
 obtain⟨z0,z1,z2,z3⟩:=dk hz;obtain⟨s1,s2,s3⟩:=hs
 by_cases h1:r.deep≤12
 ·have i1: ¬(12:Int)<(r.deep:Int):=by omega
  by_cases h2:r.bare.length≤140
  ·have i2: ¬(140:Int)<(r.bare.length:Int):=by omega
   have i3:(140:Int)<(r.text.length:Int):=by omega
   conv=>arg 2;whnf
   go_wp2;exact⟨rfl,rfl⟩
  ·have i2:(140:Int)<(r.bare.length:Int):=by omega
   conv=>arg 2;whnf
   go_wp2;exact⟨rfl,rfl⟩
 ·have i1:(12:Int)<(r.deep:Int):=by omega
  conv=>arg 2;whnf
  go_wp2;exact⟨rfl,rfl⟩
variable {z w0 G:World} {p i n xb pb r E:Nat} {m:Mk} {hd tq bq br:List UInt8} {al bb:Bool}
variable {a_ b_ c_ d_ e_ f_ g_ h_ i_ j_ k_ l_ m_ n_ o_ p_ q_ r_ s_ t_ u_ v_ w_ x_ y_ z_ A_ B_ C_ D_ E_ F_ G_ H_ I_ J_ K_ L_ M_ N_ O_ P_ Q_ R_ S_ T_ U_ V_ W_ X_ Y_ Z_ _a _b _c _d _e _f _g _h _i _j _k _l _m _n _o _p _q _r _s _t _u _v _w _x _y _z _A _B _C _D _E _F _G _H _I _J _K _L _M _N _O _P _Q _R _S _T _U _V _W _X _Y _Z _0 _1 _2 _3 _4 _5 _6 _7 _8 _9 a'1 b'1 c'1 d'1 e'1 f'1 g'1 h'1 i'1 j'1 k'1 l'1 m'1 n'1 o'1 p'1 q'1 r'1 s'1 t'1 u'1 v'1 w'1 x'1 y'1 z'1:Value}
theorem Pa (hx:fW w0 xb m) (hm:m.text.length≤1000) (hi:i≤1000):
 Code.wp prog (ml (im 3 ((f16.body.bind (ju 3)).getD .skip))) (JN (fun a' w'=> ∃(ce cf cg ch ci cj ck:Value),a'=⟨#[a_,b_,c_,d_,e_,f_,g_,h_,i_,j_,Iq (i:Nat),Pq xb,S (ik ((m.text.length+i) %2==0)),n_,o_,p_,q_,r_,s_,t_,u_,v_,w_,x_,y_,z_,A_,B_,C_,D_,E_,F_,G_,H_,I_,J_,K_,L_,M_,N_,O_,P_,Q_,R_,S_,T_,U_,V_,W_,X_,Y_,Z_,_a,_b,_c,_d,_e,_f,_g,_h,_i,_j,_k,_l,_m,_n,_o,_p,_q,_r,_s,_t,_u,_v,_w,ce,cf,cg,ch,ci,cj,ck,_E,_F,_G,_H,_I,_J,_K,_L,_M,_N,_O,_P,_Q,_R,_S,_T,_U,_V,_W,_X,_Y,_Z,_0,_1,_2,_3,_4,_5,_6,_7,_8,_9,a'1,b'1,c'1,d'1,e'1,f'1,g'1,h'1,i'1,j'1,k'1,l'1,m'1,n'1,o'1,p'1,q'1,r'1,s'1,t'1,u'1,v'1,w'1,x'1,y'1,z'1],[]⟩∧w'=w0)) ⟨#[a_,b_,c_,d_,e_,f_,g_,h_,i_,j_,Iq (i:Nat),Pq xb,S pP,n_,o_,p_,q_,r_,s_,t_,u_,v_,w_,x_,y_,z_,A_,B_,C_,D_,E_,F_,G_,H_,I_,J_,K_,L_,M_,N_,O_,P_,Q_,R_,S_,T_,U_,V_,W_,X_,Y_,Z_,_a,_b,_c,_d,_e,_f,_g,_h,_i,_j,_k,_l,_m,_n,_o,_p,_q,_r,_s,_t,_u,_v,_w,_x,_y,_z,_A,_B,_C,_D,_E,_F,_G,_H,_I,_J,_K,_L,_M,_N,_O,_P,_Q,_R,_S,_T,_U,_V,_W,_X,_Y,_Z,_0,_1,_2,_3,_4,_5,_6,_7,_8,_9,a'1,b'1,c'1,d'1,e'1,f'1,g'1,h'1,i'1,j'1,k'1,l'1,m'1,n'1,o'1,p'1,q'1,r'1,s'1,t'1,u'1,v'1,w'1,x'1,y'1,z'1],[]⟩ w0:=by
 obtain⟨x0,_,_,_⟩:=dk hx
 by_cases h:(m.text.length+i) %2=0
 ·have h1:(((m.text.length:Int)+(i:Int)) %2==0)=true:=by simp;omega
  have HE:Hid (ik ((m.text.length+i) %2==0)=qx):=by show _=_;rw[h];rfl
  rw[HE.out]
  conv=>arg 2;whnf
  go_wp2
  first|exact⟨_,_,_,_,_,_,_,rfl,rfl⟩|exact⟨⟨_,_,_,_,_,_,_,rfl⟩,rfl⟩
 ·have h1:(((m.text.length:Int)+(i:Int)) %2==0)=false:=by simp;omega
  have HE:Hid (ik ((m.text.length+i) %2==0)=pP):=by
   show _=_
   have:((m.text.length+i) %2==0)=false:=by simpa using h
   rw[this];rfl
  rw[HE.out]
  conv=>arg 2;whnf
  go_wp2
  first|exact⟨_,_,_,_,_,_,_,rfl,rfl⟩|exact⟨⟨_,_,_,_,_,_,_,rfl⟩,rfl⟩
theorem OE {tr:List UInt8} (hx:fW w0 xb m) (hp:mA w0 pb tq bq al r) (hn:n=1) (hne:xb≠pb) (hm:m.text.length≤1000∧m.bare.length≤1000∧hd.length≤100∧tq.length≤10000∧bq.length≤10000)
 (ht:tr=tq++[108,101,116,32,102,105,114,115,116,32,61,32]++m.text++[59,10]++hd++[102,105,114,115,116,59,10]) (hb:br=bq++[108,101,116,32,102,105,114,115,116,61]++m.bare++[59]++hd++[40,102,105,114,115,116,41,59]):
 Code.wp prog (ml (im 4 ((f16.body.bind (ju 3)).getD .skip))) (JN (fun a' w'=> ∃(_E _F _G _H _I _J _K _L _M _N _O _P _Q _R _S _T _U _V _W _X _Y _Z _0 _1 _2 _3 _4 _5 _6 _7 _8 _9 a'1 b'1 c'1 d'1 e'1 f'1 g'1 h'1 i'1 j'1 k'1:Value),a'=⟨#[a_,b_,c_,d_,e_,f_,g_,h_,Pq pb,Iq (n:Nat),k_,Pq xb,S hd,n_,o_,p_,q_,r_,s_,t_,u_,v_,w_,x_,y_,z_,A_,B_,C_,D_,E_,F_,G_,H_,I_,J_,K_,L_,M_,N_,O_,P_,Q_,R_,S_,T_,U_,V_,W_,X_,Y_,Z_,_a,_b,_c,_d,_e,_f,_g,_h,_i,_j,_k,_l,_m,_n,_o,_p,_q,_r,_s,_t,_u,_v,_w,_x,_y,_z,_A,_B,_C,_D,_E,_F,_G,_H,_I,_J,_K,_L,_M,_N,_O,_P,_Q,_R,_S,_T,_U,_V,_W,_X,_Y,_Z,_0,_1,_2,_3,_4,_5,_6,_7,_8,_9,a'1,b'1,c'1,d'1,e'1,f'1,g'1,h'1,i'1,j'1,k'1,l'1,m'1,n'1,o'1,p'1,q'1,r'1,s'1,t'1,u'1,v'1,w'1,x'1,y'1,z'1],[]⟩∧mA w' pb tr br al r∧fW w' xb m∧Below pb w0 w')) ⟨#[a_,b_,c_,d_,e_,f_,g_,h_,Pq pb,Iq (n:Nat),k_,Pq xb,S hd,n_,o_,p_,q_,r_,s_,t_,u_,v_,w_,x_,y_,z_,A_,B_,C_,D_,E_,F_,G_,H_,I_,J_,K_,L_,M_,N_,O_,P_,Q_,R_,S_,T_,U_,V_,W_,X_,Y_,Z_,_a,_b,_c,_d,_e,_f,_g,_h,_i,_j,_k,_l,_m,_n,_o,_p,_q,_r,_s,_t,_u,_v,_w,_x,_y,_z,_A,_B,_C,_D,_E,_F,_G,_H,_I,_J,_K,_L,_M,_N,_O,_P,_Q,_R,_S,_T,_U,_V,_W,_X,_Y,_Z,_0,_1,_2,_3,_4,_5,_6,_7,_8,_9,a'1,b'1,c'1,d'1,e'1,f'1,g'1,h'1,i'1,j'1,k'1,l'1,m'1,n'1,o'1,p'1,q'1,r'1,s'1,t'1,u'1,v'1,w'1,x'1,y'1,z'1],[]⟩ w0:=by
 obtain⟨x0,x1,_,_⟩:=dk hx;have HX:=Hi hx;have HP:=Hi hp;have y0:=Zz w0 _ 0 _ _ _ hp;have y1:=Zz w0 _ 1 _ _ _ hp;have f0:w0.frozen? ⟨pb,0,none⟩=false:=by unfold mA at hp;simp[World.frozen?,hp]
 have f1:w0.frozen? ⟨pb,1,none⟩=false:=by unfold mA at hp;simp[World.frozen?,hp]
 obtain⟨m1,m2,m3,m4,m5⟩:=hm;obtain⟨t1,ht1⟩:∃z:List UInt8,z=tq++[108,101,116,32,102,105,114,115,116,32,61,32]:=⟨_,rfl⟩;have et1:(⟨tq.toArray⟩:ByteArray)++⟨#[108,101,116,32,102,105,114,115,116,32,61,32]⟩=⟨t1.toArray⟩:=aae (by rw[ht1];simp)
 have nt1:t1.length=tq.length+12:=by rw[ht1];simp
 have lt1: ¬9223372036854775807<tq.length+12:=by omega
 obtain⟨t2,ht2⟩:∃z:List UInt8,z=t1++m.text:=⟨_,rfl⟩;have et2:(⟨t1.toArray⟩:ByteArray)++⟨m.text.toArray⟩=⟨t2.toArray⟩:=aae (by rw[ht2];simp)
 have nt2:t2.length=t1.length+m.text.length:=by rw[ht2];simp
 have lt2: ¬9223372036854775807<t1.length+m.text.length:=by omega
 obtain⟨t3,ht3⟩:∃z:List UInt8,z=t2++[59,10]:=⟨_,rfl⟩;have et3:(⟨t2.toArray⟩:ByteArray)++⟨#[59,10]⟩=⟨t3.toArray⟩:=aae (by rw[ht3];simp)
 have nt3:t3.length=t2.length+2:=by rw[ht3];simp
 have lt3: ¬9223372036854775807<t2.length+2:=by omega
 obtain⟨t4,ht4⟩:∃z:List UInt8,z=t3++hd:=⟨_,rfl⟩;have et4:(⟨t3.toArray⟩:ByteArray)++⟨hd.toArray⟩=⟨t4.toArray⟩:=aae (by rw[ht4];simp)
 have nt4:t4.length=t3.length+hd.length:=by rw[ht4];simp
 have lt4: ¬9223372036854775807<t3.length+hd.length:=by omega
 obtain⟨t5,ht5⟩:∃z:List UInt8,z=t4++[102,105,114,115,116,59,10]:=⟨_,rfl⟩;have et5:(⟨t4.toArray⟩:ByteArray)++⟨#[102,105,114,115,116,59,10]⟩=⟨t5.toArray⟩:=aae (by rw[ht5];simp)
 have nt5:t5.length=t4.length+7:=by rw[ht5];simp
 have lt5: ¬9223372036854775807<t4.length+7:=by omega
 obtain⟨b1,hb1⟩:∃z:List UInt8,z=bq++[108,101,116,32,102,105,114,115,116,61]:=⟨_,rfl⟩;have eb1:(⟨bq.toArray⟩:ByteArray)++⟨#[108,101,116,32,102,105,114,115,116,61]⟩=⟨b1.toArray⟩:=aae (by rw[hb1];simp)
 have nb1:b1.length=bq.length+10:=by rw[hb1];simp
 have lb1: ¬9223372036854775807<bq.length+10:=by omega
 obtain⟨b2,hb2⟩:∃z:List UInt8,z=b1++m.bare:=⟨_,rfl⟩;have eb2:(⟨b1.toArray⟩:ByteArray)++⟨m.bare.toArray⟩=⟨b2.toArray⟩:=aae (by rw[hb2];simp)
 have nb2:b2.length=b1.length+m.bare.length:=by rw[hb2];simp
 have lb2: ¬9223372036854775807<b1.length+m.bare.length:=by omega
 obtain⟨b3,hb3⟩:∃z:List UInt8,z=b2++[59]:=⟨_,rfl⟩;have eb3:(⟨b2.toArray⟩:ByteArray)++⟨#[59]⟩=⟨b3.toArray⟩:=aae (by rw[hb3];simp)
 have nb3:b3.length=b2.length+1:=by rw[hb3];simp
 have lb3: ¬9223372036854775807<b2.length+1:=by omega
 obtain⟨b4,hb4⟩:∃z:List UInt8,z=b3++hd:=⟨_,rfl⟩;have eb4:(⟨b3.toArray⟩:ByteArray)++⟨hd.toArray⟩=⟨b4.toArray⟩:=aae (by rw[hb4];simp)
 have nb4:b4.length=b3.length+hd.length:=by rw[hb4];simp
 have lb4: ¬9223372036854775807<b3.length+hd.length:=by omega
 obtain⟨b5,hb5⟩:∃z:List UInt8,z=b4++[40,102,105,114,115,116,41,59]:=⟨_,rfl⟩;have eb5:(⟨b4.toArray⟩:ByteArray)++⟨#[40,102,105,114,115,116,41,59]⟩=⟨b5.toArray⟩:=aae (by rw[hb5];simp)
 have nb5:b5.length=b4.length+8:=by rw[hb5];simp
 have lb5: ¬9223372036854775807<b4.length+8:=by omega
 have HT:Hid (tr=t5):=by show _=_;rw[ht,ht5,ht4,ht3,ht2,ht1]
 have HB:Hid (br=b5):=by show _=_;rw[hb,hb5,hb4,hb3,hb2,hb1]
 rw[HT.out,HB.out];subst hn;clear hx hp ht hb HT HB ht1 nt1 ht2 nt2 ht3 nt3 ht4 nt4 ht5 nt5 hb1 nb1 hb2 nb2 hb3 nb3 hb4 nb4 hb5 nb5
 conv=>arg 2;whnf
 go_wp2
 first|refine⟨_,_,_,_,_,_,_,_,_,_,_,_,_,_,_,_,_,_,_,_,_,_,_,_,_,_,_,_,_,_,_,_,_,_,_,_,_,_,_,_,_,_,_,rfl,?_,?_,?_⟩|refine⟨⟨_,_,_,_,_,_,_,_,_,_,_,_,_,_,_,_,_,_,_,_,_,_,_,_,_,_,_,_,_,_,_,_,_,_,_,_,_,_,_,_,_,_,_,rfl⟩,?_,?_,?_⟩
 ·have h1:=ZK w0 pb 0 _ _ (S t5) HP.out
  exact ZK _ pb 1 _ _ (S b5) h1
 ·unfold fW
  rw[ZO _ _ _ _ hne,ZO _ _ _ _ hne];exact HX.out
 ·exact iX (iX (ZA _ _))
end Go.Proofs.YtfkdailfcmnjlaaGreatDoor
namespace Go.Proofs.YtfkdailfcmnjlaaGreatDoor
open Go Go.RowKit Tryz
attribute [local go_sem ↓] Go.wp_at_zero Go.wp_at_succ mI
variable {p Ru k U:Nat} {W z:World} {l:List UInt8} {c:jV} {D I G E:Value} {A:Bool}
variable {a_ b_ c_ d_ e_ g_ h_ i_ j_ k_ l_ m_ n_ o_ p_ q_ r_ s_ t_ u_ v_ w_ x_ y_ z_ A_ B_ C_ D_ E_ F_ G_ H_ I_ J_ K_ L_ M_ N_ O_ P_ Q_ R_ S_ T_ U_ V_ W_ X_ Y_ Z_ _a _b _c _d _e _f _g _h _i _j _k _l _m _n _o _p _q _r _s _t _u _v _w _x _y _z _A _B _C _D _E _F _G _H _I _J _K _L _M _N _O _P _Q _R _S _T _U _V _W _X _Y _Z _0 _1 _2 _3 _4 _5 _6 _7 _8 _9 a'1 b'1:Value}
theorem Pd {G:Nat} (hc:jC c) {St:Nat} (c0 c1 c2 c3 c5 c6 c7 c8 Z aa aI aJ ab ac ad ae af ag ah ai aj ak am an ao ap aq aK aL aM aN aO aP aQ aR aS aT ar au av aw ax ay az aA aB aC aD:Value) (I:z.heap[U]?=some (.cells (je c) 37 (0,0))) (ht:Cq z G 0 (S l))
 (HM:∀W lv mv,Below z.heap.size z W→eW lv (jJ c).levels W→eW mv (jJ c).members W→Calls prog 18 #[S l,DX (oB c),tf lv mv (jJ c)] W fun en w'=>en= .returned (.tuple #[.agg #[.bool A,Iq (Ru:Nat),Iq (St:Nat)],Iq (k:Nat)])∧Below W.heap.size W w'):
 Code.wp prog ((f9.body.bind (oD 8)).getD .skip) (JN (fun a' w'=> ∃(vb:Nat) (aU aV aW aX aY aZ a0 a8 a9 ba:Value),a'=⟨#[c0,c1,c2,c3,Pq U,c5,c6,c7,c8,Pq G,Z,aa,Pq vb,Iq (k:Nat),ab,ac,ad,ae,af,ag,ah,ai,aj,ak,am,an,ao,ap,aq,aU,aV,aW,aX,aY,aZ,a0,a8,a9,ba,ar,au,av,aw,ax,ay,az,aA,aB,aC,aD],[]⟩∧(w'.heap[vb]?=some (.cells #[.bool A,Iq (Ru:Nat),Iq (St:Nat)] 40 (0,0))∧Below z.heap.size z w'))) ⟨#[c0,c1,c2,c3,Pq U,c5,c6,c7,c8,Pq G,Z,aa,aI,aJ,ab,ac,ad,ae,af,ag,ah,ai,aj,ak,am,an,ao,ap,aq,aK,aL,aM,aN,aO,aP,aQ,aR,aS,aT,ar,au,av,aw,ax,ay,az,aA,aB,aC,aD],[]⟩ z:=by
 have aE:=be I;have HO:∀W,Below z.heap.size z W→(nt (Pq U)).run prog W= .ok (.agg (je c)) W:=fun W h=>jt W _ _ ((h.block _ aE).trans I) rfl
 have T0:∀W,Below z.heap.size z W→W.cell? ⟨G,0,none⟩=some (S l):=fun W h=>by rw[h.cell (p:=⟨G,0,none⟩) (Zx z _ ht)];exact ht
 have E1:=fun W=>uK hc W
 have E2:=fun W=>uL hc W
 have HJ:=Hi HM;have bb:Below z.heap.size z z:=ZA _ _;have V:Hid (∀W W':World,Below z.heap.size z W→Below W.heap.size W W'→Below z.heap.size z W'):=fun W W' h h'=>h.trans (h'.mono h.size)
 have KD:Hid (∀W:World,Below z.heap.size z W→Below z.heap.size z W.drew):=fun W h=>h.drew
 have KA:Hid (∀(W:World) (o:Obj),Below z.heap.size z W→Below z.heap.size z (W.alloc o)):=fun W o h=>h.alloc h.size _
 have KS:Hid (∀(W:World) (a:Addr) (u:Value),z.heap.size≤a.block→Below z.heap.size z W→Below z.heap.size z (W.setCell a u)):=fun W a u h h'=>h'.setCell h _
 conv=>arg 2;whnf
 go_region_held3 (fun W=>Below z.heap.size z W) (first|assumption|exact V.out _ _ (by assumption) J|exact V.out _ _ (by assumption) E|exact V.out _ _ (by assumption) D|(repeat' first|exact bb|with_reducible assumption|with_reducible apply KD.out|with_reducible apply KA.out|(with_reducible refine KS.out _ _ _ (by simp only[];omega) ?_)))
  (first
   |(go_at_call 21;refine(E1 _).mono ?_;rintro e Y ⟨rfl,J⟩;have z3:z.heap.size≤Y.heap.size:=Z8 (by first|exact Zw _|(show z.heap.size≤(World.alloc z _).heap.size;rw[ZB];exact abv _)) J.size;(first|(have aF:=(J.block z.heap.size (by show z.heap.size<(World.alloc z _).heap.size;rw[ZB];exact aaM _)).trans (Zy z _))|skip))
   |(go_at_call 22;refine(E2 _).mono ?_;rintro e w4 ⟨lv,mv,rfl,aG,aH,E⟩;have z4:Y.heap.size≤w4.heap.size:=Z8 (by first|exact Zw _|(rw[ZB];exact abv _)) E.size;(first|(have O:=(E.block _ (be aF)).trans aF)|(have O:=(E.block Y.heap.size (by rw[ZB];exact aaM _)).trans (Zy Y _))|skip))
   |(go_at_call 18;refine(HJ.out _ lv mv (by assumption) ?_ ?_).mono ?_;(first|exact aG|exact aG.below ((ZA _ _).alloc (Zw _) _));(first|exact aH|exact aH.below ((ZA _ _).alloc (Zw _) _));rintro e w5 ⟨rfl,D⟩;have S5:=V.out _ _ (by assumption) D;have z5:w4.heap.size≤w5.heap.size:=Z8 (by first|exact Zw _|(rw[ZB];exact abv _)) D.size;(first|(have R:=(D.block _ (be O)).trans O)|(have R:=(D.block w4.heap.size (by rw[ZB];exact aaM _)).trans (Zy w4 _))|skip);(first|(have bc:=mJ R;obtain⟨k0,k1,k2,j0,j1,j2⟩:=bc)|skip)))
 all_goals
  rename_i hHeld
  first
   |exact⟨_,_,_,_,_,_,_,_,_,_,_,rfl,AA R,hHeld⟩
   |exact⟨_,_,_,_,_,_,_,_,_,_,_,rfl,Zy w5 _,hHeld⟩
end Go.Proofs.YtfkdailfcmnjlaaGreatDoor
