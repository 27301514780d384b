/-
  A part.
-/
import Derived.Test.YtfkdailfcmnjlaaGreatDoorMeant22a
set_option linter.unusedVariables false
set_option linter.unusedSimpArgs false
set_option maxHeartbeats 40000000
set_option maxRecDepth 1000000
namespace Go.Proofs.YtfkdailfcmnjlaaGreatDoor
open Go Go.RowKit Tryz
attribute [local go_sem ↓] Go.wp_at_zero Go.wp_at_succ
variable {a:Act} {w w0:World} {p gz kd b:Nat} {r:Mk} {v:Nat→Value} {l:Nat→List Mk} {n x:Int}
variable {b_ d_ e_ f_ g_ h_ i_ j_ k_ l_ m_ n_ o_ p_ q_ s_ t_ u_ v_ w_ x_ y_ z_ A_ B_ C_ D_ E_ F_ G_ H_ I_ J_ K_ L_ M_ N_ O_ P_ Q_ R_ S_ T_ U_ V_ W_ X_ Y_ Z_ _a _b _c _d _e _f _g _h _i _j _k _l _m _n _o _p _q _r _s _t _u _v _w _x _y _z _A _B _C _D _E _F _G _H _I _J _K _L _M _N _O _P _Q _R _S _T _U _V _W _X _Y _Z _0 _1 _2 _3 _4 _5 _6 _7 _8 _9 a'1 b'1 c'1 d'1 e'1 f'1 g'1 h'1 i'1 j'1 k'1 l'1 m'1 n'1 o'1 p'1 q'1 r'1 s'1 t'1 u'1 v'1 w'1 x'1 y'1 z'1 A'1 B'1 C'1 D'1 E'1 F'1 G'1 H'1 I'1 J'1 K'1 L'1 M'1 N'1 O'1 P'1 Q'1 R'1 S'1 T'1 U'1 V'1 W'1 X'1 Y'1 Z'1 a? b? c? d? e? f? g? h? i? j? k? l? m? n? o? p? q? r? s? t? u? v? w? x? y? z? A? B? C? D? E? F? G? H? I? J? K? L? M? N? O? P? Q? R? S? T? U? V? W? X? Y? Z? Z' Y' X' V' U' T' S':Value}
theorem NP (hk:kd=0∨kd=1∨kd=9) (hT:TI b w p v l) (hb:b≤w.heap.size) (hB:Below w.heap.size w w0) (hz:fW w0 gz r) (hl:(l 0).length≤1000) (h1:r.deep≤12) (h2:r.bare.length≤140) (h3:r.text.length≤140):
 Code.wp prog ((f38.body.map (im 9)).getD .skip) (JR (fun w'=> ∃v',TI b w' p v' (EP l 0 (l 0++[r]))∧Below b w w')) ⟨#[Pq p,b_,Iq kd,d_,e_,f_,g_,h_,i_,j_,k_,l_,m_,n_,o_,p_,q_,Pq gz,s_,t_,u_,v_,w_,x_,y_,z_,A_,B_,C_,D_,E_,F_,G_,H_,I_,J_,K_,L_,M_,N_,O_,P_,Q_,R_,S_,T_,U_,V_,W_,X_,Y_,Z_,_a,_b,_c,_d,_e,_f,_g,_h,_i,_j,_k,_l,_m,_n,_o,_p,_q,_r,_s,_t,_u,_v,_w,_x,_y,_z,_A,_B,_C,_D,_E,_F,_G,_H,_I,_J,_K,_L,_M,_N,_O,_P,_Q,_R,_S,_T,_U,_V,_W,_X,_Y,_Z,_0,_1,_2,_3,_4,_5,_6,_7,_8,_9,a'1,b'1,c'1,d'1,e'1,f'1,g'1,h'1,i'1,j'1,k'1,l'1,m'1,n'1,o'1,p'1,q'1,r'1,s'1,t'1,u'1,v'1,w'1,x'1,y'1,z'1,A'1,B'1,C'1,D'1,E'1,F'1,G'1,H'1,I'1,J'1,K'1,L'1,M'1,N'1,O'1,P'1,Q'1,R'1,S'1,T'1,U'1,V'1,W'1,X'1,Y'1,Z'1,a?,b?,c?,d?,e?,f?,g?,h?,i?,j?,k?,l?,m?,n?,o?,p?,q?,r?,s?,t?,u?,v?,w?,x?,y?,z?,A?,B?,C?,D?,E?,F?,G?,H?,I?,J?,K?,L?,M?,N?,O?,P?,Q?,R?,S?,T?,U?,V?,W?,X?,Y?,Z?,Z',Y',X',V',U',T',S'],[]⟩ w0:=by
 have hwb:b≤w0.heap.size:=by have:=hB.size;omega
 have n1: ¬(12:Int)<(r.deep:Int):=by omega
 have n2: ¬(140:Int)<(r.bare.length:Int):=by omega
 have n3: ¬(140:Int)<(r.text.length:Int):=by omega
 obtain⟨z0,z1,z2,z3⟩:=dk hz;rcases hk with rfl|rfl|rfl
 ·conv=>arg 2;whnf
  go_upto_region 30 with fail
  obtain⟨va,vc,hA⟩:=hT.ready hb hB.drew (j:=0) (by decide)
  have t0:Cq w0 p 0 (.slice va (l 0).length vc):=hA.cell;have pa:p<w0.heap.size:=Zx w0 _ t0
  obtain⟨x0,x1,x2,x3⟩:=dk hz;have HA:=Hi hA;obtain⟨i0,hi,hz3⟩:=ZP.1 iJ;simp only[ZT] at hz3;obtain⟨hz0,hz1,hz2⟩:=hz3
  go_region_law (first
   |(refine step_append_lies _ (by rfl) _ _ _ (by rfl) b 104 i0 _ 4 48 underlying98 hi hz0 hz1 hz2 (by rfl) (by decide) (.slice va (l 0).length vc) (l 0).length ((l 0).flatMap yq) (by rfl) (aac HA.out.row _) ⟨w0.heap.size,0,none⟩ 1 1 [S r.text,S r.bare,Iq r.told,Iq (r.deep:Nat)] (by rfl) (by rfl) (World.news_of_block (Zy w0.drew _)) (fun x hx=>by simp at hx;rcases hx with rfl|rfl|rfl|rfl<;>rfl) (by decide) (by unfold maxLen;omega) (by omega) (by simp;omega) (w0.heap.size+1) (by simp) ?_;intro gg cap' w5 hown3 hgrow hat hlt3;obtain⟨y0,yf0⟩:=HA.out.far _ _ hgrow;have HN:Hid _:=HA.out.put _ r _ _ _ hgrow (by rcases hat with h|h;exact .inl h;right;rw[h,ZB];rfl) hown3;clear hown3 hgrow hat))
  all_goals
   go_wp2;obtain⟨⟨v',h1⟩,h2⟩:=HN.out
   first|exact⟨rfl,v',h1,h2⟩|exact⟨rfl,⟨v',h1⟩,h2⟩
 ·conv=>arg 2;whnf
  go_upto_region 30 with fail
  obtain⟨va,vc,hA⟩:=hT.ready hb hB.drew (j:=0) (by decide)
  have t0:Cq w0 p 0 (.slice va (l 0).length vc):=hA.cell;have pa:p<w0.heap.size:=Zx w0 _ t0
  obtain⟨x0,x1,x2,x3⟩:=dk hz;have HA:=Hi hA;obtain⟨i0,hi,hz3⟩:=ZP.1 iJ;simp only[ZT] at hz3;obtain⟨hz0,hz1,hz2⟩:=hz3
  go_region_law (first
   |(refine step_append_lies _ (by rfl) _ _ _ (by rfl) b 104 i0 _ 4 48 underlying98 hi hz0 hz1 hz2 (by rfl) (by decide) (.slice va (l 0).length vc) (l 0).length ((l 0).flatMap yq) (by rfl) (aac HA.out.row _) ⟨w0.heap.size,0,none⟩ 1 1 [S r.text,S r.bare,Iq r.told,Iq (r.deep:Nat)] (by rfl) (by rfl) (World.news_of_block (Zy w0.drew _)) (fun x hx=>by simp at hx;rcases hx with rfl|rfl|rfl|rfl<;>rfl) (by decide) (by unfold maxLen;omega) (by omega) (by simp;omega) (w0.heap.size+1) (by simp) ?_;intro gg cap' w5 hown3 hgrow hat hlt3;obtain⟨y0,yf0⟩:=HA.out.far _ _ hgrow;have HN:Hid _:=HA.out.put _ r _ _ _ hgrow (by rcases hat with h|h;exact .inl h;right;rw[h,ZB];rfl) hown3;clear hown3 hgrow hat))
  all_goals
   go_wp2;obtain⟨⟨v',h1⟩,h2⟩:=HN.out
   first|exact⟨rfl,v',h1,h2⟩|exact⟨rfl,⟨v',h1⟩,h2⟩
 ·conv=>arg 2;whnf
  go_upto_region 30 with fail
  obtain⟨va,vc,hA⟩:=hT.ready hb hB.drew (j:=0) (by decide)
  have t0:Cq w0 p 0 (.slice va (l 0).length vc):=hA.cell;have pa:p<w0.heap.size:=Zx w0 _ t0
  obtain⟨x0,x1,x2,x3⟩:=dk hz;have HA:=Hi hA;obtain⟨i0,hi,hz3⟩:=ZP.1 iJ;simp only[ZT] at hz3;obtain⟨hz0,hz1,hz2⟩:=hz3
  go_region_law (first
   |(refine step_append_lies _ (by rfl) _ _ _ (by rfl) b 104 i0 _ 4 48 underlying98 hi hz0 hz1 hz2 (by rfl) (by decide) (.slice va (l 0).length vc) (l 0).length ((l 0).flatMap yq) (by rfl) (aac HA.out.row _) ⟨w0.heap.size,0,none⟩ 1 1 [S r.text,S r.bare,Iq r.told,Iq (r.deep:Nat)] (by rfl) (by rfl) (World.news_of_block (Zy w0.drew _)) (fun x hx=>by simp at hx;rcases hx with rfl|rfl|rfl|rfl<;>rfl) (by decide) (by unfold maxLen;omega) (by omega) (by simp;omega) (w0.heap.size+1) (by simp) ?_;intro gg cap' w5 hown3 hgrow hat hlt3;obtain⟨y0,yf0⟩:=HA.out.far _ _ hgrow;have HN:Hid _:=HA.out.put _ r _ _ _ hgrow (by rcases hat with h|h;exact .inl h;right;rw[h,ZB];rfl) hown3;clear hown3 hgrow hat))
  all_goals
   go_wp2;obtain⟨⟨v',h1⟩,h2⟩:=HN.out
   first|exact⟨rfl,v',h1,h2⟩|exact⟨rfl,⟨v',h1⟩,h2⟩
theorem NQ (hk:2≤kd∧kd≤8) (hT:TI b w p v l) (hb:b≤w.heap.size) (hB:Below w.heap.size w w0) (hz:fW w0 gz r) (hl:(l 2).length≤1000) (h1:r.deep≤12) (h2:r.bare.length≤140) (h3:r.text.length≤140):
 Code.wp prog ((f38.body.map (im 9)).getD .skip) (JR (fun w'=> ∃v',TI b w' p v' (EP l 2 (l 2++[r]))∧Below b w w')) ⟨#[Pq p,b_,Iq kd,d_,e_,f_,g_,h_,i_,j_,k_,l_,m_,n_,o_,p_,q_,Pq gz,s_,t_,u_,v_,w_,x_,y_,z_,A_,B_,C_,D_,E_,F_,G_,H_,I_,J_,K_,L_,M_,N_,O_,P_,Q_,R_,S_,T_,U_,V_,W_,X_,Y_,Z_,_a,_b,_c,_d,_e,_f,_g,_h,_i,_j,_k,_l,_m,_n,_o,_p,_q,_r,_s,_t,_u,_v,_w,_x,_y,_z,_A,_B,_C,_D,_E,_F,_G,_H,_I,_J,_K,_L,_M,_N,_O,_P,_Q,_R,_S,_T,_U,_V,_W,_X,_Y,_Z,_0,_1,_2,_3,_4,_5,_6,_7,_8,_9,a'1,b'1,c'1,d'1,e'1,f'1,g'1,h'1,i'1,j'1,k'1,l'1,m'1,n'1,o'1,p'1,q'1,r'1,s'1,t'1,u'1,v'1,w'1,x'1,y'1,z'1,A'1,B'1,C'1,D'1,E'1,F'1,G'1,H'1,I'1,J'1,K'1,L'1,M'1,N'1,O'1,P'1,Q'1,R'1,S'1,T'1,U'1,V'1,W'1,X'1,Y'1,Z'1,a?,b?,c?,d?,e?,f?,g?,h?,i?,j?,k?,l?,m?,n?,o?,p?,q?,r?,s?,t?,u?,v?,w?,x?,y?,z?,A?,B?,C?,D?,E?,F?,G?,H?,I?,J?,K?,L?,M?,N?,O?,P?,Q?,R?,S?,T?,U?,V?,W?,X?,Y?,Z?,Z',Y',X',V',U',T',S'],[]⟩ w0:=by
 have hwb:b≤w0.heap.size:=by have:=hB.size;omega
 have n1: ¬(12:Int)<(r.deep:Int):=by omega
 have n2: ¬(140:Int)<(r.bare.length:Int):=by omega
 have n3: ¬(140:Int)<(r.text.length:Int):=by omega
 obtain⟨z0,z1,z2,z3⟩:=dk hz;have k0:((kd:Int)==0)=false:=by simp;omega
 have k1:((kd:Int)==1)=false:=by simp;omega
 have k8: ¬(8:Int)<(kd:Int):=by omega
 conv=>arg 2;whnf
 go_upto_region 31 with fail
 obtain⟨va,vc,hA⟩:=hT.ready hb hB.drew (j:=2) (by decide)
 have t0:Cq w0 p 2 (.slice va (l 2).length vc):=hA.cell;have pa:p<w0.heap.size:=Zx w0 _ t0
 obtain⟨x0,x1,x2,x3⟩:=dk hz;have HA:=Hi hA;obtain⟨i0,hi,hz3⟩:=ZP.1 iJ;simp only[ZT] at hz3;obtain⟨hz0,hz1,hz2⟩:=hz3
 go_region_law (first
  |(refine step_append_lies _ (by rfl) _ _ _ (by rfl) b 104 i0 _ 4 48 underlying98 hi hz0 hz1 hz2 (by rfl) (by decide) (.slice va (l 2).length vc) (l 2).length ((l 2).flatMap yq) (by rfl) (aac HA.out.row _) ⟨w0.heap.size,0,none⟩ 1 1 [S r.text,S r.bare,Iq r.told,Iq (r.deep:Nat)] (by rfl) (by rfl) (World.news_of_block (Zy w0.drew _)) (fun x hx=>by simp at hx;rcases hx with rfl|rfl|rfl|rfl<;>rfl) (by decide) (by unfold maxLen;omega) (by omega) (by simp;omega) (w0.heap.size+1) (by simp) ?_;intro gg cap' w5 hown3 hgrow hat hlt3;obtain⟨y0,yf0⟩:=HA.out.far _ _ hgrow;have HN:Hid _:=HA.out.put _ r _ _ _ hgrow (by rcases hat with h|h;exact .inl h;right;rw[h,ZB];rfl) hown3;clear hown3 hgrow hat))
 all_goals
  go_wp2;obtain⟨⟨v',h1⟩,h2⟩:=HN.out
  first|exact⟨rfl,v',h1,h2⟩|exact⟨rfl,⟨v',h1⟩,h2⟩
variable {z w w0:World} {j p n r E:Nat}
variable {a_ b_ c_ d_ e_ f_ g_ h_ i_ j_ k_ l_ m_ n_ o_ p_ q_ r_ s_ t_ u_ v_ w_ x_ y_ z_ A_ B_ C_ D_ E_ F_ G_ H_ I_ J_ K_ L_ M_ N_ O_ P_ Q_ R_ S_ T_ U_ V_ W_ X_ Y_ Z_ _a _b _c _d _e _f _g _h _i _j _k _l _m _n _o _p _q _r _s _t _u _v _w _x _y _z _A _B _C _D _E _F _G _H _I _J _K _L _M _N _O _P _Q _R _S _T _U _V _W _X _Y _Z _0 _1 _2 _3 _4 _5 _6 _7 _8 _9 a'1 b'1 c'1 d'1 e'1 f'1 g'1 h'1 i'1 j'1 k'1 l'1 m'1 n'1 o'1 p'1 q'1 r'1 s'1 t'1 u'1 v'1 w'1 x'1 y'1 z'1:Value}
theorem O8 (hn:n≤100):
 Code.wp prog (ml (im 1 ((f16.body.bind (ju 3)).getD .skip))) (JN (fun a' w'=> ∃(ch ci:Value),a'=⟨#[a_,b_,c_,d_,e_,f_,g_,h_,i_,Iq ((n:Int)+1),k_,l_,m_,n_,o_,p_,q_,r_,s_,t_,u_,v_,w_,x_,y_,z_,A_,B_,C_,D_,E_,F_,G_,H_,I_,J_,K_,L_,M_,N_,O_,P_,Q_,R_,S_,T_,U_,V_,W_,X_,Y_,Z_,_a,_b,_c,_d,_e,_f,_g,_h,_i,_j,_k,_l,_m,_n,_o,_p,_q,_r,_s,_t,_u,ch,ci,_x,_y,_z,_A,_B,_C,_D,_E,_F,_G,_H,_I,_J,_K,_L,_M,_N,_O,_P,_Q,_R,_S,_T,_U,_V,_W,_X,_Y,_Z,_0,_1,_2,_3,_4,_5,_6,_7,_8,_9,a'1,b'1,c'1,d'1,e'1,f'1,g'1,h'1,i'1,j'1,k'1,l'1,m'1,n'1,o'1,p'1,q'1,r'1,s'1,t'1,u'1,v'1,w'1,x'1,y'1,z'1],[]⟩∧w'=w0)) ⟨#[a_,b_,c_,d_,e_,f_,g_,h_,i_,Iq (n:Nat),k_,l_,m_,n_,o_,p_,q_,r_,s_,t_,u_,v_,w_,x_,y_,z_,A_,B_,C_,D_,E_,F_,G_,H_,I_,J_,K_,L_,M_,N_,O_,P_,Q_,R_,S_,T_,U_,V_,W_,X_,Y_,Z_,_a,_b,_c,_d,_e,_f,_g,_h,_i,_j,_k,_l,_m,_n,_o,_p,_q,_r,_s,_t,_u,_v,_w,_x,_y,_z,_A,_B,_C,_D,_E,_F,_G,_H,_I,_J,_K,_L,_M,_N,_O,_P,_Q,_R,_S,_T,_U,_V,_W,_X,_Y,_Z,_0,_1,_2,_3,_4,_5,_6,_7,_8,_9,a'1,b'1,c'1,d'1,e'1,f'1,g'1,h'1,i'1,j'1,k'1,l'1,m'1,n'1,o'1,p'1,q'1,r'1,s'1,t'1,u'1,v'1,w'1,x'1,y'1,z'1],[]⟩ w0:=by
 conv=>arg 2;whnf
 go_wp2
 first|exact⟨_,_,rfl,rfl⟩|exact⟨⟨_,_,rfl⟩,rfl⟩
theorem O9 :
 Code.wp prog (ml (im 2 ((f16.body.bind (ju 3)).getD .skip))) (JN (fun a' w'=>a'=⟨#[a_,b_,c_,d_,e_,f_,g_,h_,i_,j_,k_,l_,S pP,n_,o_,p_,q_,r_,s_,t_,u_,v_,w_,x_,y_,z_,A_,B_,C_,D_,E_,F_,G_,H_,I_,J_,K_,L_,M_,N_,O_,P_,Q_,R_,S_,T_,U_,V_,W_,X_,Y_,Z_,_a,_b,_c,_d,_e,_f,_g,_h,_i,_j,_k,_l,_m,_n,_o,_p,_q,_r,_s,_t,_u,_v,_w,_x,_y,_z,_A,_B,_C,_D,_E,_F,_G,_H,_I,_J,_K,_L,_M,_N,_O,_P,_Q,_R,_S,_T,_U,_V,_W,_X,_Y,_Z,_0,_1,_2,_3,_4,_5,_6,_7,_8,_9,a'1,b'1,c'1,d'1,e'1,f'1,g'1,h'1,i'1,j'1,k'1,l'1,m'1,n'1,o'1,p'1,q'1,r'1,s'1,t'1,u'1,v'1,w'1,x'1,y'1,z'1],[]⟩∧w'=w0)) ⟨#[a_,b_,c_,d_,e_,f_,g_,h_,i_,j_,k_,l_,m_,n_,o_,p_,q_,r_,s_,t_,u_,v_,w_,x_,y_,z_,A_,B_,C_,D_,E_,F_,G_,H_,I_,J_,K_,L_,M_,N_,O_,P_,Q_,R_,S_,T_,U_,V_,W_,X_,Y_,Z_,_a,_b,_c,_d,_e,_f,_g,_h,_i,_j,_k,_l,_m,_n,_o,_p,_q,_r,_s,_t,_u,_v,_w,_x,_y,_z,_A,_B,_C,_D,_E,_F,_G,_H,_I,_J,_K,_L,_M,_N,_O,_P,_Q,_R,_S,_T,_U,_V,_W,_X,_Y,_Z,_0,_1,_2,_3,_4,_5,_6,_7,_8,_9,a'1,b'1,c'1,d'1,e'1,f'1,g'1,h'1,i'1,j'1,k'1,l'1,m'1,n'1,o'1,p'1,q'1,r'1,s'1,t'1,u'1,v'1,w'1,x'1,y'1,z'1],[]⟩ w0:=by
 conv=>arg 2;whnf
 go_wp2;exact⟨rfl,rfl⟩
end Go.Proofs.YtfkdailfcmnjlaaGreatDoor
namespace Go.Proofs.YtfkdailfcmnjlaaGreatDoor
open Go Go.RowKit Tryz
attribute [local go_sem ↓] Go.wp_at_zero Go.wp_at_succ mI
variable {b p cb lp Ru:Nat} {w W z:World} {l:List UInt8} {c:jV} {D E:Value} {A:Bool}
variable {a_ b_ c_ d_ e_ g_ h_ i_ j_ k_ l_ m_ n_ o_ p_ q_ r_ s_ t_ u_ v_ w_ x_ y_ z_ A_ B_ C_ D_ E_ F_ G_ H_ I_ J_ K_ L_ M_ N_ O_ P_ Q_ R_ S_ T_ U_ V_ W_ X_ Y_ Z_ _a _b _c _d _e _f _g _h _i _j _k _l _m _n _o _p _q _r _s _t _u _v _w _x _y _z _A _B _C _D _E _F _G _H _I _J _K _L _M _N _O _P _Q _R _S _T _U _V _W _X _Y _Z _0 _1 _2 _3 _4 _5 _6 _7 _8 _9 a'1 b'1:Value}
theorem OG (hc:jC c) {St:Nat} (ah:z.heap[cb]?=some (.cells (je c) 37 (0,0)))
 (HM:∀W lv mv,Below z.heap.size z W→eW lv (jJ c).levels W→eW mv (jJ c).members W→Calls prog 53 #[Pq lp,DX (oB c),tf lv mv (jJ c)] W fun en w'=>en= .returned (.agg #[.bool A,Iq (Ru:Nat),Iq (St:Nat)])∧Below W.heap.size W w'):
 Code.wp prog ((f28.body.bind (oD 10)).getD .skip) (JN (fun a' w'=> ∃(vb:Nat) (b3 b4 b5 b6 b7 b8:Value),a'=⟨#[a_,b_,c_,d_,e_,Pq cb,g_,h_,i_,j_,k_,l_,Pq lp,n_,Pq vb,p_,q_,r_,s_,t_,u_,v_,w_,x_,y_,z_,A_,B_,C_,D_,E_,F_,G_,H_,I_,J_,K_,L_,M_,N_,O_,P_,Q_,R_,S_,T_,U_,V_,W_,X_,Y_,Z_,_a,_b,_c,_d,_e,_f,_g,_h,b3,b4,b5,b6,b7,b8,_o,_p,_q,_r,_s,_t,_u,_v,_w,_x,_y,_z,_A,_B,_C,_D,_E,_F,_G,_H,_I,_J,_K,_L,_M,_N,_O,_P,_Q,_R,_S,_T,_U,_V,_W,_X,_Y,_Z,_0,_1,_2,_3,_4,_5,_6,_7,_8,_9,a'1,b'1],[]⟩∧(w'.heap[vb]?=some (.cells #[.bool A,Iq (Ru:Nat),Iq (St:Nat)] 40 (0,0))∧Below z.heap.size z w'))) ⟨#[a_,b_,c_,d_,e_,Pq cb,g_,h_,i_,j_,k_,l_,Pq lp,n_,o_,p_,q_,r_,s_,t_,u_,v_,w_,x_,y_,z_,A_,B_,C_,D_,E_,F_,G_,H_,I_,J_,K_,L_,M_,N_,O_,P_,Q_,R_,S_,T_,U_,V_,W_,X_,Y_,Z_,_a,_b,_c,_d,_e,_f,_g,_h,_i,_j,_k,_l,_m,_n,_o,_p,_q,_r,_s,_t,_u,_v,_w,_x,_y,_z,_A,_B,_C,_D,_E,_F,_G,_H,_I,_J,_K,_L,_M,_N,_O,_P,_Q,_R,_S,_T,_U,_V,_W,_X,_Y,_Z,_0,_1,_2,_3,_4,_5,_6,_7,_8,_9,a'1,b'1],[]⟩ z:=by
 have bS:=be ah;have HO:∀W,Below z.heap.size z W→(nt (Pq cb)).run prog W= .ok (.agg (je c)) W:=fun W h=>jt W _ _ ((h.block _ bS).trans ah) rfl
 have E1:=fun W=>uK hc W
 have E2:=fun W=>uL hc W
 have HJ:=Hi HM;have b9:Below z.heap.size z z:=ZA _ _;have KB:Hid (∀W W':World,Below z.heap.size z W→Below W.heap.size W W'→Below z.heap.size z W'):=fun W W' h h'=>h.trans (h'.mono h.size)
 have KD:Hid (∀W:World,Below z.heap.size z W→Below z.heap.size z W.drew):=fun W h=>h.drew
 have KA:Hid (∀(W:World) (o:Obj),Below z.heap.size z W→Below z.heap.size z (W.alloc o)):=fun W o h=>h.alloc h.size _
 have KS:Hid (∀(W:World) (a:Addr) (u:Value),z.heap.size≤a.block→Below z.heap.size z W→Below z.heap.size z (W.setCell a u)):=fun W a u h h'=>h'.setCell h _
 conv=>arg 2;whnf
 go_region_held3 (fun W=>Below z.heap.size z W) (first|assumption|exact KB.out _ _ (by assumption) ai|exact KB.out _ _ (by assumption) E|exact KB.out _ _ (by assumption) D|(repeat' first|exact b9|with_reducible assumption|with_reducible apply KD.out|with_reducible apply KA.out|(with_reducible refine KS.out _ _ _ (by simp only[];omega) ?_)))
  (first
   |(go_at_call 21;refine(E1 _).mono ?_;rintro e w3 ⟨rfl,ai⟩;have z3:z.heap.size≤w3.heap.size:=Z8 (by first|exact Zw _|(show z.heap.size≤(World.alloc z _).heap.size;rw[ZB];exact abv _)) ai.size;(first|(have bT:=(ai.block z.heap.size (by show z.heap.size<(World.alloc z _).heap.size;rw[ZB];exact aaM _)).trans (Zy z _))|skip))
   |(go_at_call 22;refine(E2 _).mono ?_;rintro e w4 ⟨lv,mv,rfl,bU,bV,E⟩;have z4:w3.heap.size≤w4.heap.size:=Z8 (by first|exact Zw _|(rw[ZB];exact abv _)) E.size;(first|(have aj:=(E.block _ (be bT)).trans bT)|(have aj:=(E.block w3.heap.size (by rw[ZB];exact aaM _)).trans (Zy w3 _))|skip))
   |(go_at_call 53;refine(HJ.out _ lv mv (by assumption) ?_ ?_).mono ?_;(first|exact bU|exact bU.below ((ZA _ _).alloc (Zw _) _));(first|exact bV|exact bV.below ((ZA _ _).alloc (Zw _) _));rintro e w5 ⟨rfl,D⟩;have S5:=KB.out _ _ (by assumption) D;have z5:w4.heap.size≤w5.heap.size:=Z8 (by first|exact Zw _|(rw[ZB];exact abv _)) D.size;(first|(have ak:=(D.block _ (be aj)).trans aj)|(have ak:=(D.block w4.heap.size (by rw[ZB];exact aaM _)).trans (Zy w4 _))|skip);(first|(have ca:=mJ ak;obtain⟨k0,k1,k2,j0,j1,j2⟩:=ca)|skip)))
 all_goals
  rename_i hHeld
  first
   |exact⟨_,_,_,_,_,_,_,rfl,AA ak,hHeld⟩
   |exact⟨_,_,_,_,_,_,_,rfl,Zy w5 _,hHeld⟩
end Go.Proofs.YtfkdailfcmnjlaaGreatDoor
