/-
  A part.
-/
import Derived.Test.YtfkdailfcmnjlaaGreatDoorMeant22e
set_option linter.unusedVariables false
set_option linter.unusedSimpArgs false
set_option maxHeartbeats 40000000
set_option maxRecDepth 1000000
namespace Go.Proofs.YtfkdailfcmnjlaaGreatDoor
open Go Go.RowKit Tryz
attribute [local go_sem ↓] Go.wp_at_zero Go.wp_at_succ
variable {z G:World} {g p i L n r E:Nat} {m:Mk} {fl:List Int} {q:List (Mk×Bool)}
variable {a_ b_ c_ d_ e_ g_ h_ l_ m_ n_ o_ p_ q_ r_ s_ t_ u_ v_ w_ x_ y_ z_ A_ B_ C_ D_ E_ F_ G_ H_ I_ J_ K_ L_ M_ N_ O_ P_ Q_ R_ S_ T_ U_ V_ W_ X_ Y_ Z_ _a _b _c _d _e _f _g _h _i _j _k _l _m _n _o _p _q _r _s _t _u _v _w _x _y _z _A _B _C _D _E _F _G _H _I _J _K _L _M _N _O _P _Q _R _S _T _U _V _W _X _Y _Z _0 _1 _2 _3 _4 _5 _6 _7 _8 _9 a'1 b'1 c'1 d'1 e'1 f'1 g'1 h'1 i'1 j'1 k'1 l'1 m'1 n'1 o'1 p'1 q'1 r'1 s'1 t'1 u'1 v'1 w'1 x'1 y'1 z'1:Value}
theorem NV {lt:List Mk} (Y:lt.length=L) (hL:L≤1000) (hT:∀W,Below E G W→EU W p lt) (hg:∀m∈lt,gW fl 116 m) (Z:mA G E [] [] false 0):
 Code.wp prog ((f16.body.bind (fun c=>tO (im 3 c))).getD .skip) (JN (fun a' w'=> ∃(u9 u10 u11 u12 u58 u59 u60 u61 u62 u63 u64 u65 u66 u67 u68 u69 u70 u71 u72 u73 u74 u75 u76 u77 u78 u79 u80 u81 u82 u83 u84 u85 u86 u87 u88 u89 u90 u91 u92 u93 u94 u95 u96 u97 u98 u99 u100 u101 u102 u103 u104 u105 u106 u107 u108 u109 u110 u111 u112 u113 u114 u115 u116 u117 u118 u119 u120 u121 u122 u123 u124 u125 u126 u127 u128 u129 u130 u131 u132 u133 u134 u135 u136 u137 u138:Value),a'=⟨#[a_,b_,c_,d_,e_,.pointer (some ⟨p,0,none⟩),g_,h_,.pointer (some ⟨E,0,none⟩),u9,u10,u11,u12,n_,o_,p_,q_,r_,s_,t_,u_,v_,w_,x_,y_,z_,A_,B_,C_,D_,E_,F_,G_,H_,I_,J_,K_,L_,M_,N_,O_,P_,Q_,R_,S_,T_,U_,V_,W_,X_,Y_,Z_,_a,_b,_c,_d,_e,_f,u58,u59,u60,u61,u62,u63,u64,u65,u66,u67,u68,u69,u70,u71,u72,u73,u74,u75,u76,u77,u78,u79,u80,u81,u82,u83,u84,u85,u86,u87,u88,u89,u90,u91,u92,u93,u94,u95,u96,u97,u98,u99,u100,u101,u102,u103,u104,u105,u106,u107,u108,u109,u110,u111,u112,u113,u114,u115,u116,u117,u118,u119,u120,u121,u122,u123,u124,u125,u126,u127,u128,u129,u130,u131,u132,u133,u134,u135,u136,u137,u138,z'1],[]⟩∧ ∃q,q.length≤3∧Az fl E G w' q)) ⟨#[a_,b_,c_,d_,e_,.pointer (some ⟨p,0,none⟩),g_,h_,.pointer (some ⟨E,0,none⟩),.int .i64 0,.int .i64 ((L:Int) - 1),l_,m_,n_,o_,p_,q_,r_,s_,t_,u_,v_,w_,x_,y_,z_,A_,B_,C_,D_,E_,F_,G_,H_,I_,J_,K_,L_,M_,N_,O_,P_,Q_,R_,S_,T_,U_,V_,W_,X_,Y_,Z_,_a,_b,_c,_d,_e,_f,_g,_h,_i,_j,_k,_l,_m,_n,_o,_p,_q,_r,_s,_t,_u,_v,_w,_x,_y,_z,_A,_B,_C,_D,_E,_F,_G,_H,_I,_J,_K,_L,_M,_N,_O,_P,_Q,_R,_S,_T,_U,_V,_W,_X,_Y,_Z,_0,_1,_2,_3,_4,_5,_6,_7,_8,_9,a'1,b'1,c'1,d'1,e'1,f'1,g'1,h'1,i'1,j'1,k'1,l'1,m'1,n'1,o'1,p'1,q'1,r'1,s'1,t'1,u'1,v'1,w'1,x'1,y'1,z'1],[]⟩ G:=by
 have HT:Hid (∀W,Below E G W→EU W p lt):=hT;have HG:Hid (∀i,i<L→gW fl 116 (lt.getD i kt)):=fun i hi=>by
  rw[Zs,Zv (by omega)]
  exact hg _ (ZV _)
 have H0:Hid (Az fl E G G []):=⟨fun r hr=>by simp at hr,Z,ZA _ _⟩
 have aa:Hid (lt.length=L):=Y
 conv=>arg 2;whnf
 go_wp2
 go_loopw [9,10] (fun nv iv wr=> ∃q:List (Mk×Bool),q.length≤3∧q.length≤L∧nv= .int .i64 ((q.length:Nat):Int)∧iv= .int .i64 ((L:Int) - 1 - ((q.length:Nat):Int))∧Hid (Az fl E G wr q)) (fun nv _ _=>4 - (intOf nv).toNat)
 case atStart=>exact⟨[],by simp,by simp,rfl,by simp,H0.out⟩
 case round=>
  obtain⟨q,ab,ah,rfl,rfl,I⟩:=hrel;generalize ac:q.length=n at*;have D:Hid (q.length=n):=ac
  by_cases h1:n<L
  ·by_cases h2:n<3
   ·obtain⟨i,hi⟩:∃i:Nat,L - 1 - n=i:=⟨_,rfl⟩
    have J:(L:Int) - 1 - (n:Int)=(i:Int):=by omega
    have O:i<L:=by omega
    rw[J];have ag:Hid ((L:Int) - 1 - (n:Int)=(i:Int)):=J;have i0:(0:Int)≤(i:Int):=by omega
    have n3:(n:Int)<3:=by omega
    obtain⟨R,ad,U⟩:=I.out;obtain⟨g,cap,t0,t1,t2,t3,t4⟩:=HT.out wr U i (by rw[aa.out];exact O)
    rw[aa.out] at t0;have V:=HG.out i O
    go_upto_block 3 with fail
    refine wp_block (iG (Io t0 O hL t1 t2 t3 t4 ad D.out h2 R V) ?_);intro a1 w1 z;obtain⟨u11,z⟩:=z;obtain⟨u12,z⟩:=z;obtain⟨u66,z⟩:=z;obtain⟨u67,z⟩:=z;obtain⟨u68,z⟩:=z;obtain⟨u69,z⟩:=z;obtain⟨u70,z⟩:=z;obtain⟨u71,z⟩:=z;obtain⟨u72,z⟩:=z;obtain⟨u73,z⟩:=z;obtain⟨u74,z⟩:=z;obtain⟨u75,z⟩:=z;obtain⟨u76,z⟩:=z;obtain⟨u77,z⟩:=z;obtain⟨u78,z⟩:=z;obtain⟨u79,z⟩:=z;obtain⟨u80,z⟩:=z;obtain⟨u81,z⟩:=z;obtain⟨u82,z⟩:=z;obtain⟨u83,z⟩:=z;obtain⟨u84,z⟩:=z;obtain⟨u85,z⟩:=z;obtain⟨u86,z⟩:=z;obtain⟨u87,z⟩:=z;obtain⟨u88,z⟩:=z;obtain⟨u89,z⟩:=z;obtain⟨u90,z⟩:=z;obtain⟨u91,z⟩:=z;obtain⟨u92,z⟩:=z;obtain⟨u93,z⟩:=z;obtain⟨u94,z⟩:=z;obtain⟨u95,z⟩:=z;obtain⟨u96,z⟩:=z;obtain⟨u97,z⟩:=z;obtain⟨u98,z⟩:=z;obtain⟨u99,z⟩:=z;obtain⟨u100,z⟩:=z;obtain⟨u101,z⟩:=z;obtain⟨u102,z⟩:=z;obtain⟨u103,z⟩:=z;obtain⟨u104,z⟩:=z;obtain⟨u105,z⟩:=z;obtain⟨u106,z⟩:=z;obtain⟨u107,z⟩:=z;obtain⟨u108,z⟩:=z;obtain⟨u109,z⟩:=z;obtain⟨u110,z⟩:=z;obtain⟨u111,z⟩:=z;obtain⟨u112,z⟩:=z;obtain⟨u113,z⟩:=z;obtain⟨u114,z⟩:=z;obtain⟨u115,z⟩:=z;obtain⟨u116,z⟩:=z;obtain⟨u117,z⟩:=z;obtain⟨u118,z⟩:=z;obtain⟨u119,z⟩:=z;obtain⟨u120,z⟩:=z;obtain⟨u121,z⟩:=z;obtain⟨u122,z⟩:=z;obtain⟨u123,z⟩:=z;obtain⟨u124,z⟩:=z;obtain⟨u125,z⟩:=z;obtain⟨u126,z⟩:=z;obtain⟨u127,z⟩:=z;obtain⟨u128,z⟩:=z;obtain⟨u129,z⟩:=z;obtain⟨u130,z⟩:=z;obtain⟨u131,z⟩:=z;obtain⟨u132,z⟩:=z;obtain⟨u133,z⟩:=z;obtain⟨u134,z⟩:=z;obtain⟨u135,z⟩:=z;obtain⟨u136,z⟩:=z;obtain⟨u137,z⟩:=z;obtain⟨u138,z⟩:=z;obtain⟨rfl,ae,af⟩:=z;simp only[Exit.inBlock,Exit.then]
    have HN:Hid (Az fl E G w1 (q++[(lt.getD i kt,((lt.getD i kt).text.length+i) %2==0)])):=⟨R.snoc V,ae,U.trans af⟩;unfold Pq Iq;go_wp2
    go_roundw
    case rel=>exact⟨_,by simp;have:=D.out;omega,by simp;have:=D.out;omega,by rw[ZC,D.out];rfl,by rw[ZC,D.out,←ag.out];simp;omega,HN.out⟩
    case measure=>simp[intOf];omega
   ·obtain rfl:n=3:=by omega
    go_wp2
    first|exact⟨_,_,_,_,_,_,_,_,_,_,_,_,_,_,_,_,_,_,_,_,_,_,_,_,_,_,_,_,_,_,_,_,_,_,_,_,_,_,_,_,_,_,_,_,_,_,_,_,_,_,_,_,_,_,_,_,_,_,_,_,_,_,_,_,_,_,_,_,_,_,_,_,_,_,_,_,_,_,_,_,_,_,_,_,_,rfl,q,by rw[D.out];decide,I.out⟩|exact⟨⟨_,_,_,_,_,_,_,_,_,_,_,_,_,_,_,_,_,_,_,_,_,_,_,_,_,_,_,_,_,_,_,_,_,_,_,_,_,_,_,_,_,_,_,_,_,_,_,_,_,_,_,_,_,_,_,_,_,_,_,_,_,_,_,_,_,_,_,_,_,_,_,_,_,_,_,_,_,_,_,_,_,_,_,_,_,rfl⟩,q,by rw[D.out];decide,I.out⟩
  ·obtain rfl:n=L:=by omega
   have i0: ¬(0:Int)≤(n:Int) - 1 - (n:Int):=by omega
   go_wp2
   first|exact⟨_,_,_,_,_,_,_,_,_,_,_,_,_,_,_,_,_,_,_,_,_,_,_,_,_,_,_,_,_,_,_,_,_,_,_,_,_,_,_,_,_,_,_,_,_,_,_,_,_,_,_,_,_,_,_,_,_,_,_,_,_,_,_,_,_,_,_,_,_,_,_,_,_,_,_,_,_,_,_,_,_,_,_,_,_,rfl,q,by rw[D.out];exact ab,I.out⟩|exact⟨⟨_,_,_,_,_,_,_,_,_,_,_,_,_,_,_,_,_,_,_,_,_,_,_,_,_,_,_,_,_,_,_,_,_,_,_,_,_,_,_,_,_,_,_,_,_,_,_,_,_,_,_,_,_,_,_,_,_,_,_,_,_,_,_,_,_,_,_,_,_,_,_,_,_,_,_,_,_,_,_,_,_,_,_,_,_,rfl⟩,q,by rw[D.out];exact ab,I.out⟩
end Go.Proofs.YtfkdailfcmnjlaaGreatDoor
