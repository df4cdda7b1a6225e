import Derived.Test.YtpennccflalobaaGreatDoorKlVLinesVCut
namespace Go.Proofs.YtpennccflalobaaGreatDoor.Kl
open Go Go.RowKit
set_option maxRecDepth 100000
set_option maxHeartbeats 8000000
theorem wp_to {P:Program} {c:Code} {Q:Exit→Act→World→Prop} {a:Act} {w:World} (f:Act→Act) (h:Code.wp P c (fun e a2 w2=>e=Exit.normal∧a2=f a∧w2=w) a w) (k:Q .normal (f a) w):Code.wp P c Q a w:=
 Code.wp_mono (fun _ _ _ ⟨h1,h2,h3⟩=>by subst h1;rw [h2,h3];exact k) h
theorem and_beq_false {s t u v:List UInt8} (h:¬ (s=t∧u=v)):(s == t && u == v)=false:=by
 rw [Bool.and_eq_false_imp]
 exact fun e=>beq_eq_false_iff_ne.2 (fun g=>h ⟨beq_iff_eq.1 e,g⟩)
theorem sq_sgn (z:Int) (h:z≠0):z.sign*z.sign=1:=by
 rcases Int.lt_trichotomy z 0 with h1 | h1 | h1
 · rw [Int.sign_eq_neg_one_of_neg h1];decide
 · exact absurd h1 h
 · rw [Int.sign_eq_one_of_pos h1];decide
theorem in_share (u v:Rat) (m:Int) (_hk:u - v≠0) (hs:u.num.sign*v.num.sign=m) (_hm:m≤0):(u / (u - v) - 0).num.sign*(u / (u - v) - 1).num.sign≤0:=by
 have e1:(u / (u - v) - 0)*(u / (u - v) - 1)=(u*v)*((u - v)⁻¹*(u - v)⁻¹):=by grind
 rw [← sign_times,e1,sign_times,sign_times,sign_times,hs]
 have hd:(u - v)⁻¹.num≠0:=mt Rat.num_eq_zero.1 (by grind)
 rw [sq_sgn _ hd]
 omega
theorem linesE_ee  (i0 g0 i1 g1 i2 g2 i3 g3 i4 g4 i5 g5 i6 g6 i7 g7 i8 g8 i9 g9 i10 g10 i11 g11:Int) (p0 p1 p2 p3 p4 p5 p6 p7 p8 p9 p10 p11:Rat) (k0:SmallIs i0 g0 p0) (k1:SmallIs i1 g1 p1) (k2:SmallIs i2 g2 p2) (k3:SmallIs i3 g3 p3) (k4:SmallIs i4 g4 p4) (k5:SmallIs i5 g5 p5) (k6:SmallIs i6 g6 p6) (k7:SmallIs i7 g7 p7) (k8:SmallIs i8 g8 p8) (k9:SmallIs i9 g9 p9) (k10:SmallIs i10 g10 p10) (k11:SmallIs i11 g11 p11) (q0:p0=p3) (q1:p1=p4) (q2:p6=p9) (q3:p7=p10) (w:World) (R:EnvV w) :
   Calls Tryz.prog 8 #[.agg #[.int .i16 i0,.int .u8 g0,.int .i16 i1,.int .u8 g1,.int .i16 i2,.int .u8 g2,.int .i16 i3,.int .u8 g3,.int .i16 i4,.int .u8 g4,.int .i16 i5,.int .u8 g5],.agg #[.int .i16 i6,.int .u8 g6,.int .i16 i7,.int .u8 g7,.int .i16 i8,.int .u8 g8,.int .i16 i9,.int .u8 g9,.int .i16 i10,.int .u8 g10,.int .i16 i11,.int .u8 g11]] w (Ret w (.bool true)):=by
 have c1:=known5_any
 have c2:=makeP i0 g0 i1 g1 i2 g2 p0 p1 p2 k0 k1 k2
 have c3:=makeP i3 g3 i4 g4 i5 g5 p3 p4 p5 k3 k4 k5
 have c4:=makeP i6 g6 i7 g7 i8 g8 p6 p7 p8 k6 k7 k8
 have c5:=makeP i9 g9 i10 g10 i11 g11 p9 p10 p11 k9 k10 k11
 have c6:=through_2 p0 p1 p3 p4 q0 q1 k0.rn.r2 k1.rn.r2 k3.rn.r2 k4.rn.r2
 have c7:=through_2 p6 p7 p9 p10 q2 q3 k6.rn.r2 k7.rn.r2 k9.rn.r2 k10.rn.r2
 have eq0:((ratB p0).toList == (ratB p3).toList)=true:=by rw [q0];exact beq_self_eq_true _
 have pq0:(ratB p0).toList=(ratB p3).toList:=by rw [q0]
 have eq1:((ratB p1).toList == (ratB p4).toList)=true:=by rw [q1];exact beq_self_eq_true _
 have pq1:(ratB p1).toList=(ratB p4).toList:=by rw [q1]
 have eq2:((ratB p6).toList == (ratB p9).toList)=true:=by rw [q2];exact beq_self_eq_true _
 have pq2:(ratB p6).toList=(ratB p9).toList:=by rw [q2]
 have eq3:((ratB p7).toList == (ratB p10).toList)=true:=by rw [q3];exact beq_self_eq_true _
 have pq3:(ratB p7).toList=(ratB p10).toList:=by rw [q3]
 obtain ⟨Bf,Bq⟩:∃ vq,ratB p10=vq:=⟨_,rfl⟩
 obtain ⟨Bg,Br⟩:∃ vq,ratB p0=vq:=⟨_,rfl⟩
 obtain ⟨Bh,Bs⟩:∃ vq,ratB p1=vq:=⟨_,rfl⟩
 obtain ⟨Bi,Bt⟩:∃ vq,ratB p3=vq:=⟨_,rfl⟩
 obtain ⟨Bj,Bu⟩:∃ vq,ratB p4=vq:=⟨_,rfl⟩
 obtain ⟨Bk,Bv⟩:∃ vq,ratB p6=vq:=⟨_,rfl⟩
 obtain ⟨Bl,Bw⟩:∃ vq,ratB p7=vq:=⟨_,rfl⟩
 obtain ⟨Bm,Bx⟩:∃ vq,ratB p9=vq:=⟨_,rfl⟩
 try simp only [Bq,Br,Bs,Bt,Bu,Bv,Bw,Bx] at c1 c2 c3 c4 c5 c6 c7 eq0 pq0 eq1 pq1 eq2 pq2 eq3 pq3 ⊢
 have C1:=Lib.hid c1
 have C2:=Lib.hid c2
 have C3:=Lib.hid c3
 have C4:=Lib.hid c4
 have C5:=Lib.hid c5
 have C6:=Lib.hid c6
 have C7:=Lib.hid c7
 clear c1 c2 c3 c4 c5 c6 c7 Bq Br Bs Bt Bu Bv Bw Bx k0 k1 k2 k3 k4 k5 k6 k7 k8 k9 k10 k11 q0 q1 q2 q3
 have hb:=Below.refl w.heap.size w
 go_enter Tryz.func8,Tryz.ntmps8
 go_upto_region 1 with fail
 refine wp_alloc2 (fun w1 a0 a1 hk=>?_)
 replace hb:=hb.trans (hk.mono hb.size)
 clear hk
 obtain ⟨Ar,As,At,Au,Av,Aw,Ax,Ay,Az,A0,A1,A2⟩:=ce12 a0
 obtain ⟨A3,A4,A5,A6,A7,A8,A9,Ba,Bb,Bc,Bd,Be⟩:=ce12 a1
 go_upto_region 3 with (go_at_call 13;with_reducible refine (chVB hb R C1).mono ?_;clear hb;rintro e w1 ⟨rfl,hk,hb⟩;clear Ar As At Au Av Aw Ax Ay Az A0 A1 A2 A3 A4 A5 A6 A7 A8 A9 Ba Bb Bc Bd Be;replace a0:=zB hk a0;replace a1:=zB hk a1;obtain ⟨Ar,As,At,Au,Av,Aw,Ax,Ay,Az,A0,A1,A2⟩:=ce12 a0;obtain ⟨A3,A4,A5,A6,A7,A8,A9,Ba,Bb,Bc,Bd,Be⟩:=ce12 a1;clear hk)
 obtain ⟨B2,B3,B4,B5,B6,B7,B8,B9,Ca,Cb,Cc,Cd⟩:=cy12 a0
 obtain ⟨Ce,Cf,Cg,Ch,Ci,Cj,Ck,Cm,Cn,Co,Cp,Cq⟩:=cy12 a1
 have Cr:=rrV C2 R hb
 have Cs:=rrV C3 R hb
 have Ct:=rrV C4 R hb
 have Cu:=rrV C5 R hb
 have By:=qqV C2 R hb
 have Bz:=qqV C3 R hb
 have B0:=qqV C4 R hb
 have B1:=qqV C5 R hb
 refine wp_free4 12 0 (fun i=>if i=12 then Obj.cells #[Value.string ⟨#[]⟩,Value.string ⟨#[]⟩] 30 else if i=13 then Obj.cells #[Value.string ⟨#[]⟩,Value.string ⟨#[]⟩] 30 else if i=14 then Obj.cells #[Value.string ⟨#[]⟩,Value.string ⟨#[]⟩] 30 else if i=15 then Obj.cells #[Value.string ⟨#[]⟩,Value.string ⟨#[]⟩] 30 else Obj.cells #[] 0) (fun i=>if i=12 then Obj.cells #[Value.string Bg,Value.string Bh] 30 else if i=13 then Obj.cells #[Value.string Bi,Value.string Bj] 30 else if i=14 then Obj.cells #[Value.string Bk,Value.string Bl] 30 else if i=15 then Obj.cells #[Value.string Bm,Value.string Bf] 30 else Obj.cells #[] 0) (some 5) (some 6) (some 7) (some 8) (by first | assumption | kernel_rfl) (by kernel_rfl) ?lay rfl rfl rfl rfl ?_
 case lay =>
   intro i h1 h2
   obtain rfl | rfl | rfl | rfl:i=12∨i=13∨i=14∨i=15:=by omega
   all_goals exact ⟨_,rfl,rfl,fun a w=>(by first | (go_simp;done) | (go_simp;rfl))⟩
 simp only [List.take_succ_cons,List.take_zero]
 repeat (refine wpB_step (fun K hK=>?_);go_simp;first | (refine hK _ ?_;clear hK K) | (apply Exists.intro;refine ⟨fun _=>?_,hK _ ?_⟩;(first | (with_reducible exact By.out _ _) | (with_reducible exact Bz.out _ _) | (with_reducible exact B0.out _ _) | (with_reducible exact B1.out _ _));clear hK K))
 refine wpB_nil ?_
 intro Ae Af Ag Ah
 refine ⟨?_,?_,?_,?_,?_⟩
 · refine ⟨_,rfl,rfl,rfl,fun cs b h=>(by cases h),fun w hw=>?_⟩
   replace hw:w.heap[Ae]? = some (Obj.cells #[Value.string ⟨#[]⟩,Value.string ⟨#[]⟩] 30):=hw
   have z0:w.cell? ⟨Ae,0,none⟩=some (Value.string ⟨#[]⟩):=zA hw
   have y0:w.frozen? ⟨Ae,0,none⟩=false:=zD hw
   have z1:w.cell? ⟨Ae,1,none⟩=some (Value.string ⟨#[]⟩):=zA hw
   have y1:w.frozen? ⟨Ae,1,none⟩=false:=zD hw
   refine ⟨_,?_,(Wrote.set (i:=1) (Wrote.set (i:=0) (Wrote.refl hw) (Value.string Bg)) (Value.string Bh))⟩
   go_simp
 · refine ⟨_,rfl,rfl,rfl,fun cs b h=>(by cases h),fun w hw=>?_⟩
   replace hw:w.heap[Af]? = some (Obj.cells #[Value.string ⟨#[]⟩,Value.string ⟨#[]⟩] 30):=hw
   have z0:w.cell? ⟨Af,0,none⟩=some (Value.string ⟨#[]⟩):=zA hw
   have y0:w.frozen? ⟨Af,0,none⟩=false:=zD hw
   have z1:w.cell? ⟨Af,1,none⟩=some (Value.string ⟨#[]⟩):=zA hw
   have y1:w.frozen? ⟨Af,1,none⟩=false:=zD hw
   refine ⟨_,?_,(Wrote.set (i:=1) (Wrote.set (i:=0) (Wrote.refl hw) (Value.string Bi)) (Value.string Bj))⟩
   go_simp
 · refine ⟨_,rfl,rfl,rfl,fun cs b h=>(by cases h),fun w hw=>?_⟩
   replace hw:w.heap[Ag]? = some (Obj.cells #[Value.string ⟨#[]⟩,Value.string ⟨#[]⟩] 30):=hw
   have z0:w.cell? ⟨Ag,0,none⟩=some (Value.string ⟨#[]⟩):=zA hw
   have y0:w.frozen? ⟨Ag,0,none⟩=false:=zD hw
   have z1:w.cell? ⟨Ag,1,none⟩=some (Value.string ⟨#[]⟩):=zA hw
   have y1:w.frozen? ⟨Ag,1,none⟩=false:=zD hw
   refine ⟨_,?_,(Wrote.set (i:=1) (Wrote.set (i:=0) (Wrote.refl hw) (Value.string Bk)) (Value.string Bl))⟩
   go_simp
 · refine ⟨_,rfl,rfl,rfl,fun cs b h=>(by cases h),fun w hw=>?_⟩
   replace hw:w.heap[Ah]? = some (Obj.cells #[Value.string ⟨#[]⟩,Value.string ⟨#[]⟩] 30):=hw
   have z0:w.cell? ⟨Ah,0,none⟩=some (Value.string ⟨#[]⟩):=zA hw
   have y0:w.frozen? ⟨Ah,0,none⟩=false:=zD hw
   have z1:w.cell? ⟨Ah,1,none⟩=some (Value.string ⟨#[]⟩):=zA hw
   have y1:w.frozen? ⟨Ah,1,none⟩=false:=zD hw
   refine ⟨_,?_,(Wrote.set (i:=1) (Wrote.set (i:=0) (Wrote.refl hw) (Value.string Bm)) (Value.string Bf))⟩
   go_simp
 intro w1 hk m0 m1 m2 m3 Aa Ab Ac Ad _ _ _ _ _ _
 clear Ar As At Au Av Aw Ax Ay Az A0 A1 A2 A3 A4 A5 A6 A7 A8 A9 Ba Bb Bc Bd Be
 replace a0:=zB hk a0
 replace a1:=zB hk a1
 obtain ⟨Ar,As,At,Au,Av,Aw,Ax,Ay,Az,A0,A1,A2⟩:=ce12 a0
 obtain ⟨A3,A4,A5,A6,A7,A8,A9,Ba,Bb,Bc,Bd,Be⟩:=ce12 a1
 replace hb:=hb.trans (hk.mono hb.size)
 clear hk
 replace Aa:w1.heap[Ae]? = some (Obj.cells #[Value.string Bg,Value.string Bh] 30):=Aa
 have Ai:w1.cell? ⟨Ae,0,none⟩=some (Value.string Bg):=zA Aa
 have Aj:w1.cell? ⟨Ae,1,none⟩=some (Value.string Bh):=zA Aa
 replace Ab:w1.heap[Af]? = some (Obj.cells #[Value.string Bi,Value.string Bj] 30):=Ab
 have Ak:w1.cell? ⟨Af,0,none⟩=some (Value.string Bi):=zA Ab
 have Al:w1.cell? ⟨Af,1,none⟩=some (Value.string Bj):=zA Ab
 replace Ac:w1.heap[Ag]? = some (Obj.cells #[Value.string Bk,Value.string Bl] 30):=Ac
 have Am:w1.cell? ⟨Ag,0,none⟩=some (Value.string Bk):=zA Ac
 have An:w1.cell? ⟨Ag,1,none⟩=some (Value.string Bl):=zA Ac
 replace Ad:w1.heap[Ah]? = some (Obj.cells #[Value.string Bm,Value.string Bf] 30):=Ad
 have Ao:w1.cell? ⟨Ah,0,none⟩=some (Value.string Bm):=zA Ad
 have Ap:w1.cell? ⟨Ah,1,none⟩=some (Value.string Bf):=zA Ad
 clear By Bz B0 B1 Cr Cs Ct Cu B2 B3 B4 B5 B6 B7 B8 B9 Ca Cb Cc Cd Ce Cf Cg Ch Ci Cj Ck Cm Cn Co Cp Cq m0 m1 m2 m3
 go_upto_region 5 with (go_at_call 54;with_reducible refine (chVB hb R C6).mono ?_;clear hb;rintro e w1 ⟨rfl,hk,hb⟩;clear Ai Aj Ak Al Am An Ao Ap;replace Aa:=zB hk Aa;replace Ab:=zB hk Ab;replace Ac:=zB hk Ac;replace Ad:=zB hk Ad;obtain ⟨Ai,Aj⟩:=ce2 Aa;obtain ⟨Ak,Al⟩:=ce2 Ab;obtain ⟨Am,An⟩:=ce2 Ac;obtain ⟨Ao,Ap⟩:=ce2 Ad;clear hk)
 clear Ar As At Au Av Aw Ax Ay Az A0 A1 A2 a0 A3 A4 A5 A6 A7 A8 A9 Ba Bb Bc Bd Be a1
 refine wp_alloc1 (fun w1 Aq hk=>?_)
 clear Ai Aj Ak Al Am An Ao Ap
 replace Aa:=zB hk Aa
 replace Ab:=zB hk Ab
 replace Ac:=zB hk Ac
 replace Ad:=zB hk Ad
 obtain ⟨Ai,Aj⟩:=ce2 Aa
 obtain ⟨Ak,Al⟩:=ce2 Ab
 obtain ⟨Am,An⟩:=ce2 Ac
 obtain ⟨Ao,Ap⟩:=ce2 Ad
 replace hb:=hb.trans (hk.mono hb.size)
 clear hk
 obtain ⟨Bn,Bo,Bp⟩:=ce3 Aq
 go_upto_region 6 with (go_at_call 54;with_reducible refine (chVB hb R C7).mono ?_;clear hb;rintro e w1 ⟨rfl,hk,hb⟩;clear Bn Bo Bp Ai Aj Ak Al Am An Ao Ap;replace Aq:=zB hk Aq;replace Aa:=zB hk Aa;replace Ab:=zB hk Ab;replace Ac:=zB hk Ac;replace Ad:=zB hk Ad;obtain ⟨Bn,Bo,Bp⟩:=ce3 Aq;obtain ⟨Ai,Aj⟩:=ce2 Aa;obtain ⟨Ak,Al⟩:=ce2 Ab;obtain ⟨Am,An⟩:=ce2 Ac;obtain ⟨Ao,Ap⟩:=ce2 Ad;clear hk)
 refine wp_alloc1 (fun w1 Cv hk=>?_)
 clear Bn Bo Bp Ai Aj Ak Al Am An Ao Ap
 replace Aq:=zB hk Aq
 replace Aa:=zB hk Aa
 replace Ab:=zB hk Ab
 replace Ac:=zB hk Ac
 replace Ad:=zB hk Ad
 obtain ⟨Bn,Bo,Bp⟩:=ce3 Aq
 obtain ⟨Ai,Aj⟩:=ce2 Aa
 obtain ⟨Ak,Al⟩:=ce2 Ab
 obtain ⟨Am,An⟩:=ce2 Ac
 obtain ⟨Ao,Ap⟩:=ce2 Ad
 replace hb:=hb.trans (hk.mono hb.size)
 clear hk
 obtain ⟨Cw,Cx,Cy⟩:=ce3 Cv
 go_wp2
 first | go_ret | go_ret2 | go_ret3
 exact ⟨rfl,hb⟩
theorem linesE_e0  (i0 g0 i1 g1 i2 g2 i3 g3 i4 g4 i5 g5 i6 g6 i7 g7 i8 g8 i9 g9 i10 g10 i11 g11:Int) (p0 p1 p2 p3 p4 p5 p6 p7 p8 p9 p10 p11:Rat) (k0:SmallIs i0 g0 p0) (k1:SmallIs i1 g1 p1) (k2:SmallIs i2 g2 p2) (k3:SmallIs i3 g3 p3) (k4:SmallIs i4 g4 p4) (k5:SmallIs i5 g5 p5) (k6:SmallIs i6 g6 p6) (k7:SmallIs i7 g7 p7) (k8:SmallIs i8 g8 p8) (k9:SmallIs i9 g9 p9) (k10:SmallIs i10 g10 p10) (k11:SmallIs i11 g11 p11) (q0:p0=p3) (q1:p1=p4) (q2:p6≠p9) (w:World) (R:EnvV w) :
   Calls Tryz.prog 8 #[.agg #[.int .i16 i0,.int .u8 g0,.int .i16 i1,.int .u8 g1,.int .i16 i2,.int .u8 g2,.int .i16 i3,.int .u8 g3,.int .i16 i4,.int .u8 g4,.int .i16 i5,.int .u8 g5],.agg #[.int .i16 i6,.int .u8 g6,.int .i16 i7,.int .u8 g7,.int .i16 i8,.int .u8 g8,.int .i16 i9,.int .u8 g9,.int .i16 i10,.int .u8 g10,.int .i16 i11,.int .u8 g11]] w (Ret w (.bool true)):=by
 have Bu:=RN_sub (N:=8) k6.rn k9.rn
 have Bw:=Bu.rl (K:=40000)
 have Bg:=RN_sub (N:=8) k7.rn k10.rn
 have Ar:=RN_mul Bg k6.rn
 have Bh:RN (-(p6 - p9)) 9 6:=(RN_neg Bu)
 have Bv:=RN_add (N:=15) rn_0 Ar
 have Bi:=RN_mul Bh k7.rn
 have Bx:=RN_add (N:=25) Bv Bi
 have By:=RN_mul rn_m1 rn_0
 have Bz:=RN_add (N:=23) Ar Bi
 have B0:=RN_sub (N:=25) Bz rn_0
 have B1:=RN_sub (N:=8) k9.rn k6.rn
 have B2:=RN_mul B1 k7.rn
 have Ci:=RN_add (N:=23) Ar B2
 have c1:=known5_any
 have c2:=makeP i0 g0 i1 g1 i2 g2 p0 p1 p2 k0 k1 k2
 have c3:=makeP i3 g3 i4 g4 i5 g5 p3 p4 p5 k3 k4 k5
 have c4:=makeP i6 g6 i7 g7 i8 g8 p6 p7 p8 k6 k7 k8
 have c5:=makeP i9 g9 i10 g10 i11 g11 p9 p10 p11 k9 k10 k11
 have c6:=through_2 p0 p1 p3 p4 q0 q1 k0.rn.r2 k1.rn.r2 k3.rn.r2 k4.rn.r2
 have c7:=through_0 p6 p7 p9 p10 q2 k6.rn.r2 k7.rn.r2 k9.rn.r2 k10.rn.r2 k6.rn.rm k9.rn.rm k7.rn.rm k10.rn.rm Bw Bg.rm Ar.rm Bh.rm Bv.rm Bi.rm Bx.rm By.rm Bg.r2 Bh.r2 B0.r2
 have eq0:((ratB p0).toList == (ratB p3).toList)=true:=by rw [q0];exact beq_self_eq_true _
 have pq0:(ratB p0).toList=(ratB p3).toList:=by rw [q0]
 have eq1:((ratB p1).toList == (ratB p4).toList)=true:=by rw [q1];exact beq_self_eq_true _
 have pq1:(ratB p1).toList=(ratB p4).toList:=by rw [q1]
 have eq2:((ratB p6).toList == (ratB p9).toList)=false:=beq_eq_false_iff_ne.2 (fun g=>q2 (ratB_li g))
 have pq2:¬ (ratB p6).toList=(ratB p9).toList:=fun g=>q2 (ratB_li g)
 obtain ⟨Dk,B3⟩:∃ vq,ratB (((p7 - p10)*p6)+((p9 - p6)*p7))=vq:=⟨_,rfl⟩
 obtain ⟨Dl,B4⟩:∃ vq,ratB (p7 - p10)=vq:=⟨_,rfl⟩
 obtain ⟨Dm,B5⟩:∃ vq,ratB (p9 - p6)=vq:=⟨_,rfl⟩
 obtain ⟨Bj,B6⟩:∃ vq,ratB p10=vq:=⟨_,rfl⟩
 obtain ⟨Bk,B7⟩:∃ vq,ratB p0=vq:=⟨_,rfl⟩
 obtain ⟨Bl,B8⟩:∃ vq,ratB p1=vq:=⟨_,rfl⟩
 obtain ⟨Bm,B9⟩:∃ vq,ratB p3=vq:=⟨_,rfl⟩
 obtain ⟨Bn,Ca⟩:∃ vq,ratB p4=vq:=⟨_,rfl⟩
 obtain ⟨Bo,Cb⟩:∃ vq,ratB p6=vq:=⟨_,rfl⟩
 obtain ⟨Bp,Cc⟩:∃ vq,ratB p7=vq:=⟨_,rfl⟩
 obtain ⟨Bq,Cd⟩:∃ vq,ratB p9=vq:=⟨_,rfl⟩
 try simp only [B3,B4,B5,B6,B7,B8,B9,Ca,Cb,Cc,Cd] at c1 c2 c3 c4 c5 c6 c7 eq0 pq0 eq1 pq1 eq2 pq2 ⊢
 have C1:=Lib.hid c1
 have C2:=Lib.hid c2
 have C3:=Lib.hid c3
 have C4:=Lib.hid c4
 have C5:=Lib.hid c5
 have C6:=Lib.hid c6
 have C7:=Lib.hid c7
 clear c1 c2 c3 c4 c5 c6 c7 B3 B4 B5 B6 B7 B8 B9 Ca Cb Cc Cd Bu Bw Bg Ar Bh Bv Bi Bx By Bz B0 B1 B2 Ci k0 k1 k2 k3 k4 k5 k6 k7 k8 k9 k10 k11 q0 q1 q2
 have hb:=Below.refl w.heap.size w
 go_enter Tryz.func8,Tryz.ntmps8
 go_upto_region 1 with fail
 refine wp_alloc2 (fun w1 a0 a1 hk=>?_)
 replace hb:=hb.trans (hk.mono hb.size)
 clear hk
 obtain ⟨As,At,Au,Av,Aw,Ax,Ay,Az,A0,A1,A2,A3⟩:=ce12 a0
 obtain ⟨A4,A5,A6,A7,A8,A9,Ba,Bb,Bc,Bd,Be,Bf⟩:=ce12 a1
 go_upto_region 3 with (go_at_call 13;with_reducible refine (chVB hb R C1).mono ?_;clear hb;rintro e w1 ⟨rfl,hk,hb⟩;clear As At Au Av Aw Ax Ay Az A0 A1 A2 A3 A4 A5 A6 A7 A8 A9 Ba Bb Bc Bd Be Bf;replace a0:=zB hk a0;replace a1:=zB hk a1;obtain ⟨As,At,Au,Av,Aw,Ax,Ay,Az,A0,A1,A2,A3⟩:=ce12 a0;obtain ⟨A4,A5,A6,A7,A8,A9,Ba,Bb,Bc,Bd,Be,Bf⟩:=ce12 a1;clear hk)
 obtain ⟨Cj,Ck,Cm,Cn,Co,Cp,Cq,Cr,Cs,Ct,Cu,Cv⟩:=cy12 a0
 obtain ⟨Cw,Cx,Cy,Cz,C0,C8,C9,Da,Db,Dc,Dd,De⟩:=cy12 a1
 have Df:=rrV C2 R hb
 have Dg:=rrV C3 R hb
 have Dh:=rrV C4 R hb
 have Di:=rrV C5 R hb
 have Ce:=qqV C2 R hb
 have Cf:=qqV C3 R hb
 have Cg:=qqV C4 R hb
 have Ch:=qqV C5 R hb
 refine wp_free4 12 0 (fun i=>if i=12 then Obj.cells #[Value.string ⟨#[]⟩,Value.string ⟨#[]⟩] 30 else if i=13 then Obj.cells #[Value.string ⟨#[]⟩,Value.string ⟨#[]⟩] 30 else if i=14 then Obj.cells #[Value.string ⟨#[]⟩,Value.string ⟨#[]⟩] 30 else if i=15 then Obj.cells #[Value.string ⟨#[]⟩,Value.string ⟨#[]⟩] 30 else Obj.cells #[] 0) (fun i=>if i=12 then Obj.cells #[Value.string Bk,Value.string Bl] 30 else if i=13 then Obj.cells #[Value.string Bm,Value.string Bn] 30 else if i=14 then Obj.cells #[Value.string Bo,Value.string Bp] 30 else if i=15 then Obj.cells #[Value.string Bq,Value.string Bj] 30 else Obj.cells #[] 0) (some 5) (some 6) (some 7) (some 8) (by first | assumption | kernel_rfl) (by kernel_rfl) ?lay rfl rfl rfl rfl ?_
 case lay =>
   intro i h1 h2
   obtain rfl | rfl | rfl | rfl:i=12∨i=13∨i=14∨i=15:=by omega
   all_goals exact ⟨_,rfl,rfl,fun a w=>(by first | (go_simp;done) | (go_simp;rfl))⟩
 simp only [List.take_succ_cons,List.take_zero]
 repeat (refine wpB_step (fun K hK=>?_);go_simp;first | (refine hK _ ?_;clear hK K) | (apply Exists.intro;refine ⟨fun _=>?_,hK _ ?_⟩;(first | (with_reducible exact Ce.out _ _) | (with_reducible exact Cf.out _ _) | (with_reducible exact Cg.out _ _) | (with_reducible exact Ch.out _ _));clear hK K))
 refine wpB_nil ?_
 intro Ae Af Ag Ah
 refine ⟨?_,?_,?_,?_,?_⟩
 · refine ⟨_,rfl,rfl,rfl,fun cs b h=>(by cases h),fun w hw=>?_⟩
   replace hw:w.heap[Ae]? = some (Obj.cells #[Value.string ⟨#[]⟩,Value.string ⟨#[]⟩] 30):=hw
   have z0:w.cell? ⟨Ae,0,none⟩=some (Value.string ⟨#[]⟩):=zA hw
   have y0:w.frozen? ⟨Ae,0,none⟩=false:=zD hw
   have z1:w.cell? ⟨Ae,1,none⟩=some (Value.string ⟨#[]⟩):=zA hw
   have y1:w.frozen? ⟨Ae,1,none⟩=false:=zD hw
   refine ⟨_,?_,(Wrote.set (i:=1) (Wrote.set (i:=0) (Wrote.refl hw) (Value.string Bk)) (Value.string Bl))⟩
   go_simp
 · refine ⟨_,rfl,rfl,rfl,fun cs b h=>(by cases h),fun w hw=>?_⟩
   replace hw:w.heap[Af]? = some (Obj.cells #[Value.string ⟨#[]⟩,Value.string ⟨#[]⟩] 30):=hw
   have z0:w.cell? ⟨Af,0,none⟩=some (Value.string ⟨#[]⟩):=zA hw
   have y0:w.frozen? ⟨Af,0,none⟩=false:=zD hw
   have z1:w.cell? ⟨Af,1,none⟩=some (Value.string ⟨#[]⟩):=zA hw
   have y1:w.frozen? ⟨Af,1,none⟩=false:=zD hw
   refine ⟨_,?_,(Wrote.set (i:=1) (Wrote.set (i:=0) (Wrote.refl hw) (Value.string Bm)) (Value.string Bn))⟩
   go_simp
 · refine ⟨_,rfl,rfl,rfl,fun cs b h=>(by cases h),fun w hw=>?_⟩
   replace hw:w.heap[Ag]? = some (Obj.cells #[Value.string ⟨#[]⟩,Value.string ⟨#[]⟩] 30):=hw
   have z0:w.cell? ⟨Ag,0,none⟩=some (Value.string ⟨#[]⟩):=zA hw
   have y0:w.frozen? ⟨Ag,0,none⟩=false:=zD hw
   have z1:w.cell? ⟨Ag,1,none⟩=some (Value.string ⟨#[]⟩):=zA hw
   have y1:w.frozen? ⟨Ag,1,none⟩=false:=zD hw
   refine ⟨_,?_,(Wrote.set (i:=1) (Wrote.set (i:=0) (Wrote.refl hw) (Value.string Bo)) (Value.string Bp))⟩
   go_simp
 · refine ⟨_,rfl,rfl,rfl,fun cs b h=>(by cases h),fun w hw=>?_⟩
   replace hw:w.heap[Ah]? = some (Obj.cells #[Value.string ⟨#[]⟩,Value.string ⟨#[]⟩] 30):=hw
   have z0:w.cell? ⟨Ah,0,none⟩=some (Value.string ⟨#[]⟩):=zA hw
   have y0:w.frozen? ⟨Ah,0,none⟩=false:=zD hw
   have z1:w.cell? ⟨Ah,1,none⟩=some (Value.string ⟨#[]⟩):=zA hw
   have y1:w.frozen? ⟨Ah,1,none⟩=false:=zD hw
   refine ⟨_,?_,(Wrote.set (i:=1) (Wrote.set (i:=0) (Wrote.refl hw) (Value.string Bq)) (Value.string Bj))⟩
   go_simp
 intro w1 hk m0 m1 m2 m3 Aa Ab Ac Ad _ _ _ _ _ _
 clear As At Au Av Aw Ax Ay Az A0 A1 A2 A3 A4 A5 A6 A7 A8 A9 Ba Bb Bc Bd Be Bf
 replace a0:=zB hk a0
 replace a1:=zB hk a1
 obtain ⟨As,At,Au,Av,Aw,Ax,Ay,Az,A0,A1,A2,A3⟩:=ce12 a0
 obtain ⟨A4,A5,A6,A7,A8,A9,Ba,Bb,Bc,Bd,Be,Bf⟩:=ce12 a1
 replace hb:=hb.trans (hk.mono hb.size)
 clear hk
 replace Aa:w1.heap[Ae]? = some (Obj.cells #[Value.string Bk,Value.string Bl] 30):=Aa
 have Ai:w1.cell? ⟨Ae,0,none⟩=some (Value.string Bk):=zA Aa
 have Aj:w1.cell? ⟨Ae,1,none⟩=some (Value.string Bl):=zA Aa
 replace Ab:w1.heap[Af]? = some (Obj.cells #[Value.string Bm,Value.string Bn] 30):=Ab
 have Ak:w1.cell? ⟨Af,0,none⟩=some (Value.string Bm):=zA Ab
 have Al:w1.cell? ⟨Af,1,none⟩=some (Value.string Bn):=zA Ab
 replace Ac:w1.heap[Ag]? = some (Obj.cells #[Value.string Bo,Value.string Bp] 30):=Ac
 have Am:w1.cell? ⟨Ag,0,none⟩=some (Value.string Bo):=zA Ac
 have An:w1.cell? ⟨Ag,1,none⟩=some (Value.string Bp):=zA Ac
 replace Ad:w1.heap[Ah]? = some (Obj.cells #[Value.string Bq,Value.string Bj] 30):=Ad
 have Ao:w1.cell? ⟨Ah,0,none⟩=some (Value.string Bq):=zA Ad
 have Ap:w1.cell? ⟨Ah,1,none⟩=some (Value.string Bj):=zA Ad
 clear Ce Cf Cg Ch Df Dg Dh Di Cj Ck Cm Cn Co Cp Cq Cr Cs Ct Cu Cv Cw Cx Cy Cz C0 C8 C9 Da Db Dc Dd De m0 m1 m2 m3
 go_upto_region 5 with (go_at_call 54;with_reducible refine (chVB hb R C6).mono ?_;clear hb;rintro e w1 ⟨rfl,hk,hb⟩;clear Ai Aj Ak Al Am An Ao Ap;replace Aa:=zB hk Aa;replace Ab:=zB hk Ab;replace Ac:=zB hk Ac;replace Ad:=zB hk Ad;obtain ⟨Ai,Aj⟩:=ce2 Aa;obtain ⟨Ak,Al⟩:=ce2 Ab;obtain ⟨Am,An⟩:=ce2 Ac;obtain ⟨Ao,Ap⟩:=ce2 Ad;clear hk)
 clear As At Au Av Aw Ax Ay Az A0 A1 A2 A3 a0 A4 A5 A6 A7 A8 A9 Ba Bb Bc Bd Be Bf a1
 refine wp_alloc1 (fun w1 Aq hk=>?_)
 clear Ai Aj Ak Al Am An Ao Ap
 replace Aa:=zB hk Aa
 replace Ab:=zB hk Ab
 replace Ac:=zB hk Ac
 replace Ad:=zB hk Ad
 obtain ⟨Ai,Aj⟩:=ce2 Aa
 obtain ⟨Ak,Al⟩:=ce2 Ab
 obtain ⟨Am,An⟩:=ce2 Ac
 obtain ⟨Ao,Ap⟩:=ce2 Ad
 replace hb:=hb.trans (hk.mono hb.size)
 clear hk
 obtain ⟨Br,Bs,Bt⟩:=ce3 Aq
 go_upto_region 6 with (go_at_call 54;with_reducible refine (chVB hb R C7).mono ?_;clear hb;rintro e w1 ⟨rfl,hk,hb⟩;clear Br Bs Bt Ai Aj Ak Al Am An Ao Ap;replace Aq:=zB hk Aq;replace Aa:=zB hk Aa;replace Ab:=zB hk Ab;replace Ac:=zB hk Ac;replace Ad:=zB hk Ad;obtain ⟨Br,Bs,Bt⟩:=ce3 Aq;obtain ⟨Ai,Aj⟩:=ce2 Aa;obtain ⟨Ak,Al⟩:=ce2 Ab;obtain ⟨Am,An⟩:=ce2 Ac;obtain ⟨Ao,Ap⟩:=ce2 Ad;clear hk)
 refine wp_alloc1 (fun w1 Dj hk=>?_)
 clear Br Bs Bt Ai Aj Ak Al Am An Ao Ap
 replace Aq:=zB hk Aq
 replace Aa:=zB hk Aa
 replace Ab:=zB hk Ab
 replace Ac:=zB hk Ac
 replace Ad:=zB hk Ad
 obtain ⟨Br,Bs,Bt⟩:=ce3 Aq
 obtain ⟨Ai,Aj⟩:=ce2 Aa
 obtain ⟨Ak,Al⟩:=ce2 Ab
 obtain ⟨Am,An⟩:=ce2 Ac
 obtain ⟨Ao,Ap⟩:=ce2 Ad
 replace hb:=hb.trans (hk.mono hb.size)
 clear hk
 obtain ⟨Dn,Do,Dp⟩:=ce3 Dj
 go_wp2
 first | go_ret | go_ret2 | go_ret3
 exact ⟨rfl,hb⟩
theorem linesE_e1  (i0 g0 i1 g1 i2 g2 i3 g3 i4 g4 i5 g5 i6 g6 i7 g7 i8 g8 i9 g9 i10 g10 i11 g11:Int) (p0 p1 p2 p3 p4 p5 p6 p7 p8 p9 p10 p11:Rat) (k0:SmallIs i0 g0 p0) (k1:SmallIs i1 g1 p1) (k2:SmallIs i2 g2 p2) (k3:SmallIs i3 g3 p3) (k4:SmallIs i4 g4 p4) (k5:SmallIs i5 g5 p5) (k6:SmallIs i6 g6 p6) (k7:SmallIs i7 g7 p7) (k8:SmallIs i8 g8 p8) (k9:SmallIs i9 g9 p9) (k10:SmallIs i10 g10 p10) (k11:SmallIs i11 g11 p11) (q0:p0=p3) (q1:p1=p4) (q2:p6=p9) (q3:p7≠p10) (w:World) (R:EnvV w) :
   Calls Tryz.prog 8 #[.agg #[.int .i16 i0,.int .u8 g0,.int .i16 i1,.int .u8 g1,.int .i16 i2,.int .u8 g2,.int .i16 i3,.int .u8 g3,.int .i16 i4,.int .u8 g4,.int .i16 i5,.int .u8 g5],.agg #[.int .i16 i6,.int .u8 g6,.int .i16 i7,.int .u8 g7,.int .i16 i8,.int .u8 g8,.int .i16 i9,.int .u8 g9,.int .i16 i10,.int .u8 g10,.int .i16 i11,.int .u8 g11]] w (Ret w (.bool true)):=by
 have Bu:=RN_sub (N:=8) k6.rn k9.rn
 have Bw:=Bu.rl (K:=40000)
 have Bg:=RN_sub (N:=8) k7.rn k10.rn
 have Ar:=RN_mul Bg k6.rn
 have Bh:RN (-(p6 - p9)) 9 6:=(RN_neg Bu)
 have Bv:=RN_add (N:=15) rn_0 Ar
 have Bi:=RN_mul Bh k7.rn
 have Bx:=RN_add (N:=25) Bv Bi
 have By:=RN_mul rn_m1 rn_0
 have Bz:=RN_add (N:=23) Ar Bi
 have B0:=RN_sub (N:=25) Bz rn_0
 have B1:=RN_sub (N:=8) k9.rn k6.rn
 have B2:=RN_mul B1 k7.rn
 have Ci:=RN_add (N:=23) Ar B2
 have c1:=known5_any
 have c2:=makeP i0 g0 i1 g1 i2 g2 p0 p1 p2 k0 k1 k2
 have c3:=makeP i3 g3 i4 g4 i5 g5 p3 p4 p5 k3 k4 k5
 have c4:=makeP i6 g6 i7 g7 i8 g8 p6 p7 p8 k6 k7 k8
 have c5:=makeP i9 g9 i10 g10 i11 g11 p9 p10 p11 k9 k10 k11
 have c6:=through_2 p0 p1 p3 p4 q0 q1 k0.rn.r2 k1.rn.r2 k3.rn.r2 k4.rn.r2
 have c7:=through_1 p6 p7 p9 p10 q2 q3 k6.rn.r2 k7.rn.r2 k9.rn.r2 k10.rn.r2 k6.rn.rm k9.rn.rm k7.rn.rm k10.rn.rm Bw Bg.rm Ar.rm Bh.rm Bv.rm Bi.rm Bx.rm By.rm Bg.r2 Bh.r2 B0.r2
 have eq0:((ratB p0).toList == (ratB p3).toList)=true:=by rw [q0];exact beq_self_eq_true _
 have pq0:(ratB p0).toList=(ratB p3).toList:=by rw [q0]
 have eq1:((ratB p1).toList == (ratB p4).toList)=true:=by rw [q1];exact beq_self_eq_true _
 have pq1:(ratB p1).toList=(ratB p4).toList:=by rw [q1]
 have eq2:((ratB p6).toList == (ratB p9).toList)=true:=by rw [q2];exact beq_self_eq_true _
 have pq2:(ratB p6).toList=(ratB p9).toList:=by rw [q2]
 have eq3:((ratB p7).toList == (ratB p10).toList)=false:=beq_eq_false_iff_ne.2 (fun g=>q3 (ratB_li g))
 have pq3:¬ (ratB p7).toList=(ratB p10).toList:=fun g=>q3 (ratB_li g)
 obtain ⟨Dk,B3⟩:∃ vq,ratB (((p7 - p10)*p6)+((p9 - p6)*p7))=vq:=⟨_,rfl⟩
 obtain ⟨Dl,B4⟩:∃ vq,ratB (p7 - p10)=vq:=⟨_,rfl⟩
 obtain ⟨Dm,B5⟩:∃ vq,ratB (p9 - p6)=vq:=⟨_,rfl⟩
 obtain ⟨Bj,B6⟩:∃ vq,ratB p10=vq:=⟨_,rfl⟩
 obtain ⟨Bk,B7⟩:∃ vq,ratB p0=vq:=⟨_,rfl⟩
 obtain ⟨Bl,B8⟩:∃ vq,ratB p1=vq:=⟨_,rfl⟩
 obtain ⟨Bm,B9⟩:∃ vq,ratB p3=vq:=⟨_,rfl⟩
 obtain ⟨Bn,Ca⟩:∃ vq,ratB p4=vq:=⟨_,rfl⟩
 obtain ⟨Bo,Cb⟩:∃ vq,ratB p6=vq:=⟨_,rfl⟩
 obtain ⟨Bp,Cc⟩:∃ vq,ratB p7=vq:=⟨_,rfl⟩
 obtain ⟨Bq,Cd⟩:∃ vq,ratB p9=vq:=⟨_,rfl⟩
 try simp only [B3,B4,B5,B6,B7,B8,B9,Ca,Cb,Cc,Cd] at c1 c2 c3 c4 c5 c6 c7 eq0 pq0 eq1 pq1 eq2 pq2 eq3 pq3 ⊢
 have C1:=Lib.hid c1
 have C2:=Lib.hid c2
 have C3:=Lib.hid c3
 have C4:=Lib.hid c4
 have C5:=Lib.hid c5
 have C6:=Lib.hid c6
 have C7:=Lib.hid c7
 clear c1 c2 c3 c4 c5 c6 c7 B3 B4 B5 B6 B7 B8 B9 Ca Cb Cc Cd Bu Bw Bg Ar Bh Bv Bi Bx By Bz B0 B1 B2 Ci k0 k1 k2 k3 k4 k5 k6 k7 k8 k9 k10 k11 q0 q1 q2 q3
 have hb:=Below.refl w.heap.size w
 go_enter Tryz.func8,Tryz.ntmps8
 go_upto_region 1 with fail
 refine wp_alloc2 (fun w1 a0 a1 hk=>?_)
 replace hb:=hb.trans (hk.mono hb.size)
 clear hk
 obtain ⟨As,At,Au,Av,Aw,Ax,Ay,Az,A0,A1,A2,A3⟩:=ce12 a0
 obtain ⟨A4,A5,A6,A7,A8,A9,Ba,Bb,Bc,Bd,Be,Bf⟩:=ce12 a1
 go_upto_region 3 with (go_at_call 13;with_reducible refine (chVB hb R C1).mono ?_;clear hb;rintro e w1 ⟨rfl,hk,hb⟩;clear As At Au Av Aw Ax Ay Az A0 A1 A2 A3 A4 A5 A6 A7 A8 A9 Ba Bb Bc Bd Be Bf;replace a0:=zB hk a0;replace a1:=zB hk a1;obtain ⟨As,At,Au,Av,Aw,Ax,Ay,Az,A0,A1,A2,A3⟩:=ce12 a0;obtain ⟨A4,A5,A6,A7,A8,A9,Ba,Bb,Bc,Bd,Be,Bf⟩:=ce12 a1;clear hk)
 obtain ⟨Cj,Ck,Cm,Cn,Co,Cp,Cq,Cr,Cs,Ct,Cu,Cv⟩:=cy12 a0
 obtain ⟨Cw,Cx,Cy,Cz,C0,C8,C9,Da,Db,Dc,Dd,De⟩:=cy12 a1
 have Df:=rrV C2 R hb
 have Dg:=rrV C3 R hb
 have Dh:=rrV C4 R hb
 have Di:=rrV C5 R hb
 have Ce:=qqV C2 R hb
 have Cf:=qqV C3 R hb
 have Cg:=qqV C4 R hb
 have Ch:=qqV C5 R hb
 refine wp_free4 12 0 (fun i=>if i=12 then Obj.cells #[Value.string ⟨#[]⟩,Value.string ⟨#[]⟩] 30 else if i=13 then Obj.cells #[Value.string ⟨#[]⟩,Value.string ⟨#[]⟩] 30 else if i=14 then Obj.cells #[Value.string ⟨#[]⟩,Value.string ⟨#[]⟩] 30 else if i=15 then Obj.cells #[Value.string ⟨#[]⟩,Value.string ⟨#[]⟩] 30 else Obj.cells #[] 0) (fun i=>if i=12 then Obj.cells #[Value.string Bk,Value.string Bl] 30 else if i=13 then Obj.cells #[Value.string Bm,Value.string Bn] 30 else if i=14 then Obj.cells #[Value.string Bo,Value.string Bp] 30 else if i=15 then Obj.cells #[Value.string Bq,Value.string Bj] 30 else Obj.cells #[] 0) (some 5) (some 6) (some 7) (some 8) (by first | assumption | kernel_rfl) (by kernel_rfl) ?lay rfl rfl rfl rfl ?_
 case lay =>
   intro i h1 h2
   obtain rfl | rfl | rfl | rfl:i=12∨i=13∨i=14∨i=15:=by omega
   all_goals exact ⟨_,rfl,rfl,fun a w=>(by first | (go_simp;done) | (go_simp;rfl))⟩
 simp only [List.take_succ_cons,List.take_zero]
 repeat (refine wpB_step (fun K hK=>?_);go_simp;first | (refine hK _ ?_;clear hK K) | (apply Exists.intro;refine ⟨fun _=>?_,hK _ ?_⟩;(first | (with_reducible exact Ce.out _ _) | (with_reducible exact Cf.out _ _) | (with_reducible exact Cg.out _ _) | (with_reducible exact Ch.out _ _));clear hK K))
 refine wpB_nil ?_
 intro Ae Af Ag Ah
 refine ⟨?_,?_,?_,?_,?_⟩
 · refine ⟨_,rfl,rfl,rfl,fun cs b h=>(by cases h),fun w hw=>?_⟩
   replace hw:w.heap[Ae]? = some (Obj.cells #[Value.string ⟨#[]⟩,Value.string ⟨#[]⟩] 30):=hw
   have z0:w.cell? ⟨Ae,0,none⟩=some (Value.string ⟨#[]⟩):=zA hw
   have y0:w.frozen? ⟨Ae,0,none⟩=false:=zD hw
   have z1:w.cell? ⟨Ae,1,none⟩=some (Value.string ⟨#[]⟩):=zA hw
   have y1:w.frozen? ⟨Ae,1,none⟩=false:=zD hw
   refine ⟨_,?_,(Wrote.set (i:=1) (Wrote.set (i:=0) (Wrote.refl hw) (Value.string Bk)) (Value.string Bl))⟩
   go_simp
 · refine ⟨_,rfl,rfl,rfl,fun cs b h=>(by cases h),fun w hw=>?_⟩
   replace hw:w.heap[Af]? = some (Obj.cells #[Value.string ⟨#[]⟩,Value.string ⟨#[]⟩] 30):=hw
   have z0:w.cell? ⟨Af,0,none⟩=some (Value.string ⟨#[]⟩):=zA hw
   have y0:w.frozen? ⟨Af,0,none⟩=false:=zD hw
   have z1:w.cell? ⟨Af,1,none⟩=some (Value.string ⟨#[]⟩):=zA hw
   have y1:w.frozen? ⟨Af,1,none⟩=false:=zD hw
   refine ⟨_,?_,(Wrote.set (i:=1) (Wrote.set (i:=0) (Wrote.refl hw) (Value.string Bm)) (Value.string Bn))⟩
   go_simp
 · refine ⟨_,rfl,rfl,rfl,fun cs b h=>(by cases h),fun w hw=>?_⟩
   replace hw:w.heap[Ag]? = some (Obj.cells #[Value.string ⟨#[]⟩,Value.string ⟨#[]⟩] 30):=hw
   have z0:w.cell? ⟨Ag,0,none⟩=some (Value.string ⟨#[]⟩):=zA hw
   have y0:w.frozen? ⟨Ag,0,none⟩=false:=zD hw
   have z1:w.cell? ⟨Ag,1,none⟩=some (Value.string ⟨#[]⟩):=zA hw
   have y1:w.frozen? ⟨Ag,1,none⟩=false:=zD hw
   refine ⟨_,?_,(Wrote.set (i:=1) (Wrote.set (i:=0) (Wrote.refl hw) (Value.string Bo)) (Value.string Bp))⟩
   go_simp
 · refine ⟨_,rfl,rfl,rfl,fun cs b h=>(by cases h),fun w hw=>?_⟩
   replace hw:w.heap[Ah]? = some (Obj.cells #[Value.string ⟨#[]⟩,Value.string ⟨#[]⟩] 30):=hw
   have z0:w.cell? ⟨Ah,0,none⟩=some (Value.string ⟨#[]⟩):=zA hw
   have y0:w.frozen? ⟨Ah,0,none⟩=false:=zD hw
   have z1:w.cell? ⟨Ah,1,none⟩=some (Value.string ⟨#[]⟩):=zA hw
   have y1:w.frozen? ⟨Ah,1,none⟩=false:=zD hw
   refine ⟨_,?_,(Wrote.set (i:=1) (Wrote.set (i:=0) (Wrote.refl hw) (Value.string Bq)) (Value.string Bj))⟩
   go_simp
 intro w1 hk m0 m1 m2 m3 Aa Ab Ac Ad _ _ _ _ _ _
 clear As At Au Av Aw Ax Ay Az A0 A1 A2 A3 A4 A5 A6 A7 A8 A9 Ba Bb Bc Bd Be Bf
 replace a0:=zB hk a0
 replace a1:=zB hk a1
 obtain ⟨As,At,Au,Av,Aw,Ax,Ay,Az,A0,A1,A2,A3⟩:=ce12 a0
 obtain ⟨A4,A5,A6,A7,A8,A9,Ba,Bb,Bc,Bd,Be,Bf⟩:=ce12 a1
 replace hb:=hb.trans (hk.mono hb.size)
 clear hk
 replace Aa:w1.heap[Ae]? = some (Obj.cells #[Value.string Bk,Value.string Bl] 30):=Aa
 have Ai:w1.cell? ⟨Ae,0,none⟩=some (Value.string Bk):=zA Aa
 have Aj:w1.cell? ⟨Ae,1,none⟩=some (Value.string Bl):=zA Aa
 replace Ab:w1.heap[Af]? = some (Obj.cells #[Value.string Bm,Value.string Bn] 30):=Ab
 have Ak:w1.cell? ⟨Af,0,none⟩=some (Value.string Bm):=zA Ab
 have Al:w1.cell? ⟨Af,1,none⟩=some (Value.string Bn):=zA Ab
 replace Ac:w1.heap[Ag]? = some (Obj.cells #[Value.string Bo,Value.string Bp] 30):=Ac
 have Am:w1.cell? ⟨Ag,0,none⟩=some (Value.string Bo):=zA Ac
 have An:w1.cell? ⟨Ag,1,none⟩=some (Value.string Bp):=zA Ac
 replace Ad:w1.heap[Ah]? = some (Obj.cells #[Value.string Bq,Value.string Bj] 30):=Ad
 have Ao:w1.cell? ⟨Ah,0,none⟩=some (Value.string Bq):=zA Ad
 have Ap:w1.cell? ⟨Ah,1,none⟩=some (Value.string Bj):=zA Ad
 clear Ce Cf Cg Ch Df Dg Dh Di Cj Ck Cm Cn Co Cp Cq Cr Cs Ct Cu Cv Cw Cx Cy Cz C0 C8 C9 Da Db Dc Dd De m0 m1 m2 m3
 go_upto_region 5 with (go_at_call 54;with_reducible refine (chVB hb R C6).mono ?_;clear hb;rintro e w1 ⟨rfl,hk,hb⟩;clear Ai Aj Ak Al Am An Ao Ap;replace Aa:=zB hk Aa;replace Ab:=zB hk Ab;replace Ac:=zB hk Ac;replace Ad:=zB hk Ad;obtain ⟨Ai,Aj⟩:=ce2 Aa;obtain ⟨Ak,Al⟩:=ce2 Ab;obtain ⟨Am,An⟩:=ce2 Ac;obtain ⟨Ao,Ap⟩:=ce2 Ad;clear hk)
 clear As At Au Av Aw Ax Ay Az A0 A1 A2 A3 a0 A4 A5 A6 A7 A8 A9 Ba Bb Bc Bd Be Bf a1
 refine wp_alloc1 (fun w1 Aq hk=>?_)
 clear Ai Aj Ak Al Am An Ao Ap
 replace Aa:=zB hk Aa
 replace Ab:=zB hk Ab
 replace Ac:=zB hk Ac
 replace Ad:=zB hk Ad
 obtain ⟨Ai,Aj⟩:=ce2 Aa
 obtain ⟨Ak,Al⟩:=ce2 Ab
 obtain ⟨Am,An⟩:=ce2 Ac
 obtain ⟨Ao,Ap⟩:=ce2 Ad
 replace hb:=hb.trans (hk.mono hb.size)
 clear hk
 obtain ⟨Br,Bs,Bt⟩:=ce3 Aq
 go_upto_region 6 with (go_at_call 54;with_reducible refine (chVB hb R C7).mono ?_;clear hb;rintro e w1 ⟨rfl,hk,hb⟩;clear Br Bs Bt Ai Aj Ak Al Am An Ao Ap;replace Aq:=zB hk Aq;replace Aa:=zB hk Aa;replace Ab:=zB hk Ab;replace Ac:=zB hk Ac;replace Ad:=zB hk Ad;obtain ⟨Br,Bs,Bt⟩:=ce3 Aq;obtain ⟨Ai,Aj⟩:=ce2 Aa;obtain ⟨Ak,Al⟩:=ce2 Ab;obtain ⟨Am,An⟩:=ce2 Ac;obtain ⟨Ao,Ap⟩:=ce2 Ad;clear hk)
 refine wp_alloc1 (fun w1 Dj hk=>?_)
 clear Br Bs Bt Ai Aj Ak Al Am An Ao Ap
 replace Aq:=zB hk Aq
 replace Aa:=zB hk Aa
 replace Ab:=zB hk Ab
 replace Ac:=zB hk Ac
 replace Ad:=zB hk Ad
 obtain ⟨Br,Bs,Bt⟩:=ce3 Aq
 obtain ⟨Ai,Aj⟩:=ce2 Aa
 obtain ⟨Ak,Al⟩:=ce2 Ab
 obtain ⟨Am,An⟩:=ce2 Ac
 obtain ⟨Ao,Ap⟩:=ce2 Ad
 replace hb:=hb.trans (hk.mono hb.size)
 clear hk
 obtain ⟨Dn,Do,Dp⟩:=ce3 Dj
 go_wp2
 first | go_ret | go_ret2 | go_ret3
 exact ⟨rfl,hb⟩
theorem linesE_0e  (i0 g0 i1 g1 i2 g2 i3 g3 i4 g4 i5 g5 i6 g6 i7 g7 i8 g8 i9 g9 i10 g10 i11 g11:Int) (p0 p1 p2 p3 p4 p5 p6 p7 p8 p9 p10 p11:Rat) (k0:SmallIs i0 g0 p0) (k1:SmallIs i1 g1 p1) (k2:SmallIs i2 g2 p2) (k3:SmallIs i3 g3 p3) (k4:SmallIs i4 g4 p4) (k5:SmallIs i5 g5 p5) (k6:SmallIs i6 g6 p6) (k7:SmallIs i7 g7 p7) (k8:SmallIs i8 g8 p8) (k9:SmallIs i9 g9 p9) (k10:SmallIs i10 g10 p10) (k11:SmallIs i11 g11 p11) (q0:p0≠p3) (q1:p6=p9) (q2:p7=p10) (w:World) (R:EnvV w) :
   Calls Tryz.prog 8 #[.agg #[.int .i16 i0,.int .u8 g0,.int .i16 i1,.int .u8 g1,.int .i16 i2,.int .u8 g2,.int .i16 i3,.int .u8 g3,.int .i16 i4,.int .u8 g4,.int .i16 i5,.int .u8 g5],.agg #[.int .i16 i6,.int .u8 g6,.int .i16 i7,.int .u8 g7,.int .i16 i8,.int .u8 g8,.int .i16 i9,.int .u8 g9,.int .i16 i10,.int .u8 g10,.int .i16 i11,.int .u8 g11]] w (Ret w (.bool true)):=by
 have Bu:=RN_sub (N:=8) k0.rn k3.rn
 have Bw:=Bu.rl (K:=40000)
 have Bg:=RN_sub (N:=8) k1.rn k4.rn
 have Ar:=RN_mul Bg k0.rn
 have Bh:RN (-(p0 - p3)) 9 6:=(RN_neg Bu)
 have Bv:=RN_add (N:=15) rn_0 Ar
 have Bi:=RN_mul Bh k1.rn
 have Bx:=RN_add (N:=25) Bv Bi
 have By:=RN_mul rn_m1 rn_0
 have Bz:=RN_add (N:=23) Ar Bi
 have B0:=RN_sub (N:=25) Bz rn_0
 have B1:=RN_sub (N:=8) k3.rn k0.rn
 have B2:=RN_mul B1 k1.rn
 have Ci:=RN_add (N:=23) Ar B2
 have c1:=known5_any
 have c2:=makeP i0 g0 i1 g1 i2 g2 p0 p1 p2 k0 k1 k2
 have c3:=makeP i3 g3 i4 g4 i5 g5 p3 p4 p5 k3 k4 k5
 have c4:=makeP i6 g6 i7 g7 i8 g8 p6 p7 p8 k6 k7 k8
 have c5:=makeP i9 g9 i10 g10 i11 g11 p9 p10 p11 k9 k10 k11
 have c6:=through_0 p0 p1 p3 p4 q0 k0.rn.r2 k1.rn.r2 k3.rn.r2 k4.rn.r2 k0.rn.rm k3.rn.rm k1.rn.rm k4.rn.rm Bw Bg.rm Ar.rm Bh.rm Bv.rm Bi.rm Bx.rm By.rm Bg.r2 Bh.r2 B0.r2
 have c7:=through_2 p6 p7 p9 p10 q1 q2 k6.rn.r2 k7.rn.r2 k9.rn.r2 k10.rn.r2
 have eq0:((ratB p0).toList == (ratB p3).toList)=false:=beq_eq_false_iff_ne.2 (fun g=>q0 (ratB_li g))
 have pq0:¬ (ratB p0).toList=(ratB p3).toList:=fun g=>q0 (ratB_li g)
 have eq1:((ratB p6).toList == (ratB p9).toList)=true:=by rw [q1];exact beq_self_eq_true _
 have pq1:(ratB p6).toList=(ratB p9).toList:=by rw [q1]
 have eq2:((ratB p7).toList == (ratB p10).toList)=true:=by rw [q2];exact beq_self_eq_true _
 have pq2:(ratB p7).toList=(ratB p10).toList:=by rw [q2]
 obtain ⟨Dk,B3⟩:∃ vq,ratB (((p1 - p4)*p0)+((p3 - p0)*p1))=vq:=⟨_,rfl⟩
 obtain ⟨Dl,B4⟩:∃ vq,ratB (p1 - p4)=vq:=⟨_,rfl⟩
 obtain ⟨Dm,B5⟩:∃ vq,ratB (p3 - p0)=vq:=⟨_,rfl⟩
 obtain ⟨Bj,B6⟩:∃ vq,ratB p10=vq:=⟨_,rfl⟩
 obtain ⟨Bk,B7⟩:∃ vq,ratB p0=vq:=⟨_,rfl⟩
 obtain ⟨Bl,B8⟩:∃ vq,ratB p1=vq:=⟨_,rfl⟩
 obtain ⟨Bm,B9⟩:∃ vq,ratB p3=vq:=⟨_,rfl⟩
 obtain ⟨Bn,Ca⟩:∃ vq,ratB p4=vq:=⟨_,rfl⟩
 obtain ⟨Bo,Cb⟩:∃ vq,ratB p6=vq:=⟨_,rfl⟩
 obtain ⟨Bp,Cc⟩:∃ vq,ratB p7=vq:=⟨_,rfl⟩
 obtain ⟨Bq,Cd⟩:∃ vq,ratB p9=vq:=⟨_,rfl⟩
 try simp only [B3,B4,B5,B6,B7,B8,B9,Ca,Cb,Cc,Cd] at c1 c2 c3 c4 c5 c6 c7 eq0 pq0 eq1 pq1 eq2 pq2 ⊢
 have C1:=Lib.hid c1
 have C2:=Lib.hid c2
 have C3:=Lib.hid c3
 have C4:=Lib.hid c4
 have C5:=Lib.hid c5
 have C6:=Lib.hid c6
 have C7:=Lib.hid c7
 clear c1 c2 c3 c4 c5 c6 c7 B3 B4 B5 B6 B7 B8 B9 Ca Cb Cc Cd Bu Bw Bg Ar Bh Bv Bi Bx By Bz B0 B1 B2 Ci k0 k1 k2 k3 k4 k5 k6 k7 k8 k9 k10 k11 q0 q1 q2
 have hb:=Below.refl w.heap.size w
 go_enter Tryz.func8,Tryz.ntmps8
 go_upto_region 1 with fail
 refine wp_alloc2 (fun w1 a0 a1 hk=>?_)
 replace hb:=hb.trans (hk.mono hb.size)
 clear hk
 obtain ⟨As,At,Au,Av,Aw,Ax,Ay,Az,A0,A1,A2,A3⟩:=ce12 a0
 obtain ⟨A4,A5,A6,A7,A8,A9,Ba,Bb,Bc,Bd,Be,Bf⟩:=ce12 a1
 go_upto_region 3 with (go_at_call 13;with_reducible refine (chVB hb R C1).mono ?_;clear hb;rintro e w1 ⟨rfl,hk,hb⟩;clear As At Au Av Aw Ax Ay Az A0 A1 A2 A3 A4 A5 A6 A7 A8 A9 Ba Bb Bc Bd Be Bf;replace a0:=zB hk a0;replace a1:=zB hk a1;obtain ⟨As,At,Au,Av,Aw,Ax,Ay,Az,A0,A1,A2,A3⟩:=ce12 a0;obtain ⟨A4,A5,A6,A7,A8,A9,Ba,Bb,Bc,Bd,Be,Bf⟩:=ce12 a1;clear hk)
 obtain ⟨Cj,Ck,Cm,Cn,Co,Cp,Cq,Cr,Cs,Ct,Cu,Cv⟩:=cy12 a0
 obtain ⟨Cw,Cx,Cy,Cz,C0,C8,C9,Da,Db,Dc,Dd,De⟩:=cy12 a1
 have Df:=rrV C2 R hb
 have Dg:=rrV C3 R hb
 have Dh:=rrV C4 R hb
 have Di:=rrV C5 R hb
 have Ce:=qqV C2 R hb
 have Cf:=qqV C3 R hb
 have Cg:=qqV C4 R hb
 have Ch:=qqV C5 R hb
 refine wp_free4 12 0 (fun i=>if i=12 then Obj.cells #[Value.string ⟨#[]⟩,Value.string ⟨#[]⟩] 30 else if i=13 then Obj.cells #[Value.string ⟨#[]⟩,Value.string ⟨#[]⟩] 30 else if i=14 then Obj.cells #[Value.string ⟨#[]⟩,Value.string ⟨#[]⟩] 30 else if i=15 then Obj.cells #[Value.string ⟨#[]⟩,Value.string ⟨#[]⟩] 30 else Obj.cells #[] 0) (fun i=>if i=12 then Obj.cells #[Value.string Bk,Value.string Bl] 30 else if i=13 then Obj.cells #[Value.string Bm,Value.string Bn] 30 else if i=14 then Obj.cells #[Value.string Bo,Value.string Bp] 30 else if i=15 then Obj.cells #[Value.string Bq,Value.string Bj] 30 else Obj.cells #[] 0) (some 5) (some 6) (some 7) (some 8) (by first | assumption | kernel_rfl) (by kernel_rfl) ?lay rfl rfl rfl rfl ?_
 case lay =>
   intro i h1 h2
   obtain rfl | rfl | rfl | rfl:i=12∨i=13∨i=14∨i=15:=by omega
   all_goals exact ⟨_,rfl,rfl,fun a w=>(by first | (go_simp;done) | (go_simp;rfl))⟩
 simp only [List.take_succ_cons,List.take_zero]
 repeat (refine wpB_step (fun K hK=>?_);go_simp;first | (refine hK _ ?_;clear hK K) | (apply Exists.intro;refine ⟨fun _=>?_,hK _ ?_⟩;(first | (with_reducible exact Ce.out _ _) | (with_reducible exact Cf.out _ _) | (with_reducible exact Cg.out _ _) | (with_reducible exact Ch.out _ _));clear hK K))
 refine wpB_nil ?_
 intro Ae Af Ag Ah
 refine ⟨?_,?_,?_,?_,?_⟩
 · refine ⟨_,rfl,rfl,rfl,fun cs b h=>(by cases h),fun w hw=>?_⟩
   replace hw:w.heap[Ae]? = some (Obj.cells #[Value.string ⟨#[]⟩,Value.string ⟨#[]⟩] 30):=hw
   have z0:w.cell? ⟨Ae,0,none⟩=some (Value.string ⟨#[]⟩):=zA hw
   have y0:w.frozen? ⟨Ae,0,none⟩=false:=zD hw
   have z1:w.cell? ⟨Ae,1,none⟩=some (Value.string ⟨#[]⟩):=zA hw
   have y1:w.frozen? ⟨Ae,1,none⟩=false:=zD hw
   refine ⟨_,?_,(Wrote.set (i:=1) (Wrote.set (i:=0) (Wrote.refl hw) (Value.string Bk)) (Value.string Bl))⟩
   go_simp
 · refine ⟨_,rfl,rfl,rfl,fun cs b h=>(by cases h),fun w hw=>?_⟩
   replace hw:w.heap[Af]? = some (Obj.cells #[Value.string ⟨#[]⟩,Value.string ⟨#[]⟩] 30):=hw
   have z0:w.cell? ⟨Af,0,none⟩=some (Value.string ⟨#[]⟩):=zA hw
   have y0:w.frozen? ⟨Af,0,none⟩=false:=zD hw
   have z1:w.cell? ⟨Af,1,none⟩=some (Value.string ⟨#[]⟩):=zA hw
   have y1:w.frozen? ⟨Af,1,none⟩=false:=zD hw
   refine ⟨_,?_,(Wrote.set (i:=1) (Wrote.set (i:=0) (Wrote.refl hw) (Value.string Bm)) (Value.string Bn))⟩
   go_simp
 · refine ⟨_,rfl,rfl,rfl,fun cs b h=>(by cases h),fun w hw=>?_⟩
   replace hw:w.heap[Ag]? = some (Obj.cells #[Value.string ⟨#[]⟩,Value.string ⟨#[]⟩] 30):=hw
   have z0:w.cell? ⟨Ag,0,none⟩=some (Value.string ⟨#[]⟩):=zA hw
   have y0:w.frozen? ⟨Ag,0,none⟩=false:=zD hw
   have z1:w.cell? ⟨Ag,1,none⟩=some (Value.string ⟨#[]⟩):=zA hw
   have y1:w.frozen? ⟨Ag,1,none⟩=false:=zD hw
   refine ⟨_,?_,(Wrote.set (i:=1) (Wrote.set (i:=0) (Wrote.refl hw) (Value.string Bo)) (Value.string Bp))⟩
   go_simp
 · refine ⟨_,rfl,rfl,rfl,fun cs b h=>(by cases h),fun w hw=>?_⟩
   replace hw:w.heap[Ah]? = some (Obj.cells #[Value.string ⟨#[]⟩,Value.string ⟨#[]⟩] 30):=hw
   have z0:w.cell? ⟨Ah,0,none⟩=some (Value.string ⟨#[]⟩):=zA hw
   have y0:w.frozen? ⟨Ah,0,none⟩=false:=zD hw
   have z1:w.cell? ⟨Ah,1,none⟩=some (Value.string ⟨#[]⟩):=zA hw
   have y1:w.frozen? ⟨Ah,1,none⟩=false:=zD hw
   refine ⟨_,?_,(Wrote.set (i:=1) (Wrote.set (i:=0) (Wrote.refl hw) (Value.string Bq)) (Value.string Bj))⟩
   go_simp
 intro w1 hk m0 m1 m2 m3 Aa Ab Ac Ad _ _ _ _ _ _
 clear As At Au Av Aw Ax Ay Az A0 A1 A2 A3 A4 A5 A6 A7 A8 A9 Ba Bb Bc Bd Be Bf
 replace a0:=zB hk a0
 replace a1:=zB hk a1
 obtain ⟨As,At,Au,Av,Aw,Ax,Ay,Az,A0,A1,A2,A3⟩:=ce12 a0
 obtain ⟨A4,A5,A6,A7,A8,A9,Ba,Bb,Bc,Bd,Be,Bf⟩:=ce12 a1
 replace hb:=hb.trans (hk.mono hb.size)
 clear hk
 replace Aa:w1.heap[Ae]? = some (Obj.cells #[Value.string Bk,Value.string Bl] 30):=Aa
 have Ai:w1.cell? ⟨Ae,0,none⟩=some (Value.string Bk):=zA Aa
 have Aj:w1.cell? ⟨Ae,1,none⟩=some (Value.string Bl):=zA Aa
 replace Ab:w1.heap[Af]? = some (Obj.cells #[Value.string Bm,Value.string Bn] 30):=Ab
 have Ak:w1.cell? ⟨Af,0,none⟩=some (Value.string Bm):=zA Ab
 have Al:w1.cell? ⟨Af,1,none⟩=some (Value.string Bn):=zA Ab
 replace Ac:w1.heap[Ag]? = some (Obj.cells #[Value.string Bo,Value.string Bp] 30):=Ac
 have Am:w1.cell? ⟨Ag,0,none⟩=some (Value.string Bo):=zA Ac
 have An:w1.cell? ⟨Ag,1,none⟩=some (Value.string Bp):=zA Ac
 replace Ad:w1.heap[Ah]? = some (Obj.cells #[Value.string Bq,Value.string Bj] 30):=Ad
 have Ao:w1.cell? ⟨Ah,0,none⟩=some (Value.string Bq):=zA Ad
 have Ap:w1.cell? ⟨Ah,1,none⟩=some (Value.string Bj):=zA Ad
 clear Ce Cf Cg Ch Df Dg Dh Di Cj Ck Cm Cn Co Cp Cq Cr Cs Ct Cu Cv Cw Cx Cy Cz C0 C8 C9 Da Db Dc Dd De m0 m1 m2 m3
 go_upto_region 5 with (go_at_call 54;with_reducible refine (chVB hb R C6).mono ?_;clear hb;rintro e w1 ⟨rfl,hk,hb⟩;clear Ai Aj Ak Al Am An Ao Ap;replace Aa:=zB hk Aa;replace Ab:=zB hk Ab;replace Ac:=zB hk Ac;replace Ad:=zB hk Ad;obtain ⟨Ai,Aj⟩:=ce2 Aa;obtain ⟨Ak,Al⟩:=ce2 Ab;obtain ⟨Am,An⟩:=ce2 Ac;obtain ⟨Ao,Ap⟩:=ce2 Ad;clear hk)
 clear As At Au Av Aw Ax Ay Az A0 A1 A2 A3 a0 A4 A5 A6 A7 A8 A9 Ba Bb Bc Bd Be Bf a1
 refine wp_alloc1 (fun w1 Aq hk=>?_)
 clear Ai Aj Ak Al Am An Ao Ap
 replace Aa:=zB hk Aa
 replace Ab:=zB hk Ab
 replace Ac:=zB hk Ac
 replace Ad:=zB hk Ad
 obtain ⟨Ai,Aj⟩:=ce2 Aa
 obtain ⟨Ak,Al⟩:=ce2 Ab
 obtain ⟨Am,An⟩:=ce2 Ac
 obtain ⟨Ao,Ap⟩:=ce2 Ad
 replace hb:=hb.trans (hk.mono hb.size)
 clear hk
 obtain ⟨Br,Bs,Bt⟩:=ce3 Aq
 go_upto_region 6 with (go_at_call 54;with_reducible refine (chVB hb R C7).mono ?_;clear hb;rintro e w1 ⟨rfl,hk,hb⟩;clear Br Bs Bt Ai Aj Ak Al Am An Ao Ap;replace Aq:=zB hk Aq;replace Aa:=zB hk Aa;replace Ab:=zB hk Ab;replace Ac:=zB hk Ac;replace Ad:=zB hk Ad;obtain ⟨Br,Bs,Bt⟩:=ce3 Aq;obtain ⟨Ai,Aj⟩:=ce2 Aa;obtain ⟨Ak,Al⟩:=ce2 Ab;obtain ⟨Am,An⟩:=ce2 Ac;obtain ⟨Ao,Ap⟩:=ce2 Ad;clear hk)
 refine wp_alloc1 (fun w1 Dj hk=>?_)
 clear Br Bs Bt Ai Aj Ak Al Am An Ao Ap
 replace Aq:=zB hk Aq
 replace Aa:=zB hk Aa
 replace Ab:=zB hk Ab
 replace Ac:=zB hk Ac
 replace Ad:=zB hk Ad
 obtain ⟨Br,Bs,Bt⟩:=ce3 Aq
 obtain ⟨Ai,Aj⟩:=ce2 Aa
 obtain ⟨Ak,Al⟩:=ce2 Ab
 obtain ⟨Am,An⟩:=ce2 Ac
 obtain ⟨Ao,Ap⟩:=ce2 Ad
 replace hb:=hb.trans (hk.mono hb.size)
 clear hk
 obtain ⟨Dn,Do,Dp⟩:=ce3 Dj
 go_wp2
 first | go_ret | go_ret2 | go_ret3
 exact ⟨rfl,hb⟩
theorem linesE_1e  (i0 g0 i1 g1 i2 g2 i3 g3 i4 g4 i5 g5 i6 g6 i7 g7 i8 g8 i9 g9 i10 g10 i11 g11:Int) (p0 p1 p2 p3 p4 p5 p6 p7 p8 p9 p10 p11:Rat) (k0:SmallIs i0 g0 p0) (k1:SmallIs i1 g1 p1) (k2:SmallIs i2 g2 p2) (k3:SmallIs i3 g3 p3) (k4:SmallIs i4 g4 p4) (k5:SmallIs i5 g5 p5) (k6:SmallIs i6 g6 p6) (k7:SmallIs i7 g7 p7) (k8:SmallIs i8 g8 p8) (k9:SmallIs i9 g9 p9) (k10:SmallIs i10 g10 p10) (k11:SmallIs i11 g11 p11) (q0:p0=p3) (q1:p1≠p4) (q2:p6=p9) (q3:p7=p10) (w:World) (R:EnvV w) :
   Calls Tryz.prog 8 #[.agg #[.int .i16 i0,.int .u8 g0,.int .i16 i1,.int .u8 g1,.int .i16 i2,.int .u8 g2,.int .i16 i3,.int .u8 g3,.int .i16 i4,.int .u8 g4,.int .i16 i5,.int .u8 g5],.agg #[.int .i16 i6,.int .u8 g6,.int .i16 i7,.int .u8 g7,.int .i16 i8,.int .u8 g8,.int .i16 i9,.int .u8 g9,.int .i16 i10,.int .u8 g10,.int .i16 i11,.int .u8 g11]] w (Ret w (.bool true)):=by
 have Bu:=RN_sub (N:=8) k0.rn k3.rn
 have Bw:=Bu.rl (K:=40000)
 have Bg:=RN_sub (N:=8) k1.rn k4.rn
 have Ar:=RN_mul Bg k0.rn
 have Bh:RN (-(p0 - p3)) 9 6:=(RN_neg Bu)
 have Bv:=RN_add (N:=15) rn_0 Ar
 have Bi:=RN_mul Bh k1.rn
 have Bx:=RN_add (N:=25) Bv Bi
 have By:=RN_mul rn_m1 rn_0
 have Bz:=RN_add (N:=23) Ar Bi
 have B0:=RN_sub (N:=25) Bz rn_0
 have B1:=RN_sub (N:=8) k3.rn k0.rn
 have B2:=RN_mul B1 k1.rn
 have Ci:=RN_add (N:=23) Ar B2
 have c1:=known5_any
 have c2:=makeP i0 g0 i1 g1 i2 g2 p0 p1 p2 k0 k1 k2
 have c3:=makeP i3 g3 i4 g4 i5 g5 p3 p4 p5 k3 k4 k5
 have c4:=makeP i6 g6 i7 g7 i8 g8 p6 p7 p8 k6 k7 k8
 have c5:=makeP i9 g9 i10 g10 i11 g11 p9 p10 p11 k9 k10 k11
 have c6:=through_1 p0 p1 p3 p4 q0 q1 k0.rn.r2 k1.rn.r2 k3.rn.r2 k4.rn.r2 k0.rn.rm k3.rn.rm k1.rn.rm k4.rn.rm Bw Bg.rm Ar.rm Bh.rm Bv.rm Bi.rm Bx.rm By.rm Bg.r2 Bh.r2 B0.r2
 have c7:=through_2 p6 p7 p9 p10 q2 q3 k6.rn.r2 k7.rn.r2 k9.rn.r2 k10.rn.r2
 have eq0:((ratB p0).toList == (ratB p3).toList)=true:=by rw [q0];exact beq_self_eq_true _
 have pq0:(ratB p0).toList=(ratB p3).toList:=by rw [q0]
 have eq1:((ratB p1).toList == (ratB p4).toList)=false:=beq_eq_false_iff_ne.2 (fun g=>q1 (ratB_li g))
 have pq1:¬ (ratB p1).toList=(ratB p4).toList:=fun g=>q1 (ratB_li g)
 have eq2:((ratB p6).toList == (ratB p9).toList)=true:=by rw [q2];exact beq_self_eq_true _
 have pq2:(ratB p6).toList=(ratB p9).toList:=by rw [q2]
 have eq3:((ratB p7).toList == (ratB p10).toList)=true:=by rw [q3];exact beq_self_eq_true _
 have pq3:(ratB p7).toList=(ratB p10).toList:=by rw [q3]
 obtain ⟨Dk,B3⟩:∃ vq,ratB (((p1 - p4)*p0)+((p3 - p0)*p1))=vq:=⟨_,rfl⟩
 obtain ⟨Dl,B4⟩:∃ vq,ratB (p1 - p4)=vq:=⟨_,rfl⟩
 obtain ⟨Dm,B5⟩:∃ vq,ratB (p3 - p0)=vq:=⟨_,rfl⟩
 obtain ⟨Bj,B6⟩:∃ vq,ratB p10=vq:=⟨_,rfl⟩
 obtain ⟨Bk,B7⟩:∃ vq,ratB p0=vq:=⟨_,rfl⟩
 obtain ⟨Bl,B8⟩:∃ vq,ratB p1=vq:=⟨_,rfl⟩
 obtain ⟨Bm,B9⟩:∃ vq,ratB p3=vq:=⟨_,rfl⟩
 obtain ⟨Bn,Ca⟩:∃ vq,ratB p4=vq:=⟨_,rfl⟩
 obtain ⟨Bo,Cb⟩:∃ vq,ratB p6=vq:=⟨_,rfl⟩
 obtain ⟨Bp,Cc⟩:∃ vq,ratB p7=vq:=⟨_,rfl⟩
 obtain ⟨Bq,Cd⟩:∃ vq,ratB p9=vq:=⟨_,rfl⟩
 try simp only [B3,B4,B5,B6,B7,B8,B9,Ca,Cb,Cc,Cd] at c1 c2 c3 c4 c5 c6 c7 eq0 pq0 eq1 pq1 eq2 pq2 eq3 pq3 ⊢
 have C1:=Lib.hid c1
 have C2:=Lib.hid c2
 have C3:=Lib.hid c3
 have C4:=Lib.hid c4
 have C5:=Lib.hid c5
 have C6:=Lib.hid c6
 have C7:=Lib.hid c7
 clear c1 c2 c3 c4 c5 c6 c7 B3 B4 B5 B6 B7 B8 B9 Ca Cb Cc Cd Bu Bw Bg Ar Bh Bv Bi Bx By Bz B0 B1 B2 Ci k0 k1 k2 k3 k4 k5 k6 k7 k8 k9 k10 k11 q0 q1 q2 q3
 have hb:=Below.refl w.heap.size w
 go_enter Tryz.func8,Tryz.ntmps8
 go_upto_region 1 with fail
 refine wp_alloc2 (fun w1 a0 a1 hk=>?_)
 replace hb:=hb.trans (hk.mono hb.size)
 clear hk
 obtain ⟨As,At,Au,Av,Aw,Ax,Ay,Az,A0,A1,A2,A3⟩:=ce12 a0
 obtain ⟨A4,A5,A6,A7,A8,A9,Ba,Bb,Bc,Bd,Be,Bf⟩:=ce12 a1
 go_upto_region 3 with (go_at_call 13;with_reducible refine (chVB hb R C1).mono ?_;clear hb;rintro e w1 ⟨rfl,hk,hb⟩;clear As At Au Av Aw Ax Ay Az A0 A1 A2 A3 A4 A5 A6 A7 A8 A9 Ba Bb Bc Bd Be Bf;replace a0:=zB hk a0;replace a1:=zB hk a1;obtain ⟨As,At,Au,Av,Aw,Ax,Ay,Az,A0,A1,A2,A3⟩:=ce12 a0;obtain ⟨A4,A5,A6,A7,A8,A9,Ba,Bb,Bc,Bd,Be,Bf⟩:=ce12 a1;clear hk)
 obtain ⟨Cj,Ck,Cm,Cn,Co,Cp,Cq,Cr,Cs,Ct,Cu,Cv⟩:=cy12 a0
 obtain ⟨Cw,Cx,Cy,Cz,C0,C8,C9,Da,Db,Dc,Dd,De⟩:=cy12 a1
 have Df:=rrV C2 R hb
 have Dg:=rrV C3 R hb
 have Dh:=rrV C4 R hb
 have Di:=rrV C5 R hb
 have Ce:=qqV C2 R hb
 have Cf:=qqV C3 R hb
 have Cg:=qqV C4 R hb
 have Ch:=qqV C5 R hb
 refine wp_free4 12 0 (fun i=>if i=12 then Obj.cells #[Value.string ⟨#[]⟩,Value.string ⟨#[]⟩] 30 else if i=13 then Obj.cells #[Value.string ⟨#[]⟩,Value.string ⟨#[]⟩] 30 else if i=14 then Obj.cells #[Value.string ⟨#[]⟩,Value.string ⟨#[]⟩] 30 else if i=15 then Obj.cells #[Value.string ⟨#[]⟩,Value.string ⟨#[]⟩] 30 else Obj.cells #[] 0) (fun i=>if i=12 then Obj.cells #[Value.string Bk,Value.string Bl] 30 else if i=13 then Obj.cells #[Value.string Bm,Value.string Bn] 30 else if i=14 then Obj.cells #[Value.string Bo,Value.string Bp] 30 else if i=15 then Obj.cells #[Value.string Bq,Value.string Bj] 30 else Obj.cells #[] 0) (some 5) (some 6) (some 7) (some 8) (by first | assumption | kernel_rfl) (by kernel_rfl) ?lay rfl rfl rfl rfl ?_
 case lay =>
   intro i h1 h2
   obtain rfl | rfl | rfl | rfl:i=12∨i=13∨i=14∨i=15:=by omega
   all_goals exact ⟨_,rfl,rfl,fun a w=>(by first | (go_simp;done) | (go_simp;rfl))⟩
 simp only [List.take_succ_cons,List.take_zero]
 repeat (refine wpB_step (fun K hK=>?_);go_simp;first | (refine hK _ ?_;clear hK K) | (apply Exists.intro;refine ⟨fun _=>?_,hK _ ?_⟩;(first | (with_reducible exact Ce.out _ _) | (with_reducible exact Cf.out _ _) | (with_reducible exact Cg.out _ _) | (with_reducible exact Ch.out _ _));clear hK K))
 refine wpB_nil ?_
 intro Ae Af Ag Ah
 refine ⟨?_,?_,?_,?_,?_⟩
 · refine ⟨_,rfl,rfl,rfl,fun cs b h=>(by cases h),fun w hw=>?_⟩
   replace hw:w.heap[Ae]? = some (Obj.cells #[Value.string ⟨#[]⟩,Value.string ⟨#[]⟩] 30):=hw
   have z0:w.cell? ⟨Ae,0,none⟩=some (Value.string ⟨#[]⟩):=zA hw
   have y0:w.frozen? ⟨Ae,0,none⟩=false:=zD hw
   have z1:w.cell? ⟨Ae,1,none⟩=some (Value.string ⟨#[]⟩):=zA hw
   have y1:w.frozen? ⟨Ae,1,none⟩=false:=zD hw
   refine ⟨_,?_,(Wrote.set (i:=1) (Wrote.set (i:=0) (Wrote.refl hw) (Value.string Bk)) (Value.string Bl))⟩
   go_simp
 · refine ⟨_,rfl,rfl,rfl,fun cs b h=>(by cases h),fun w hw=>?_⟩
   replace hw:w.heap[Af]? = some (Obj.cells #[Value.string ⟨#[]⟩,Value.string ⟨#[]⟩] 30):=hw
   have z0:w.cell? ⟨Af,0,none⟩=some (Value.string ⟨#[]⟩):=zA hw
   have y0:w.frozen? ⟨Af,0,none⟩=false:=zD hw
   have z1:w.cell? ⟨Af,1,none⟩=some (Value.string ⟨#[]⟩):=zA hw
   have y1:w.frozen? ⟨Af,1,none⟩=false:=zD hw
   refine ⟨_,?_,(Wrote.set (i:=1) (Wrote.set (i:=0) (Wrote.refl hw) (Value.string Bm)) (Value.string Bn))⟩
   go_simp
 · refine ⟨_,rfl,rfl,rfl,fun cs b h=>(by cases h),fun w hw=>?_⟩
   replace hw:w.heap[Ag]? = some (Obj.cells #[Value.string ⟨#[]⟩,Value.string ⟨#[]⟩] 30):=hw
   have z0:w.cell? ⟨Ag,0,none⟩=some (Value.string ⟨#[]⟩):=zA hw
   have y0:w.frozen? ⟨Ag,0,none⟩=false:=zD hw
   have z1:w.cell? ⟨Ag,1,none⟩=some (Value.string ⟨#[]⟩):=zA hw
   have y1:w.frozen? ⟨Ag,1,none⟩=false:=zD hw
   refine ⟨_,?_,(Wrote.set (i:=1) (Wrote.set (i:=0) (Wrote.refl hw) (Value.string Bo)) (Value.string Bp))⟩
   go_simp
 · refine ⟨_,rfl,rfl,rfl,fun cs b h=>(by cases h),fun w hw=>?_⟩
   replace hw:w.heap[Ah]? = some (Obj.cells #[Value.string ⟨#[]⟩,Value.string ⟨#[]⟩] 30):=hw
   have z0:w.cell? ⟨Ah,0,none⟩=some (Value.string ⟨#[]⟩):=zA hw
   have y0:w.frozen? ⟨Ah,0,none⟩=false:=zD hw
   have z1:w.cell? ⟨Ah,1,none⟩=some (Value.string ⟨#[]⟩):=zA hw
   have y1:w.frozen? ⟨Ah,1,none⟩=false:=zD hw
   refine ⟨_,?_,(Wrote.set (i:=1) (Wrote.set (i:=0) (Wrote.refl hw) (Value.string Bq)) (Value.string Bj))⟩
   go_simp
 intro w1 hk m0 m1 m2 m3 Aa Ab Ac Ad _ _ _ _ _ _
 clear As At Au Av Aw Ax Ay Az A0 A1 A2 A3 A4 A5 A6 A7 A8 A9 Ba Bb Bc Bd Be Bf
 replace a0:=zB hk a0
 replace a1:=zB hk a1
 obtain ⟨As,At,Au,Av,Aw,Ax,Ay,Az,A0,A1,A2,A3⟩:=ce12 a0
 obtain ⟨A4,A5,A6,A7,A8,A9,Ba,Bb,Bc,Bd,Be,Bf⟩:=ce12 a1
 replace hb:=hb.trans (hk.mono hb.size)
 clear hk
 replace Aa:w1.heap[Ae]? = some (Obj.cells #[Value.string Bk,Value.string Bl] 30):=Aa
 have Ai:w1.cell? ⟨Ae,0,none⟩=some (Value.string Bk):=zA Aa
 have Aj:w1.cell? ⟨Ae,1,none⟩=some (Value.string Bl):=zA Aa
 replace Ab:w1.heap[Af]? = some (Obj.cells #[Value.string Bm,Value.string Bn] 30):=Ab
 have Ak:w1.cell? ⟨Af,0,none⟩=some (Value.string Bm):=zA Ab
 have Al:w1.cell? ⟨Af,1,none⟩=some (Value.string Bn):=zA Ab
 replace Ac:w1.heap[Ag]? = some (Obj.cells #[Value.string Bo,Value.string Bp] 30):=Ac
 have Am:w1.cell? ⟨Ag,0,none⟩=some (Value.string Bo):=zA Ac
 have An:w1.cell? ⟨Ag,1,none⟩=some (Value.string Bp):=zA Ac
 replace Ad:w1.heap[Ah]? = some (Obj.cells #[Value.string Bq,Value.string Bj] 30):=Ad
 have Ao:w1.cell? ⟨Ah,0,none⟩=some (Value.string Bq):=zA Ad
 have Ap:w1.cell? ⟨Ah,1,none⟩=some (Value.string Bj):=zA Ad
 clear Ce Cf Cg Ch Df Dg Dh Di Cj Ck Cm Cn Co Cp Cq Cr Cs Ct Cu Cv Cw Cx Cy Cz C0 C8 C9 Da Db Dc Dd De m0 m1 m2 m3
 go_upto_region 5 with (go_at_call 54;with_reducible refine (chVB hb R C6).mono ?_;clear hb;rintro e w1 ⟨rfl,hk,hb⟩;clear Ai Aj Ak Al Am An Ao Ap;replace Aa:=zB hk Aa;replace Ab:=zB hk Ab;replace Ac:=zB hk Ac;replace Ad:=zB hk Ad;obtain ⟨Ai,Aj⟩:=ce2 Aa;obtain ⟨Ak,Al⟩:=ce2 Ab;obtain ⟨Am,An⟩:=ce2 Ac;obtain ⟨Ao,Ap⟩:=ce2 Ad;clear hk)
 clear As At Au Av Aw Ax Ay Az A0 A1 A2 A3 a0 A4 A5 A6 A7 A8 A9 Ba Bb Bc Bd Be Bf a1
 refine wp_alloc1 (fun w1 Aq hk=>?_)
 clear Ai Aj Ak Al Am An Ao Ap
 replace Aa:=zB hk Aa
 replace Ab:=zB hk Ab
 replace Ac:=zB hk Ac
 replace Ad:=zB hk Ad
 obtain ⟨Ai,Aj⟩:=ce2 Aa
 obtain ⟨Ak,Al⟩:=ce2 Ab
 obtain ⟨Am,An⟩:=ce2 Ac
 obtain ⟨Ao,Ap⟩:=ce2 Ad
 replace hb:=hb.trans (hk.mono hb.size)
 clear hk
 obtain ⟨Br,Bs,Bt⟩:=ce3 Aq
 go_upto_region 6 with (go_at_call 54;with_reducible refine (chVB hb R C7).mono ?_;clear hb;rintro e w1 ⟨rfl,hk,hb⟩;clear Br Bs Bt Ai Aj Ak Al Am An Ao Ap;replace Aq:=zB hk Aq;replace Aa:=zB hk Aa;replace Ab:=zB hk Ab;replace Ac:=zB hk Ac;replace Ad:=zB hk Ad;obtain ⟨Br,Bs,Bt⟩:=ce3 Aq;obtain ⟨Ai,Aj⟩:=ce2 Aa;obtain ⟨Ak,Al⟩:=ce2 Ab;obtain ⟨Am,An⟩:=ce2 Ac;obtain ⟨Ao,Ap⟩:=ce2 Ad;clear hk)
 refine wp_alloc1 (fun w1 Dj hk=>?_)
 clear Br Bs Bt Ai Aj Ak Al Am An Ao Ap
 replace Aq:=zB hk Aq
 replace Aa:=zB hk Aa
 replace Ab:=zB hk Ab
 replace Ac:=zB hk Ac
 replace Ad:=zB hk Ad
 obtain ⟨Br,Bs,Bt⟩:=ce3 Aq
 obtain ⟨Ai,Aj⟩:=ce2 Aa
 obtain ⟨Ak,Al⟩:=ce2 Ab
 obtain ⟨Am,An⟩:=ce2 Ac
 obtain ⟨Ao,Ap⟩:=ce2 Ad
 replace hb:=hb.trans (hk.mono hb.size)
 clear hk
 obtain ⟨Dn,Do,Dp⟩:=ce3 Dj
 go_wp2
 first | go_ret | go_ret2 | go_ret3
 exact ⟨rfl,hb⟩
end Go.Proofs.YtpennccflalobaaGreatDoor.Kl
