import Derived.Test.YtpennccflalobaaGreatDoorKlVCommonVYb
namespace Go.Proofs.YtpennccflalobaaGreatDoor.Kl
open Go Go.RowKit
set_option maxRecDepth 100000
set_option maxHeartbeats 8000000
theorem lawCommon_0  (i0 g0 i1 g1 i2 g2 i3 g3 i4 g4 i5 g5 i6 g6 i7 g7:Int) (p0 p1 p2 p3 p4 p5 p6 p7:Rat) (k0:SmallIs i0 g0 p0) (k1:SmallIs i1 g1 p1) (k2:SmallIs i2 g2 p2) (k3:SmallIs i3 g3 p3) (k4:SmallIs i4 g4 p4) (k5:SmallIs i5 g5 p5) (k6:SmallIs i6 g6 p6) (k7:SmallIs i7 g7 p7) (q0:((p1*p5) - (p2*p4))≠0) (hp:¬ (p0=0∧p1=0∧p2=0)) (hq:¬ (p3=0∧p4=0∧p5=0)) (w:World) (R:EnvV w) :
   Calls Tryz.prog 11 #[.agg #[.int .i16 i0,.int .u8 g0,.int .i16 i1,.int .u8 g1,.int .i16 i2,.int .u8 g2,.int .i16 i3,.int .u8 g3,.int .i16 i4,.int .u8 g4,.int .i16 i5,.int .u8 g5],.agg #[.int .i16 i6,.int .u8 g6,.int .i16 i7,.int .u8 g7]] w (Ret w (.bool true)):=by
 have Bd:=RN_mul k1.rn k5.rn
 have Be:=RN_mul k2.rn k4.rn
 have Aw:=RN_sub (N:=16) Bd Be
 have Bf:=RN_mul k2.rn k3.rn
 have Bg:=RN_mul k0.rn k5.rn
 have Bh:=RN_mul k0.rn k4.rn
 have Bi:=RN_mul k1.rn k3.rn
 have Bs:=RN_mul k6.rn k5.rn
 have Bt:=RN_mul k2.rn k7.rn
 have Bu:=RN_sub (N:=16) Bs Bt
 have Bv:=RN_mul k1.rn k7.rn
 have Bw:=RN_mul k6.rn k4.rn
 have Bx:=RN_sub (N:=16) Bv Bw
 have Au:=RN_div Bu Aw q0
 have Av:=RN_div Bx Aw q0
 have B8:=RN_sub (N:=16) Bf Bg
 have B9:=RN_sub (N:=16) Bh Bi
 have By:=RN_mul k1.rn Au
 have Bz:=RN_mul k2.rn Av
 have B0:=RN_mul k0.rn rn_0
 have B1:=RN_add (N:=66) By Bz
 have B2:=RN_add (N:=71) B0 B1
 have Cx:=RN_sub (N:=75) B2 k6.rn
 have B3:=RN_mul k4.rn Au
 have B4:=RN_mul k5.rn Av
 have B5:=RN_mul k3.rn rn_0
 have B6:=RN_add (N:=66) B3 B4
 have B7:=RN_add (N:=71) B5 B6
 have Cy:=RN_sub (N:=75) B7 k7.rn
 have c1:=known5_any
 have c2:=makeV i0 g0 i1 g1 i2 g2 p0 p1 p2 k0 k1 k2
 have c3:=fun (w:World) (R:EnvV w)=>makeS i6 g6 p6 k6 w R.toEnvR
 have c4:=makeV i3 g3 i4 g4 i5 g5 p3 p4 p5 k3 k4 k5
 have c5:=fun (w:World) (R:EnvV w)=>makeS i7 g7 p7 k7 w R.toEnvR
 have c6:=common_0 p0 p1 p2 p6 p3 p4 p5 p7 q0 k0.rn.r2 k1.rn.r2 k2.rn.r2 k6.rn.r2 (no3 hp) k3.rn.r2 k4.rn.r2 k5.rn.r2 k7.rn.r2 (no3 hq) k1.rn.rm k5.rn.rm k2.rn.rm k4.rn.rm Bd.rm Be.rm k3.rn.rm k0.rn.rm Bf.rm Bg.rm Bh.rm Bi.rm q0 k6.rn.rm k7.rn.rm Bs.rm Bt.rm Bu.rm Aw.rm Bv.rm Bw.rm Bx.rm Au.r2 Av.r2 Aw.r2 B8.r2 B9.r2
 have c7:CV 20 #[.agg #[.string (ratB p0),.string (ratB p1),.string (ratB p2),.string (ratB p6)]] (.int .i64 0):=fun w R=>(by have h:=refCheckPlane_any p0 p1 p2 p6 k0.rn.r2 k1.rn.r2 k2.rn.r2 k6.rn.r2 w R;rw [show planeE p0 p1 p2=0 from if_neg hp] at h;exact h)
 have c8:CV 20 #[.agg #[.string (ratB p3),.string (ratB p4),.string (ratB p5),.string (ratB p7)]] (.int .i64 0):=fun w R=>(by have h:=refCheckPlane_any p3 p4 p5 p7 k3.rn.r2 k4.rn.r2 k5.rn.r2 k7.rn.r2 w R;rw [show planeE p3 p4 p5=0 from if_neg hq] at h;exact h)
 have c9:=fun (w:World) (R:EnvV w)=>firstErr2 0 0 0 (by first | decide | simp [firstNZ]) w R.toEnvR
 have c10:=fun (w:World) (R:EnvV w)=>refVCross p0 p1 p2 p3 p4 p5 k1.rn.r4 k5.rn.r4 k2.rn.r4 k4.rn.r4 Bd.r4 Be.r4 k3.rn.r4 k0.rn.r4 Bf.r4 Bg.r4 Bh.r4 Bi.r4 w R.toEnvR
 have c11:=refZero_no ((p1*p5) - (p2*p4)) ((p2*p3) - (p0*p5)) ((p0*p4) - (p1*p3))  (Or.inl q0)
 have c12:CV 64 #[.agg #[.string (ratB p0),.string (ratB p1),.string (ratB p2),.string (ratB p6)],.agg #[.string ⟨#[48]⟩,.string (ratB (((p6*p5) - (p2*p7)) / ((p1*p5) - (p2*p4)))),.string (ratB (((p1*p7) - (p6*p4)) / ((p1*p5) - (p2*p4))))]] (.string ⟨#[48]⟩):=fun w R=>(by have h:=(by have h:=refPBeyond p0 p1 p2 p6 (0:Rat) (((p6*p5) - (p2*p7)) / ((p1*p5) - (p2*p4))) (((p1*p7) - (p6*p4)) / ((p1*p5) - (p2*p4))) k0.rn.r4 (RN.rl (K:=400) rn_0) k1.rn.r4 Au.r4 k2.rn.r4 Av.r4 By.r4 Bz.r4 B0.r4 B1.r4 B2.r4 k6.rn.r4 w R.toEnvR;simp only [rb_0] at h;exact h);rw [show ((p0*(0:Rat))+((p1*(((p6*p5) - (p2*p7)) / ((p1*p5) - (p2*p4))))+(p2*(((p1*p7) - (p6*p4)) / ((p1*p5) - (p2*p4)))))) - p6=0 from by have:=q0;grind,rb_0] at h;exact h)
 have c13:CV 64 #[.agg #[.string (ratB p3),.string (ratB p4),.string (ratB p5),.string (ratB p7)],.agg #[.string ⟨#[48]⟩,.string (ratB (((p6*p5) - (p2*p7)) / ((p1*p5) - (p2*p4)))),.string (ratB (((p1*p7) - (p6*p4)) / ((p1*p5) - (p2*p4))))]] (.string ⟨#[48]⟩):=fun w R=>(by have h:=(by have h:=refPBeyond p3 p4 p5 p7 (0:Rat) (((p6*p5) - (p2*p7)) / ((p1*p5) - (p2*p4))) (((p1*p7) - (p6*p4)) / ((p1*p5) - (p2*p4))) k3.rn.r4 (RN.rl (K:=400) rn_0) k4.rn.r4 Au.r4 k5.rn.r4 Av.r4 B3.r4 B4.r4 B5.r4 B6.r4 B7.r4 k7.rn.r4 w R.toEnvR;simp only [rb_0] at h;exact h);rw [show ((p3*(0:Rat))+((p4*(((p6*p5) - (p2*p7)) / ((p1*p5) - (p2*p4))))+(p5*(((p1*p7) - (p6*p4)) / ((p1*p5) - (p2*p4)))))) - p7=0 from by have:=q0;grind,rb_0] at h;exact h)
 have eq0:((ratB ((p1*p5) - (p2*p4))).toList == [48])=false:=by rw [ratB_eq_zero];exact decide_eq_false q0
 have pq0:¬ (ratB ((p1*p5) - (p2*p4))).toList=[48]:=fun h=>q0 ((zero_iff _).1 h)
 obtain ⟨D6,Ca⟩:∃ vq,ratB (((p1*p7) - (p6*p4)) / ((p1*p5) - (p2*p4)))=vq:=⟨_,rfl⟩
 obtain ⟨D7,Cb⟩:∃ vq,ratB (((p6*p5) - (p2*p7)) / ((p1*p5) - (p2*p4)))=vq:=⟨_,rfl⟩
 obtain ⟨D8,Cc⟩:∃ vq,ratB ((p0*p4) - (p1*p3))=vq:=⟨_,rfl⟩
 obtain ⟨D9,Cd⟩:∃ vq,ratB ((p1*p5) - (p2*p4))=vq:=⟨_,rfl⟩
 obtain ⟨Fa,Ce⟩:∃ vq,ratB ((p2*p3) - (p0*p5))=vq:=⟨_,rfl⟩
 obtain ⟨Bj,Cf⟩:∃ vq,ratB p0=vq:=⟨_,rfl⟩
 obtain ⟨Bk,Cg⟩:∃ vq,ratB p1=vq:=⟨_,rfl⟩
 obtain ⟨Bl,Ch⟩:∃ vq,ratB p2=vq:=⟨_,rfl⟩
 obtain ⟨Bm,Ci⟩:∃ vq,ratB p3=vq:=⟨_,rfl⟩
 obtain ⟨Bn,Cj⟩:∃ vq,ratB p4=vq:=⟨_,rfl⟩
 obtain ⟨Bo,Ck⟩:∃ vq,ratB p5=vq:=⟨_,rfl⟩
 obtain ⟨Bp,Cm⟩:∃ vq,ratB p6=vq:=⟨_,rfl⟩
 obtain ⟨Bq,Cn⟩:∃ vq,ratB p7=vq:=⟨_,rfl⟩
 try simp only [Ca,Cb,Cc,Cd,Ce,Cf,Cg,Ch,Ci,Cj,Ck,Cm,Cn] at c1 c2 c3 c4 c5 c6 c7 c8 c9 c10 c11 c12 c13 eq0 pq0 ⊢
 have C1:=Lib.hid c1
 have C2:=Lib.hid c2
 have C3:=Lib.hid c3
 have C4:=Lib.hid c4
 have C5:=Lib.hid c5
 have C6:=Lib.hid c6
 have C7:=Lib.hid c7
 have C8:=Lib.hid c8
 have C9:=Lib.hid c9
 have C10:=Lib.hid c10
 have C11:=Lib.hid c11
 have C12:=Lib.hid c12
 have C13:=Lib.hid c13
 clear c1 c2 c3 c4 c5 c6 c7 c8 c9 c10 c11 c12 c13 Ca Cb Cc Cd Ce Cf Cg Ch Ci Cj Ck Cm Cn Bd Be Aw Bf Bg Bh Bi Bs Bt Bu Bv Bw Bx Au Av B8 B9 By Bz B0 B1 B2 Cx B3 B4 B5 B6 B7 Cy k0 k1 k2 k3 k4 k5 k6 k7 q0 hp hq
 have hb:=Below.refl w.heap.size w
 go_enter Tryz.func11,Tryz.ntmps11
 go_upto_region 1 with fail
 refine wp_alloc2 (fun w1 a0 a1 hk=>?_)
 replace hb:=hb.trans (hk.mono hb.size)
 clear hk
 obtain ⟨Ax,Ay,Az,A0,A1,A2,A3,A4,A5,A6,A7,A8⟩:=ce12 a0
 obtain ⟨A9,Ba,Bb,Bc⟩:=ce4 a1
 go_upto_region 3 with (go_at_call 13;with_reducible refine (chVB hb R C1).mono ?_;clear hb;rintro e w1 ⟨rfl,hk,hb⟩;clear Ax Ay Az A0 A1 A2 A3 A4 A5 A6 A7 A8 A9 Ba Bb Bc;replace a0:=zB hk a0;replace a1:=zB hk a1;obtain ⟨Ax,Ay,Az,A0,A1,A2,A3,A4,A5,A6,A7,A8⟩:=ce12 a0;obtain ⟨A9,Ba,Bb,Bc⟩:=ce4 a1;clear hk)
 obtain ⟨Cz,C0,Da,Db,Dc,Dd,De,Df,Dg,Dh,Di,Dj⟩:=cy12 a0
 obtain ⟨Dk,Dl,Dm,Dn⟩:=cy4 a1
 have Do:=rrV C2 R hb
 have Dp:=rrV C3 R hb
 have Dq:=rrV C4 R hb
 have Dr:=rrV C5 R hb
 have Co:=qqV C2 R hb
 have Cp:=qqV C3 R hb
 have Cq:=qqV C4 R hb
 have Cr:=qqV C5 R hb
 refine wp_free2 14 0 (fun i=>if i=14 then Obj.cells #[Value.string ⟨#[]⟩,Value.string ⟨#[]⟩,Value.string ⟨#[]⟩,Value.string ⟨#[]⟩] 28 else if i=15 then Obj.cells #[Value.string ⟨#[]⟩,Value.string ⟨#[]⟩,Value.string ⟨#[]⟩,Value.string ⟨#[]⟩] 28 else Obj.cells #[] 0) (fun i=>if i=14 then Obj.cells #[Value.string Bj,Value.string Bk,Value.string Bl,Value.string Bp] 28 else if i=15 then Obj.cells #[Value.string Bm,Value.string Bn,Value.string Bo,Value.string Bq] 28 else Obj.cells #[] 0) (some 5) (some 6) (by first | assumption | kernel_rfl) (by kernel_rfl) ?lay rfl rfl ?_
 case lay =>
   intro i h1 h2
   obtain rfl | rfl:i=14∨i=15:=by omega
   all_goals exact ⟨_,rfl,rfl,fun a w=>(by first | (go_simp;done) | (go_simp;rfl))⟩
 simp only [List.take_succ_cons,List.take_zero]
 repeat (refine wpB_step (fun K hK=>?_);go_simp;first | (refine hK _ ?_;clear hK K) | (apply Exists.intro;refine ⟨fun _=>?_,hK _ ?_⟩;(first | (with_reducible exact Co.out _ _) | (with_reducible exact Cp.out _ _) | (with_reducible exact Cq.out _ _) | (with_reducible exact Cr.out _ _));clear hK K))
 refine wpB_nil ?_
 intro Ac Ad
 refine ⟨?_,?_,?_⟩
 · refine ⟨_,rfl,rfl,rfl,fun cs b h=>(by cases h),fun w hw=>?_⟩
   replace hw:w.heap[Ac]? = some (Obj.cells #[Value.string ⟨#[]⟩,Value.string ⟨#[]⟩,Value.string ⟨#[]⟩,Value.string ⟨#[]⟩] 28):=hw
   have z0:w.cell? ⟨Ac,0,none⟩=some (Value.string ⟨#[]⟩):=zA hw
   have y0:w.frozen? ⟨Ac,0,none⟩=false:=zD hw
   have z1:w.cell? ⟨Ac,1,none⟩=some (Value.string ⟨#[]⟩):=zA hw
   have y1:w.frozen? ⟨Ac,1,none⟩=false:=zD hw
   have z2:w.cell? ⟨Ac,2,none⟩=some (Value.string ⟨#[]⟩):=zA hw
   have y2:w.frozen? ⟨Ac,2,none⟩=false:=zD hw
   have z3:w.cell? ⟨Ac,3,none⟩=some (Value.string ⟨#[]⟩):=zA hw
   have y3:w.frozen? ⟨Ac,3,none⟩=false:=zD hw
   refine ⟨_,?_,(Wrote.set (i:=3) (Wrote.set (i:=2) (Wrote.set (i:=1) (Wrote.set (i:=0) (Wrote.refl hw) (Value.string Bj)) (Value.string Bk)) (Value.string Bl)) (Value.string Bp))⟩
   go_simp
 · refine ⟨_,rfl,rfl,rfl,fun cs b h=>(by cases h),fun w hw=>?_⟩
   replace hw:w.heap[Ad]? = some (Obj.cells #[Value.string ⟨#[]⟩,Value.string ⟨#[]⟩,Value.string ⟨#[]⟩,Value.string ⟨#[]⟩] 28):=hw
   have z0:w.cell? ⟨Ad,0,none⟩=some (Value.string ⟨#[]⟩):=zA hw
   have y0:w.frozen? ⟨Ad,0,none⟩=false:=zD hw
   have z1:w.cell? ⟨Ad,1,none⟩=some (Value.string ⟨#[]⟩):=zA hw
   have y1:w.frozen? ⟨Ad,1,none⟩=false:=zD hw
   have z2:w.cell? ⟨Ad,2,none⟩=some (Value.string ⟨#[]⟩):=zA hw
   have y2:w.frozen? ⟨Ad,2,none⟩=false:=zD hw
   have z3:w.cell? ⟨Ad,3,none⟩=some (Value.string ⟨#[]⟩):=zA hw
   have y3:w.frozen? ⟨Ad,3,none⟩=false:=zD hw
   refine ⟨_,?_,(Wrote.set (i:=3) (Wrote.set (i:=2) (Wrote.set (i:=1) (Wrote.set (i:=0) (Wrote.refl hw) (Value.string Bm)) (Value.string Bn)) (Value.string Bo)) (Value.string Bq))⟩
   go_simp
 intro w1 hk m0 m1 Aa Ab _
 clear Ax Ay Az A0 A1 A2 A3 A4 A5 A6 A7 A8 A9 Ba Bb Bc
 replace a0:=zB hk a0
 replace a1:=zB hk a1
 obtain ⟨Ax,Ay,Az,A0,A1,A2,A3,A4,A5,A6,A7,A8⟩:=ce12 a0
 obtain ⟨A9,Ba,Bb,Bc⟩:=ce4 a1
 replace hb:=hb.trans (hk.mono hb.size)
 clear hk
 replace Aa:w1.heap[Ac]? = some (Obj.cells #[Value.string Bj,Value.string Bk,Value.string Bl,Value.string Bp] 28):=Aa
 have Ag:w1.cell? ⟨Ac,0,none⟩=some (Value.string Bj):=zA Aa
 have Ah:w1.cell? ⟨Ac,1,none⟩=some (Value.string Bk):=zA Aa
 have Ai:w1.cell? ⟨Ac,2,none⟩=some (Value.string Bl):=zA Aa
 have Aj:w1.cell? ⟨Ac,3,none⟩=some (Value.string Bp):=zA Aa
 replace Ab:w1.heap[Ad]? = some (Obj.cells #[Value.string Bm,Value.string Bn,Value.string Bo,Value.string Bq] 28):=Ab
 have Ak:w1.cell? ⟨Ad,0,none⟩=some (Value.string Bm):=zA Ab
 have Al:w1.cell? ⟨Ad,1,none⟩=some (Value.string Bn):=zA Ab
 have Am:w1.cell? ⟨Ad,2,none⟩=some (Value.string Bo):=zA Ab
 have An:w1.cell? ⟨Ad,3,none⟩=some (Value.string Bq):=zA Ab
 clear Co Cp Cq Cr Do Dp Dq Dr Cz C0 Da Db Dc Dd De Df Dg Dh Di Dj Dk Dl Dm Dn m0 m1
 go_upto_region 5 with (go_at_call 65;with_reducible refine (chVB hb R C6).mono ?_;clear hb;rintro e w1 ⟨rfl,hk,hb⟩;clear Ag Ah Ai Aj Ak Al Am An;replace Aa:=zB hk Aa;replace Ab:=zB hk Ab;obtain ⟨Ag,Ah,Ai,Aj⟩:=ce4 Aa;obtain ⟨Ak,Al,Am,An⟩:=ce4 Ab;clear hk)
 clear Ax Ay Az A0 A1 A2 A3 A4 A5 A6 A7 A8 a0 A9 Ba Bb Bc a1
 refine wp_alloc2 (fun w1 Ae Af hk=>?_)
 clear Ag Ah Ai Aj Ak Al Am An
 replace Aa:=zB hk Aa
 replace Ab:=zB hk Ab
 obtain ⟨Ag,Ah,Ai,Aj⟩:=ce4 Aa
 obtain ⟨Ak,Al,Am,An⟩:=ce4 Ab
 replace hb:=hb.trans (hk.mono hb.size)
 clear hk
 obtain ⟨Ao,Ap,Aq⟩:=ce3 Ae
 obtain ⟨Ar,As,At⟩:=ce3 Af
 obtain ⟨Ds,Dt,Du⟩:=cy3 Ae
 obtain ⟨Dv,Dw,Dx⟩:=cy3 Af
 obtain ⟨Dy,Dz,D0,D1⟩:=cy4 Aa
 obtain ⟨D2,D3,D4,D5⟩:=cy4 Ab
 have Cs:=rrV C7 R hb
 have Ct:=rrV C8 R hb
 refine wp_region_tail_below 4 (by first | assumption | kernel_rfl) (by kernel_rfl) ?_
 simp only [List.take_succ_cons,List.take_zero,List.drop_succ_cons,List.drop_zero]
 repeat (quiet_step (first | (with_reducible exact Cs.out _ _) | (with_reducible exact Ct.out _ _)))
 refine wpQuiet_nil ?_
 intro w1 hw'
 obtain ⟨hk,hb⟩:=zQ hb hw'
 clear Ao Ap Aq Ar As At Ag Ah Ai Aj Ak Al Am An
 replace Ae:=zB hk Ae
 replace Af:=zB hk Af
 replace Aa:=zB hk Aa
 replace Ab:=zB hk Ab
 obtain ⟨Ao,Ap,Aq⟩:=ce3 Ae
 obtain ⟨Ar,As,At⟩:=ce3 Af
 obtain ⟨Ag,Ah,Ai,Aj⟩:=ce4 Aa
 obtain ⟨Ak,Al,Am,An⟩:=ce4 Ab
 clear Cs Ct Ds Dt Du Dv Dw Dx Dy Dz D0 D1 D2 D3 D4 D5
 clear hk hw'
 go_upto_region 7 with ((first | (go_at_call 21;with_reducible refine (zL hb (C9.out _ (R.below hb))).mono ?_) | (go_at_call 37;with_reducible refine (chVB hb R C10).mono ?_));clear hb;rintro e w1 ⟨rfl,hk,hb⟩;clear Ao Ap Aq Ar As At Ag Ah Ai Aj Ak Al Am An;replace Ae:=zB hk Ae;replace Af:=zB hk Af;replace Aa:=zB hk Aa;replace Ab:=zB hk Ab;obtain ⟨Ao,Ap,Aq⟩:=ce3 Ae;obtain ⟨Ar,As,At⟩:=ce3 Af;obtain ⟨Ag,Ah,Ai,Aj⟩:=ce4 Aa;obtain ⟨Ak,Al,Am,An⟩:=ce4 Ab;clear hk)
 refine wp_alloc1 (fun w1 Br hk=>?_)
 clear Ao Ap Aq Ar As At Ag Ah Ai Aj Ak Al Am An
 replace Ae:=zB hk Ae
 replace Af:=zB hk Af
 replace Aa:=zB hk Aa
 replace Ab:=zB hk Ab
 obtain ⟨Ao,Ap,Aq⟩:=ce3 Ae
 obtain ⟨Ar,As,At⟩:=ce3 Af
 obtain ⟨Ag,Ah,Ai,Aj⟩:=ce4 Aa
 obtain ⟨Ak,Al,Am,An⟩:=ce4 Ab
 replace hb:=hb.trans (hk.mono hb.size)
 clear hk
 obtain ⟨Cu,Cv,Cw⟩:=ce3 Br
 go_wp2_with ((first | (go_at_call 38;with_reducible refine (chVB hb R C11).mono ?_) | (go_at_call 64;first | with_reducible refine (chVB hb R C12).mono ?_ | with_reducible refine (chVB hb R C13).mono ?_));clear hb;rintro e w1 ⟨rfl,hk,hb⟩;clear Ao Ap Aq Ar As At Cu Cv Cw Ag Ah Ai Aj Ak Al Am An;replace Ae:=zB hk Ae;replace Af:=zB hk Af;replace Br:=zB hk Br;replace Aa:=zB hk Aa;replace Ab:=zB hk Ab;obtain ⟨Ao,Ap,Aq⟩:=ce3 Ae;obtain ⟨Ar,As,At⟩:=ce3 Af;obtain ⟨Cu,Cv,Cw⟩:=ce3 Br;obtain ⟨Ag,Ah,Ai,Aj⟩:=ce4 Aa;obtain ⟨Ak,Al,Am,An⟩:=ce4 Ab;clear hk)
 first | go_ret | go_ret2 | go_ret3
 exact ⟨rfl,hb⟩
theorem lawCommon_1  (i0 g0 i1 g1 i2 g2 i3 g3 i4 g4 i5 g5 i6 g6 i7 g7:Int) (p0 p1 p2 p3 p4 p5 p6 p7:Rat) (k0:SmallIs i0 g0 p0) (k1:SmallIs i1 g1 p1) (k2:SmallIs i2 g2 p2) (k3:SmallIs i3 g3 p3) (k4:SmallIs i4 g4 p4) (k5:SmallIs i5 g5 p5) (k6:SmallIs i6 g6 p6) (k7:SmallIs i7 g7 p7) (q0:((p1*p5) - (p2*p4))=0) (q1:((p2*p3) - (p0*p5))≠0) (hp:¬ (p0=0∧p1=0∧p2=0)) (hq:¬ (p3=0∧p4=0∧p5=0)) (w:World) (R:EnvV w) :
   Calls Tryz.prog 11 #[.agg #[.int .i16 i0,.int .u8 g0,.int .i16 i1,.int .u8 g1,.int .i16 i2,.int .u8 g2,.int .i16 i3,.int .u8 g3,.int .i16 i4,.int .u8 g4,.int .i16 i5,.int .u8 g5],.agg #[.int .i16 i6,.int .u8 g6,.int .i16 i7,.int .u8 g7]] w (Ret w (.bool true)):=by
 have Be:=RN_mul k1.rn k5.rn
 have Bf:=RN_mul k2.rn k4.rn
 have B8:=RN_sub (N:=16) Be Bf
 have Aw:=RN_mul k2.rn k3.rn
 have Ax:=RN_mul k0.rn k5.rn
 have B9:=RN_sub (N:=16) Aw Ax
 have Bg:=RN_mul k0.rn k4.rn
 have Bh:=RN_mul k1.rn k3.rn
 have Bs:=RN_mul k6.rn k5.rn
 have Bt:=RN_mul k2.rn k7.rn
 have Bi:=RN_sub (N:=16) Ax Aw
 have Bu:=RN_sub (N:=16) Bs Bt
 have Bv:=RN_mul k0.rn k7.rn
 have Bw:=RN_mul k6.rn k3.rn
 have Bx:=RN_sub (N:=16) Bv Bw
 have Au:=RN_div Bu Bi (fun h=>q1 (by grind))
 have Av:=RN_div Bx Bi (fun h=>q1 (by grind))
 have Ca:=RN_sub (N:=16) Bg Bh
 have By:=RN_mul k1.rn rn_0
 have Bz:=RN_mul k2.rn Av
 have B0:=RN_mul k0.rn Au
 have B1:=RN_add (N:=38) By Bz
 have B2:=RN_add (N:=71) B0 B1
 have Cy:=RN_sub (N:=75) B2 k6.rn
 have B3:=RN_mul k4.rn rn_0
 have B4:=RN_mul k5.rn Av
 have B5:=RN_mul k3.rn Au
 have B6:=RN_add (N:=38) B3 B4
 have B7:=RN_add (N:=71) B5 B6
 have Cz:=RN_sub (N:=75) B7 k7.rn
 have c1:=known5_any
 have c2:=makeV i0 g0 i1 g1 i2 g2 p0 p1 p2 k0 k1 k2
 have c3:=fun (w:World) (R:EnvV w)=>makeS i6 g6 p6 k6 w R.toEnvR
 have c4:=makeV i3 g3 i4 g4 i5 g5 p3 p4 p5 k3 k4 k5
 have c5:=fun (w:World) (R:EnvV w)=>makeS i7 g7 p7 k7 w R.toEnvR
 have c6:CV 65 #[.agg #[.string (ratB p0),.string (ratB p1),.string (ratB p2),.string (ratB p6)],.agg #[.string (ratB p3),.string (ratB p4),.string (ratB p5),.string (ratB p7)]] (.tuple #[.agg #[.string (ratB (((p6*p5) - (p2*p7)) / ((p0*p5) - (p2*p3)))),.string ⟨#[48]⟩,.string (ratB (((p0*p7) - (p6*p3)) / ((p0*p5) - (p2*p3))))],.agg #[.string (ratB ((p1*p5) - (p2*p4))),.string (ratB ((p2*p3) - (p0*p5))),.string (ratB ((p0*p4) - (p1*p3)))],.int .i64 0]):=fun w R=>common_1 p0 p1 p2 p6 p3 p4 p5 p7 q0 q1 k0.rn.r2 k1.rn.r2 k2.rn.r2 k6.rn.r2 (no3 hp) k3.rn.r2 k4.rn.r2 k5.rn.r2 k7.rn.r2 (no3 hq) k1.rn.rm k5.rn.rm k2.rn.rm k4.rn.rm Be.rm Bf.rm k3.rn.rm k0.rn.rm Aw.rm Ax.rm Bg.rm Bh.rm q1 k6.rn.rm k7.rn.rm Bs.rm Bt.rm (fun h=>q1 (by grind)) Bu.rm Bi.rm Bv.rm Bw.rm Bx.rm Au.r2 Av.r2 B8.r2 B9.r2 Ca.r2 w R
 have c7:CV 20 #[.agg #[.string (ratB p0),.string (ratB p1),.string (ratB p2),.string (ratB p6)]] (.int .i64 0):=fun w R=>(by have h:=refCheckPlane_any p0 p1 p2 p6 k0.rn.r2 k1.rn.r2 k2.rn.r2 k6.rn.r2 w R;rw [show planeE p0 p1 p2=0 from if_neg hp] at h;exact h)
 have c8:CV 20 #[.agg #[.string (ratB p3),.string (ratB p4),.string (ratB p5),.string (ratB p7)]] (.int .i64 0):=fun w R=>(by have h:=refCheckPlane_any p3 p4 p5 p7 k3.rn.r2 k4.rn.r2 k5.rn.r2 k7.rn.r2 w R;rw [show planeE p3 p4 p5=0 from if_neg hq] at h;exact h)
 have c9:=fun (w:World) (R:EnvV w)=>firstErr2 0 0 0 (by first | decide | simp [firstNZ]) w R.toEnvR
 have c10:=fun (w:World) (R:EnvV w)=>refVCross p0 p1 p2 p3 p4 p5 k1.rn.r4 k5.rn.r4 k2.rn.r4 k4.rn.r4 Be.r4 Bf.r4 k3.rn.r4 k0.rn.r4 Aw.r4 Ax.r4 Bg.r4 Bh.r4 w R.toEnvR
 have c11:=refZero_no ((p1*p5) - (p2*p4)) ((p2*p3) - (p0*p5)) ((p0*p4) - (p1*p3))  (Or.inr (Or.inl q1))
 have c12:CV 64 #[.agg #[.string (ratB p0),.string (ratB p1),.string (ratB p2),.string (ratB p6)],.agg #[.string (ratB (((p6*p5) - (p2*p7)) / ((p0*p5) - (p2*p3)))),.string ⟨#[48]⟩,.string (ratB (((p0*p7) - (p6*p3)) / ((p0*p5) - (p2*p3))))]] (.string ⟨#[48]⟩):=fun w R=>(by have h:=(by have h:=refPBeyond p0 p1 p2 p6 (((p6*p5) - (p2*p7)) / ((p0*p5) - (p2*p3))) (0:Rat) (((p0*p7) - (p6*p3)) / ((p0*p5) - (p2*p3))) k0.rn.r4 Au.r4 k1.rn.r4 (RN.rl (K:=400) rn_0) k2.rn.r4 Av.r4 By.r4 Bz.r4 B0.r4 B1.r4 B2.r4 k6.rn.r4 w R.toEnvR;simp only [rb_0] at h;exact h);rw [show ((p0*(((p6*p5) - (p2*p7)) / ((p0*p5) - (p2*p3))))+((p1*(0:Rat))+(p2*(((p0*p7) - (p6*p3)) / ((p0*p5) - (p2*p3)))))) - p6=0 from by have:=q0;have:=q1;grind,rb_0] at h;exact h)
 have c13:CV 64 #[.agg #[.string (ratB p3),.string (ratB p4),.string (ratB p5),.string (ratB p7)],.agg #[.string (ratB (((p6*p5) - (p2*p7)) / ((p0*p5) - (p2*p3)))),.string ⟨#[48]⟩,.string (ratB (((p0*p7) - (p6*p3)) / ((p0*p5) - (p2*p3))))]] (.string ⟨#[48]⟩):=fun w R=>(by have h:=(by have h:=refPBeyond p3 p4 p5 p7 (((p6*p5) - (p2*p7)) / ((p0*p5) - (p2*p3))) (0:Rat) (((p0*p7) - (p6*p3)) / ((p0*p5) - (p2*p3))) k3.rn.r4 Au.r4 k4.rn.r4 (RN.rl (K:=400) rn_0) k5.rn.r4 Av.r4 B3.r4 B4.r4 B5.r4 B6.r4 B7.r4 k7.rn.r4 w R.toEnvR;simp only [rb_0] at h;exact h);rw [show ((p3*(((p6*p5) - (p2*p7)) / ((p0*p5) - (p2*p3))))+((p4*(0:Rat))+(p5*(((p0*p7) - (p6*p3)) / ((p0*p5) - (p2*p3)))))) - p7=0 from by have:=q0;have:=q1;grind,rb_0] at h;exact h)
 have eq0:((ratB ((p1*p5) - (p2*p4))).toList == [48])=true:=by rw [ratB_eq_zero];exact decide_eq_true q0
 have pq0:(ratB ((p1*p5) - (p2*p4))).toList=[48]:=(zero_iff _).2 q0
 have eq1:((ratB ((p2*p3) - (p0*p5))).toList == [48])=false:=by rw [ratB_eq_zero];exact decide_eq_false q1
 have pq1:¬ (ratB ((p2*p3) - (p0*p5))).toList=[48]:=fun h=>q1 ((zero_iff _).1 h)
 obtain ⟨D7,Cb⟩:∃ vq,ratB (((p0*p7) - (p6*p3)) / ((p0*p5) - (p2*p3)))=vq:=⟨_,rfl⟩
 obtain ⟨D8,Cc⟩:∃ vq,ratB (((p6*p5) - (p2*p7)) / ((p0*p5) - (p2*p3)))=vq:=⟨_,rfl⟩
 obtain ⟨D9,Cd⟩:∃ vq,ratB ((p0*p4) - (p1*p3))=vq:=⟨_,rfl⟩
 obtain ⟨Fa,Ce⟩:∃ vq,ratB ((p1*p5) - (p2*p4))=vq:=⟨_,rfl⟩
 obtain ⟨Fb,Cf⟩:∃ vq,ratB ((p2*p3) - (p0*p5))=vq:=⟨_,rfl⟩
 obtain ⟨Bj,Cg⟩:∃ vq,ratB p0=vq:=⟨_,rfl⟩
 obtain ⟨Bk,Ch⟩:∃ vq,ratB p1=vq:=⟨_,rfl⟩
 obtain ⟨Bl,Ci⟩:∃ vq,ratB p2=vq:=⟨_,rfl⟩
 obtain ⟨Bm,Cj⟩:∃ vq,ratB p3=vq:=⟨_,rfl⟩
 obtain ⟨Bn,Ck⟩:∃ vq,ratB p4=vq:=⟨_,rfl⟩
 obtain ⟨Bo,Cm⟩:∃ vq,ratB p5=vq:=⟨_,rfl⟩
 obtain ⟨Bp,Cn⟩:∃ vq,ratB p6=vq:=⟨_,rfl⟩
 obtain ⟨Bq,Co⟩:∃ vq,ratB p7=vq:=⟨_,rfl⟩
 try simp only [Cb,Cc,Cd,Ce,Cf,Cg,Ch,Ci,Cj,Ck,Cm,Cn,Co] at c1 c2 c3 c4 c5 c6 c7 c8 c9 c10 c11 c12 c13 eq0 pq0 eq1 pq1 ⊢
 have C1:=Lib.hid c1
 have C2:=Lib.hid c2
 have C3:=Lib.hid c3
 have C4:=Lib.hid c4
 have C5:=Lib.hid c5
 have C6:=Lib.hid c6
 have C7:=Lib.hid c7
 have C8:=Lib.hid c8
 have C9:=Lib.hid c9
 have C10:=Lib.hid c10
 have C11:=Lib.hid c11
 have C12:=Lib.hid c12
 have C13:=Lib.hid c13
 clear c1 c2 c3 c4 c5 c6 c7 c8 c9 c10 c11 c12 c13 Cb Cc Cd Ce Cf Cg Ch Ci Cj Ck Cm Cn Co Be Bf B8 Aw Ax B9 Bg Bh Bs Bt Bi Bu Bv Bw Bx Au Av Ca By Bz B0 B1 B2 Cy B3 B4 B5 B6 B7 Cz k0 k1 k2 k3 k4 k5 k6 k7 q0 q1 hp hq
 have hb:=Below.refl w.heap.size w
 go_enter Tryz.func11,Tryz.ntmps11
 go_upto_region 1 with fail
 refine wp_alloc2 (fun w1 a0 a1 hk=>?_)
 replace hb:=hb.trans (hk.mono hb.size)
 clear hk
 obtain ⟨Ay,Az,A0,A1,A2,A3,A4,A5,A6,A7,A8,A9⟩:=ce12 a0
 obtain ⟨Ba,Bb,Bc,Bd⟩:=ce4 a1
 go_upto_region 3 with (go_at_call 13;with_reducible refine (chVB hb R C1).mono ?_;clear hb;rintro e w1 ⟨rfl,hk,hb⟩;clear Ay Az A0 A1 A2 A3 A4 A5 A6 A7 A8 A9 Ba Bb Bc Bd;replace a0:=zB hk a0;replace a1:=zB hk a1;obtain ⟨Ay,Az,A0,A1,A2,A3,A4,A5,A6,A7,A8,A9⟩:=ce12 a0;obtain ⟨Ba,Bb,Bc,Bd⟩:=ce4 a1;clear hk)
 obtain ⟨C0,Da,Db,Dc,Dd,De,Df,Dg,Dh,Di,Dj,Dk⟩:=cy12 a0
 obtain ⟨Dl,Dm,Dn,Do⟩:=cy4 a1
 have Dp:=rrV C2 R hb
 have Dq:=rrV C3 R hb
 have Dr:=rrV C4 R hb
 have Ds:=rrV C5 R hb
 have Cp:=qqV C2 R hb
 have Cq:=qqV C3 R hb
 have Cr:=qqV C4 R hb
 have Cs:=qqV C5 R hb
 refine wp_free2 14 0 (fun i=>if i=14 then Obj.cells #[Value.string ⟨#[]⟩,Value.string ⟨#[]⟩,Value.string ⟨#[]⟩,Value.string ⟨#[]⟩] 28 else if i=15 then Obj.cells #[Value.string ⟨#[]⟩,Value.string ⟨#[]⟩,Value.string ⟨#[]⟩,Value.string ⟨#[]⟩] 28 else Obj.cells #[] 0) (fun i=>if i=14 then Obj.cells #[Value.string Bj,Value.string Bk,Value.string Bl,Value.string Bp] 28 else if i=15 then Obj.cells #[Value.string Bm,Value.string Bn,Value.string Bo,Value.string Bq] 28 else Obj.cells #[] 0) (some 5) (some 6) (by first | assumption | kernel_rfl) (by kernel_rfl) ?lay rfl rfl ?_
 case lay =>
   intro i h1 h2
   obtain rfl | rfl:i=14∨i=15:=by omega
   all_goals exact ⟨_,rfl,rfl,fun a w=>(by first | (go_simp;done) | (go_simp;rfl))⟩
 simp only [List.take_succ_cons,List.take_zero]
 repeat (refine wpB_step (fun K hK=>?_);go_simp;first | (refine hK _ ?_;clear hK K) | (apply Exists.intro;refine ⟨fun _=>?_,hK _ ?_⟩;(first | (with_reducible exact Cp.out _ _) | (with_reducible exact Cq.out _ _) | (with_reducible exact Cr.out _ _) | (with_reducible exact Cs.out _ _));clear hK K))
 refine wpB_nil ?_
 intro Ac Ad
 refine ⟨?_,?_,?_⟩
 · refine ⟨_,rfl,rfl,rfl,fun cs b h=>(by cases h),fun w hw=>?_⟩
   replace hw:w.heap[Ac]? = some (Obj.cells #[Value.string ⟨#[]⟩,Value.string ⟨#[]⟩,Value.string ⟨#[]⟩,Value.string ⟨#[]⟩] 28):=hw
   have z0:w.cell? ⟨Ac,0,none⟩=some (Value.string ⟨#[]⟩):=zA hw
   have y0:w.frozen? ⟨Ac,0,none⟩=false:=zD hw
   have z1:w.cell? ⟨Ac,1,none⟩=some (Value.string ⟨#[]⟩):=zA hw
   have y1:w.frozen? ⟨Ac,1,none⟩=false:=zD hw
   have z2:w.cell? ⟨Ac,2,none⟩=some (Value.string ⟨#[]⟩):=zA hw
   have y2:w.frozen? ⟨Ac,2,none⟩=false:=zD hw
   have z3:w.cell? ⟨Ac,3,none⟩=some (Value.string ⟨#[]⟩):=zA hw
   have y3:w.frozen? ⟨Ac,3,none⟩=false:=zD hw
   refine ⟨_,?_,(Wrote.set (i:=3) (Wrote.set (i:=2) (Wrote.set (i:=1) (Wrote.set (i:=0) (Wrote.refl hw) (Value.string Bj)) (Value.string Bk)) (Value.string Bl)) (Value.string Bp))⟩
   go_simp
 · refine ⟨_,rfl,rfl,rfl,fun cs b h=>(by cases h),fun w hw=>?_⟩
   replace hw:w.heap[Ad]? = some (Obj.cells #[Value.string ⟨#[]⟩,Value.string ⟨#[]⟩,Value.string ⟨#[]⟩,Value.string ⟨#[]⟩] 28):=hw
   have z0:w.cell? ⟨Ad,0,none⟩=some (Value.string ⟨#[]⟩):=zA hw
   have y0:w.frozen? ⟨Ad,0,none⟩=false:=zD hw
   have z1:w.cell? ⟨Ad,1,none⟩=some (Value.string ⟨#[]⟩):=zA hw
   have y1:w.frozen? ⟨Ad,1,none⟩=false:=zD hw
   have z2:w.cell? ⟨Ad,2,none⟩=some (Value.string ⟨#[]⟩):=zA hw
   have y2:w.frozen? ⟨Ad,2,none⟩=false:=zD hw
   have z3:w.cell? ⟨Ad,3,none⟩=some (Value.string ⟨#[]⟩):=zA hw
   have y3:w.frozen? ⟨Ad,3,none⟩=false:=zD hw
   refine ⟨_,?_,(Wrote.set (i:=3) (Wrote.set (i:=2) (Wrote.set (i:=1) (Wrote.set (i:=0) (Wrote.refl hw) (Value.string Bm)) (Value.string Bn)) (Value.string Bo)) (Value.string Bq))⟩
   go_simp
 intro w1 hk m0 m1 Aa Ab _
 clear Ay Az A0 A1 A2 A3 A4 A5 A6 A7 A8 A9 Ba Bb Bc Bd
 replace a0:=zB hk a0
 replace a1:=zB hk a1
 obtain ⟨Ay,Az,A0,A1,A2,A3,A4,A5,A6,A7,A8,A9⟩:=ce12 a0
 obtain ⟨Ba,Bb,Bc,Bd⟩:=ce4 a1
 replace hb:=hb.trans (hk.mono hb.size)
 clear hk
 replace Aa:w1.heap[Ac]? = some (Obj.cells #[Value.string Bj,Value.string Bk,Value.string Bl,Value.string Bp] 28):=Aa
 have Ag:w1.cell? ⟨Ac,0,none⟩=some (Value.string Bj):=zA Aa
 have Ah:w1.cell? ⟨Ac,1,none⟩=some (Value.string Bk):=zA Aa
 have Ai:w1.cell? ⟨Ac,2,none⟩=some (Value.string Bl):=zA Aa
 have Aj:w1.cell? ⟨Ac,3,none⟩=some (Value.string Bp):=zA Aa
 replace Ab:w1.heap[Ad]? = some (Obj.cells #[Value.string Bm,Value.string Bn,Value.string Bo,Value.string Bq] 28):=Ab
 have Ak:w1.cell? ⟨Ad,0,none⟩=some (Value.string Bm):=zA Ab
 have Al:w1.cell? ⟨Ad,1,none⟩=some (Value.string Bn):=zA Ab
 have Am:w1.cell? ⟨Ad,2,none⟩=some (Value.string Bo):=zA Ab
 have An:w1.cell? ⟨Ad,3,none⟩=some (Value.string Bq):=zA Ab
 clear Cp Cq Cr Cs Dp Dq Dr Ds C0 Da Db Dc Dd De Df Dg Dh Di Dj Dk Dl Dm Dn Do m0 m1
 go_upto_region 5 with (go_at_call 65;with_reducible refine (chVB hb R C6).mono ?_;clear hb;rintro e w1 ⟨rfl,hk,hb⟩;clear Ag Ah Ai Aj Ak Al Am An;replace Aa:=zB hk Aa;replace Ab:=zB hk Ab;obtain ⟨Ag,Ah,Ai,Aj⟩:=ce4 Aa;obtain ⟨Ak,Al,Am,An⟩:=ce4 Ab;clear hk)
 clear Ay Az A0 A1 A2 A3 A4 A5 A6 A7 A8 A9 a0 Ba Bb Bc Bd a1
 refine wp_alloc2 (fun w1 Ae Af hk=>?_)
 clear Ag Ah Ai Aj Ak Al Am An
 replace Aa:=zB hk Aa
 replace Ab:=zB hk Ab
 obtain ⟨Ag,Ah,Ai,Aj⟩:=ce4 Aa
 obtain ⟨Ak,Al,Am,An⟩:=ce4 Ab
 replace hb:=hb.trans (hk.mono hb.size)
 clear hk
 obtain ⟨Ao,Ap,Aq⟩:=ce3 Ae
 obtain ⟨Ar,As,At⟩:=ce3 Af
 obtain ⟨Dt,Du,Dv⟩:=cy3 Ae
 obtain ⟨Dw,Dx,Dy⟩:=cy3 Af
 obtain ⟨Dz,D0,D1,D2⟩:=cy4 Aa
 obtain ⟨D3,D4,D5,D6⟩:=cy4 Ab
 have Ct:=rrV C7 R hb
 have Cu:=rrV C8 R hb
 refine wp_region_tail_below 4 (by first | assumption | kernel_rfl) (by kernel_rfl) ?_
 simp only [List.take_succ_cons,List.take_zero,List.drop_succ_cons,List.drop_zero]
 repeat (quiet_step (first | (with_reducible exact Ct.out _ _) | (with_reducible exact Cu.out _ _)))
 refine wpQuiet_nil ?_
 intro w1 hw'
 obtain ⟨hk,hb⟩:=zQ hb hw'
 clear Ao Ap Aq Ar As At Ag Ah Ai Aj Ak Al Am An
 replace Ae:=zB hk Ae
 replace Af:=zB hk Af
 replace Aa:=zB hk Aa
 replace Ab:=zB hk Ab
 obtain ⟨Ao,Ap,Aq⟩:=ce3 Ae
 obtain ⟨Ar,As,At⟩:=ce3 Af
 obtain ⟨Ag,Ah,Ai,Aj⟩:=ce4 Aa
 obtain ⟨Ak,Al,Am,An⟩:=ce4 Ab
 clear Ct Cu Dt Du Dv Dw Dx Dy Dz D0 D1 D2 D3 D4 D5 D6
 clear hk hw'
 go_upto_region 7 with ((first | (go_at_call 21;with_reducible refine (zL hb (C9.out _ (R.below hb))).mono ?_) | (go_at_call 37;with_reducible refine (chVB hb R C10).mono ?_));clear hb;rintro e w1 ⟨rfl,hk,hb⟩;clear Ao Ap Aq Ar As At Ag Ah Ai Aj Ak Al Am An;replace Ae:=zB hk Ae;replace Af:=zB hk Af;replace Aa:=zB hk Aa;replace Ab:=zB hk Ab;obtain ⟨Ao,Ap,Aq⟩:=ce3 Ae;obtain ⟨Ar,As,At⟩:=ce3 Af;obtain ⟨Ag,Ah,Ai,Aj⟩:=ce4 Aa;obtain ⟨Ak,Al,Am,An⟩:=ce4 Ab;clear hk)
 refine wp_alloc1 (fun w1 Br hk=>?_)
 clear Ao Ap Aq Ar As At Ag Ah Ai Aj Ak Al Am An
 replace Ae:=zB hk Ae
 replace Af:=zB hk Af
 replace Aa:=zB hk Aa
 replace Ab:=zB hk Ab
 obtain ⟨Ao,Ap,Aq⟩:=ce3 Ae
 obtain ⟨Ar,As,At⟩:=ce3 Af
 obtain ⟨Ag,Ah,Ai,Aj⟩:=ce4 Aa
 obtain ⟨Ak,Al,Am,An⟩:=ce4 Ab
 replace hb:=hb.trans (hk.mono hb.size)
 clear hk
 obtain ⟨Cv,Cw,Cx⟩:=ce3 Br
 go_wp2_with ((first | (go_at_call 38;with_reducible refine (chVB hb R C11).mono ?_) | (go_at_call 64;first | with_reducible refine (chVB hb R C12).mono ?_ | with_reducible refine (chVB hb R C13).mono ?_));clear hb;rintro e w1 ⟨rfl,hk,hb⟩;clear Ao Ap Aq Ar As At Cv Cw Cx Ag Ah Ai Aj Ak Al Am An;replace Ae:=zB hk Ae;replace Af:=zB hk Af;replace Br:=zB hk Br;replace Aa:=zB hk Aa;replace Ab:=zB hk Ab;obtain ⟨Ao,Ap,Aq⟩:=ce3 Ae;obtain ⟨Ar,As,At⟩:=ce3 Af;obtain ⟨Cv,Cw,Cx⟩:=ce3 Br;obtain ⟨Ag,Ah,Ai,Aj⟩:=ce4 Aa;obtain ⟨Ak,Al,Am,An⟩:=ce4 Ab;clear hk)
 first | go_ret | go_ret2 | go_ret3
 exact ⟨rfl,hb⟩
theorem lawCommon_2  (i0 g0 i1 g1 i2 g2 i3 g3 i4 g4 i5 g5 i6 g6 i7 g7:Int) (p0 p1 p2 p3 p4 p5 p6 p7:Rat) (k0:SmallIs i0 g0 p0) (k1:SmallIs i1 g1 p1) (k2:SmallIs i2 g2 p2) (k3:SmallIs i3 g3 p3) (k4:SmallIs i4 g4 p4) (k5:SmallIs i5 g5 p5) (k6:SmallIs i6 g6 p6) (k7:SmallIs i7 g7 p7) (q0:((p1*p5) - (p2*p4))=0) (q1:((p2*p3) - (p0*p5))=0) (q2:((p0*p4) - (p1*p3))≠0) (hp:¬ (p0=0∧p1=0∧p2=0)) (hq:¬ (p3=0∧p4=0∧p5=0)) (w:World) (R:EnvV w) :
   Calls Tryz.prog 11 #[.agg #[.int .i16 i0,.int .u8 g0,.int .i16 i1,.int .u8 g1,.int .i16 i2,.int .u8 g2,.int .i16 i3,.int .u8 g3,.int .i16 i4,.int .u8 g4,.int .i16 i5,.int .u8 g5],.agg #[.int .i16 i6,.int .u8 g6,.int .i16 i7,.int .u8 g7]] w (Ret w (.bool true)):=by
 have Bd:=RN_mul k1.rn k5.rn
 have Be:=RN_mul k2.rn k4.rn
 have B8:=RN_sub (N:=16) Bd Be
 have Bf:=RN_mul k2.rn k3.rn
 have Bg:=RN_mul k0.rn k5.rn
 have B9:=RN_sub (N:=16) Bf Bg
 have Bh:=RN_mul k0.rn k4.rn
 have Bi:=RN_mul k1.rn k3.rn
 have Aw:=RN_sub (N:=16) Bh Bi
 have Bs:=RN_mul k6.rn k4.rn
 have Bt:=RN_mul k1.rn k7.rn
 have Bu:=RN_sub (N:=16) Bs Bt
 have Bv:=RN_mul k0.rn k7.rn
 have Bw:=RN_mul k6.rn k3.rn
 have Bx:=RN_sub (N:=16) Bv Bw
 have Au:=RN_div Bu Aw q2
 have Av:=RN_div Bx Aw q2
 have By:=RN_mul k1.rn Av
 have Bz:=RN_mul k2.rn rn_0
 have B0:=RN_mul k0.rn Au
 have B1:=RN_add (N:=38) By Bz
 have B2:=RN_add (N:=71) B0 B1
 have Cx:=RN_sub (N:=75) B2 k6.rn
 have B3:=RN_mul k4.rn Av
 have B4:=RN_mul k5.rn rn_0
 have B5:=RN_mul k3.rn Au
 have B6:=RN_add (N:=38) B3 B4
 have B7:=RN_add (N:=71) B5 B6
 have Cy:=RN_sub (N:=75) B7 k7.rn
 have c1:=known5_any
 have c2:=makeV i0 g0 i1 g1 i2 g2 p0 p1 p2 k0 k1 k2
 have c3:=fun (w:World) (R:EnvV w)=>makeS i6 g6 p6 k6 w R.toEnvR
 have c4:=makeV i3 g3 i4 g4 i5 g5 p3 p4 p5 k3 k4 k5
 have c5:=fun (w:World) (R:EnvV w)=>makeS i7 g7 p7 k7 w R.toEnvR
 have c6:=common_2 p0 p1 p2 p6 p3 p4 p5 p7 q0 q1 q2 k0.rn.r2 k1.rn.r2 k2.rn.r2 k6.rn.r2 (no3 hp) k3.rn.r2 k4.rn.r2 k5.rn.r2 k7.rn.r2 (no3 hq) k1.rn.rm k5.rn.rm k2.rn.rm k4.rn.rm Bd.rm Be.rm k3.rn.rm k0.rn.rm Bf.rm Bg.rm Bh.rm Bi.rm q2 k6.rn.rm k7.rn.rm Bs.rm Bt.rm Bu.rm Aw.rm Bv.rm Bw.rm Bx.rm Au.r2 Av.r2 B8.r2 B9.r2 Aw.r2
 have c7:CV 20 #[.agg #[.string (ratB p0),.string (ratB p1),.string (ratB p2),.string (ratB p6)]] (.int .i64 0):=fun w R=>(by have h:=refCheckPlane_any p0 p1 p2 p6 k0.rn.r2 k1.rn.r2 k2.rn.r2 k6.rn.r2 w R;rw [show planeE p0 p1 p2=0 from if_neg hp] at h;exact h)
 have c8:CV 20 #[.agg #[.string (ratB p3),.string (ratB p4),.string (ratB p5),.string (ratB p7)]] (.int .i64 0):=fun w R=>(by have h:=refCheckPlane_any p3 p4 p5 p7 k3.rn.r2 k4.rn.r2 k5.rn.r2 k7.rn.r2 w R;rw [show planeE p3 p4 p5=0 from if_neg hq] at h;exact h)
 have c9:=fun (w:World) (R:EnvV w)=>firstErr2 0 0 0 (by first | decide | simp [firstNZ]) w R.toEnvR
 have c10:=fun (w:World) (R:EnvV w)=>refVCross p0 p1 p2 p3 p4 p5 k1.rn.r4 k5.rn.r4 k2.rn.r4 k4.rn.r4 Bd.r4 Be.r4 k3.rn.r4 k0.rn.r4 Bf.r4 Bg.r4 Bh.r4 Bi.r4 w R.toEnvR
 have c11:=refZero_no ((p1*p5) - (p2*p4)) ((p2*p3) - (p0*p5)) ((p0*p4) - (p1*p3))  (Or.inr (Or.inr q2))
 have c12:CV 64 #[.agg #[.string (ratB p0),.string (ratB p1),.string (ratB p2),.string (ratB p6)],.agg #[.string (ratB (((p6*p4) - (p1*p7)) / ((p0*p4) - (p1*p3)))),.string (ratB (((p0*p7) - (p6*p3)) / ((p0*p4) - (p1*p3)))),.string ⟨#[48]⟩]] (.string ⟨#[48]⟩):=fun w R=>(by have h:=(by have h:=refPBeyond p0 p1 p2 p6 (((p6*p4) - (p1*p7)) / ((p0*p4) - (p1*p3))) (((p0*p7) - (p6*p3)) / ((p0*p4) - (p1*p3))) (0:Rat) k0.rn.r4 Au.r4 k1.rn.r4 Av.r4 k2.rn.r4 (RN.rl (K:=400) rn_0) By.r4 Bz.r4 B0.r4 B1.r4 B2.r4 k6.rn.r4 w R.toEnvR;simp only [rb_0] at h;exact h);rw [show ((p0*(((p6*p4) - (p1*p7)) / ((p0*p4) - (p1*p3))))+((p1*(((p0*p7) - (p6*p3)) / ((p0*p4) - (p1*p3))))+(p2*(0:Rat)))) - p6=0 from by have:=q0;have:=q1;have:=q2;grind,rb_0] at h;exact h)
 have c13:CV 64 #[.agg #[.string (ratB p3),.string (ratB p4),.string (ratB p5),.string (ratB p7)],.agg #[.string (ratB (((p6*p4) - (p1*p7)) / ((p0*p4) - (p1*p3)))),.string (ratB (((p0*p7) - (p6*p3)) / ((p0*p4) - (p1*p3)))),.string ⟨#[48]⟩]] (.string ⟨#[48]⟩):=fun w R=>(by have h:=(by have h:=refPBeyond p3 p4 p5 p7 (((p6*p4) - (p1*p7)) / ((p0*p4) - (p1*p3))) (((p0*p7) - (p6*p3)) / ((p0*p4) - (p1*p3))) (0:Rat) k3.rn.r4 Au.r4 k4.rn.r4 Av.r4 k5.rn.r4 (RN.rl (K:=400) rn_0) B3.r4 B4.r4 B5.r4 B6.r4 B7.r4 k7.rn.r4 w R.toEnvR;simp only [rb_0] at h;exact h);rw [show ((p3*(((p6*p4) - (p1*p7)) / ((p0*p4) - (p1*p3))))+((p4*(((p0*p7) - (p6*p3)) / ((p0*p4) - (p1*p3))))+(p5*(0:Rat)))) - p7=0 from by have:=q0;have:=q1;have:=q2;grind,rb_0] at h;exact h)
 have eq0:((ratB ((p1*p5) - (p2*p4))).toList == [48])=true:=by rw [ratB_eq_zero];exact decide_eq_true q0
 have pq0:(ratB ((p1*p5) - (p2*p4))).toList=[48]:=(zero_iff _).2 q0
 have eq1:((ratB ((p2*p3) - (p0*p5))).toList == [48])=true:=by rw [ratB_eq_zero];exact decide_eq_true q1
 have pq1:(ratB ((p2*p3) - (p0*p5))).toList=[48]:=(zero_iff _).2 q1
 have eq2:((ratB ((p0*p4) - (p1*p3))).toList == [48])=false:=by rw [ratB_eq_zero];exact decide_eq_false q2
 have pq2:¬ (ratB ((p0*p4) - (p1*p3))).toList=[48]:=fun h=>q2 ((zero_iff _).1 h)
 obtain ⟨D6,Ca⟩:∃ vq,ratB (((p0*p7) - (p6*p3)) / ((p0*p4) - (p1*p3)))=vq:=⟨_,rfl⟩
 obtain ⟨D7,Cb⟩:∃ vq,ratB (((p6*p4) - (p1*p7)) / ((p0*p4) - (p1*p3)))=vq:=⟨_,rfl⟩
 obtain ⟨D8,Cc⟩:∃ vq,ratB ((p0*p4) - (p1*p3))=vq:=⟨_,rfl⟩
 obtain ⟨D9,Cd⟩:∃ vq,ratB ((p1*p5) - (p2*p4))=vq:=⟨_,rfl⟩
 obtain ⟨Fa,Ce⟩:∃ vq,ratB ((p2*p3) - (p0*p5))=vq:=⟨_,rfl⟩
 obtain ⟨Bj,Cf⟩:∃ vq,ratB p0=vq:=⟨_,rfl⟩
 obtain ⟨Bk,Cg⟩:∃ vq,ratB p1=vq:=⟨_,rfl⟩
 obtain ⟨Bl,Ch⟩:∃ vq,ratB p2=vq:=⟨_,rfl⟩
 obtain ⟨Bm,Ci⟩:∃ vq,ratB p3=vq:=⟨_,rfl⟩
 obtain ⟨Bn,Cj⟩:∃ vq,ratB p4=vq:=⟨_,rfl⟩
 obtain ⟨Bo,Ck⟩:∃ vq,ratB p5=vq:=⟨_,rfl⟩
 obtain ⟨Bp,Cm⟩:∃ vq,ratB p6=vq:=⟨_,rfl⟩
 obtain ⟨Bq,Cn⟩:∃ vq,ratB p7=vq:=⟨_,rfl⟩
 try simp only [Ca,Cb,Cc,Cd,Ce,Cf,Cg,Ch,Ci,Cj,Ck,Cm,Cn] at c1 c2 c3 c4 c5 c6 c7 c8 c9 c10 c11 c12 c13 eq0 pq0 eq1 pq1 eq2 pq2 ⊢
 have C1:=Lib.hid c1
 have C2:=Lib.hid c2
 have C3:=Lib.hid c3
 have C4:=Lib.hid c4
 have C5:=Lib.hid c5
 have C6:=Lib.hid c6
 have C7:=Lib.hid c7
 have C8:=Lib.hid c8
 have C9:=Lib.hid c9
 have C10:=Lib.hid c10
 have C11:=Lib.hid c11
 have C12:=Lib.hid c12
 have C13:=Lib.hid c13
 clear c1 c2 c3 c4 c5 c6 c7 c8 c9 c10 c11 c12 c13 Ca Cb Cc Cd Ce Cf Cg Ch Ci Cj Ck Cm Cn Bd Be B8 Bf Bg B9 Bh Bi Aw Bs Bt Bu Bv Bw Bx Au Av By Bz B0 B1 B2 Cx B3 B4 B5 B6 B7 Cy k0 k1 k2 k3 k4 k5 k6 k7 q0 q1 q2 hp hq
 have hb:=Below.refl w.heap.size w
 go_enter Tryz.func11,Tryz.ntmps11
 go_upto_region 1 with fail
 refine wp_alloc2 (fun w1 a0 a1 hk=>?_)
 replace hb:=hb.trans (hk.mono hb.size)
 clear hk
 obtain ⟨Ax,Ay,Az,A0,A1,A2,A3,A4,A5,A6,A7,A8⟩:=ce12 a0
 obtain ⟨A9,Ba,Bb,Bc⟩:=ce4 a1
 go_upto_region 3 with (go_at_call 13;with_reducible refine (chVB hb R C1).mono ?_;clear hb;rintro e w1 ⟨rfl,hk,hb⟩;clear Ax Ay Az A0 A1 A2 A3 A4 A5 A6 A7 A8 A9 Ba Bb Bc;replace a0:=zB hk a0;replace a1:=zB hk a1;obtain ⟨Ax,Ay,Az,A0,A1,A2,A3,A4,A5,A6,A7,A8⟩:=ce12 a0;obtain ⟨A9,Ba,Bb,Bc⟩:=ce4 a1;clear hk)
 obtain ⟨Cz,C0,Da,Db,Dc,Dd,De,Df,Dg,Dh,Di,Dj⟩:=cy12 a0
 obtain ⟨Dk,Dl,Dm,Dn⟩:=cy4 a1
 have Do:=rrV C2 R hb
 have Dp:=rrV C3 R hb
 have Dq:=rrV C4 R hb
 have Dr:=rrV C5 R hb
 have Co:=qqV C2 R hb
 have Cp:=qqV C3 R hb
 have Cq:=qqV C4 R hb
 have Cr:=qqV C5 R hb
 refine wp_free2 14 0 (fun i=>if i=14 then Obj.cells #[Value.string ⟨#[]⟩,Value.string ⟨#[]⟩,Value.string ⟨#[]⟩,Value.string ⟨#[]⟩] 28 else if i=15 then Obj.cells #[Value.string ⟨#[]⟩,Value.string ⟨#[]⟩,Value.string ⟨#[]⟩,Value.string ⟨#[]⟩] 28 else Obj.cells #[] 0) (fun i=>if i=14 then Obj.cells #[Value.string Bj,Value.string Bk,Value.string Bl,Value.string Bp] 28 else if i=15 then Obj.cells #[Value.string Bm,Value.string Bn,Value.string Bo,Value.string Bq] 28 else Obj.cells #[] 0) (some 5) (some 6) (by first | assumption | kernel_rfl) (by kernel_rfl) ?lay rfl rfl ?_
 case lay =>
   intro i h1 h2
   obtain rfl | rfl:i=14∨i=15:=by omega
   all_goals exact ⟨_,rfl,rfl,fun a w=>(by first | (go_simp;done) | (go_simp;rfl))⟩
 simp only [List.take_succ_cons,List.take_zero]
 repeat (refine wpB_step (fun K hK=>?_);go_simp;first | (refine hK _ ?_;clear hK K) | (apply Exists.intro;refine ⟨fun _=>?_,hK _ ?_⟩;(first | (with_reducible exact Co.out _ _) | (with_reducible exact Cp.out _ _) | (with_reducible exact Cq.out _ _) | (with_reducible exact Cr.out _ _));clear hK K))
 refine wpB_nil ?_
 intro Ac Ad
 refine ⟨?_,?_,?_⟩
 · refine ⟨_,rfl,rfl,rfl,fun cs b h=>(by cases h),fun w hw=>?_⟩
   replace hw:w.heap[Ac]? = some (Obj.cells #[Value.string ⟨#[]⟩,Value.string ⟨#[]⟩,Value.string ⟨#[]⟩,Value.string ⟨#[]⟩] 28):=hw
   have z0:w.cell? ⟨Ac,0,none⟩=some (Value.string ⟨#[]⟩):=zA hw
   have y0:w.frozen? ⟨Ac,0,none⟩=false:=zD hw
   have z1:w.cell? ⟨Ac,1,none⟩=some (Value.string ⟨#[]⟩):=zA hw
   have y1:w.frozen? ⟨Ac,1,none⟩=false:=zD hw
   have z2:w.cell? ⟨Ac,2,none⟩=some (Value.string ⟨#[]⟩):=zA hw
   have y2:w.frozen? ⟨Ac,2,none⟩=false:=zD hw
   have z3:w.cell? ⟨Ac,3,none⟩=some (Value.string ⟨#[]⟩):=zA hw
   have y3:w.frozen? ⟨Ac,3,none⟩=false:=zD hw
   refine ⟨_,?_,(Wrote.set (i:=3) (Wrote.set (i:=2) (Wrote.set (i:=1) (Wrote.set (i:=0) (Wrote.refl hw) (Value.string Bj)) (Value.string Bk)) (Value.string Bl)) (Value.string Bp))⟩
   go_simp
 · refine ⟨_,rfl,rfl,rfl,fun cs b h=>(by cases h),fun w hw=>?_⟩
   replace hw:w.heap[Ad]? = some (Obj.cells #[Value.string ⟨#[]⟩,Value.string ⟨#[]⟩,Value.string ⟨#[]⟩,Value.string ⟨#[]⟩] 28):=hw
   have z0:w.cell? ⟨Ad,0,none⟩=some (Value.string ⟨#[]⟩):=zA hw
   have y0:w.frozen? ⟨Ad,0,none⟩=false:=zD hw
   have z1:w.cell? ⟨Ad,1,none⟩=some (Value.string ⟨#[]⟩):=zA hw
   have y1:w.frozen? ⟨Ad,1,none⟩=false:=zD hw
   have z2:w.cell? ⟨Ad,2,none⟩=some (Value.string ⟨#[]⟩):=zA hw
   have y2:w.frozen? ⟨Ad,2,none⟩=false:=zD hw
   have z3:w.cell? ⟨Ad,3,none⟩=some (Value.string ⟨#[]⟩):=zA hw
   have y3:w.frozen? ⟨Ad,3,none⟩=false:=zD hw
   refine ⟨_,?_,(Wrote.set (i:=3) (Wrote.set (i:=2) (Wrote.set (i:=1) (Wrote.set (i:=0) (Wrote.refl hw) (Value.string Bm)) (Value.string Bn)) (Value.string Bo)) (Value.string Bq))⟩
   go_simp
 intro w1 hk m0 m1 Aa Ab _
 clear Ax Ay Az A0 A1 A2 A3 A4 A5 A6 A7 A8 A9 Ba Bb Bc
 replace a0:=zB hk a0
 replace a1:=zB hk a1
 obtain ⟨Ax,Ay,Az,A0,A1,A2,A3,A4,A5,A6,A7,A8⟩:=ce12 a0
 obtain ⟨A9,Ba,Bb,Bc⟩:=ce4 a1
 replace hb:=hb.trans (hk.mono hb.size)
 clear hk
 replace Aa:w1.heap[Ac]? = some (Obj.cells #[Value.string Bj,Value.string Bk,Value.string Bl,Value.string Bp] 28):=Aa
 have Ag:w1.cell? ⟨Ac,0,none⟩=some (Value.string Bj):=zA Aa
 have Ah:w1.cell? ⟨Ac,1,none⟩=some (Value.string Bk):=zA Aa
 have Ai:w1.cell? ⟨Ac,2,none⟩=some (Value.string Bl):=zA Aa
 have Aj:w1.cell? ⟨Ac,3,none⟩=some (Value.string Bp):=zA Aa
 replace Ab:w1.heap[Ad]? = some (Obj.cells #[Value.string Bm,Value.string Bn,Value.string Bo,Value.string Bq] 28):=Ab
 have Ak:w1.cell? ⟨Ad,0,none⟩=some (Value.string Bm):=zA Ab
 have Al:w1.cell? ⟨Ad,1,none⟩=some (Value.string Bn):=zA Ab
 have Am:w1.cell? ⟨Ad,2,none⟩=some (Value.string Bo):=zA Ab
 have An:w1.cell? ⟨Ad,3,none⟩=some (Value.string Bq):=zA Ab
 clear Co Cp Cq Cr Do Dp Dq Dr Cz C0 Da Db Dc Dd De Df Dg Dh Di Dj Dk Dl Dm Dn m0 m1
 go_upto_region 5 with (go_at_call 65;with_reducible refine (chVB hb R C6).mono ?_;clear hb;rintro e w1 ⟨rfl,hk,hb⟩;clear Ag Ah Ai Aj Ak Al Am An;replace Aa:=zB hk Aa;replace Ab:=zB hk Ab;obtain ⟨Ag,Ah,Ai,Aj⟩:=ce4 Aa;obtain ⟨Ak,Al,Am,An⟩:=ce4 Ab;clear hk)
 clear Ax Ay Az A0 A1 A2 A3 A4 A5 A6 A7 A8 a0 A9 Ba Bb Bc a1
 refine wp_alloc2 (fun w1 Ae Af hk=>?_)
 clear Ag Ah Ai Aj Ak Al Am An
 replace Aa:=zB hk Aa
 replace Ab:=zB hk Ab
 obtain ⟨Ag,Ah,Ai,Aj⟩:=ce4 Aa
 obtain ⟨Ak,Al,Am,An⟩:=ce4 Ab
 replace hb:=hb.trans (hk.mono hb.size)
 clear hk
 obtain ⟨Ao,Ap,Aq⟩:=ce3 Ae
 obtain ⟨Ar,As,At⟩:=ce3 Af
 obtain ⟨Ds,Dt,Du⟩:=cy3 Ae
 obtain ⟨Dv,Dw,Dx⟩:=cy3 Af
 obtain ⟨Dy,Dz,D0,D1⟩:=cy4 Aa
 obtain ⟨D2,D3,D4,D5⟩:=cy4 Ab
 have Cs:=rrV C7 R hb
 have Ct:=rrV C8 R hb
 refine wp_region_tail_below 4 (by first | assumption | kernel_rfl) (by kernel_rfl) ?_
 simp only [List.take_succ_cons,List.take_zero,List.drop_succ_cons,List.drop_zero]
 repeat (quiet_step (first | (with_reducible exact Cs.out _ _) | (with_reducible exact Ct.out _ _)))
 refine wpQuiet_nil ?_
 intro w1 hw'
 obtain ⟨hk,hb⟩:=zQ hb hw'
 clear Ao Ap Aq Ar As At Ag Ah Ai Aj Ak Al Am An
 replace Ae:=zB hk Ae
 replace Af:=zB hk Af
 replace Aa:=zB hk Aa
 replace Ab:=zB hk Ab
 obtain ⟨Ao,Ap,Aq⟩:=ce3 Ae
 obtain ⟨Ar,As,At⟩:=ce3 Af
 obtain ⟨Ag,Ah,Ai,Aj⟩:=ce4 Aa
 obtain ⟨Ak,Al,Am,An⟩:=ce4 Ab
 clear Cs Ct Ds Dt Du Dv Dw Dx Dy Dz D0 D1 D2 D3 D4 D5
 clear hk hw'
 go_upto_region 7 with ((first | (go_at_call 21;with_reducible refine (zL hb (C9.out _ (R.below hb))).mono ?_) | (go_at_call 37;with_reducible refine (chVB hb R C10).mono ?_));clear hb;rintro e w1 ⟨rfl,hk,hb⟩;clear Ao Ap Aq Ar As At Ag Ah Ai Aj Ak Al Am An;replace Ae:=zB hk Ae;replace Af:=zB hk Af;replace Aa:=zB hk Aa;replace Ab:=zB hk Ab;obtain ⟨Ao,Ap,Aq⟩:=ce3 Ae;obtain ⟨Ar,As,At⟩:=ce3 Af;obtain ⟨Ag,Ah,Ai,Aj⟩:=ce4 Aa;obtain ⟨Ak,Al,Am,An⟩:=ce4 Ab;clear hk)
 refine wp_alloc1 (fun w1 Br hk=>?_)
 clear Ao Ap Aq Ar As At Ag Ah Ai Aj Ak Al Am An
 replace Ae:=zB hk Ae
 replace Af:=zB hk Af
 replace Aa:=zB hk Aa
 replace Ab:=zB hk Ab
 obtain ⟨Ao,Ap,Aq⟩:=ce3 Ae
 obtain ⟨Ar,As,At⟩:=ce3 Af
 obtain ⟨Ag,Ah,Ai,Aj⟩:=ce4 Aa
 obtain ⟨Ak,Al,Am,An⟩:=ce4 Ab
 replace hb:=hb.trans (hk.mono hb.size)
 clear hk
 obtain ⟨Cu,Cv,Cw⟩:=ce3 Br
 go_wp2_with ((first | (go_at_call 38;with_reducible refine (chVB hb R C11).mono ?_) | (go_at_call 64;first | with_reducible refine (chVB hb R C12).mono ?_ | with_reducible refine (chVB hb R C13).mono ?_));clear hb;rintro e w1 ⟨rfl,hk,hb⟩;clear Ao Ap Aq Ar As At Cu Cv Cw Ag Ah Ai Aj Ak Al Am An;replace Ae:=zB hk Ae;replace Af:=zB hk Af;replace Br:=zB hk Br;replace Aa:=zB hk Aa;replace Ab:=zB hk Ab;obtain ⟨Ao,Ap,Aq⟩:=ce3 Ae;obtain ⟨Ar,As,At⟩:=ce3 Af;obtain ⟨Cu,Cv,Cw⟩:=ce3 Br;obtain ⟨Ag,Ah,Ai,Aj⟩:=ce4 Aa;obtain ⟨Ak,Al,Am,An⟩:=ce4 Ab;clear hk)
 first | go_ret | go_ret2 | go_ret3
 exact ⟨rfl,hb⟩
theorem lawCommon_3  (i0 g0 i1 g1 i2 g2 i3 g3 i4 g4 i5 g5 i6 g6 i7 g7:Int) (p0 p1 p2 p3 p4 p5 p6 p7:Rat) (k0:SmallIs i0 g0 p0) (k1:SmallIs i1 g1 p1) (k2:SmallIs i2 g2 p2) (k3:SmallIs i3 g3 p3) (k4:SmallIs i4 g4 p4) (k5:SmallIs i5 g5 p5) (k6:SmallIs i6 g6 p6) (k7:SmallIs i7 g7 p7) (q0:((p1*p5) - (p2*p4))=0) (q1:((p2*p3) - (p0*p5))=0) (q2:((p0*p4) - (p1*p3))=0) (hp:¬ (p0=0∧p1=0∧p2=0)) (hq:¬ (p3=0∧p4=0∧p5=0)) (w:World) (R:EnvV w) :
   Calls Tryz.prog 11 #[.agg #[.int .i16 i0,.int .u8 g0,.int .i16 i1,.int .u8 g1,.int .i16 i2,.int .u8 g2,.int .i16 i3,.int .u8 g3,.int .i16 i4,.int .u8 g4,.int .i16 i5,.int .u8 g5],.agg #[.int .i16 i6,.int .u8 g6,.int .i16 i7,.int .u8 g7]] w (Ret w (.bool true)):=by
 have Ba:=RN_mul k1.rn k5.rn
 have Bb:=RN_mul k2.rn k4.rn
 have B9:=RN_sub (N:=16) Ba Bb
 have Bc:=RN_mul k2.rn k3.rn
 have Bd:=RN_mul k0.rn k5.rn
 have Ca:=RN_sub (N:=16) Bc Bd
 have Be:=RN_mul k0.rn k4.rn
 have Bf:=RN_mul k1.rn k3.rn
 have Cb:=RN_sub (N:=16) Be Bf
 have c1:=known5_any
 have c2:=makeV i0 g0 i1 g1 i2 g2 p0 p1 p2 k0 k1 k2
 have c3:=fun (w:World) (R:EnvV w)=>makeS i6 g6 p6 k6 w R.toEnvR
 have c4:=makeV i3 g3 i4 g4 i5 g5 p3 p4 p5 k3 k4 k5
 have c5:=fun (w:World) (R:EnvV w)=>makeS i7 g7 p7 k7 w R.toEnvR
 have c6:=common_3 p0 p1 p2 p6 p3 p4 p5 p7 q0 q1 q2 k0.rn.r2 k1.rn.r2 k2.rn.r2 k6.rn.r2 (no3 hp) k3.rn.r2 k4.rn.r2 k5.rn.r2 k7.rn.r2 (no3 hq) k1.rn.rm k5.rn.rm k2.rn.rm k4.rn.rm Ba.rm Bb.rm k3.rn.rm k0.rn.rm Bc.rm Bd.rm Be.rm Bf.rm
 have c7:CV 20 #[.agg #[.string (ratB p0),.string (ratB p1),.string (ratB p2),.string (ratB p6)]] (.int .i64 0):=fun w R=>(by have h:=refCheckPlane_any p0 p1 p2 p6 k0.rn.r2 k1.rn.r2 k2.rn.r2 k6.rn.r2 w R;rw [show planeE p0 p1 p2=0 from if_neg hp] at h;exact h)
 have c8:CV 20 #[.agg #[.string (ratB p3),.string (ratB p4),.string (ratB p5),.string (ratB p7)]] (.int .i64 0):=fun w R=>(by have h:=refCheckPlane_any p3 p4 p5 p7 k3.rn.r2 k4.rn.r2 k5.rn.r2 k7.rn.r2 w R;rw [show planeE p3 p4 p5=0 from if_neg hq] at h;exact h)
 have c9:=fun (w:World) (R:EnvV w)=>firstErr2 0 0 0 (by first | decide | simp [firstNZ]) w R.toEnvR
 have c10:=fun (w:World) (R:EnvV w)=>refVCross p0 p1 p2 p3 p4 p5 k1.rn.r4 k5.rn.r4 k2.rn.r4 k4.rn.r4 Ba.r4 Bb.r4 k3.rn.r4 k0.rn.r4 Bc.r4 Bd.r4 Be.r4 Bf.r4 w R.toEnvR
 have c11:=refZero_3 ((p1*p5) - (p2*p4)) ((p2*p3) - (p0*p5)) ((p0*p4) - (p1*p3)) q0 q1 q2
 have eq0:((ratB ((p1*p5) - (p2*p4))).toList == [48])=true:=by rw [ratB_eq_zero];exact decide_eq_true q0
 have pq0:(ratB ((p1*p5) - (p2*p4))).toList=[48]:=(zero_iff _).2 q0
 have eq1:((ratB ((p2*p3) - (p0*p5))).toList == [48])=true:=by rw [ratB_eq_zero];exact decide_eq_true q1
 have pq1:(ratB ((p2*p3) - (p0*p5))).toList=[48]:=(zero_iff _).2 q1
 have eq2:((ratB ((p0*p4) - (p1*p3))).toList == [48])=true:=by rw [ratB_eq_zero];exact decide_eq_true q2
 have pq2:(ratB ((p0*p4) - (p1*p3))).toList=[48]:=(zero_iff _).2 q2
 obtain ⟨Dk,Bp⟩:∃ vq,ratB ((p0*p4) - (p1*p3))=vq:=⟨_,rfl⟩
 obtain ⟨Dl,Bq⟩:∃ vq,ratB ((p1*p5) - (p2*p4))=vq:=⟨_,rfl⟩
 obtain ⟨Dm,Br⟩:∃ vq,ratB ((p2*p3) - (p0*p5))=vq:=⟨_,rfl⟩
 obtain ⟨Bg,Bs⟩:∃ vq,ratB p0=vq:=⟨_,rfl⟩
 obtain ⟨Bh,Bt⟩:∃ vq,ratB p1=vq:=⟨_,rfl⟩
 obtain ⟨Bi,Bu⟩:∃ vq,ratB p2=vq:=⟨_,rfl⟩
 obtain ⟨Bj,Bv⟩:∃ vq,ratB p3=vq:=⟨_,rfl⟩
 obtain ⟨Bk,Bw⟩:∃ vq,ratB p4=vq:=⟨_,rfl⟩
 obtain ⟨Bl,Bx⟩:∃ vq,ratB p5=vq:=⟨_,rfl⟩
 obtain ⟨Bm,By⟩:∃ vq,ratB p6=vq:=⟨_,rfl⟩
 obtain ⟨Bn,Bz⟩:∃ vq,ratB p7=vq:=⟨_,rfl⟩
 try simp only [Bp,Bq,Br,Bs,Bt,Bu,Bv,Bw,Bx,By,Bz] at c1 c2 c3 c4 c5 c6 c7 c8 c9 c10 c11 eq0 pq0 eq1 pq1 eq2 pq2 ⊢
 have C1:=Lib.hid c1
 have C2:=Lib.hid c2
 have C3:=Lib.hid c3
 have C4:=Lib.hid c4
 have C5:=Lib.hid c5
 have C6:=Lib.hid c6
 have C7:=Lib.hid c7
 have C8:=Lib.hid c8
 have C9:=Lib.hid c9
 have C10:=Lib.hid c10
 have C11:=Lib.hid c11
 clear c1 c2 c3 c4 c5 c6 c7 c8 c9 c10 c11 Bp Bq Br Bs Bt Bu Bv Bw Bx By Bz Ba Bb B9 Bc Bd Ca Be Bf Cb k0 k1 k2 k3 k4 k5 k6 k7 q0 q1 q2 hp hq
 have hb:=Below.refl w.heap.size w
 go_enter Tryz.func11,Tryz.ntmps11
 go_upto_region 1 with fail
 refine wp_alloc2 (fun w1 a0 a1 hk=>?_)
 replace hb:=hb.trans (hk.mono hb.size)
 clear hk
 obtain ⟨Au,Av,Aw,Ax,Ay,Az,A0,A1,A2,A3,A4,A5⟩:=ce12 a0
 obtain ⟨A6,A7,A8,A9⟩:=ce4 a1
 go_upto_region 3 with (go_at_call 13;with_reducible refine (chVB hb R C1).mono ?_;clear hb;rintro e w1 ⟨rfl,hk,hb⟩;clear Au Av Aw Ax Ay Az A0 A1 A2 A3 A4 A5 A6 A7 A8 A9;replace a0:=zB hk a0;replace a1:=zB hk a1;obtain ⟨Au,Av,Aw,Ax,Ay,Az,A0,A1,A2,A3,A4,A5⟩:=ce12 a0;obtain ⟨A6,A7,A8,A9⟩:=ce4 a1;clear hk)
 obtain ⟨Cc,Cd,Ce,Cf,Cg,Ch,Ci,Cj,Ck,Cm,Cn,Co⟩:=cy12 a0
 obtain ⟨Cp,Cq,Cr,Cs⟩:=cy4 a1
 have Ct:=rrV C2 R hb
 have Cu:=rrV C3 R hb
 have Cv:=rrV C4 R hb
 have Cw:=rrV C5 R hb
 have B0:=qqV C2 R hb
 have B1:=qqV C3 R hb
 have B2:=qqV C4 R hb
 have B3:=qqV C5 R hb
 refine wp_free2 14 0 (fun i=>if i=14 then Obj.cells #[Value.string ⟨#[]⟩,Value.string ⟨#[]⟩,Value.string ⟨#[]⟩,Value.string ⟨#[]⟩] 28 else if i=15 then Obj.cells #[Value.string ⟨#[]⟩,Value.string ⟨#[]⟩,Value.string ⟨#[]⟩,Value.string ⟨#[]⟩] 28 else Obj.cells #[] 0) (fun i=>if i=14 then Obj.cells #[Value.string Bg,Value.string Bh,Value.string Bi,Value.string Bm] 28 else if i=15 then Obj.cells #[Value.string Bj,Value.string Bk,Value.string Bl,Value.string Bn] 28 else Obj.cells #[] 0) (some 5) (some 6) (by first | assumption | kernel_rfl) (by kernel_rfl) ?lay rfl rfl ?_
 case lay =>
   intro i h1 h2
   obtain rfl | rfl:i=14∨i=15:=by omega
   all_goals exact ⟨_,rfl,rfl,fun a w=>(by first | (go_simp;done) | (go_simp;rfl))⟩
 simp only [List.take_succ_cons,List.take_zero]
 repeat (refine wpB_step (fun K hK=>?_);go_simp;first | (refine hK _ ?_;clear hK K) | (apply Exists.intro;refine ⟨fun _=>?_,hK _ ?_⟩;(first | (with_reducible exact B0.out _ _) | (with_reducible exact B1.out _ _) | (with_reducible exact B2.out _ _) | (with_reducible exact B3.out _ _));clear hK K))
 refine wpB_nil ?_
 intro Ac Ad
 refine ⟨?_,?_,?_⟩
 · refine ⟨_,rfl,rfl,rfl,fun cs b h=>(by cases h),fun w hw=>?_⟩
   replace hw:w.heap[Ac]? = some (Obj.cells #[Value.string ⟨#[]⟩,Value.string ⟨#[]⟩,Value.string ⟨#[]⟩,Value.string ⟨#[]⟩] 28):=hw
   have z0:w.cell? ⟨Ac,0,none⟩=some (Value.string ⟨#[]⟩):=zA hw
   have y0:w.frozen? ⟨Ac,0,none⟩=false:=zD hw
   have z1:w.cell? ⟨Ac,1,none⟩=some (Value.string ⟨#[]⟩):=zA hw
   have y1:w.frozen? ⟨Ac,1,none⟩=false:=zD hw
   have z2:w.cell? ⟨Ac,2,none⟩=some (Value.string ⟨#[]⟩):=zA hw
   have y2:w.frozen? ⟨Ac,2,none⟩=false:=zD hw
   have z3:w.cell? ⟨Ac,3,none⟩=some (Value.string ⟨#[]⟩):=zA hw
   have y3:w.frozen? ⟨Ac,3,none⟩=false:=zD hw
   refine ⟨_,?_,(Wrote.set (i:=3) (Wrote.set (i:=2) (Wrote.set (i:=1) (Wrote.set (i:=0) (Wrote.refl hw) (Value.string Bg)) (Value.string Bh)) (Value.string Bi)) (Value.string Bm))⟩
   go_simp
 · refine ⟨_,rfl,rfl,rfl,fun cs b h=>(by cases h),fun w hw=>?_⟩
   replace hw:w.heap[Ad]? = some (Obj.cells #[Value.string ⟨#[]⟩,Value.string ⟨#[]⟩,Value.string ⟨#[]⟩,Value.string ⟨#[]⟩] 28):=hw
   have z0:w.cell? ⟨Ad,0,none⟩=some (Value.string ⟨#[]⟩):=zA hw
   have y0:w.frozen? ⟨Ad,0,none⟩=false:=zD hw
   have z1:w.cell? ⟨Ad,1,none⟩=some (Value.string ⟨#[]⟩):=zA hw
   have y1:w.frozen? ⟨Ad,1,none⟩=false:=zD hw
   have z2:w.cell? ⟨Ad,2,none⟩=some (Value.string ⟨#[]⟩):=zA hw
   have y2:w.frozen? ⟨Ad,2,none⟩=false:=zD hw
   have z3:w.cell? ⟨Ad,3,none⟩=some (Value.string ⟨#[]⟩):=zA hw
   have y3:w.frozen? ⟨Ad,3,none⟩=false:=zD hw
   refine ⟨_,?_,(Wrote.set (i:=3) (Wrote.set (i:=2) (Wrote.set (i:=1) (Wrote.set (i:=0) (Wrote.refl hw) (Value.string Bj)) (Value.string Bk)) (Value.string Bl)) (Value.string Bn))⟩
   go_simp
 intro w1 hk m0 m1 Aa Ab _
 clear Au Av Aw Ax Ay Az A0 A1 A2 A3 A4 A5 A6 A7 A8 A9
 replace a0:=zB hk a0
 replace a1:=zB hk a1
 obtain ⟨Au,Av,Aw,Ax,Ay,Az,A0,A1,A2,A3,A4,A5⟩:=ce12 a0
 obtain ⟨A6,A7,A8,A9⟩:=ce4 a1
 replace hb:=hb.trans (hk.mono hb.size)
 clear hk
 replace Aa:w1.heap[Ac]? = some (Obj.cells #[Value.string Bg,Value.string Bh,Value.string Bi,Value.string Bm] 28):=Aa
 have Ag:w1.cell? ⟨Ac,0,none⟩=some (Value.string Bg):=zA Aa
 have Ah:w1.cell? ⟨Ac,1,none⟩=some (Value.string Bh):=zA Aa
 have Ai:w1.cell? ⟨Ac,2,none⟩=some (Value.string Bi):=zA Aa
 have Aj:w1.cell? ⟨Ac,3,none⟩=some (Value.string Bm):=zA Aa
 replace Ab:w1.heap[Ad]? = some (Obj.cells #[Value.string Bj,Value.string Bk,Value.string Bl,Value.string Bn] 28):=Ab
 have Ak:w1.cell? ⟨Ad,0,none⟩=some (Value.string Bj):=zA Ab
 have Al:w1.cell? ⟨Ad,1,none⟩=some (Value.string Bk):=zA Ab
 have Am:w1.cell? ⟨Ad,2,none⟩=some (Value.string Bl):=zA Ab
 have An:w1.cell? ⟨Ad,3,none⟩=some (Value.string Bn):=zA Ab
 clear B0 B1 B2 B3 Ct Cu Cv Cw Cc Cd Ce Cf Cg Ch Ci Cj Ck Cm Cn Co Cp Cq Cr Cs m0 m1
 go_upto_region 5 with (go_at_call 65;with_reducible refine (chVB hb R C6).mono ?_;clear hb;rintro e w1 ⟨rfl,hk,hb⟩;clear Ag Ah Ai Aj Ak Al Am An;replace Aa:=zB hk Aa;replace Ab:=zB hk Ab;obtain ⟨Ag,Ah,Ai,Aj⟩:=ce4 Aa;obtain ⟨Ak,Al,Am,An⟩:=ce4 Ab;clear hk)
 clear Au Av Aw Ax Ay Az A0 A1 A2 A3 A4 A5 a0 A6 A7 A8 A9 a1
 refine wp_alloc2 (fun w1 Ae Af hk=>?_)
 clear Ag Ah Ai Aj Ak Al Am An
 replace Aa:=zB hk Aa
 replace Ab:=zB hk Ab
 obtain ⟨Ag,Ah,Ai,Aj⟩:=ce4 Aa
 obtain ⟨Ak,Al,Am,An⟩:=ce4 Ab
 replace hb:=hb.trans (hk.mono hb.size)
 clear hk
 obtain ⟨Ao,Ap,Aq⟩:=ce3 Ae
 obtain ⟨Ar,As,At⟩:=ce3 Af
 obtain ⟨Cx,Cy,Cz⟩:=cy3 Ae
 obtain ⟨C0,Da,Db⟩:=cy3 Af
 obtain ⟨Dc,Dd,De,Df⟩:=cy4 Aa
 obtain ⟨Dg,Dh,Di,Dj⟩:=cy4 Ab
 have B4:=rrV C7 R hb
 have B5:=rrV C8 R hb
 refine wp_region_tail_below 4 (by first | assumption | kernel_rfl) (by kernel_rfl) ?_
 simp only [List.take_succ_cons,List.take_zero,List.drop_succ_cons,List.drop_zero]
 repeat (quiet_step (first | (with_reducible exact B4.out _ _) | (with_reducible exact B5.out _ _)))
 refine wpQuiet_nil ?_
 intro w1 hw'
 obtain ⟨hk,hb⟩:=zQ hb hw'
 clear Ao Ap Aq Ar As At Ag Ah Ai Aj Ak Al Am An
 replace Ae:=zB hk Ae
 replace Af:=zB hk Af
 replace Aa:=zB hk Aa
 replace Ab:=zB hk Ab
 obtain ⟨Ao,Ap,Aq⟩:=ce3 Ae
 obtain ⟨Ar,As,At⟩:=ce3 Af
 obtain ⟨Ag,Ah,Ai,Aj⟩:=ce4 Aa
 obtain ⟨Ak,Al,Am,An⟩:=ce4 Ab
 clear B4 B5 Cx Cy Cz C0 Da Db Dc Dd De Df Dg Dh Di Dj
 clear hk hw'
 go_upto_region 7 with ((first | (go_at_call 21;with_reducible refine (zL hb (C9.out _ (R.below hb))).mono ?_) | (go_at_call 37;with_reducible refine (chVB hb R C10).mono ?_));clear hb;rintro e w1 ⟨rfl,hk,hb⟩;clear Ao Ap Aq Ar As At Ag Ah Ai Aj Ak Al Am An;replace Ae:=zB hk Ae;replace Af:=zB hk Af;replace Aa:=zB hk Aa;replace Ab:=zB hk Ab;obtain ⟨Ao,Ap,Aq⟩:=ce3 Ae;obtain ⟨Ar,As,At⟩:=ce3 Af;obtain ⟨Ag,Ah,Ai,Aj⟩:=ce4 Aa;obtain ⟨Ak,Al,Am,An⟩:=ce4 Ab;clear hk)
 refine wp_alloc1 (fun w1 Bo hk=>?_)
 clear Ao Ap Aq Ar As At Ag Ah Ai Aj Ak Al Am An
 replace Ae:=zB hk Ae
 replace Af:=zB hk Af
 replace Aa:=zB hk Aa
 replace Ab:=zB hk Ab
 obtain ⟨Ao,Ap,Aq⟩:=ce3 Ae
 obtain ⟨Ar,As,At⟩:=ce3 Af
 obtain ⟨Ag,Ah,Ai,Aj⟩:=ce4 Aa
 obtain ⟨Ak,Al,Am,An⟩:=ce4 Ab
 replace hb:=hb.trans (hk.mono hb.size)
 clear hk
 obtain ⟨B6,B7,B8⟩:=ce3 Bo
 go_wp2_with (go_at_call 38;with_reducible refine (chVB hb R C11).mono ?_;clear hb;rintro e w1 ⟨rfl,hk,hb⟩;clear Ao Ap Aq Ar As At B6 B7 B8 Ag Ah Ai Aj Ak Al Am An;replace Ae:=zB hk Ae;replace Af:=zB hk Af;replace Bo:=zB hk Bo;replace Aa:=zB hk Aa;replace Ab:=zB hk Ab;obtain ⟨Ao,Ap,Aq⟩:=ce3 Ae;obtain ⟨Ar,As,At⟩:=ce3 Af;obtain ⟨B6,B7,B8⟩:=ce3 Bo;obtain ⟨Ag,Ah,Ai,Aj⟩:=ce4 Aa;obtain ⟨Ak,Al,Am,An⟩:=ce4 Ab;clear hk)
 first | go_ret | go_ret2 | go_ret3
 exact ⟨rfl,hb⟩
theorem lawCommon_4  (i0 g0 i1 g1 i2 g2 i3 g3 i4 g4 i5 g5 i6 g6 i7 g7:Int) (p0 p1 p2 p3 p4 p5 p6 p7:Rat) (k0:SmallIs i0 g0 p0) (k1:SmallIs i1 g1 p1) (k2:SmallIs i2 g2 p2) (k3:SmallIs i3 g3 p3) (k4:SmallIs i4 g4 p4) (k5:SmallIs i5 g5 p5) (k6:SmallIs i6 g6 p6) (k7:SmallIs i7 g7 p7) (hp:p0=0∧p1=0∧p2=0) (w:World) (R:EnvV w) :
   Calls Tryz.prog 11 #[.agg #[.int .i16 i0,.int .u8 g0,.int .i16 i1,.int .u8 g1,.int .i16 i2,.int .u8 g2,.int .i16 i3,.int .u8 g3,.int .i16 i4,.int .u8 g4,.int .i16 i5,.int .u8 g5],.agg #[.int .i16 i6,.int .u8 g6,.int .i16 i7,.int .u8 g7]] w (Ret w (.bool true)):=by
 have Bi:=RN_mul k1.rn k5.rn
 have Bj:=RN_mul k2.rn k4.rn
 have Bk:=RN_mul k2.rn k3.rn
 have Bl:=RN_mul k0.rn k5.rn
 have Bm:=RN_mul k0.rn k4.rn
 have Bn:=RN_mul k1.rn k3.rn
 have B5:=RN_sub (N:=16) Bi Bj
 have B6:=RN_sub (N:=16) Bk Bl
 have B7:=RN_sub (N:=16) Bm Bn
 have c1:=known5_any
 have c2:=makeV i0 g0 i1 g1 i2 g2 p0 p1 p2 k0 k1 k2
 have c3:=fun (w:World) (R:EnvV w)=>makeS i6 g6 p6 k6 w R.toEnvR
 have c4:=makeV i3 g3 i4 g4 i5 g5 p3 p4 p5 k3 k4 k5
 have c5:=fun (w:World) (R:EnvV w)=>makeS i7 g7 p7 k7 w R.toEnvR
 have c6:=common_4 p0 p1 p2 p6 p3 p4 p5 p7 hp k0.rn.r2 k1.rn.r2 k2.rn.r2 k6.rn.r2 k3.rn.r2 k4.rn.r2 k5.rn.r2 k7.rn.r2
 have c7:CV 20 #[.agg #[.string (ratB p0),.string (ratB p1),.string (ratB p2),.string (ratB p6)]] (.int .i64 17):=fun w R=>(by have h:=refCheckPlane_any p0 p1 p2 p6 k0.rn.r2 k1.rn.r2 k2.rn.r2 k6.rn.r2 w R;rw [show planeE p0 p1 p2=17 from if_pos hp] at h;exact h)
 have c8:=refCheckPlane_any p3 p4 p5 p7 k3.rn.r2 k4.rn.r2 k5.rn.r2 k7.rn.r2
 have c9:=fun (w:World) (R:EnvV w)=>firstErr2 17 (planeE p3 p4 p5) 17 (by first | decide | simp [firstNZ]) w R.toEnvR
 have c10:=fun (w:World) (R:EnvV w)=>refVCross p0 p1 p2 p3 p4 p5 k1.rn.r4 k5.rn.r4 k2.rn.r4 k4.rn.r4 Bi.r4 Bj.r4 k3.rn.r4 k0.rn.r4 Bk.r4 Bl.r4 Bm.r4 Bn.r4 w R.toEnvR
 obtain ⟨Dh,Bo⟩:∃ vq,ratB ((p0*p4) - (p1*p3))=vq:=⟨_,rfl⟩
 obtain ⟨Di,Bp⟩:∃ vq,ratB ((p1*p5) - (p2*p4))=vq:=⟨_,rfl⟩
 obtain ⟨Dj,Bq⟩:∃ vq,ratB ((p2*p3) - (p0*p5))=vq:=⟨_,rfl⟩
 obtain ⟨Ba,Br⟩:∃ vq,ratB p0=vq:=⟨_,rfl⟩
 obtain ⟨Bb,Bs⟩:∃ vq,ratB p1=vq:=⟨_,rfl⟩
 obtain ⟨Bc,Bt⟩:∃ vq,ratB p2=vq:=⟨_,rfl⟩
 obtain ⟨Bd,Bu⟩:∃ vq,ratB p3=vq:=⟨_,rfl⟩
 obtain ⟨Be,Bv⟩:∃ vq,ratB p4=vq:=⟨_,rfl⟩
 obtain ⟨Bf,Bw⟩:∃ vq,ratB p5=vq:=⟨_,rfl⟩
 obtain ⟨Bg,Bx⟩:∃ vq,ratB p6=vq:=⟨_,rfl⟩
 obtain ⟨Bh,By⟩:∃ vq,ratB p7=vq:=⟨_,rfl⟩
 try simp only [Bo,Bp,Bq,Br,Bs,Bt,Bu,Bv,Bw,Bx,By] at c1 c2 c3 c4 c5 c6 c7 c8 c9 c10 ⊢
 obtain ⟨pe,epe⟩:∃ vq,planeE p3 p4 p5=vq:=⟨_,rfl⟩
 try simp only [epe] at c1 c2 c3 c4 c5 c6 c7 c8 c9 c10 ⊢
 have C1:=Lib.hid c1
 have C2:=Lib.hid c2
 have C3:=Lib.hid c3
 have C4:=Lib.hid c4
 have C5:=Lib.hid c5
 have C6:=Lib.hid c6
 have C7:=Lib.hid c7
 have C8:=Lib.hid c8
 have C9:=Lib.hid c9
 have C10:=Lib.hid c10
 clear c1 c2 c3 c4 c5 c6 c7 c8 c9 c10 Bo Bp Bq Br Bs Bt Bu Bv Bw Bx By epe Bi Bj Bk Bl Bm Bn B5 B6 B7 k0 k1 k2 k3 k4 k5 k6 k7 hp
 have hb:=Below.refl w.heap.size w
 go_enter Tryz.func11,Tryz.ntmps11
 go_upto_region 1 with fail
 refine wp_alloc2 (fun w1 a0 a1 hk=>?_)
 replace hb:=hb.trans (hk.mono hb.size)
 clear hk
 obtain ⟨Au,Av,Aw,Ax,Ay,Az,A0,A1,A2,A3,A4,A5⟩:=ce12 a0
 obtain ⟨A6,A7,A8,A9⟩:=ce4 a1
 go_upto_region 3 with (go_at_call 13;with_reducible refine (chVB hb R C1).mono ?_;clear hb;rintro e w1 ⟨rfl,hk,hb⟩;clear Au Av Aw Ax Ay Az A0 A1 A2 A3 A4 A5 A6 A7 A8 A9;replace a0:=zB hk a0;replace a1:=zB hk a1;obtain ⟨Au,Av,Aw,Ax,Ay,Az,A0,A1,A2,A3,A4,A5⟩:=ce12 a0;obtain ⟨A6,A7,A8,A9⟩:=ce4 a1;clear hk)
 obtain ⟨B8,B9,Ca,Cb,Cc,Cd,Ce,Cf,Cg,Ch,Ci,Cj⟩:=cy12 a0
 obtain ⟨Ck,Cm,Cn,Co⟩:=cy4 a1
 have Cp:=rrV C2 R hb
 have Cq:=rrV C3 R hb
 have Cr:=rrV C4 R hb
 have Cs:=rrV C5 R hb
 have Bz:=qqV C2 R hb
 have B0:=qqV C3 R hb
 have B1:=qqV C4 R hb
 have B2:=qqV C5 R hb
 refine wp_free2 14 0 (fun i=>if i=14 then Obj.cells #[Value.string ⟨#[]⟩,Value.string ⟨#[]⟩,Value.string ⟨#[]⟩,Value.string ⟨#[]⟩] 28 else if i=15 then Obj.cells #[Value.string ⟨#[]⟩,Value.string ⟨#[]⟩,Value.string ⟨#[]⟩,Value.string ⟨#[]⟩] 28 else Obj.cells #[] 0) (fun i=>if i=14 then Obj.cells #[Value.string Ba,Value.string Bb,Value.string Bc,Value.string Bg] 28 else if i=15 then Obj.cells #[Value.string Bd,Value.string Be,Value.string Bf,Value.string Bh] 28 else Obj.cells #[] 0) (some 5) (some 6) (by first | assumption | kernel_rfl) (by kernel_rfl) ?lay rfl rfl ?_
 case lay =>
   intro i h1 h2
   obtain rfl | rfl:i=14∨i=15:=by omega
   all_goals exact ⟨_,rfl,rfl,fun a w=>(by first | (go_simp;done) | (go_simp;rfl))⟩
 simp only [List.take_succ_cons,List.take_zero]
 repeat (refine wpB_step (fun K hK=>?_);go_simp;first | (refine hK _ ?_;clear hK K) | (apply Exists.intro;refine ⟨fun _=>?_,hK _ ?_⟩;(first | (with_reducible exact Bz.out _ _) | (with_reducible exact B0.out _ _) | (with_reducible exact B1.out _ _) | (with_reducible exact B2.out _ _));clear hK K))
 refine wpB_nil ?_
 intro Ac Ad
 refine ⟨?_,?_,?_⟩
 · refine ⟨_,rfl,rfl,rfl,fun cs b h=>(by cases h),fun w hw=>?_⟩
   replace hw:w.heap[Ac]? = some (Obj.cells #[Value.string ⟨#[]⟩,Value.string ⟨#[]⟩,Value.string ⟨#[]⟩,Value.string ⟨#[]⟩] 28):=hw
   have z0:w.cell? ⟨Ac,0,none⟩=some (Value.string ⟨#[]⟩):=zA hw
   have y0:w.frozen? ⟨Ac,0,none⟩=false:=zD hw
   have z1:w.cell? ⟨Ac,1,none⟩=some (Value.string ⟨#[]⟩):=zA hw
   have y1:w.frozen? ⟨Ac,1,none⟩=false:=zD hw
   have z2:w.cell? ⟨Ac,2,none⟩=some (Value.string ⟨#[]⟩):=zA hw
   have y2:w.frozen? ⟨Ac,2,none⟩=false:=zD hw
   have z3:w.cell? ⟨Ac,3,none⟩=some (Value.string ⟨#[]⟩):=zA hw
   have y3:w.frozen? ⟨Ac,3,none⟩=false:=zD hw
   refine ⟨_,?_,(Wrote.set (i:=3) (Wrote.set (i:=2) (Wrote.set (i:=1) (Wrote.set (i:=0) (Wrote.refl hw) (Value.string Ba)) (Value.string Bb)) (Value.string Bc)) (Value.string Bg))⟩
   go_simp
 · refine ⟨_,rfl,rfl,rfl,fun cs b h=>(by cases h),fun w hw=>?_⟩
   replace hw:w.heap[Ad]? = some (Obj.cells #[Value.string ⟨#[]⟩,Value.string ⟨#[]⟩,Value.string ⟨#[]⟩,Value.string ⟨#[]⟩] 28):=hw
   have z0:w.cell? ⟨Ad,0,none⟩=some (Value.string ⟨#[]⟩):=zA hw
   have y0:w.frozen? ⟨Ad,0,none⟩=false:=zD hw
   have z1:w.cell? ⟨Ad,1,none⟩=some (Value.string ⟨#[]⟩):=zA hw
   have y1:w.frozen? ⟨Ad,1,none⟩=false:=zD hw
   have z2:w.cell? ⟨Ad,2,none⟩=some (Value.string ⟨#[]⟩):=zA hw
   have y2:w.frozen? ⟨Ad,2,none⟩=false:=zD hw
   have z3:w.cell? ⟨Ad,3,none⟩=some (Value.string ⟨#[]⟩):=zA hw
   have y3:w.frozen? ⟨Ad,3,none⟩=false:=zD hw
   refine ⟨_,?_,(Wrote.set (i:=3) (Wrote.set (i:=2) (Wrote.set (i:=1) (Wrote.set (i:=0) (Wrote.refl hw) (Value.string Bd)) (Value.string Be)) (Value.string Bf)) (Value.string Bh))⟩
   go_simp
 intro w1 hk m0 m1 Aa Ab _
 clear Au Av Aw Ax Ay Az A0 A1 A2 A3 A4 A5 A6 A7 A8 A9
 replace a0:=zB hk a0
 replace a1:=zB hk a1
 obtain ⟨Au,Av,Aw,Ax,Ay,Az,A0,A1,A2,A3,A4,A5⟩:=ce12 a0
 obtain ⟨A6,A7,A8,A9⟩:=ce4 a1
 replace hb:=hb.trans (hk.mono hb.size)
 clear hk
 replace Aa:w1.heap[Ac]? = some (Obj.cells #[Value.string Ba,Value.string Bb,Value.string Bc,Value.string Bg] 28):=Aa
 have Ag:w1.cell? ⟨Ac,0,none⟩=some (Value.string Ba):=zA Aa
 have Ah:w1.cell? ⟨Ac,1,none⟩=some (Value.string Bb):=zA Aa
 have Ai:w1.cell? ⟨Ac,2,none⟩=some (Value.string Bc):=zA Aa
 have Aj:w1.cell? ⟨Ac,3,none⟩=some (Value.string Bg):=zA Aa
 replace Ab:w1.heap[Ad]? = some (Obj.cells #[Value.string Bd,Value.string Be,Value.string Bf,Value.string Bh] 28):=Ab
 have Ak:w1.cell? ⟨Ad,0,none⟩=some (Value.string Bd):=zA Ab
 have Al:w1.cell? ⟨Ad,1,none⟩=some (Value.string Be):=zA Ab
 have Am:w1.cell? ⟨Ad,2,none⟩=some (Value.string Bf):=zA Ab
 have An:w1.cell? ⟨Ad,3,none⟩=some (Value.string Bh):=zA Ab
 clear Bz B0 B1 B2 Cp Cq Cr Cs B8 B9 Ca Cb Cc Cd Ce Cf Cg Ch Ci Cj Ck Cm Cn Co m0 m1
 go_upto_region 5 with (go_at_call 65;with_reducible refine (chVB hb R C6).mono ?_;clear hb;rintro e w1 ⟨rfl,hk,hb⟩;clear Ag Ah Ai Aj Ak Al Am An;replace Aa:=zB hk Aa;replace Ab:=zB hk Ab;obtain ⟨Ag,Ah,Ai,Aj⟩:=ce4 Aa;obtain ⟨Ak,Al,Am,An⟩:=ce4 Ab;clear hk)
 clear Au Av Aw Ax Ay Az A0 A1 A2 A3 A4 A5 a0 A6 A7 A8 A9 a1
 refine wp_alloc2 (fun w1 Ae Af hk=>?_)
 clear Ag Ah Ai Aj Ak Al Am An
 replace Aa:=zB hk Aa
 replace Ab:=zB hk Ab
 obtain ⟨Ag,Ah,Ai,Aj⟩:=ce4 Aa
 obtain ⟨Ak,Al,Am,An⟩:=ce4 Ab
 replace hb:=hb.trans (hk.mono hb.size)
 clear hk
 obtain ⟨Ao,Ap,Aq⟩:=ce3 Ae
 obtain ⟨Ar,As,At⟩:=ce3 Af
 obtain ⟨Ct,Cu,Cv⟩:=cy3 Ae
 obtain ⟨Cw,Cx,Cy⟩:=cy3 Af
 obtain ⟨Cz,C0,Da,Db⟩:=cy4 Aa
 obtain ⟨Dc,Dd,De,Df⟩:=cy4 Ab
 have B3:=rrV C7 R hb
 have B4:=rrV C8 R hb
 refine wp_region_tail_below 4 (by first | assumption | kernel_rfl) (by kernel_rfl) ?_
 simp only [List.take_succ_cons,List.take_zero,List.drop_succ_cons,List.drop_zero]
 repeat (quiet_step (first | (with_reducible exact B3.out _ _) | (with_reducible exact B4.out _ _)))
 refine wpQuiet_nil ?_
 intro w1 hw'
 obtain ⟨hk,hb⟩:=zQ hb hw'
 clear Ao Ap Aq Ar As At Ag Ah Ai Aj Ak Al Am An
 replace Ae:=zB hk Ae
 replace Af:=zB hk Af
 replace Aa:=zB hk Aa
 replace Ab:=zB hk Ab
 obtain ⟨Ao,Ap,Aq⟩:=ce3 Ae
 obtain ⟨Ar,As,At⟩:=ce3 Af
 obtain ⟨Ag,Ah,Ai,Aj⟩:=ce4 Aa
 obtain ⟨Ak,Al,Am,An⟩:=ce4 Ab
 clear B3 B4 Ct Cu Cv Cw Cx Cy Cz C0 Da Db Dc Dd De Df
 clear hk hw'
 go_upto_region 7 with ((first | (go_at_call 21;with_reducible refine (zL hb (C9.out _ (R.below hb))).mono ?_) | (go_at_call 37;with_reducible refine (chVB hb R C10).mono ?_));clear hb;rintro e w1 ⟨rfl,hk,hb⟩;clear Ao Ap Aq Ar As At Ag Ah Ai Aj Ak Al Am An;replace Ae:=zB hk Ae;replace Af:=zB hk Af;replace Aa:=zB hk Aa;replace Ab:=zB hk Ab;obtain ⟨Ao,Ap,Aq⟩:=ce3 Ae;obtain ⟨Ar,As,At⟩:=ce3 Af;obtain ⟨Ag,Ah,Ai,Aj⟩:=ce4 Aa;obtain ⟨Ak,Al,Am,An⟩:=ce4 Ab;clear hk)
 refine wp_alloc1 (fun w1 Dg hk=>?_)
 clear Ao Ap Aq Ar As At Ag Ah Ai Aj Ak Al Am An
 replace Ae:=zB hk Ae
 replace Af:=zB hk Af
 replace Aa:=zB hk Aa
 replace Ab:=zB hk Ab
 obtain ⟨Ao,Ap,Aq⟩:=ce3 Ae
 obtain ⟨Ar,As,At⟩:=ce3 Af
 obtain ⟨Ag,Ah,Ai,Aj⟩:=ce4 Aa
 obtain ⟨Ak,Al,Am,An⟩:=ce4 Ab
 replace hb:=hb.trans (hk.mono hb.size)
 clear hk
 obtain ⟨Dk,Dl,Dm⟩:=ce3 Dg
 go_wp2
 first | go_ret | go_ret2 | go_ret3
 exact ⟨rfl,hb⟩
theorem lawCommon_5  (i0 g0 i1 g1 i2 g2 i3 g3 i4 g4 i5 g5 i6 g6 i7 g7:Int) (p0 p1 p2 p3 p4 p5 p6 p7:Rat) (k0:SmallIs i0 g0 p0) (k1:SmallIs i1 g1 p1) (k2:SmallIs i2 g2 p2) (k3:SmallIs i3 g3 p3) (k4:SmallIs i4 g4 p4) (k5:SmallIs i5 g5 p5) (k6:SmallIs i6 g6 p6) (k7:SmallIs i7 g7 p7) (hp:¬ (p0=0∧p1=0∧p2=0)) (hq:p3=0∧p4=0∧p5=0) (w:World) (R:EnvV w) :
   Calls Tryz.prog 11 #[.agg #[.int .i16 i0,.int .u8 g0,.int .i16 i1,.int .u8 g1,.int .i16 i2,.int .u8 g2,.int .i16 i3,.int .u8 g3,.int .i16 i4,.int .u8 g4,.int .i16 i5,.int .u8 g5],.agg #[.int .i16 i6,.int .u8 g6,.int .i16 i7,.int .u8 g7]] w (Ret w (.bool true)):=by
 have Bi:=RN_mul k1.rn k5.rn
 have Bj:=RN_mul k2.rn k4.rn
 have Bk:=RN_mul k2.rn k3.rn
 have Bl:=RN_mul k0.rn k5.rn
 have Bm:=RN_mul k0.rn k4.rn
 have Bn:=RN_mul k1.rn k3.rn
 have B5:=RN_sub (N:=16) Bi Bj
 have B6:=RN_sub (N:=16) Bk Bl
 have B7:=RN_sub (N:=16) Bm Bn
 have c1:=known5_any
 have c2:=makeV i0 g0 i1 g1 i2 g2 p0 p1 p2 k0 k1 k2
 have c3:=fun (w:World) (R:EnvV w)=>makeS i6 g6 p6 k6 w R.toEnvR
 have c4:=makeV i3 g3 i4 g4 i5 g5 p3 p4 p5 k3 k4 k5
 have c5:=fun (w:World) (R:EnvV w)=>makeS i7 g7 p7 k7 w R.toEnvR
 have c6:=common_5 p0 p1 p2 p6 p3 p4 p5 p7 hp hq k0.rn.r2 k1.rn.r2 k2.rn.r2 k6.rn.r2 k3.rn.r2 k4.rn.r2 k5.rn.r2 k7.rn.r2
 have c7:CV 20 #[.agg #[.string (ratB p0),.string (ratB p1),.string (ratB p2),.string (ratB p6)]] (.int .i64 0):=fun w R=>(by have h:=refCheckPlane_any p0 p1 p2 p6 k0.rn.r2 k1.rn.r2 k2.rn.r2 k6.rn.r2 w R;rw [show planeE p0 p1 p2=0 from if_neg hp] at h;exact h)
 have c8:CV 20 #[.agg #[.string (ratB p3),.string (ratB p4),.string (ratB p5),.string (ratB p7)]] (.int .i64 17):=fun w R=>(by have h:=refCheckPlane_any p3 p4 p5 p7 k3.rn.r2 k4.rn.r2 k5.rn.r2 k7.rn.r2 w R;rw [show planeE p3 p4 p5=17 from if_pos hq] at h;exact h)
 have c9:=fun (w:World) (R:EnvV w)=>firstErr2 0 17 17 (by first | decide | simp [firstNZ]) w R.toEnvR
 have c10:=fun (w:World) (R:EnvV w)=>refVCross p0 p1 p2 p3 p4 p5 k1.rn.r4 k5.rn.r4 k2.rn.r4 k4.rn.r4 Bi.r4 Bj.r4 k3.rn.r4 k0.rn.r4 Bk.r4 Bl.r4 Bm.r4 Bn.r4 w R.toEnvR
 obtain ⟨Dh,Bo⟩:∃ vq,ratB ((p0*p4) - (p1*p3))=vq:=⟨_,rfl⟩
 obtain ⟨Di,Bp⟩:∃ vq,ratB ((p1*p5) - (p2*p4))=vq:=⟨_,rfl⟩
 obtain ⟨Dj,Bq⟩:∃ vq,ratB ((p2*p3) - (p0*p5))=vq:=⟨_,rfl⟩
 obtain ⟨Ba,Br⟩:∃ vq,ratB p0=vq:=⟨_,rfl⟩
 obtain ⟨Bb,Bs⟩:∃ vq,ratB p1=vq:=⟨_,rfl⟩
 obtain ⟨Bc,Bt⟩:∃ vq,ratB p2=vq:=⟨_,rfl⟩
 obtain ⟨Bd,Bu⟩:∃ vq,ratB p3=vq:=⟨_,rfl⟩
 obtain ⟨Be,Bv⟩:∃ vq,ratB p4=vq:=⟨_,rfl⟩
 obtain ⟨Bf,Bw⟩:∃ vq,ratB p5=vq:=⟨_,rfl⟩
 obtain ⟨Bg,Bx⟩:∃ vq,ratB p6=vq:=⟨_,rfl⟩
 obtain ⟨Bh,By⟩:∃ vq,ratB p7=vq:=⟨_,rfl⟩
 try simp only [Bo,Bp,Bq,Br,Bs,Bt,Bu,Bv,Bw,Bx,By] at c1 c2 c3 c4 c5 c6 c7 c8 c9 c10 ⊢
 have C1:=Lib.hid c1
 have C2:=Lib.hid c2
 have C3:=Lib.hid c3
 have C4:=Lib.hid c4
 have C5:=Lib.hid c5
 have C6:=Lib.hid c6
 have C7:=Lib.hid c7
 have C8:=Lib.hid c8
 have C9:=Lib.hid c9
 have C10:=Lib.hid c10
 clear c1 c2 c3 c4 c5 c6 c7 c8 c9 c10 Bo Bp Bq Br Bs Bt Bu Bv Bw Bx By Bi Bj Bk Bl Bm Bn B5 B6 B7 k0 k1 k2 k3 k4 k5 k6 k7 hp hq
 have hb:=Below.refl w.heap.size w
 go_enter Tryz.func11,Tryz.ntmps11
 go_upto_region 1 with fail
 refine wp_alloc2 (fun w1 a0 a1 hk=>?_)
 replace hb:=hb.trans (hk.mono hb.size)
 clear hk
 obtain ⟨Au,Av,Aw,Ax,Ay,Az,A0,A1,A2,A3,A4,A5⟩:=ce12 a0
 obtain ⟨A6,A7,A8,A9⟩:=ce4 a1
 go_upto_region 3 with (go_at_call 13;with_reducible refine (chVB hb R C1).mono ?_;clear hb;rintro e w1 ⟨rfl,hk,hb⟩;clear Au Av Aw Ax Ay Az A0 A1 A2 A3 A4 A5 A6 A7 A8 A9;replace a0:=zB hk a0;replace a1:=zB hk a1;obtain ⟨Au,Av,Aw,Ax,Ay,Az,A0,A1,A2,A3,A4,A5⟩:=ce12 a0;obtain ⟨A6,A7,A8,A9⟩:=ce4 a1;clear hk)
 obtain ⟨B8,B9,Ca,Cb,Cc,Cd,Ce,Cf,Cg,Ch,Ci,Cj⟩:=cy12 a0
 obtain ⟨Ck,Cm,Cn,Co⟩:=cy4 a1
 have Cp:=rrV C2 R hb
 have Cq:=rrV C3 R hb
 have Cr:=rrV C4 R hb
 have Cs:=rrV C5 R hb
 have Bz:=qqV C2 R hb
 have B0:=qqV C3 R hb
 have B1:=qqV C4 R hb
 have B2:=qqV C5 R hb
 refine wp_free2 14 0 (fun i=>if i=14 then Obj.cells #[Value.string ⟨#[]⟩,Value.string ⟨#[]⟩,Value.string ⟨#[]⟩,Value.string ⟨#[]⟩] 28 else if i=15 then Obj.cells #[Value.string ⟨#[]⟩,Value.string ⟨#[]⟩,Value.string ⟨#[]⟩,Value.string ⟨#[]⟩] 28 else Obj.cells #[] 0) (fun i=>if i=14 then Obj.cells #[Value.string Ba,Value.string Bb,Value.string Bc,Value.string Bg] 28 else if i=15 then Obj.cells #[Value.string Bd,Value.string Be,Value.string Bf,Value.string Bh] 28 else Obj.cells #[] 0) (some 5) (some 6) (by first | assumption | kernel_rfl) (by kernel_rfl) ?lay rfl rfl ?_
 case lay =>
   intro i h1 h2
   obtain rfl | rfl:i=14∨i=15:=by omega
   all_goals exact ⟨_,rfl,rfl,fun a w=>(by first | (go_simp;done) | (go_simp;rfl))⟩
 simp only [List.take_succ_cons,List.take_zero]
 repeat (refine wpB_step (fun K hK=>?_);go_simp;first | (refine hK _ ?_;clear hK K) | (apply Exists.intro;refine ⟨fun _=>?_,hK _ ?_⟩;(first | (with_reducible exact Bz.out _ _) | (with_reducible exact B0.out _ _) | (with_reducible exact B1.out _ _) | (with_reducible exact B2.out _ _));clear hK K))
 refine wpB_nil ?_
 intro Ac Ad
 refine ⟨?_,?_,?_⟩
 · refine ⟨_,rfl,rfl,rfl,fun cs b h=>(by cases h),fun w hw=>?_⟩
   replace hw:w.heap[Ac]? = some (Obj.cells #[Value.string ⟨#[]⟩,Value.string ⟨#[]⟩,Value.string ⟨#[]⟩,Value.string ⟨#[]⟩] 28):=hw
   have z0:w.cell? ⟨Ac,0,none⟩=some (Value.string ⟨#[]⟩):=zA hw
   have y0:w.frozen? ⟨Ac,0,none⟩=false:=zD hw
   have z1:w.cell? ⟨Ac,1,none⟩=some (Value.string ⟨#[]⟩):=zA hw
   have y1:w.frozen? ⟨Ac,1,none⟩=false:=zD hw
   have z2:w.cell? ⟨Ac,2,none⟩=some (Value.string ⟨#[]⟩):=zA hw
   have y2:w.frozen? ⟨Ac,2,none⟩=false:=zD hw
   have z3:w.cell? ⟨Ac,3,none⟩=some (Value.string ⟨#[]⟩):=zA hw
   have y3:w.frozen? ⟨Ac,3,none⟩=false:=zD hw
   refine ⟨_,?_,(Wrote.set (i:=3) (Wrote.set (i:=2) (Wrote.set (i:=1) (Wrote.set (i:=0) (Wrote.refl hw) (Value.string Ba)) (Value.string Bb)) (Value.string Bc)) (Value.string Bg))⟩
   go_simp
 · refine ⟨_,rfl,rfl,rfl,fun cs b h=>(by cases h),fun w hw=>?_⟩
   replace hw:w.heap[Ad]? = some (Obj.cells #[Value.string ⟨#[]⟩,Value.string ⟨#[]⟩,Value.string ⟨#[]⟩,Value.string ⟨#[]⟩] 28):=hw
   have z0:w.cell? ⟨Ad,0,none⟩=some (Value.string ⟨#[]⟩):=zA hw
   have y0:w.frozen? ⟨Ad,0,none⟩=false:=zD hw
   have z1:w.cell? ⟨Ad,1,none⟩=some (Value.string ⟨#[]⟩):=zA hw
   have y1:w.frozen? ⟨Ad,1,none⟩=false:=zD hw
   have z2:w.cell? ⟨Ad,2,none⟩=some (Value.string ⟨#[]⟩):=zA hw
   have y2:w.frozen? ⟨Ad,2,none⟩=false:=zD hw
   have z3:w.cell? ⟨Ad,3,none⟩=some (Value.string ⟨#[]⟩):=zA hw
   have y3:w.frozen? ⟨Ad,3,none⟩=false:=zD hw
   refine ⟨_,?_,(Wrote.set (i:=3) (Wrote.set (i:=2) (Wrote.set (i:=1) (Wrote.set (i:=0) (Wrote.refl hw) (Value.string Bd)) (Value.string Be)) (Value.string Bf)) (Value.string Bh))⟩
   go_simp
 intro w1 hk m0 m1 Aa Ab _
 clear Au Av Aw Ax Ay Az A0 A1 A2 A3 A4 A5 A6 A7 A8 A9
 replace a0:=zB hk a0
 replace a1:=zB hk a1
 obtain ⟨Au,Av,Aw,Ax,Ay,Az,A0,A1,A2,A3,A4,A5⟩:=ce12 a0
 obtain ⟨A6,A7,A8,A9⟩:=ce4 a1
 replace hb:=hb.trans (hk.mono hb.size)
 clear hk
 replace Aa:w1.heap[Ac]? = some (Obj.cells #[Value.string Ba,Value.string Bb,Value.string Bc,Value.string Bg] 28):=Aa
 have Ag:w1.cell? ⟨Ac,0,none⟩=some (Value.string Ba):=zA Aa
 have Ah:w1.cell? ⟨Ac,1,none⟩=some (Value.string Bb):=zA Aa
 have Ai:w1.cell? ⟨Ac,2,none⟩=some (Value.string Bc):=zA Aa
 have Aj:w1.cell? ⟨Ac,3,none⟩=some (Value.string Bg):=zA Aa
 replace Ab:w1.heap[Ad]? = some (Obj.cells #[Value.string Bd,Value.string Be,Value.string Bf,Value.string Bh] 28):=Ab
 have Ak:w1.cell? ⟨Ad,0,none⟩=some (Value.string Bd):=zA Ab
 have Al:w1.cell? ⟨Ad,1,none⟩=some (Value.string Be):=zA Ab
 have Am:w1.cell? ⟨Ad,2,none⟩=some (Value.string Bf):=zA Ab
 have An:w1.cell? ⟨Ad,3,none⟩=some (Value.string Bh):=zA Ab
 clear Bz B0 B1 B2 Cp Cq Cr Cs B8 B9 Ca Cb Cc Cd Ce Cf Cg Ch Ci Cj Ck Cm Cn Co m0 m1
 go_upto_region 5 with (go_at_call 65;with_reducible refine (chVB hb R C6).mono ?_;clear hb;rintro e w1 ⟨rfl,hk,hb⟩;clear Ag Ah Ai Aj Ak Al Am An;replace Aa:=zB hk Aa;replace Ab:=zB hk Ab;obtain ⟨Ag,Ah,Ai,Aj⟩:=ce4 Aa;obtain ⟨Ak,Al,Am,An⟩:=ce4 Ab;clear hk)
 clear Au Av Aw Ax Ay Az A0 A1 A2 A3 A4 A5 a0 A6 A7 A8 A9 a1
 refine wp_alloc2 (fun w1 Ae Af hk=>?_)
 clear Ag Ah Ai Aj Ak Al Am An
 replace Aa:=zB hk Aa
 replace Ab:=zB hk Ab
 obtain ⟨Ag,Ah,Ai,Aj⟩:=ce4 Aa
 obtain ⟨Ak,Al,Am,An⟩:=ce4 Ab
 replace hb:=hb.trans (hk.mono hb.size)
 clear hk
 obtain ⟨Ao,Ap,Aq⟩:=ce3 Ae
 obtain ⟨Ar,As,At⟩:=ce3 Af
 obtain ⟨Ct,Cu,Cv⟩:=cy3 Ae
 obtain ⟨Cw,Cx,Cy⟩:=cy3 Af
 obtain ⟨Cz,C0,Da,Db⟩:=cy4 Aa
 obtain ⟨Dc,Dd,De,Df⟩:=cy4 Ab
 have B3:=rrV C7 R hb
 have B4:=rrV C8 R hb
 refine wp_region_tail_below 4 (by first | assumption | kernel_rfl) (by kernel_rfl) ?_
 simp only [List.take_succ_cons,List.take_zero,List.drop_succ_cons,List.drop_zero]
 repeat (quiet_step (first | (with_reducible exact B3.out _ _) | (with_reducible exact B4.out _ _)))
 refine wpQuiet_nil ?_
 intro w1 hw'
 obtain ⟨hk,hb⟩:=zQ hb hw'
 clear Ao Ap Aq Ar As At Ag Ah Ai Aj Ak Al Am An
 replace Ae:=zB hk Ae
 replace Af:=zB hk Af
 replace Aa:=zB hk Aa
 replace Ab:=zB hk Ab
 obtain ⟨Ao,Ap,Aq⟩:=ce3 Ae
 obtain ⟨Ar,As,At⟩:=ce3 Af
 obtain ⟨Ag,Ah,Ai,Aj⟩:=ce4 Aa
 obtain ⟨Ak,Al,Am,An⟩:=ce4 Ab
 clear B3 B4 Ct Cu Cv Cw Cx Cy Cz C0 Da Db Dc Dd De Df
 clear hk hw'
 go_upto_region 7 with ((first | (go_at_call 21;with_reducible refine (zL hb (C9.out _ (R.below hb))).mono ?_) | (go_at_call 37;with_reducible refine (chVB hb R C10).mono ?_));clear hb;rintro e w1 ⟨rfl,hk,hb⟩;clear Ao Ap Aq Ar As At Ag Ah Ai Aj Ak Al Am An;replace Ae:=zB hk Ae;replace Af:=zB hk Af;replace Aa:=zB hk Aa;replace Ab:=zB hk Ab;obtain ⟨Ao,Ap,Aq⟩:=ce3 Ae;obtain ⟨Ar,As,At⟩:=ce3 Af;obtain ⟨Ag,Ah,Ai,Aj⟩:=ce4 Aa;obtain ⟨Ak,Al,Am,An⟩:=ce4 Ab;clear hk)
 refine wp_alloc1 (fun w1 Dg hk=>?_)
 clear Ao Ap Aq Ar As At Ag Ah Ai Aj Ak Al Am An
 replace Ae:=zB hk Ae
 replace Af:=zB hk Af
 replace Aa:=zB hk Aa
 replace Ab:=zB hk Ab
 obtain ⟨Ao,Ap,Aq⟩:=ce3 Ae
 obtain ⟨Ar,As,At⟩:=ce3 Af
 obtain ⟨Ag,Ah,Ai,Aj⟩:=ce4 Aa
 obtain ⟨Ak,Al,Am,An⟩:=ce4 Ab
 replace hb:=hb.trans (hk.mono hb.size)
 clear hk
 obtain ⟨Dk,Dl,Dm⟩:=ce3 Dg
 go_wp2
 first | go_ret | go_ret2 | go_ret3
 exact ⟨rfl,hb⟩
theorem lawCommon (i0 g0 i1 g1 i2 g2 i3 g3 i4 g4 i5 g5 i6 g6 i7 g7:Int) (b0:(-32768≤i0∧i0≤32767)∧(0≤g0∧g0≤255)) (b1:(-32768≤i1∧i1≤32767)∧(0≤g1∧g1≤255)) (b2:(-32768≤i2∧i2≤32767)∧(0≤g2∧g2≤255)) (b3:(-32768≤i3∧i3≤32767)∧(0≤g3∧g3≤255)) (b4:(-32768≤i4∧i4≤32767)∧(0≤g4∧g4≤255)) (b5:(-32768≤i5∧i5≤32767)∧(0≤g5∧g5≤255)) (b6:(-32768≤i6∧i6≤32767)∧(0≤g6∧g6≤255)) (b7:(-32768≤i7∧i7≤32767)∧(0≤g7∧g7≤255)) (w:World) (R:EnvV w) :
   Calls Tryz.prog 11 #[.agg #[.int .i16 i0,.int .u8 g0,.int .i16 i1,.int .u8 g1,.int .i16 i2,.int .u8 g2,.int .i16 i3,.int .u8 g3,.int .i16 i4,.int .u8 g4,.int .i16 i5,.int .u8 g5],.agg #[.int .i16 i6,.int .u8 g6,.int .i16 i7,.int .u8 g7]] w (Ret w (.bool true)):=by
 obtain ⟨p0,k0⟩:∃ p,SmallIs i0 g0 p:=⟨_,b0.1,b0.2,rfl⟩
 obtain ⟨p1,k1⟩:∃ p,SmallIs i1 g1 p:=⟨_,b1.1,b1.2,rfl⟩
 obtain ⟨p2,k2⟩:∃ p,SmallIs i2 g2 p:=⟨_,b2.1,b2.2,rfl⟩
 obtain ⟨p3,k3⟩:∃ p,SmallIs i3 g3 p:=⟨_,b3.1,b3.2,rfl⟩
 obtain ⟨p4,k4⟩:∃ p,SmallIs i4 g4 p:=⟨_,b4.1,b4.2,rfl⟩
 obtain ⟨p5,k5⟩:∃ p,SmallIs i5 g5 p:=⟨_,b5.1,b5.2,rfl⟩
 obtain ⟨p6,k6⟩:∃ p,SmallIs i6 g6 p:=⟨_,b6.1,b6.2,rfl⟩
 obtain ⟨p7,k7⟩:∃ p,SmallIs i7 g7 p:=⟨_,b7.1,b7.2,rfl⟩
 by_cases hp:p0=0∧p1=0∧p2=0
 · exact lawCommon_4 i0 g0 i1 g1 i2 g2 i3 g3 i4 g4 i5 g5 i6 g6 i7 g7 p0 p1 p2 p3 p4 p5 p6 p7 k0 k1 k2 k3 k4 k5 k6 k7 hp w R
 by_cases hq:p3=0∧p4=0∧p5=0
 · exact lawCommon_5 i0 g0 i1 g1 i2 g2 i3 g3 i4 g4 i5 g5 i6 g6 i7 g7 p0 p1 p2 p3 p4 p5 p6 p7 k0 k1 k2 k3 k4 k5 k6 k7 hp hq w R
 by_cases q0:((p1*p5) - (p2*p4))=0
 · by_cases q1:((p2*p3) - (p0*p5))=0
   · by_cases q2:((p0*p4) - (p1*p3))=0
     · exact lawCommon_3 i0 g0 i1 g1 i2 g2 i3 g3 i4 g4 i5 g5 i6 g6 i7 g7 p0 p1 p2 p3 p4 p5 p6 p7 k0 k1 k2 k3 k4 k5 k6 k7 q0 q1 q2 hp hq w R
     · exact lawCommon_2 i0 g0 i1 g1 i2 g2 i3 g3 i4 g4 i5 g5 i6 g6 i7 g7 p0 p1 p2 p3 p4 p5 p6 p7 k0 k1 k2 k3 k4 k5 k6 k7 q0 q1 q2 hp hq w R
   · exact lawCommon_1 i0 g0 i1 g1 i2 g2 i3 g3 i4 g4 i5 g5 i6 g6 i7 g7 p0 p1 p2 p3 p4 p5 p6 p7 k0 k1 k2 k3 k4 k5 k6 k7 q0 q1 hp hq w R
 · exact lawCommon_0 i0 g0 i1 g1 i2 g2 i3 g3 i4 g4 i5 g5 i6 g6 i7 g7 p0 p1 p2 p3 p4 p5 p6 p7 k0 k1 k2 k3 k4 k5 k6 k7 q0 hp hq w R
end Go.Proofs.YtpennccflalobaaGreatDoor.Kl
