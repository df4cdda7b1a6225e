import Derived.Test.YtpennccflalobaaGreatDoorKlVLawsVZ
namespace Go.Proofs.YtpennccflalobaaGreatDoor.Kl
open Go Go.RowKit
set_option maxRecDepth 100000
set_option maxHeartbeats 8000000
theorem neg_sign (p q:Rat) (h:q = -p):IntKind.i64.wrap (-(q.num.sign))=p.num.sign:=by
 subst h
 rw [show (-p).num.sign = -(p.num.sign) from by show (-(p.num)).sign=_;rw [Int.sign_neg],Int.neg_neg]
 have:=sign_in p.num
 exact IntWalk.i64_in _ (by omega)
theorem lawLaws_0  (i0 g0 i1 g1 i2 g2 i3 g3 i4 g4 i5 g5 i6 g6 i7 g7 i8 g8 i9 g9 i10 g10 i11 g11:Int) (p0 p1 p2 p3 p4 p5 p6 p7 p8 p9 p10 p11:Rat) (k0:SmallIs i0 g0 p0) (k1:SmallIs i1 g1 p1) (k2:SmallIs i2 g2 p2) (k3:SmallIs i3 g3 p3) (k4:SmallIs i4 g4 p4) (k5:SmallIs i5 g5 p5) (k6:SmallIs i6 g6 p6) (k7:SmallIs i7 g7 p7) (k8:SmallIs i8 g8 p8) (k9:SmallIs i9 g9 p9) (k10:SmallIs i10 g10 p10) (k11:SmallIs i11 g11 p11) (w:World) (R:EnvV w) :
   Calls Tryz.prog 12 #[.agg #[.int .i16 i0,.int .u8 g0,.int .i16 i1,.int .u8 g1,.int .i16 i2,.int .u8 g2,.int .i16 i3,.int .u8 g3,.int .i16 i4,.int .u8 g4,.int .i16 i5,.int .u8 g5],.agg #[.int .i16 i6,.int .u8 g6,.int .i16 i7,.int .u8 g7,.int .i16 i8,.int .u8 g8,.int .i16 i9,.int .u8 g9,.int .i16 i10,.int .u8 g10,.int .i16 i11,.int .u8 g11]] w (Ret w (.bool true)):=by
 have Dp:=RN_mul k1.rn k5.rn
 have Dq:=RN_mul k2.rn k4.rn
 have Dr:=RN_mul k2.rn k3.rn
 have Ds:=RN_mul k0.rn k5.rn
 have Dt:=RN_mul k0.rn k4.rn
 have Du:=RN_mul k1.rn k3.rn
 have Bi:=RN_sub (N:=16) Dp Dq
 have Bj:=RN_sub (N:=16) Dr Ds
 have Bk:=RN_sub (N:=16) Dt Du
 have Dv:=RN_mul k4.rn k2.rn
 have Dw:=RN_mul k5.rn k1.rn
 have Dx:=RN_mul k5.rn k0.rn
 have Dy:=RN_mul k3.rn k2.rn
 have Dz:=RN_mul k3.rn k1.rn
 have D0:=RN_mul k4.rn k0.rn
 have Ch:=RN_sub (N:=16) Dv Dw
 have Ci:=RN_sub (N:=16) Dx Dy
 have Cj:=RN_sub (N:=16) Dz D0
 have De:=RN_mul k0.rn Bi
 have D1:=RN_add (N:=23) rn_0 De
 have Df:=RN_mul k1.rn Bj
 have Gp:=RN_add (N:=39) D1 Df
 have D2:=RN_mul k2.rn Bk
 have Gq:=RN_add (N:=37) De Df
 have Gr:=RN_add (N:=53) Gq D2
 have Dg:=RN_mul Bi k3.rn
 have D3:=RN_add (N:=23) rn_0 Dg
 have Dh:=RN_mul Bj k4.rn
 have Gs:=RN_add (N:=39) D3 Dh
 have D4:=RN_mul Bk k5.rn
 have Gt:=RN_add (N:=37) Dg Dh
 have Gu:=RN_add (N:=53) Gt D4
 have D5:=RN_add (N:=29) Bi Ch
 have D6:=RN_add (N:=29) Bj Ci
 have D7:=RN_add (N:=29) Bk Cj
 have D8:=RN_sub (N:=8) k3.rn k0.rn
 have D9:=RN_sub (N:=8) k7.rn k1.rn
 have Fa:=RN_sub (N:=8) k4.rn k1.rn
 have Fb:=RN_sub (N:=8) k6.rn k0.rn
 have Fc:=RN_mul D8 D9
 have Fd:=RN_mul Fa Fb
 have Gv:=RN_sub (N:=30) Fc Fd
 have Gw:=Gv.rl (K:=100000)
 have Ck:=RN_sub (N:=8) k6.rn k3.rn
 have Cm:=RN_sub (N:=8) k1.rn k4.rn
 have Cn:=RN_sub (N:=8) k7.rn k4.rn
 have Co:=RN_sub (N:=8) k0.rn k3.rn
 have Fe:=RN_mul Ck Cm
 have Ff:=RN_mul Cn Co
 have Gx:=RN_sub (N:=30) Fe Ff
 have Gy:=Gx.rl (K:=100000)
 have Fg:=RN_mul Co Cn
 have Fh:=RN_mul Cm Ck
 have Gz:=RN_sub (N:=30) Fg Fh
 have G0:=Gz.rl (K:=100000)
 have Cd:=RN_add (N:=8) k0.rn k9.rn
 have Ce:=RN_add (N:=8) k1.rn k10.rn
 have G1:=RN_add (N:=8) k2.rn k11.rn
 have Cp:=RN_add (N:=8) k3.rn k9.rn
 have Cq:=RN_add (N:=8) k4.rn k10.rn
 have G2:=RN_add (N:=8) k5.rn k11.rn
 have Cr:=RN_add (N:=8) k6.rn k9.rn
 have Cs:=RN_add (N:=8) k7.rn k10.rn
 have G3:=RN_add (N:=8) k8.rn k11.rn
 have Fi:=RN_sub (N:=15) Cp Cd
 have Fj:=RN_sub (N:=15) Cs Ce
 have Fk:=RN_sub (N:=15) Cq Ce
 have Fl:=RN_sub (N:=15) Cr Cd
 have Fm:=RN_mul Fi Fj
 have Fn:=RN_mul Fk Fl
 have G4:=RN_sub (N:=56) Fm Fn
 have G5:=G4.rl (K:=100000)
 have c1:=known5_any
 have c2:=makeV i0 g0 i1 g1 i2 g2 p0 p1 p2 k0 k1 k2
 have c3:=makeV i3 g3 i4 g4 i5 g5 p3 p4 p5 k3 k4 k5
 have c4:=fun (w:World) (R:EnvV w)=>vcross_any p0 p1 p2 p3 p4 p5 k0.rn.r2 k1.rn.r2 k2.rn.r2 k3.rn.r2 k4.rn.r2 k5.rn.r2 k1.rn.rm k5.rn.rm k2.rn.rm k4.rn.rm Dp.rm Dq.rm k3.rn.rm k0.rn.rm Dr.rm Ds.rm Dt.rm Du.rm Bi.r2 Bj.r2 Bk.r2 w R.toEnvR
 have c5:=fun (w:World) (R:EnvV w)=>vcross_any p3 p4 p5 p0 p1 p2 k3.rn.r2 k4.rn.r2 k5.rn.r2 k0.rn.r2 k1.rn.r2 k2.rn.r2 k4.rn.rm k2.rn.rm k5.rn.rm k1.rn.rm Dv.rm Dw.rm k0.rn.rm k3.rn.rm Dx.rm Dy.rm Dz.rm D0.rm Ch.r2 Ci.r2 Cj.r2 w R.toEnvR
 have c6:CV 24 #[.agg #[.string (ratB p0),.string (ratB p1),.string (ratB p2)],.agg #[.string (ratB ((p1*p5) - (p2*p4))),.string (ratB ((p2*p3) - (p0*p5))),.string (ratB ((p0*p4) - (p1*p3)))]] (.tuple #[.string ⟨#[48]⟩,.int .i64 0]):=fun w R=>(by have h:=vdot_any p0 p1 p2 ((p1*p5) - (p2*p4)) ((p2*p3) - (p0*p5)) ((p0*p4) - (p1*p3)) k0.rn.r2 k1.rn.r2 k2.rn.r2 Bi.r2 Bj.r2 Bk.r2 k0.rn.rm Bi.rm De.rm k1.rn.rm Bj.rm D1.rm Df.rm k2.rn.rm Bk.rm Gp.rm D2.rm Gr.r2 w R.toEnvR;rw [show ((p0*((p1*p5) - (p2*p4)))+(p1*((p2*p3) - (p0*p5))))+(p2*((p0*p4) - (p1*p3)))=0 from by grind,rb_0] at h;exact h)
 have c7:CV 24 #[.agg #[.string (ratB ((p1*p5) - (p2*p4))),.string (ratB ((p2*p3) - (p0*p5))),.string (ratB ((p0*p4) - (p1*p3)))],.agg #[.string (ratB p3),.string (ratB p4),.string (ratB p5)]] (.tuple #[.string ⟨#[48]⟩,.int .i64 0]):=fun w R=>(by have h:=vdot_any ((p1*p5) - (p2*p4)) ((p2*p3) - (p0*p5)) ((p0*p4) - (p1*p3)) p3 p4 p5 Bi.r2 Bj.r2 Bk.r2 k3.rn.r2 k4.rn.r2 k5.rn.r2 Bi.rm k3.rn.rm Dg.rm Bj.rm k4.rn.rm D3.rm Dh.rm Bk.rm k5.rn.rm Gs.rm D4.rm Gu.r2 w R.toEnvR;rw [show ((((p1*p5) - (p2*p4))*p3)+(((p2*p3) - (p0*p5))*p4))+(((p0*p4) - (p1*p3))*p5)=0 from by grind,rb_0] at h;exact h)
 have c8:=fun (w:World) (R:EnvV w)=>vadd_any ((p1*p5) - (p2*p4)) ((p2*p3) - (p0*p5)) ((p0*p4) - (p1*p3)) ((p4*p2) - (p5*p1)) ((p5*p0) - (p3*p2)) ((p3*p1) - (p4*p0)) Bi.r2 Bj.r2 Bk.r2 Ch.r2 Ci.r2 Cj.r2 Bi.rm Ch.rm Bj.rm Ci.rm Bk.rm Cj.rm D5.r2 D6.r2 D7.r2 w R.toEnvR
 have c9:CV 32 #[.agg #[.string (ratB (((p1*p5) - (p2*p4))+((p4*p2) - (p5*p1)))),.string (ratB (((p2*p3) - (p0*p5))+((p5*p0) - (p3*p2)))),.string (ratB (((p0*p4) - (p1*p3))+((p3*p1) - (p4*p0))))]] (.tuple #[.bool true,.int .i64 0]):=fun w R=>(by have h:=isZero_any (((p1*p5) - (p2*p4))+((p4*p2) - (p5*p1))) (((p2*p3) - (p0*p5))+((p5*p0) - (p3*p2))) (((p0*p4) - (p1*p3))+((p3*p1) - (p4*p0))) D5.r2 D6.r2 D7.r2 w R;rw [show decide ((((p1*p5) - (p2*p4))+((p4*p2) - (p5*p1)))=0∧(((p2*p3) - (p0*p5))+((p5*p0) - (p3*p2)))=0∧(((p0*p4) - (p1*p3))+((p3*p1) - (p4*p0)))=0)=true from decide_eq_true ⟨by grind,by grind,by grind⟩] at h;exact h)
 have c10:=fun (w:World) (R:EnvV w)=>firstErr6 0 0 0 0 0 0 0 (by first | decide | simp [firstNZ]) w R.toEnvR
 have c11:=makeP i0 g0 i1 g1 i2 g2 p0 p1 p2 k0 k1 k2
 have c12:=makeP i3 g3 i4 g4 i5 g5 p3 p4 p5 k3 k4 k5
 have c13:=makeP i6 g6 i7 g7 i8 g8 p6 p7 p8 k6 k7 k8
 have c14:=fun (w:World) (R:EnvV w)=>turn_any p0 p1 p3 p4 p6 p7 k0.rn.r2 k1.rn.r2 k3.rn.r2 k4.rn.r2 k6.rn.r2 k7.rn.r2 k3.rn.rm k0.rn.rm k4.rn.rm k1.rn.rm k6.rn.rm k7.rn.rm D8.rm D9.rm Fa.rm Fb.rm Fc.rm Fd.rm Gw w R.toEnvR
 have c15:CV 45 #[.agg #[.string (ratB p3),.string (ratB p4)],.agg #[.string (ratB p6),.string (ratB p7)],.agg #[.string (ratB p0),.string (ratB p1)]] (.tuple #[.int .i64 (((p3 - p0)*(p7 - p1)) - ((p4 - p1)*(p6 - p0))).num.sign,.int .i64 0]):=fun w R=>(by have h:=turn_any p3 p4 p6 p7 p0 p1 k3.rn.r2 k4.rn.r2 k6.rn.r2 k7.rn.r2 k0.rn.r2 k1.rn.r2 k6.rn.rm k3.rn.rm k7.rn.rm k4.rn.rm k0.rn.rm k1.rn.rm Ck.rm Cm.rm Cn.rm Co.rm Fe.rm Ff.rm Gy w R.toEnvR;rw [show (((p6 - p3)*(p1 - p4)) - ((p7 - p4)*(p0 - p3))).num.sign=(((p3 - p0)*(p7 - p1)) - ((p4 - p1)*(p6 - p0))).num.sign from congrArg (fun q:Rat=>q.num.sign) (by grind)] at h;exact h)
 have c16:=fun (w:World) (R:EnvV w)=>turn_any p3 p4 p0 p1 p6 p7 k3.rn.r2 k4.rn.r2 k0.rn.r2 k1.rn.r2 k6.rn.r2 k7.rn.r2 k0.rn.rm k3.rn.rm k1.rn.rm k4.rn.rm k6.rn.rm k7.rn.rm Co.rm Cn.rm Cm.rm Ck.rm Fg.rm Fh.rm G0 w R.toEnvR
 have c17:=makeV i9 g9 i10 g10 i11 g11 p9 p10 p11 k9 k10 k11
 have c18:CV 45 #[.agg #[.string (ratB (p0+p9)),.string (ratB (p1+p10))],.agg #[.string (ratB (p3+p9)),.string (ratB (p4+p10))],.agg #[.string (ratB (p6+p9)),.string (ratB (p7+p10))]] (.tuple #[.int .i64 (((p3 - p0)*(p7 - p1)) - ((p4 - p1)*(p6 - p0))).num.sign,.int .i64 0]):=fun w R=>(by have h:=turn_any (p0+p9) (p1+p10) (p3+p9) (p4+p10) (p6+p9) (p7+p10) Cd.r2 Ce.r2 Cp.r2 Cq.r2 Cr.r2 Cs.r2 Cp.rm Cd.rm Cq.rm Ce.rm Cr.rm Cs.rm Fi.rm Fj.rm Fk.rm Fl.rm Fm.rm Fn.rm G5 w R.toEnvR;rw [show ((((p3+p9) - (p0+p9))*((p7+p10) - (p1+p10))) - (((p4+p10) - (p1+p10))*((p6+p9) - (p0+p9)))).num.sign=(((p3 - p0)*(p7 - p1)) - ((p4 - p1)*(p6 - p0))).num.sign from congrArg (fun q:Rat=>q.num.sign) (by grind)] at h;exact h)
 have c19:=fun (w:World) (R:EnvV w)=>firstErr4 0 0 0 0 0 (by first | decide | simp [firstNZ]) w R.toEnvR
 have c21:=fun (w:World) (R:EnvV w)=>vadd_any p0 p1 p2 p9 p10 p11 k0.rn.r2 k1.rn.r2 k2.rn.r2 k9.rn.r2 k10.rn.r2 k11.rn.r2 k0.rn.rm k9.rn.rm k1.rn.rm k10.rn.rm k2.rn.rm k11.rn.rm Cd.r2 Ce.r2 G1.r2 w R.toEnvR
 have c23:=fun (w:World) (R:EnvV w)=>vadd_any p3 p4 p5 p9 p10 p11 k3.rn.r2 k4.rn.r2 k5.rn.r2 k9.rn.r2 k10.rn.r2 k11.rn.r2 k3.rn.rm k9.rn.rm k4.rn.rm k10.rn.rm k5.rn.rm k11.rn.rm Cp.r2 Cq.r2 G2.r2 w R.toEnvR
 have c24:=makeV i6 g6 i7 g7 i8 g8 p6 p7 p8 k6 k7 k8
 have c25:=fun (w:World) (R:EnvV w)=>vadd_any p6 p7 p8 p9 p10 p11 k6.rn.r2 k7.rn.r2 k8.rn.r2 k9.rn.r2 k10.rn.r2 k11.rn.r2 k6.rn.rm k9.rn.rm k7.rn.rm k10.rn.rm k8.rn.rm k11.rn.rm Cr.r2 Cs.r2 G3.r2 w R.toEnvR
 have hmk:∀ w:World,(Instr.makeSlice 79 (.int .i64 3) (.int .i64 3)).run Tryz.prog w = .ok (.slice (some ⟨w.heap.size,0,none⟩) 3 3) (w.alloc (.cells #[.string ⟨#[]⟩,.string ⟨#[]⟩,.string ⟨#[]⟩,.string ⟨#[]⟩,.string ⟨#[]⟩,.string ⟨#[]⟩] 30)):=fun _=>by kernel_rfl
 have hneg:IntKind.i64.wrap (-((((p0 - p3)*(p7 - p4)) - ((p1 - p4)*(p6 - p3))).num.sign))=(((p3 - p0)*(p7 - p1)) - ((p4 - p1)*(p6 - p0))).num.sign:=neg_sign _ _ (by grind)
 obtain ⟨J6,G6⟩:∃ vq,ratB (((p0*p4) - (p1*p3))+((p3*p1) - (p4*p0)))=vq:=⟨_,rfl⟩
 obtain ⟨J7,G7⟩:∃ vq,ratB (((p1*p5) - (p2*p4))+((p4*p2) - (p5*p1)))=vq:=⟨_,rfl⟩
 obtain ⟨J8,G8⟩:∃ vq,ratB (((p2*p3) - (p0*p5))+((p5*p0) - (p3*p2)))=vq:=⟨_,rfl⟩
 obtain ⟨J9,G9⟩:∃ vq,ratB ((p0*p4) - (p1*p3))=vq:=⟨_,rfl⟩
 obtain ⟨Ka,Ha⟩:∃ vq,ratB ((p1*p5) - (p2*p4))=vq:=⟨_,rfl⟩
 obtain ⟨Kb,Hb⟩:∃ vq,ratB ((p2*p3) - (p0*p5))=vq:=⟨_,rfl⟩
 obtain ⟨Kc,Hc⟩:∃ vq,ratB ((p3*p1) - (p4*p0))=vq:=⟨_,rfl⟩
 obtain ⟨Kd,Hd⟩:∃ vq,ratB ((p4*p2) - (p5*p1))=vq:=⟨_,rfl⟩
 obtain ⟨Ke,He⟩:∃ vq,ratB ((p5*p0) - (p3*p2))=vq:=⟨_,rfl⟩
 obtain ⟨Ca,Hf⟩:∃ vq,ratB (p1+p10)=vq:=⟨_,rfl⟩
 obtain ⟨Di,Hg⟩:∃ vq,ratB (p2+p11)=vq:=⟨_,rfl⟩
 obtain ⟨Cf,Hh⟩:∃ vq,ratB (p4+p10)=vq:=⟨_,rfl⟩
 obtain ⟨Dj,Hi⟩:∃ vq,ratB (p5+p11)=vq:=⟨_,rfl⟩
 obtain ⟨Ct,Hj⟩:∃ vq,ratB (p7+p10)=vq:=⟨_,rfl⟩
 obtain ⟨Dk,Hk⟩:∃ vq,ratB (p8+p11)=vq:=⟨_,rfl⟩
 obtain ⟨Cb,Hl⟩:∃ vq,ratB (p0+p9)=vq:=⟨_,rfl⟩
 obtain ⟨Cg,Hm⟩:∃ vq,ratB (p3+p9)=vq:=⟨_,rfl⟩
 obtain ⟨Cu,Hn⟩:∃ vq,ratB (p6+p9)=vq:=⟨_,rfl⟩
 obtain ⟨H8,Ho⟩:∃ vq,ratB p10=vq:=⟨_,rfl⟩
 obtain ⟨H9,Hp⟩:∃ vq,ratB p11=vq:=⟨_,rfl⟩
 obtain ⟨Bs,Hq⟩:∃ vq,ratB p0=vq:=⟨_,rfl⟩
 obtain ⟨Bt,Hr⟩:∃ vq,ratB p1=vq:=⟨_,rfl⟩
 obtain ⟨Dl,Hs⟩:∃ vq,ratB p2=vq:=⟨_,rfl⟩
 obtain ⟨Bu,Ht⟩:∃ vq,ratB p3=vq:=⟨_,rfl⟩
 obtain ⟨Bv,Hu⟩:∃ vq,ratB p4=vq:=⟨_,rfl⟩
 obtain ⟨Dm,Hv⟩:∃ vq,ratB p5=vq:=⟨_,rfl⟩
 obtain ⟨Dn,Hw⟩:∃ vq,ratB p6=vq:=⟨_,rfl⟩
 obtain ⟨Do,Hx⟩:∃ vq,ratB p7=vq:=⟨_,rfl⟩
 obtain ⟨Kf,Hy⟩:∃ vq,ratB p8=vq:=⟨_,rfl⟩
 obtain ⟨Ja,Hz⟩:∃ vq,ratB p9=vq:=⟨_,rfl⟩
 try simp only [G6,G7,G8,G9,Ha,Hb,Hc,Hd,He,Hf,Hg,Hh,Hi,Hj,Hk,Hl,Hm,Hn,Ho,Hp,Hq,Hr,Hs,Ht,Hu,Hv,Hw,Hx,Hy,Hz] at c1 c2 c3 c4 c5 c6 c7 c8 c9 c10 c11 c12 c13 c14 c15 c16 c17 c18 c19 c21 c23 c24 c25 hmk hneg ⊢
 obtain ⟨sg,esg⟩:∃ vq,(((p3 - p0)*(p7 - p1)) - ((p4 - p1)*(p6 - p0))).num.sign=vq:=⟨_,rfl⟩
 try simp only [esg] at c1 c2 c3 c4 c5 c6 c7 c8 c9 c10 c11 c12 c13 c14 c15 c16 c17 c18 c19 c21 c23 c24 c25 hmk hneg ⊢
 obtain ⟨sv,esv⟩:∃ vq,(((p0 - p3)*(p7 - p4)) - ((p1 - p4)*(p6 - p3))).num.sign=vq:=⟨_,rfl⟩
 try simp only [esv] at c1 c2 c3 c4 c5 c6 c7 c8 c9 c10 c11 c12 c13 c14 c15 c16 c17 c18 c19 c21 c23 c24 c25 hmk hneg ⊢
 have C1:=Lib.hid c1
 have C2:=Lib.hid c2
 have C3:=Lib.hid c3
 have C4:=Lib.hid c4
 have C5:=Lib.hid c5
 have C6:=Lib.hid c6
 have C7:=Lib.hid c7
 have C8:=Lib.hid c8
 have C9:=Lib.hid c9
 have C10:=Lib.hid c10
 have C11:=Lib.hid c11
 have C12:=Lib.hid c12
 have C13:=Lib.hid c13
 have C14:=Lib.hid c14
 have C15:=Lib.hid c15
 have C16:=Lib.hid c16
 have C17:=Lib.hid c17
 have C18:=Lib.hid c18
 have C19:=Lib.hid c19
 have C21:=Lib.hid c21
 have C23:=Lib.hid c23
 have C24:=Lib.hid c24
 have C25:=Lib.hid c25
 clear c1 c2 c3 c4 c5 c6 c7 c8 c9 c10 c11 c12 c13 c14 c15 c16 c17 c18 c19 c21 c23 c24 c25 G6 G7 G8 G9 Ha Hb Hc Hd He Hf Hg Hh Hi Hj Hk Hl Hm Hn Ho Hp Hq Hr Hs Ht Hu Hv Hw Hx Hy Hz esg esv Dp Dq Dr Ds Dt Du Bi Bj Bk Dv Dw Dx Dy Dz D0 Ch Ci Cj De D1 Df Gp D2 Gq Gr Dg D3 Dh Gs D4 Gt Gu D5 D6 D7 D8 D9 Fa Fb Fc Fd Gv Gw Ck Cm Cn Co Fe Ff Gx Gy Fg Fh Gz G0 Cd Ce G1 Cp Cq G2 Cr Cs G3 Fi Fj Fk Fl Fm Fn G4 G5 k0 k1 k2 k3 k4 k5 k6 k7 k8 k9 k10 k11
 have hb:=Below.refl w.heap.size w
 go_enter Tryz.func12,Tryz.ntmps12
 go_upto_region 1 with fail
 refine wp_alloc2 (fun w1 a0 a1 hk=>?_)
 replace hb:=hb.trans (hk.mono hb.size)
 clear hk
 obtain ⟨Ad,Ae,Af,Ag,Ah,Ai,Aj,Ak,Al,Am,An,Ao⟩:=ce12 a0
 obtain ⟨Ap,Aq,Ar,As,At,Au,Av,Aw,Ax,Ay,Az,A0⟩:=ce12 a1
 go_upto_region 3 with (go_at_call 13;with_reducible refine (chVB hb R C1).mono ?_;clear hb;rintro e w1 ⟨rfl,hk,hb⟩;clear Ad Ae Af Ag Ah Ai Aj Ak Al Am An Ao Ap Aq Ar As At Au Av Aw Ax Ay Az A0;replace a0:=zB hk a0;replace a1:=zB hk a1;obtain ⟨Ad,Ae,Af,Ag,Ah,Ai,Aj,Ak,Al,Am,An,Ao⟩:=ce12 a0;obtain ⟨Ap,Aq,Ar,As,At,Au,Av,Aw,Ax,Ay,Az,A0⟩:=ce12 a1;clear hk)
 obtain ⟨Fo,Fp,Fq,Fs,Ft,Fu,Fv,Fw,Fx,Fy,Fz,F0⟩:=cy12 a0
 obtain ⟨F1,F2,F3,F4,F5,F6,F7,F8,F9,Ga,Gb,Gc⟩:=cy12 a1
 have Cc:=rrV C2 R hb
 have Jb:=rrV C3 R hb
 have Bl:=qqV C2 R hb
 have H0:=qqV C3 R hb
 refine wp_free2 6 0 (fun i=>if i=6 then Obj.cells #[Value.string ⟨#[]⟩,Value.string ⟨#[]⟩,Value.string ⟨#[]⟩] 24 else if i=7 then Obj.cells #[Value.string ⟨#[]⟩,Value.string ⟨#[]⟩,Value.string ⟨#[]⟩] 24 else Obj.cells #[] 0) (fun i=>if i=6 then Obj.cells #[Value.string Bs,Value.string Bt,Value.string Dl] 24 else if i=7 then Obj.cells #[Value.string Bu,Value.string Bv,Value.string Dm] 24 else Obj.cells #[] 0) (some 5) (some 6) (by first | assumption | kernel_rfl) (by kernel_rfl) ?lay rfl rfl ?_
 case lay =>
   intro i h1 h2
   obtain rfl | rfl:i=6∨i=7:=by omega
   all_goals exact ⟨_,rfl,rfl,fun a w=>(by first | (go_simp;done) | (go_simp;rfl))⟩
 simp only [List.take_succ_cons,List.take_zero]
 repeat (refine wpB_step (fun K hK=>?_);go_simp;first | (refine hK _ ?_;clear hK K) | (apply Exists.intro;refine ⟨fun _=>?_,hK _ ?_⟩;(first | (with_reducible exact Bl.out _ _) | (with_reducible exact H0.out _ _));clear hK K))
 refine wpB_nil ?_
 intro Bm Bn
 refine ⟨?_,?_,?_⟩
 · refine ⟨_,rfl,rfl,rfl,fun cs b h=>(by cases h),fun w hw=>?_⟩
   replace hw:w.heap[Bm]? = some (Obj.cells #[Value.string ⟨#[]⟩,Value.string ⟨#[]⟩,Value.string ⟨#[]⟩] 24):=hw
   have z0:w.cell? ⟨Bm,0,none⟩=some (Value.string ⟨#[]⟩):=zA hw
   have y0:w.frozen? ⟨Bm,0,none⟩=false:=zD hw
   have z1:w.cell? ⟨Bm,1,none⟩=some (Value.string ⟨#[]⟩):=zA hw
   have y1:w.frozen? ⟨Bm,1,none⟩=false:=zD hw
   have z2:w.cell? ⟨Bm,2,none⟩=some (Value.string ⟨#[]⟩):=zA hw
   have y2:w.frozen? ⟨Bm,2,none⟩=false:=zD hw
   refine ⟨_,?_,(Wrote.set (i:=2) (Wrote.set (i:=1) (Wrote.set (i:=0) (Wrote.refl hw) (Value.string Bs)) (Value.string Bt)) (Value.string Dl))⟩
   go_simp
 · refine ⟨_,rfl,rfl,rfl,fun cs b h=>(by cases h),fun w hw=>?_⟩
   replace hw:w.heap[Bn]? = some (Obj.cells #[Value.string ⟨#[]⟩,Value.string ⟨#[]⟩,Value.string ⟨#[]⟩] 24):=hw
   have z0:w.cell? ⟨Bn,0,none⟩=some (Value.string ⟨#[]⟩):=zA hw
   have y0:w.frozen? ⟨Bn,0,none⟩=false:=zD hw
   have z1:w.cell? ⟨Bn,1,none⟩=some (Value.string ⟨#[]⟩):=zA hw
   have y1:w.frozen? ⟨Bn,1,none⟩=false:=zD hw
   have z2:w.cell? ⟨Bn,2,none⟩=some (Value.string ⟨#[]⟩):=zA hw
   have y2:w.frozen? ⟨Bn,2,none⟩=false:=zD hw
   refine ⟨_,?_,(Wrote.set (i:=2) (Wrote.set (i:=1) (Wrote.set (i:=0) (Wrote.refl hw) (Value.string Bu)) (Value.string Bv)) (Value.string Dm))⟩
   go_simp
 intro w1 hk m0 m1 A9 A4 _
 clear Ad Ae Af Ag Ah Ai Aj Ak Al Am An Ao Ap Aq Ar As At Au Av Aw Ax Ay Az A0
 replace a0:=zB hk a0
 replace a1:=zB hk a1
 obtain ⟨Ad,Ae,Af,Ag,Ah,Ai,Aj,Ak,Al,Am,An,Ao⟩:=ce12 a0
 obtain ⟨Ap,Aq,Ar,As,At,Au,Av,Aw,Ax,Ay,Az,A0⟩:=ce12 a1
 replace hb:=hb.trans (hk.mono hb.size)
 clear hk
 replace A9:w1.heap[Bm]? = some (Obj.cells #[Value.string Bs,Value.string Bt,Value.string Dl] 24):=A9
 have Bo:w1.cell? ⟨Bm,0,none⟩=some (Value.string Bs):=zA A9
 have Bp:w1.cell? ⟨Bm,1,none⟩=some (Value.string Bt):=zA A9
 have Bq:w1.cell? ⟨Bm,2,none⟩=some (Value.string Dl):=zA A9
 replace A4:w1.heap[Bn]? = some (Obj.cells #[Value.string Bu,Value.string Bv,Value.string Dm] 24):=A4
 have Bf:w1.cell? ⟨Bn,0,none⟩=some (Value.string Bu):=zA A4
 have Bg:w1.cell? ⟨Bn,1,none⟩=some (Value.string Bv):=zA A4
 have Bh:w1.cell? ⟨Bn,2,none⟩=some (Value.string Dm):=zA A4
 clear Bl H0 Cc Jb Fo Fp Fq Fs Ft Fu Fv Fw Fx Fy Fz F0 F1 F2 F3 F4 F5 F6 F7 F8 F9 Ga Gb Gc m0 m1
 go_upto_region 5 with (go_at_call 25;with_reducible refine (chVB hb R C4).mono ?_;clear hb;rintro e w1 ⟨rfl,hk,hb⟩;clear Ad Ae Af Ag Ah Ai Aj Ak Al Am An Ao Ap Aq Ar As At Au Av Aw Ax Ay Az A0 Bo Bp Bq Bf Bg Bh;replace a0:=zB hk a0;replace a1:=zB hk a1;replace A9:=zB hk A9;replace A4:=zB hk A4;obtain ⟨Ad,Ae,Af,Ag,Ah,Ai,Aj,Ak,Al,Am,An,Ao⟩:=ce12 a0;obtain ⟨Ap,Aq,Ar,As,At,Au,Av,Aw,Ax,Ay,Az,A0⟩:=ce12 a1;obtain ⟨Bo,Bp,Bq⟩:=ce3 A9;obtain ⟨Bf,Bg,Bh⟩:=ce3 A4;clear hk)
 refine wp_alloc1 (fun w1 Aa hk=>?_)
 clear Ad Ae Af Ag Ah Ai Aj Ak Al Am An Ao Ap Aq Ar As At Au Av Aw Ax Ay Az A0 Bo Bp Bq Bf Bg Bh
 replace a0:=zB hk a0
 replace a1:=zB hk a1
 replace A9:=zB hk A9
 replace A4:=zB hk A4
 obtain ⟨Ad,Ae,Af,Ag,Ah,Ai,Aj,Ak,Al,Am,An,Ao⟩:=ce12 a0
 obtain ⟨Ap,Aq,Ar,As,At,Au,Av,Aw,Ax,Ay,Az,A0⟩:=ce12 a1
 obtain ⟨Bo,Bp,Bq⟩:=ce3 A9
 obtain ⟨Bf,Bg,Bh⟩:=ce3 A4
 replace hb:=hb.trans (hk.mono hb.size)
 clear hk
 obtain ⟨A1,A2,A3⟩:=ce3 Aa
 go_upto_region 6 with (go_at_call 25;with_reducible refine (chVB hb R C5).mono ?_;clear hb;rintro e w1 ⟨rfl,hk,hb⟩;clear Ad Ae Af Ag Ah Ai Aj Ak Al Am An Ao Ap Aq Ar As At Au Av Aw Ax Ay Az A0 A1 A2 A3 Bo Bp Bq Bf Bg Bh;replace a0:=zB hk a0;replace a1:=zB hk a1;replace Aa:=zB hk Aa;replace A9:=zB hk A9;replace A4:=zB hk A4;obtain ⟨Ad,Ae,Af,Ag,Ah,Ai,Aj,Ak,Al,Am,An,Ao⟩:=ce12 a0;obtain ⟨Ap,Aq,Ar,As,At,Au,Av,Aw,Ax,Ay,Az,A0⟩:=ce12 a1;obtain ⟨A1,A2,A3⟩:=ce3 Aa;obtain ⟨Bo,Bp,Bq⟩:=ce3 A9;obtain ⟨Bf,Bg,Bh⟩:=ce3 A4;clear hk)
 refine wp_alloc1 (fun w1 Ab hk=>?_)
 clear Ad Ae Af Ag Ah Ai Aj Ak Al Am An Ao Ap Aq Ar As At Au Av Aw Ax Ay Az A0 A1 A2 A3 Bo Bp Bq Bf Bg Bh
 replace a0:=zB hk a0
 replace a1:=zB hk a1
 replace Aa:=zB hk Aa
 replace A9:=zB hk A9
 replace A4:=zB hk A4
 obtain ⟨Ad,Ae,Af,Ag,Ah,Ai,Aj,Ak,Al,Am,An,Ao⟩:=ce12 a0
 obtain ⟨Ap,Aq,Ar,As,At,Au,Av,Aw,Ax,Ay,Az,A0⟩:=ce12 a1
 obtain ⟨A1,A2,A3⟩:=ce3 Aa
 obtain ⟨Bo,Bp,Bq⟩:=ce3 A9
 obtain ⟨Bf,Bg,Bh⟩:=ce3 A4
 replace hb:=hb.trans (hk.mono hb.size)
 clear hk
 obtain ⟨A6,A7,A8⟩:=ce3 Ab
 go_upto_region 9 with (first | (go_at_call 24;with_reducible refine (chVB hb R C6).mono ?_;clear hb;rintro e w1 ⟨rfl,hk,hb⟩;clear Ad Ae Af Ag Ah Ai Aj Ak Al Am An Ao Ap Aq Ar As At Au Av Aw Ax Ay Az A0 A1 A2 A3 A6 A7 A8 Bo Bp Bq Bf Bg Bh;replace a0:=zB hk a0;replace a1:=zB hk a1;replace Aa:=zB hk Aa;replace Ab:=zB hk Ab;replace A9:=zB hk A9;replace A4:=zB hk A4;obtain ⟨Ad,Ae,Af,Ag,Ah,Ai,Aj,Ak,Al,Am,An,Ao⟩:=ce12 a0;obtain ⟨Ap,Aq,Ar,As,At,Au,Av,Aw,Ax,Ay,Az,A0⟩:=ce12 a1;obtain ⟨A1,A2,A3⟩:=ce3 Aa;obtain ⟨A6,A7,A8⟩:=ce3 Ab;obtain ⟨Bo,Bp,Bq⟩:=ce3 A9;obtain ⟨Bf,Bg,Bh⟩:=ce3 A4;clear hk) | (go_at_call 24;with_reducible refine (chVB hb R C7).mono ?_;clear hb;rintro e w1 ⟨rfl,hk,hb⟩;clear Ad Ae Af Ag Ah Ai Aj Ak Al Am An Ao Ap Aq Ar As At Au Av Aw Ax Ay Az A0 A1 A2 A3 A6 A7 A8 Bf Bg Bh;replace a0:=zB hk a0;replace a1:=zB hk a1;replace Aa:=zB hk Aa;replace Ab:=zB hk Ab;replace A4:=zB hk A4;obtain ⟨Ad,Ae,Af,Ag,Ah,Ai,Aj,Ak,Al,Am,An,Ao⟩:=ce12 a0;obtain ⟨Ap,Aq,Ar,As,At,Au,Av,Aw,Ax,Ay,Az,A0⟩:=ce12 a1;obtain ⟨A1,A2,A3⟩:=ce3 Aa;obtain ⟨A6,A7,A8⟩:=ce3 Ab;obtain ⟨Bf,Bg,Bh⟩:=ce3 A4;clear hk) | (go_at_call 22;with_reducible refine (chVB hb R C8).mono ?_;clear hb;rintro e w1 ⟨rfl,hk,hb⟩;clear Ad Ae Af Ag Ah Ai Aj Ak Al Am An Ao Ap Aq Ar As At Au Av Aw Ax Ay Az A0 A1 A2 A3 A6 A7 A8;replace a0:=zB hk a0;replace a1:=zB hk a1;replace Aa:=zB hk Aa;replace Ab:=zB hk Ab;obtain ⟨Ad,Ae,Af,Ag,Ah,Ai,Aj,Ak,Al,Am,An,Ao⟩:=ce12 a0;obtain ⟨Ap,Aq,Ar,As,At,Au,Av,Aw,Ax,Ay,Az,A0⟩:=ce12 a1;obtain ⟨A1,A2,A3⟩:=ce3 Aa;obtain ⟨A6,A7,A8⟩:=ce3 Ab;clear hk))
 clear Bo Bp Bq A9 Bf Bg Bh A4
 refine wp_alloc1 (fun w1 A5 hk=>?_)
 clear Ad Ae Af Ag Ah Ai Aj Ak Al Am An Ao Ap Aq Ar As At Au Av Aw Ax Ay Az A0 A1 A2 A3 A6 A7 A8
 replace a0:=zB hk a0
 replace a1:=zB hk a1
 replace Aa:=zB hk Aa
 replace Ab:=zB hk Ab
 obtain ⟨Ad,Ae,Af,Ag,Ah,Ai,Aj,Ak,Al,Am,An,Ao⟩:=ce12 a0
 obtain ⟨Ap,Aq,Ar,As,At,Au,Av,Aw,Ax,Ay,Az,A0⟩:=ce12 a1
 obtain ⟨A1,A2,A3⟩:=ce3 Aa
 obtain ⟨A6,A7,A8⟩:=ce3 Ab
 replace hb:=hb.trans (hk.mono hb.size)
 clear hk
 obtain ⟨Bc,Bd,Be⟩:=ce3 A5
 go_upto_region 12 with ((first | (go_at_call 32;with_reducible refine (chVB hb R C9).mono ?_) | (go_at_call 21;with_reducible refine (zL hb (C10.out _ (R.below hb))).mono ?_));clear hb;rintro e w1 ⟨rfl,hk,hb⟩;clear Ad Ae Af Ag Ah Ai Aj Ak Al Am An Ao Ap Aq Ar As At Au Av Aw Ax Ay Az A0 A1 A2 A3 A6 A7 A8 Bc Bd Be;replace a0:=zB hk a0;replace a1:=zB hk a1;replace Aa:=zB hk Aa;replace Ab:=zB hk Ab;replace A5:=zB hk A5;obtain ⟨Ad,Ae,Af,Ag,Ah,Ai,Aj,Ak,Al,Am,An,Ao⟩:=ce12 a0;obtain ⟨Ap,Aq,Ar,As,At,Au,Av,Aw,Ax,Ay,Az,A0⟩:=ce12 a1;obtain ⟨A1,A2,A3⟩:=ce3 Aa;obtain ⟨A6,A7,A8⟩:=ce3 Ab;obtain ⟨Bc,Bd,Be⟩:=ce3 A5;clear hk)
 obtain ⟨Fo,Fp,Fq,Fs,Ft,Fu,Fv,Fw,Fx,Fy,Fz,F0⟩:=cy12 a0
 obtain ⟨F1,F2,F3,F4,F5,F6,F7,F8,F9,Ga,Gb,Gc⟩:=cy12 a1
 obtain ⟨Jc,Jd,Je⟩:=cy3 Aa
 obtain ⟨Jf,Jg,Jh⟩:=cy3 Ab
 obtain ⟨Ji,Jj,Jk⟩:=cy3 A5
 have Jl:=rrV C11 R hb
 have Jm:=rrV C12 R hb
 have Jn:=rrV C13 R hb
 have H1:=qqV C11 R hb
 have H2:=qqV C12 R hb
 have H3:=qqV C13 R hb
 refine wp_free3 9 0 (fun i=>if i=9 then Obj.cells #[Value.string ⟨#[]⟩,Value.string ⟨#[]⟩] 30 else if i=10 then Obj.cells #[Value.string ⟨#[]⟩,Value.string ⟨#[]⟩] 30 else if i=11 then Obj.cells #[Value.string ⟨#[]⟩,Value.string ⟨#[]⟩] 30 else Obj.cells #[] 0) (fun i=>if i=9 then Obj.cells #[Value.string Bs,Value.string Bt] 30 else if i=10 then Obj.cells #[Value.string Bu,Value.string Bv] 30 else if i=11 then Obj.cells #[Value.string Dn,Value.string Do] 30 else Obj.cells #[] 0) (some 19) (some 20) (some 21) (by first | assumption | kernel_rfl) (by kernel_rfl) ?lay rfl rfl rfl ?_
 case lay =>
   intro i h1 h2
   obtain rfl | rfl | rfl:i=9∨i=10∨i=11:=by omega
   all_goals exact ⟨_,rfl,rfl,fun a w=>(by first | (go_simp;done) | (go_simp;rfl))⟩
 simp only [List.take_succ_cons,List.take_zero]
 repeat (refine wpB_step (fun K hK=>?_);go_simp;first | (refine hK _ ?_;clear hK K) | (apply Exists.intro;refine ⟨fun _=>?_,hK _ ?_⟩;(first | (with_reducible exact H1.out _ _) | (with_reducible exact H2.out _ _) | (with_reducible exact H3.out _ _));clear hK K))
 refine wpB_nil ?_
 intro Bw Bx By
 refine ⟨?_,?_,?_,?_⟩
 · refine ⟨_,rfl,rfl,rfl,fun cs b h=>(by cases h),fun w hw=>?_⟩
   replace hw:w.heap[Bw]? = some (Obj.cells #[Value.string ⟨#[]⟩,Value.string ⟨#[]⟩] 30):=hw
   have z0:w.cell? ⟨Bw,0,none⟩=some (Value.string ⟨#[]⟩):=zA hw
   have y0:w.frozen? ⟨Bw,0,none⟩=false:=zD hw
   have z1:w.cell? ⟨Bw,1,none⟩=some (Value.string ⟨#[]⟩):=zA hw
   have y1:w.frozen? ⟨Bw,1,none⟩=false:=zD hw
   refine ⟨_,?_,(Wrote.set (i:=1) (Wrote.set (i:=0) (Wrote.refl hw) (Value.string Bs)) (Value.string Bt))⟩
   go_simp
 · refine ⟨_,rfl,rfl,rfl,fun cs b h=>(by cases h),fun w hw=>?_⟩
   replace hw:w.heap[Bx]? = some (Obj.cells #[Value.string ⟨#[]⟩,Value.string ⟨#[]⟩] 30):=hw
   have z0:w.cell? ⟨Bx,0,none⟩=some (Value.string ⟨#[]⟩):=zA hw
   have y0:w.frozen? ⟨Bx,0,none⟩=false:=zD hw
   have z1:w.cell? ⟨Bx,1,none⟩=some (Value.string ⟨#[]⟩):=zA hw
   have y1:w.frozen? ⟨Bx,1,none⟩=false:=zD hw
   refine ⟨_,?_,(Wrote.set (i:=1) (Wrote.set (i:=0) (Wrote.refl hw) (Value.string Bu)) (Value.string Bv))⟩
   go_simp
 · refine ⟨_,rfl,rfl,rfl,fun cs b h=>(by cases h),fun w hw=>?_⟩
   replace hw:w.heap[By]? = some (Obj.cells #[Value.string ⟨#[]⟩,Value.string ⟨#[]⟩] 30):=hw
   have z0:w.cell? ⟨By,0,none⟩=some (Value.string ⟨#[]⟩):=zA hw
   have y0:w.frozen? ⟨By,0,none⟩=false:=zD hw
   have z1:w.cell? ⟨By,1,none⟩=some (Value.string ⟨#[]⟩):=zA hw
   have y1:w.frozen? ⟨By,1,none⟩=false:=zD hw
   refine ⟨_,?_,(Wrote.set (i:=1) (Wrote.set (i:=0) (Wrote.refl hw) (Value.string Dn)) (Value.string Do))⟩
   go_simp
 intro w1 hk m0 m1 m2 Bz B0 B1 _ _ _
 clear Ad Ae Af Ag Ah Ai Aj Ak Al Am An Ao Ap Aq Ar As At Au Av Aw Ax Ay Az A0 A1 A2 A3 A6 A7 A8 Bc Bd Be
 replace a0:=zB hk a0
 replace a1:=zB hk a1
 replace Aa:=zB hk Aa
 replace Ab:=zB hk Ab
 replace A5:=zB hk A5
 obtain ⟨Ad,Ae,Af,Ag,Ah,Ai,Aj,Ak,Al,Am,An,Ao⟩:=ce12 a0
 obtain ⟨Ap,Aq,Ar,As,At,Au,Av,Aw,Ax,Ay,Az,A0⟩:=ce12 a1
 obtain ⟨A1,A2,A3⟩:=ce3 Aa
 obtain ⟨A6,A7,A8⟩:=ce3 Ab
 obtain ⟨Bc,Bd,Be⟩:=ce3 A5
 replace hb:=hb.trans (hk.mono hb.size)
 clear hk
 replace Bz:w1.heap[Bw]? = some (Obj.cells #[Value.string Bs,Value.string Bt] 30):=Bz
 have Gd:w1.cell? ⟨Bw,0,none⟩=some (Value.string Bs):=zA Bz
 have Ge:w1.cell? ⟨Bw,1,none⟩=some (Value.string Bt):=zA Bz
 replace B0:w1.heap[Bx]? = some (Obj.cells #[Value.string Bu,Value.string Bv] 30):=B0
 have Gf:w1.cell? ⟨Bx,0,none⟩=some (Value.string Bu):=zA B0
 have Gg:w1.cell? ⟨Bx,1,none⟩=some (Value.string Bv):=zA B0
 replace B1:w1.heap[By]? = some (Obj.cells #[Value.string Dn,Value.string Do] 30):=B1
 have Gh:w1.cell? ⟨By,0,none⟩=some (Value.string Dn):=zA B1
 have Gi:w1.cell? ⟨By,1,none⟩=some (Value.string Do):=zA B1
 clear H1 H2 H3 Jl Jm Jn Fo Fp Fq Fs Ft Fu Fv Fw Fx Fy Fz F0 F1 F2 F3 F4 F5 F6 F7 F8 F9 Ga Gb Gc Jc Jd Je Jf Jg Jh Ji Jj Jk m0 m1 m2
 go_upto_region 17 with (first | ((go_at_call 45;first | with_reducible refine (chVB hb R C14).mono ?_ | with_reducible refine (chVB hb R C15).mono ?_ | with_reducible refine (chVB hb R C16).mono ?_);clear hb;rintro e w1 ⟨rfl,hk,hb⟩;clear Ad Ae Af Ag Ah Ai Aj Ak Al Am An Ao Ap Aq Ar As At Au Av Aw Ax Ay Az A0 A1 A2 A3 A6 A7 A8 Bc Bd Be Gd Ge Gf Gg Gh Gi;replace a0:=zB hk a0;replace a1:=zB hk a1;replace Aa:=zB hk Aa;replace Ab:=zB hk Ab;replace A5:=zB hk A5;replace Bz:=zB hk Bz;replace B0:=zB hk B0;replace B1:=zB hk B1;obtain ⟨Ad,Ae,Af,Ag,Ah,Ai,Aj,Ak,Al,Am,An,Ao⟩:=ce12 a0;obtain ⟨Ap,Aq,Ar,As,At,Au,Av,Aw,Ax,Ay,Az,A0⟩:=ce12 a1;obtain ⟨A1,A2,A3⟩:=ce3 Aa;obtain ⟨A6,A7,A8⟩:=ce3 Ab;obtain ⟨Bc,Bd,Be⟩:=ce3 A5;obtain ⟨Gd,Ge⟩:=ce2 Bz;obtain ⟨Gf,Gg⟩:=ce2 B0;obtain ⟨Gh,Gi⟩:=ce2 B1;clear hk) | (go_at_call 30;with_reducible refine (chVB hb R C17).mono ?_;clear hb;rintro e w1 ⟨rfl,hk,hb⟩;clear Ad Ae Af Ag Ah Ai Aj Ak Al Am An Ao Ap Aq Ar As At Au Av Aw Ax Ay Az A0 A1 A2 A3 A6 A7 A8 Bc Bd Be;replace a0:=zB hk a0;replace a1:=zB hk a1;replace Aa:=zB hk Aa;replace Ab:=zB hk Ab;replace A5:=zB hk A5;obtain ⟨Ad,Ae,Af,Ag,Ah,Ai,Aj,Ak,Al,Am,An,Ao⟩:=ce12 a0;obtain ⟨Ap,Aq,Ar,As,At,Au,Av,Aw,Ax,Ay,Az,A0⟩:=ce12 a1;obtain ⟨A1,A2,A3⟩:=ce3 Aa;obtain ⟨A6,A7,A8⟩:=ce3 Ab;obtain ⟨Bc,Bd,Be⟩:=ce3 A5;clear hk))
 clear Gd Ge Bz Gf Gg B0 Gh Gi B1
 obtain ⟨BK0,eBK0⟩:∃ B,w1.heap.size=B:=⟨_,rfl⟩
 have hBK0:w.heap.size≤BK0:=by rw [← eBK0];exact hb.size
 refine wp_alloc1 (fun w1 Br hk=>?_)
 rw [eBK0] at Br ⊢
 clear eBK0
 clear Ad Ae Af Ag Ah Ai Aj Ak Al Am An Ao Ap Aq Ar As At Au Av Aw Ax Ay Az A0 A1 A2 A3 A6 A7 A8 Bc Bd Be
 replace a0:=zB hk a0
 replace a1:=zB hk a1
 replace Aa:=zB hk Aa
 replace Ab:=zB hk Ab
 replace A5:=zB hk A5
 obtain ⟨Ad,Ae,Af,Ag,Ah,Ai,Aj,Ak,Al,Am,An,Ao⟩:=ce12 a0
 obtain ⟨Ap,Aq,Ar,As,At,Au,Av,Aw,Ax,Ay,Az,A0⟩:=ce12 a1
 obtain ⟨A1,A2,A3⟩:=ce3 Aa
 obtain ⟨A6,A7,A8⟩:=ce3 Ab
 obtain ⟨Bc,Bd,Be⟩:=ce3 A5
 replace hb:=hb.trans (hk.mono hb.size)
 clear hk
 obtain ⟨Cv,Cw,Cx⟩:=ce3 Br
 go_upto_region 18 with fail
 obtain ⟨BK1,eBK1⟩:∃ B,w1.heap.size=B:=⟨_,rfl⟩
 have hBK1:w.heap.size≤BK1:=by rw [← eBK1];exact hb.size
 have nBK1:BK0 < BK1:=by rw [← eBK1];exact (Array.getElem?_eq_some_iff.1 Br).1
 refine wp_alloc1 (fun w1 B2 hk=>?_)
 rw [eBK1] at B2 ⊢
 clear eBK1
 clear Ad Ae Af Ag Ah Ai Aj Ak Al Am An Ao Ap Aq Ar As At Au Av Aw Ax Ay Az A0 A1 A2 A3 A6 A7 A8 Bc Bd Be Cv Cw Cx
 replace a0:=zB hk a0
 replace a1:=zB hk a1
 replace Aa:=zB hk Aa
 replace Ab:=zB hk Ab
 replace A5:=zB hk A5
 replace Br:=zB hk Br
 obtain ⟨Ad,Ae,Af,Ag,Ah,Ai,Aj,Ak,Al,Am,An,Ao⟩:=ce12 a0
 obtain ⟨Ap,Aq,Ar,As,At,Au,Av,Aw,Ax,Ay,Az,A0⟩:=ce12 a1
 obtain ⟨A1,A2,A3⟩:=ce3 Aa
 obtain ⟨A6,A7,A8⟩:=ce3 Ab
 obtain ⟨Bc,Bd,Be⟩:=ce3 A5
 obtain ⟨Cv,Cw,Cx⟩:=ce3 Br
 replace hb:=hb.trans (hk.mono hb.size)
 clear hk
 obtain ⟨Gj,Gk,Gl,Gm,Gn,Go⟩:=ce6 B2
 go_wp2
 obtain ⟨BK2,eBK2⟩:∃ B,w1.heap.size=B:=⟨_,rfl⟩
 have hBK2:w.heap.size≤BK2:=by rw [← eBK2];exact hb.size
 have nBK2:BK1 < BK2:=by rw [← eBK2];exact (Array.getElem?_eq_some_iff.1 B2).1
 refine wp_alloc1 (fun w1 alp0 hk=>?_)
 rw [eBK2] at alp0 ⊢
 clear eBK2
 clear A1 A2 A3 A6 A7 A8 Bc Bd Be Cv Cw Cx Gj Gk Gl Gm Gn Go
 replace Aa:=zB hk Aa
 replace Ab:=zB hk Ab
 replace A5:=zB hk A5
 replace Br:=zB hk Br
 replace B2:=zB hk B2
 obtain ⟨A1,A2,A3⟩:=ce3 Aa
 obtain ⟨A6,A7,A8⟩:=ce3 Ab
 obtain ⟨Bc,Bd,Be⟩:=ce3 A5
 obtain ⟨Cv,Cw,Cx⟩:=ce3 Br
 obtain ⟨Gj,Gk,Gl,Gm,Gn,Go⟩:=ce6 B2
 replace hb:=hb.trans (hk.mono hb.size)
 clear hk
 obtain ⟨Jo,Jp,Jq,Jr,Js,Jt,Ju,Jv,Jw,Jx,Jy,Jz,J0,J1,J2,J3,J4,J5⟩:=ce18 alp0
 clear Ad Ae Af Ag Ah Ai Aj Ak Al Am An Ao a0 Ap Aq Ar As At Au Av Aw Ax Ay Az A0 a1
 clear Bc Bd Be A6 A7 A8 A1 A2 A3 A5 Ab Aa
 have HAg17_0:=Lib.hid Br
 have HAg18_0:=Lib.hid B2
 have HAlp0:=Lib.hid alp0
 have HB:=Lib.hid hb
 clear hb Cv Cw Cx Gj Gk Gl Gm Gn Go Jo Jp Jq Jr Js Jt Ju Jv Jw Jx Jy Jz J0 J1 J2 J3 J4 J5 Br B2 alp0
 go_loopw [142] (fun i wr=>((i = .int .i64 0∧wr.heap[BK1]? = some (Obj.cells #[Value.string ⟨#[]⟩,Value.string ⟨#[]⟩,Value.string ⟨#[]⟩,Value.string ⟨#[]⟩,Value.string ⟨#[]⟩,Value.string ⟨#[]⟩] 30))∨(i = .int .i64 1∧wr.heap[BK1]? = some (Obj.cells #[Value.string Cb,Value.string Ca,Value.string ⟨#[]⟩,Value.string ⟨#[]⟩,Value.string ⟨#[]⟩,Value.string ⟨#[]⟩] 30))∨(i = .int .i64 2∧wr.heap[BK1]? = some (Obj.cells #[Value.string Cb,Value.string Ca,Value.string Cg,Value.string Cf,Value.string ⟨#[]⟩,Value.string ⟨#[]⟩] 30))∨(i = .int .i64 3∧wr.heap[BK1]? = some (Obj.cells #[Value.string Cb,Value.string Ca,Value.string Cg,Value.string Cf,Value.string Cu,Value.string Ct] 30)))∧wr.heap[BK0]? = some (Obj.cells #[Value.string Ja,Value.string H8,Value.string H9] 24)∧wr.heap[BK2]? = some (Obj.cells #[Value.int .i16 i0,Value.int .u8 g0,Value.int .i16 i1,Value.int .u8 g1,Value.int .i16 i2,Value.int .u8 g2,Value.int .i16 i3,Value.int .u8 g3,Value.int .i16 i4,Value.int .u8 g4,Value.int .i16 i5,Value.int .u8 g5,Value.int .i16 i6,Value.int .u8 g6,Value.int .i16 i7,Value.int .u8 g7,Value.int .i16 i8,Value.int .u8 g8] 52)∧Below w.heap.size w wr) (fun i _=>3 - (intOf i).toNat)
 case atStart=>exact ⟨Or.inl ⟨rfl,HAg18_0.out⟩,HAg17_0.out,HAlp0.out,HB.out⟩
 case round =>
   obtain ⟨⟨rfl,aK1⟩ | ⟨rfl,aK1⟩ | ⟨rfl,aK1⟩ | ⟨rfl,aK1⟩,aK0,aK2,hb⟩:=hrel
   · obtain ⟨w1,ew⟩:∃ w1,w1=wr:=⟨_,rfl⟩
     subst ew
     obtain ⟨xK0_0,xK0_1,xK0_2⟩:=ce3 aK0
     obtain ⟨xK1_0,fK1_0,xK1_1,fK1_1,xK1_2,fK1_2,xK1_3,fK1_3,xK1_4,fK1_4,xK1_5,fK1_5⟩:=cf6 aK1
     obtain ⟨xK2_0,xK2_1,xK2_2,xK2_3,xK2_4,xK2_5,xK2_6,xK2_7,xK2_8,xK2_9,xK2_10,xK2_11,xK2_12,xK2_13,xK2_14,xK2_15,xK2_16,xK2_17⟩:=ce18 aK2
     go_upto_region 21 with fail
     refine wp_alloc1 (fun w1 Ba hk=>?_)
     clear xK0_0 xK0_1 xK0_2 xK1_0 xK1_1 xK1_2 xK1_3 xK1_4 xK1_5 fK1_0 fK1_1 fK1_2 fK1_3 fK1_4 fK1_5 xK2_0 xK2_1 xK2_2 xK2_3 xK2_4 xK2_5 xK2_6 xK2_7 xK2_8 xK2_9 xK2_10 xK2_11 xK2_12 xK2_13 xK2_14 xK2_15 xK2_16 xK2_17
     replace aK0:=zB hk aK0
     replace aK1:=zB hk aK1
     replace aK2:=zB hk aK2
     obtain ⟨xK0_0,xK0_1,xK0_2⟩:=ce3 aK0
     obtain ⟨xK1_0,fK1_0,xK1_1,fK1_1,xK1_2,fK1_2,xK1_3,fK1_3,xK1_4,fK1_4,xK1_5,fK1_5⟩:=cf6 aK1
     obtain ⟨xK2_0,xK2_1,xK2_2,xK2_3,xK2_4,xK2_5,xK2_6,xK2_7,xK2_8,xK2_9,xK2_10,xK2_11,xK2_12,xK2_13,xK2_14,xK2_15,xK2_16,xK2_17⟩:=ce18 aK2
     replace hb:=hb.trans (hk.mono hb.size)
     clear hk
     obtain ⟨B3,B4,B5,B6,B7,B8⟩:=ce6 Ba
     obtain ⟨Cy,Cz,C0,Da,Db,Dc⟩:=cy6 Ba
     obtain ⟨yxK0_0,yxK0_1,yxK0_2⟩:=cy3 aK0
     obtain ⟨yxK1_0,yxK1_1,yxK1_2,yxK1_3,yxK1_4,yxK1_5⟩:=cy6 aK1
     obtain ⟨yxK2_0,yxK2_1,yxK2_2,yxK2_3,yxK2_4,yxK2_5,yxK2_6,yxK2_7,yxK2_8,yxK2_9,yxK2_10,yxK2_11,yxK2_12,yxK2_13,yxK2_14,yxK2_15,yxK2_16,yxK2_17⟩:=cy18 aK2
     have Dd:=rrV C2 R hb
     have Cc:=rrV C21 R hb
     have B9:=qqV C2 R hb
     have Bl:=qqV C21 R hb
     refine wp_free1 7 1 (fun i=>if i=7 then Obj.cells #[Value.string ⟨#[]⟩,Value.string ⟨#[]⟩,Value.string ⟨#[]⟩] 24 else Obj.cells #[] 0) (fun i=>if i=7 then Obj.cells #[Value.string Cb,Value.string Ca,Value.string Di] 24 else Obj.cells #[] 0) (some 32) (by first | assumption | kernel_rfl) (by kernel_rfl) ?lay rfl ?_
     case lay =>
       intro i h1 h2
       obtain rfl:i=7:=by omega
       all_goals exact ⟨_,rfl,rfl,fun a w=>(by first | (go_simp;done) | (go_simp;rfl))⟩
     simp only [List.take_succ_cons,List.take_zero]
     repeat (refine wpB_step (fun K hK=>?_);go_simp;first | (refine hK _ ?_;clear hK K) | (apply Exists.intro;refine ⟨fun _=>?_,hK _ ?_⟩;(first | (with_reducible exact B9.out _ _) | (with_reducible exact Bl.out _ _));clear hK K))
     refine wpB_nil ?_
     intro Ac
     refine ⟨?_,?_⟩
     · refine ⟨_,rfl,rfl,rfl,fun cs b h=>(by cases h),fun w hw=>?_⟩
       replace hw:w.heap[Ac]? = some (Obj.cells #[Value.string ⟨#[]⟩,Value.string ⟨#[]⟩,Value.string ⟨#[]⟩] 24):=hw
       have z0:w.cell? ⟨Ac,0,none⟩=some (Value.string ⟨#[]⟩):=zA hw
       have y0:w.frozen? ⟨Ac,0,none⟩=false:=zD hw
       have z1:w.cell? ⟨Ac,1,none⟩=some (Value.string ⟨#[]⟩):=zA hw
       have y1:w.frozen? ⟨Ac,1,none⟩=false:=zD hw
       have z2:w.cell? ⟨Ac,2,none⟩=some (Value.string ⟨#[]⟩):=zA hw
       have y2:w.frozen? ⟨Ac,2,none⟩=false:=zD hw
       refine ⟨_,?_,(Wrote.set (i:=2) (Wrote.set (i:=1) (Wrote.set (i:=0) (Wrote.refl hw) (Value.string Cb)) (Value.string Ca)) (Value.string Di))⟩
       go_simp
     refine ⟨_,(Value.int .i64 0),rfl,Or.inl ⟨rfl,fun p=>?_⟩,?_⟩
     · go_simp
       try exact ⟨rfl,rfl⟩
     intro w1 hk m0 Bb
     clear B3 B4 B5 B6 B7 B8 xK0_0 xK0_1 xK0_2 xK1_0 xK1_1 xK1_2 xK1_3 xK1_4 xK1_5 fK1_0 fK1_1 fK1_2 fK1_3 fK1_4 fK1_5 xK2_0 xK2_1 xK2_2 xK2_3 xK2_4 xK2_5 xK2_6 xK2_7 xK2_8 xK2_9 xK2_10 xK2_11 xK2_12 xK2_13 xK2_14 xK2_15 xK2_16 xK2_17
     replace Ba:=zB hk Ba
     replace aK0:=zB hk aK0
     replace aK1:=zB hk aK1
     replace aK2:=zB hk aK2
     obtain ⟨B3,B4,B5,B6,B7,B8⟩:=ce6 Ba
     obtain ⟨xK0_0,xK0_1,xK0_2⟩:=ce3 aK0
     obtain ⟨xK1_0,fK1_0,xK1_1,fK1_1,xK1_2,fK1_2,xK1_3,fK1_3,xK1_4,fK1_4,xK1_5,fK1_5⟩:=cf6 aK1
     obtain ⟨xK2_0,xK2_1,xK2_2,xK2_3,xK2_4,xK2_5,xK2_6,xK2_7,xK2_8,xK2_9,xK2_10,xK2_11,xK2_12,xK2_13,xK2_14,xK2_15,xK2_16,xK2_17⟩:=ce18 aK2
     replace hb:=hb.trans (hk.mono hb.size)
     clear hk
     replace Bb:w1.heap[Ac]? = some (Obj.cells #[Value.string Cb,Value.string Ca,Value.string Di] 24):=Bb
     have H4:w1.cell? ⟨Ac,0,none⟩=some (Value.string Cb):=zA Bb
     have H5:w1.cell? ⟨Ac,1,none⟩=some (Value.string Ca):=zA Bb
     have H6:w1.cell? ⟨Ac,2,none⟩=some (Value.string Di):=zA Bb
     clear B9 Bl Dd Cc Cy Cz C0 Da Db Dc yxK0_0 yxK0_1 yxK0_2 yxK1_0 yxK1_1 yxK1_2 yxK1_3 yxK1_4 yxK1_5 yxK2_0 yxK2_1 yxK2_2 yxK2_3 yxK2_4 yxK2_5 yxK2_6 yxK2_7 yxK2_8 yxK2_9 yxK2_10 yxK2_11 yxK2_12 yxK2_13 yxK2_14 yxK2_15 yxK2_16 yxK2_17 m0
     go_wp2
     go_roundw
     case rel =>
       refine ⟨Or.inr (Or.inl ⟨rfl,?_⟩),?_,?_,?_⟩
       · exact setCell_here (setCell_here aK1 _) _
       · rw [Below.heap_setCell _ _ _ _ (show BK0≠BK1 by omega),Below.heap_setCell _ _ _ _ (show BK0≠BK1 by omega)];exact aK0
       · rw [Below.heap_setCell _ _ _ _ (show BK2≠BK1 by omega),Below.heap_setCell _ _ _ _ (show BK2≠BK1 by omega)];exact aK2
       · exact Below.setCell (Below.setCell hb hBK1 _) hBK1 _
     case measure=>simp [intOf]
   · obtain ⟨w1,ew⟩:∃ w1,w1=wr:=⟨_,rfl⟩
     subst ew
     obtain ⟨xK0_0,xK0_1,xK0_2⟩:=ce3 aK0
     obtain ⟨xK1_0,fK1_0,xK1_1,fK1_1,xK1_2,fK1_2,xK1_3,fK1_3,xK1_4,fK1_4,xK1_5,fK1_5⟩:=cf6 aK1
     obtain ⟨xK2_0,xK2_1,xK2_2,xK2_3,xK2_4,xK2_5,xK2_6,xK2_7,xK2_8,xK2_9,xK2_10,xK2_11,xK2_12,xK2_13,xK2_14,xK2_15,xK2_16,xK2_17⟩:=ce18 aK2
     go_upto_region 21 with fail
     refine wp_alloc1 (fun w1 Ba hk=>?_)
     clear xK0_0 xK0_1 xK0_2 xK1_0 xK1_1 xK1_2 xK1_3 xK1_4 xK1_5 fK1_0 fK1_1 fK1_2 fK1_3 fK1_4 fK1_5 xK2_0 xK2_1 xK2_2 xK2_3 xK2_4 xK2_5 xK2_6 xK2_7 xK2_8 xK2_9 xK2_10 xK2_11 xK2_12 xK2_13 xK2_14 xK2_15 xK2_16 xK2_17
     replace aK0:=zB hk aK0
     replace aK1:=zB hk aK1
     replace aK2:=zB hk aK2
     obtain ⟨xK0_0,xK0_1,xK0_2⟩:=ce3 aK0
     obtain ⟨xK1_0,fK1_0,xK1_1,fK1_1,xK1_2,fK1_2,xK1_3,fK1_3,xK1_4,fK1_4,xK1_5,fK1_5⟩:=cf6 aK1
     obtain ⟨xK2_0,xK2_1,xK2_2,xK2_3,xK2_4,xK2_5,xK2_6,xK2_7,xK2_8,xK2_9,xK2_10,xK2_11,xK2_12,xK2_13,xK2_14,xK2_15,xK2_16,xK2_17⟩:=ce18 aK2
     replace hb:=hb.trans (hk.mono hb.size)
     clear hk
     obtain ⟨B3,B4,B5,B6,B7,B8⟩:=ce6 Ba
     obtain ⟨Cy,Cz,C0,Da,Db,Dc⟩:=cy6 Ba
     obtain ⟨yxK0_0,yxK0_1,yxK0_2⟩:=cy3 aK0
     obtain ⟨yxK1_0,yxK1_1,yxK1_2,yxK1_3,yxK1_4,yxK1_5⟩:=cy6 aK1
     obtain ⟨yxK2_0,yxK2_1,yxK2_2,yxK2_3,yxK2_4,yxK2_5,yxK2_6,yxK2_7,yxK2_8,yxK2_9,yxK2_10,yxK2_11,yxK2_12,yxK2_13,yxK2_14,yxK2_15,yxK2_16,yxK2_17⟩:=cy18 aK2
     have Dd:=rrV C3 R hb
     have Cc:=rrV C23 R hb
     have B9:=qqV C3 R hb
     have Bl:=qqV C23 R hb
     refine wp_free1 7 1 (fun i=>if i=7 then Obj.cells #[Value.string ⟨#[]⟩,Value.string ⟨#[]⟩,Value.string ⟨#[]⟩] 24 else Obj.cells #[] 0) (fun i=>if i=7 then Obj.cells #[Value.string Cg,Value.string Cf,Value.string Dj] 24 else Obj.cells #[] 0) (some 32) (by first | assumption | kernel_rfl) (by kernel_rfl) ?lay rfl ?_
     case lay =>
       intro i h1 h2
       obtain rfl:i=7:=by omega
       all_goals exact ⟨_,rfl,rfl,fun a w=>(by first | (go_simp;done) | (go_simp;rfl))⟩
     simp only [List.take_succ_cons,List.take_zero]
     repeat (refine wpB_step (fun K hK=>?_);go_simp;first | (refine hK _ ?_;clear hK K) | (apply Exists.intro;refine ⟨fun _=>?_,hK _ ?_⟩;(first | (with_reducible exact B9.out _ _) | (with_reducible exact Bl.out _ _));clear hK K))
     refine wpB_nil ?_
     intro Ac
     refine ⟨?_,?_⟩
     · refine ⟨_,rfl,rfl,rfl,fun cs b h=>(by cases h),fun w hw=>?_⟩
       replace hw:w.heap[Ac]? = some (Obj.cells #[Value.string ⟨#[]⟩,Value.string ⟨#[]⟩,Value.string ⟨#[]⟩] 24):=hw
       have z0:w.cell? ⟨Ac,0,none⟩=some (Value.string ⟨#[]⟩):=zA hw
       have y0:w.frozen? ⟨Ac,0,none⟩=false:=zD hw
       have z1:w.cell? ⟨Ac,1,none⟩=some (Value.string ⟨#[]⟩):=zA hw
       have y1:w.frozen? ⟨Ac,1,none⟩=false:=zD hw
       have z2:w.cell? ⟨Ac,2,none⟩=some (Value.string ⟨#[]⟩):=zA hw
       have y2:w.frozen? ⟨Ac,2,none⟩=false:=zD hw
       refine ⟨_,?_,(Wrote.set (i:=2) (Wrote.set (i:=1) (Wrote.set (i:=0) (Wrote.refl hw) (Value.string Cg)) (Value.string Cf)) (Value.string Dj))⟩
       go_simp
     refine ⟨_,(Value.int .i64 0),rfl,Or.inl ⟨rfl,fun p=>?_⟩,?_⟩
     · go_simp
       try exact ⟨rfl,rfl⟩
     intro w1 hk m0 Bb
     clear B3 B4 B5 B6 B7 B8 xK0_0 xK0_1 xK0_2 xK1_0 xK1_1 xK1_2 xK1_3 xK1_4 xK1_5 fK1_0 fK1_1 fK1_2 fK1_3 fK1_4 fK1_5 xK2_0 xK2_1 xK2_2 xK2_3 xK2_4 xK2_5 xK2_6 xK2_7 xK2_8 xK2_9 xK2_10 xK2_11 xK2_12 xK2_13 xK2_14 xK2_15 xK2_16 xK2_17
     replace Ba:=zB hk Ba
     replace aK0:=zB hk aK0
     replace aK1:=zB hk aK1
     replace aK2:=zB hk aK2
     obtain ⟨B3,B4,B5,B6,B7,B8⟩:=ce6 Ba
     obtain ⟨xK0_0,xK0_1,xK0_2⟩:=ce3 aK0
     obtain ⟨xK1_0,fK1_0,xK1_1,fK1_1,xK1_2,fK1_2,xK1_3,fK1_3,xK1_4,fK1_4,xK1_5,fK1_5⟩:=cf6 aK1
     obtain ⟨xK2_0,xK2_1,xK2_2,xK2_3,xK2_4,xK2_5,xK2_6,xK2_7,xK2_8,xK2_9,xK2_10,xK2_11,xK2_12,xK2_13,xK2_14,xK2_15,xK2_16,xK2_17⟩:=ce18 aK2
     replace hb:=hb.trans (hk.mono hb.size)
     clear hk
     replace Bb:w1.heap[Ac]? = some (Obj.cells #[Value.string Cg,Value.string Cf,Value.string Dj] 24):=Bb
     have H4:w1.cell? ⟨Ac,0,none⟩=some (Value.string Cg):=zA Bb
     have H5:w1.cell? ⟨Ac,1,none⟩=some (Value.string Cf):=zA Bb
     have H6:w1.cell? ⟨Ac,2,none⟩=some (Value.string Dj):=zA Bb
     clear B9 Bl Dd Cc Cy Cz C0 Da Db Dc yxK0_0 yxK0_1 yxK0_2 yxK1_0 yxK1_1 yxK1_2 yxK1_3 yxK1_4 yxK1_5 yxK2_0 yxK2_1 yxK2_2 yxK2_3 yxK2_4 yxK2_5 yxK2_6 yxK2_7 yxK2_8 yxK2_9 yxK2_10 yxK2_11 yxK2_12 yxK2_13 yxK2_14 yxK2_15 yxK2_16 yxK2_17 m0
     go_wp2
     go_roundw
     case rel =>
       refine ⟨Or.inr (Or.inr (Or.inl ⟨rfl,?_⟩)),?_,?_,?_⟩
       · exact setCell_here (setCell_here aK1 _) _
       · rw [Below.heap_setCell _ _ _ _ (show BK0≠BK1 by omega),Below.heap_setCell _ _ _ _ (show BK0≠BK1 by omega)];exact aK0
       · rw [Below.heap_setCell _ _ _ _ (show BK2≠BK1 by omega),Below.heap_setCell _ _ _ _ (show BK2≠BK1 by omega)];exact aK2
       · exact Below.setCell (Below.setCell hb hBK1 _) hBK1 _
     case measure=>simp [intOf]
   · obtain ⟨w1,ew⟩:∃ w1,w1=wr:=⟨_,rfl⟩
     subst ew
     obtain ⟨xK0_0,xK0_1,xK0_2⟩:=ce3 aK0
     obtain ⟨xK1_0,fK1_0,xK1_1,fK1_1,xK1_2,fK1_2,xK1_3,fK1_3,xK1_4,fK1_4,xK1_5,fK1_5⟩:=cf6 aK1
     obtain ⟨xK2_0,xK2_1,xK2_2,xK2_3,xK2_4,xK2_5,xK2_6,xK2_7,xK2_8,xK2_9,xK2_10,xK2_11,xK2_12,xK2_13,xK2_14,xK2_15,xK2_16,xK2_17⟩:=ce18 aK2
     go_upto_region 21 with fail
     refine wp_alloc1 (fun w1 Ba hk=>?_)
     clear xK0_0 xK0_1 xK0_2 xK1_0 xK1_1 xK1_2 xK1_3 xK1_4 xK1_5 fK1_0 fK1_1 fK1_2 fK1_3 fK1_4 fK1_5 xK2_0 xK2_1 xK2_2 xK2_3 xK2_4 xK2_5 xK2_6 xK2_7 xK2_8 xK2_9 xK2_10 xK2_11 xK2_12 xK2_13 xK2_14 xK2_15 xK2_16 xK2_17
     replace aK0:=zB hk aK0
     replace aK1:=zB hk aK1
     replace aK2:=zB hk aK2
     obtain ⟨xK0_0,xK0_1,xK0_2⟩:=ce3 aK0
     obtain ⟨xK1_0,fK1_0,xK1_1,fK1_1,xK1_2,fK1_2,xK1_3,fK1_3,xK1_4,fK1_4,xK1_5,fK1_5⟩:=cf6 aK1
     obtain ⟨xK2_0,xK2_1,xK2_2,xK2_3,xK2_4,xK2_5,xK2_6,xK2_7,xK2_8,xK2_9,xK2_10,xK2_11,xK2_12,xK2_13,xK2_14,xK2_15,xK2_16,xK2_17⟩:=ce18 aK2
     replace hb:=hb.trans (hk.mono hb.size)
     clear hk
     obtain ⟨B3,B4,B5,B6,B7,B8⟩:=ce6 Ba
     obtain ⟨Cy,Cz,C0,Da,Db,Dc⟩:=cy6 Ba
     obtain ⟨yxK0_0,yxK0_1,yxK0_2⟩:=cy3 aK0
     obtain ⟨yxK1_0,yxK1_1,yxK1_2,yxK1_3,yxK1_4,yxK1_5⟩:=cy6 aK1
     obtain ⟨yxK2_0,yxK2_1,yxK2_2,yxK2_3,yxK2_4,yxK2_5,yxK2_6,yxK2_7,yxK2_8,yxK2_9,yxK2_10,yxK2_11,yxK2_12,yxK2_13,yxK2_14,yxK2_15,yxK2_16,yxK2_17⟩:=cy18 aK2
     have Dd:=rrV C24 R hb
     have Cc:=rrV C25 R hb
     have B9:=qqV C24 R hb
     have Bl:=qqV C25 R hb
     refine wp_free1 7 1 (fun i=>if i=7 then Obj.cells #[Value.string ⟨#[]⟩,Value.string ⟨#[]⟩,Value.string ⟨#[]⟩] 24 else Obj.cells #[] 0) (fun i=>if i=7 then Obj.cells #[Value.string Cu,Value.string Ct,Value.string Dk] 24 else Obj.cells #[] 0) (some 32) (by first | assumption | kernel_rfl) (by kernel_rfl) ?lay rfl ?_
     case lay =>
       intro i h1 h2
       obtain rfl:i=7:=by omega
       all_goals exact ⟨_,rfl,rfl,fun a w=>(by first | (go_simp;done) | (go_simp;rfl))⟩
     simp only [List.take_succ_cons,List.take_zero]
     repeat (refine wpB_step (fun K hK=>?_);go_simp;first | (refine hK _ ?_;clear hK K) | (apply Exists.intro;refine ⟨fun _=>?_,hK _ ?_⟩;(first | (with_reducible exact B9.out _ _) | (with_reducible exact Bl.out _ _));clear hK K))
     refine wpB_nil ?_
     intro Ac
     refine ⟨?_,?_⟩
     · refine ⟨_,rfl,rfl,rfl,fun cs b h=>(by cases h),fun w hw=>?_⟩
       replace hw:w.heap[Ac]? = some (Obj.cells #[Value.string ⟨#[]⟩,Value.string ⟨#[]⟩,Value.string ⟨#[]⟩] 24):=hw
       have z0:w.cell? ⟨Ac,0,none⟩=some (Value.string ⟨#[]⟩):=zA hw
       have y0:w.frozen? ⟨Ac,0,none⟩=false:=zD hw
       have z1:w.cell? ⟨Ac,1,none⟩=some (Value.string ⟨#[]⟩):=zA hw
       have y1:w.frozen? ⟨Ac,1,none⟩=false:=zD hw
       have z2:w.cell? ⟨Ac,2,none⟩=some (Value.string ⟨#[]⟩):=zA hw
       have y2:w.frozen? ⟨Ac,2,none⟩=false:=zD hw
       refine ⟨_,?_,(Wrote.set (i:=2) (Wrote.set (i:=1) (Wrote.set (i:=0) (Wrote.refl hw) (Value.string Cu)) (Value.string Ct)) (Value.string Dk))⟩
       go_simp
     refine ⟨_,(Value.int .i64 0),rfl,Or.inl ⟨rfl,fun p=>?_⟩,?_⟩
     · go_simp
       try exact ⟨rfl,rfl⟩
     intro w1 hk m0 Bb
     clear B3 B4 B5 B6 B7 B8 xK0_0 xK0_1 xK0_2 xK1_0 xK1_1 xK1_2 xK1_3 xK1_4 xK1_5 fK1_0 fK1_1 fK1_2 fK1_3 fK1_4 fK1_5 xK2_0 xK2_1 xK2_2 xK2_3 xK2_4 xK2_5 xK2_6 xK2_7 xK2_8 xK2_9 xK2_10 xK2_11 xK2_12 xK2_13 xK2_14 xK2_15 xK2_16 xK2_17
     replace Ba:=zB hk Ba
     replace aK0:=zB hk aK0
     replace aK1:=zB hk aK1
     replace aK2:=zB hk aK2
     obtain ⟨B3,B4,B5,B6,B7,B8⟩:=ce6 Ba
     obtain ⟨xK0_0,xK0_1,xK0_2⟩:=ce3 aK0
     obtain ⟨xK1_0,fK1_0,xK1_1,fK1_1,xK1_2,fK1_2,xK1_3,fK1_3,xK1_4,fK1_4,xK1_5,fK1_5⟩:=cf6 aK1
     obtain ⟨xK2_0,xK2_1,xK2_2,xK2_3,xK2_4,xK2_5,xK2_6,xK2_7,xK2_8,xK2_9,xK2_10,xK2_11,xK2_12,xK2_13,xK2_14,xK2_15,xK2_16,xK2_17⟩:=ce18 aK2
     replace hb:=hb.trans (hk.mono hb.size)
     clear hk
     replace Bb:w1.heap[Ac]? = some (Obj.cells #[Value.string Cu,Value.string Ct,Value.string Dk] 24):=Bb
     have H4:w1.cell? ⟨Ac,0,none⟩=some (Value.string Cu):=zA Bb
     have H5:w1.cell? ⟨Ac,1,none⟩=some (Value.string Ct):=zA Bb
     have H6:w1.cell? ⟨Ac,2,none⟩=some (Value.string Dk):=zA Bb
     clear B9 Bl Dd Cc Cy Cz C0 Da Db Dc yxK0_0 yxK0_1 yxK0_2 yxK1_0 yxK1_1 yxK1_2 yxK1_3 yxK1_4 yxK1_5 yxK2_0 yxK2_1 yxK2_2 yxK2_3 yxK2_4 yxK2_5 yxK2_6 yxK2_7 yxK2_8 yxK2_9 yxK2_10 yxK2_11 yxK2_12 yxK2_13 yxK2_14 yxK2_15 yxK2_16 yxK2_17 m0
     go_wp2
     go_roundw
     case rel =>
       refine ⟨Or.inr (Or.inr (Or.inr (⟨rfl,?_⟩))),?_,?_,?_⟩
       · exact setCell_here (setCell_here aK1 _) _
       · rw [Below.heap_setCell _ _ _ _ (show BK0≠BK1 by omega),Below.heap_setCell _ _ _ _ (show BK0≠BK1 by omega)];exact aK0
       · rw [Below.heap_setCell _ _ _ _ (show BK2≠BK1 by omega),Below.heap_setCell _ _ _ _ (show BK2≠BK1 by omega)];exact aK2
       · exact Below.setCell (Below.setCell hb hBK1 _) hBK1 _
     case measure=>simp [intOf]
   · obtain ⟨w1,ew⟩:∃ w1,w1=wr:=⟨_,rfl⟩
     subst ew
     have aMM:=aK1
     obtain ⟨xMM_0,xMM_1,xMM_2,xMM_3,xMM_4,xMM_5⟩:=ce6 aMM
     clear aK0 aK1 aK2
     go_upto_region 26 with fail
     obtain ⟨yxMM_0,yxMM_1,yxMM_2,yxMM_3,yxMM_4,yxMM_5⟩:=cy6 aMM
     have H7:=rrV C18 R hb
     refine wp_region_quiet_below (by first | assumption | kernel_rfl) (by kernel_rfl) ?_
     repeat (quiet_step (first | (with_reducible exact H7.out _ _)))
     refine wpQuiet_nil ?_
     intro w1 hw'
     obtain ⟨hk,hb⟩:=zQ hb hw'
     clear xMM_0 xMM_1 xMM_2 xMM_3 xMM_4 xMM_5
     replace aMM:=zB hk aMM
     obtain ⟨xMM_0,xMM_1,xMM_2,xMM_3,xMM_4,xMM_5⟩:=ce6 aMM
     clear H7 yxMM_0 yxMM_1 yxMM_2 yxMM_3 yxMM_4 yxMM_5
     clear hk hw'
     go_wp2_with (go_at_call 21;with_reducible refine (zL hb (C19.out _ (R.below hb))).mono ?_;clear hb;rintro e w1 ⟨rfl,hk,hb⟩;clear xMM_0 xMM_1 xMM_2 xMM_3 xMM_4 xMM_5;replace aMM:=zB hk aMM;obtain ⟨xMM_0,xMM_1,xMM_2,xMM_3,xMM_4,xMM_5⟩:=ce6 aMM;clear hk)
     first | go_ret | go_ret2 | go_ret3
     exact ⟨rfl,hb⟩
theorem lawLaws (i0 g0 i1 g1 i2 g2 i3 g3 i4 g4 i5 g5 i6 g6 i7 g7 i8 g8 i9 g9 i10 g10 i11 g11:Int) (b0:(-32768≤i0∧i0≤32767)∧(0≤g0∧g0≤255)) (b1:(-32768≤i1∧i1≤32767)∧(0≤g1∧g1≤255)) (b2:(-32768≤i2∧i2≤32767)∧(0≤g2∧g2≤255)) (b3:(-32768≤i3∧i3≤32767)∧(0≤g3∧g3≤255)) (b4:(-32768≤i4∧i4≤32767)∧(0≤g4∧g4≤255)) (b5:(-32768≤i5∧i5≤32767)∧(0≤g5∧g5≤255)) (b6:(-32768≤i6∧i6≤32767)∧(0≤g6∧g6≤255)) (b7:(-32768≤i7∧i7≤32767)∧(0≤g7∧g7≤255)) (b8:(-32768≤i8∧i8≤32767)∧(0≤g8∧g8≤255)) (b9:(-32768≤i9∧i9≤32767)∧(0≤g9∧g9≤255)) (b10:(-32768≤i10∧i10≤32767)∧(0≤g10∧g10≤255)) (b11:(-32768≤i11∧i11≤32767)∧(0≤g11∧g11≤255)) (w:World) (R:EnvV w) :
   Calls Tryz.prog 12 #[.agg #[.int .i16 i0,.int .u8 g0,.int .i16 i1,.int .u8 g1,.int .i16 i2,.int .u8 g2,.int .i16 i3,.int .u8 g3,.int .i16 i4,.int .u8 g4,.int .i16 i5,.int .u8 g5],.agg #[.int .i16 i6,.int .u8 g6,.int .i16 i7,.int .u8 g7,.int .i16 i8,.int .u8 g8,.int .i16 i9,.int .u8 g9,.int .i16 i10,.int .u8 g10,.int .i16 i11,.int .u8 g11]] w (Ret w (.bool true)):=by
 obtain ⟨p0,k0⟩:∃ p,SmallIs i0 g0 p:=⟨_,b0.1,b0.2,rfl⟩
 obtain ⟨p1,k1⟩:∃ p,SmallIs i1 g1 p:=⟨_,b1.1,b1.2,rfl⟩
 obtain ⟨p2,k2⟩:∃ p,SmallIs i2 g2 p:=⟨_,b2.1,b2.2,rfl⟩
 obtain ⟨p3,k3⟩:∃ p,SmallIs i3 g3 p:=⟨_,b3.1,b3.2,rfl⟩
 obtain ⟨p4,k4⟩:∃ p,SmallIs i4 g4 p:=⟨_,b4.1,b4.2,rfl⟩
 obtain ⟨p5,k5⟩:∃ p,SmallIs i5 g5 p:=⟨_,b5.1,b5.2,rfl⟩
 obtain ⟨p6,k6⟩:∃ p,SmallIs i6 g6 p:=⟨_,b6.1,b6.2,rfl⟩
 obtain ⟨p7,k7⟩:∃ p,SmallIs i7 g7 p:=⟨_,b7.1,b7.2,rfl⟩
 obtain ⟨p8,k8⟩:∃ p,SmallIs i8 g8 p:=⟨_,b8.1,b8.2,rfl⟩
 obtain ⟨p9,k9⟩:∃ p,SmallIs i9 g9 p:=⟨_,b9.1,b9.2,rfl⟩
 obtain ⟨p10,k10⟩:∃ p,SmallIs i10 g10 p:=⟨_,b10.1,b10.2,rfl⟩
 obtain ⟨p11,k11⟩:∃ p,SmallIs i11 g11 p:=⟨_,b11.1,b11.2,rfl⟩
 exact lawLaws_0 i0 g0 i1 g1 i2 g2 i3 g3 i4 g4 i5 g5 i6 g6 i7 g7 i8 g8 i9 g9 i10 g10 i11 g11 p0 p1 p2 p3 p4 p5 p6 p7 p8 p9 p10 p11 k0 k1 k2 k3 k4 k5 k6 k7 k8 k9 k10 k11 w R
end Go.Proofs.YtpennccflalobaaGreatDoor.Kl
