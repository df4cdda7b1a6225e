import Derived.Test.YtpennccflalobaaGreatDoorKlVPlanesLawVPlanesA
namespace Go.Proofs.YtpennccflalobaaGreatDoor.Kl
open Go Go.RowKit
set_option maxRecDepth 100000
set_option maxHeartbeats 8000000
theorem lawPlanes_1n  (i0 g0 i1 g1 i2 g2 i3 g3 i4 g4 i5 g5 i6 g6 i7 g7 i8 g8 i9 g9 i10 g10 i11 g11:Int) (p0 p1 p2 p3 p4 p5 p6 p7 p8 p9 p10 p11:Rat) (k0:SmallIs i0 g0 p0) (k1:SmallIs i1 g1 p1) (k2:SmallIs i2 g2 p2) (k3:SmallIs i3 g3 p3) (k4:SmallIs i4 g4 p4) (k5:SmallIs i5 g5 p5) (k6:SmallIs i6 g6 p6) (k7:SmallIs i7 g7 p7) (k8:SmallIs i8 g8 p8) (k9:SmallIs i9 g9 p9) (k10:SmallIs i10 g10 p10) (k11:SmallIs i11 g11 p11) (n0 n1 n2 o:Rat) (e0:(((p4 - p1)*(p8 - p2)) - ((p5 - p2)*(p7 - p1)))=n0) (e1:(((p5 - p2)*(p6 - p0)) - ((p3 - p0)*(p8 - p2)))=n1) (e2:(((p3 - p0)*(p7 - p1)) - ((p4 - p1)*(p6 - p0)))=n2) (eo:(((n0*p0)+(n1*p1))+(n2*p2))=o) (q0:n0=0) (q1:n1≠0) (q2:o≠0) (w:World) (R:EnvV w) :
   Calls Tryz.prog 10 #[.agg #[.int .i16 i0,.int .u8 g0,.int .i16 i1,.int .u8 g1,.int .i16 i2,.int .u8 g2,.int .i16 i3,.int .u8 g3,.int .i16 i4,.int .u8 g4,.int .i16 i5,.int .u8 g5],.agg #[.int .i16 i6,.int .u8 g6,.int .i16 i7,.int .u8 g7,.int .i16 i8,.int .u8 g8,.int .i16 i9,.int .u8 g9,.int .i16 i10,.int .u8 g10,.int .i16 i11,.int .u8 g11]] w (Ret w (.bool true)):=by
 have kq:=planesK k0 k1 k2 k3 k4 k5 k6 k7 k8 k9 k10 k11 n0 n1 n2 e0.symm e1.symm e2.symm (by rw [eo];exact q2)
 rw [eo] at kq
 have kq':RN ((o - (((n0*p9)+(n1*p10))+(n2*p11))) / (((n0*p0)+(n1*p1))+(n2*p2))) 53 53:=by rw [eo];exact kq
 have Bd:=RN_sub (N:=8) k4.rn k1.rn
 have Be:=RN_sub (N:=8) k8.rn k2.rn
 have Bf:=RN_sub (N:=8) k5.rn k2.rn
 have Bg:=RN_sub (N:=8) k7.rn k1.rn
 have Cn:=RN_mul Bd Be
 have Co:=RN_mul Bf Bg
 have Bh:=RN_sub (N:=8) k6.rn k0.rn
 have Bi:=RN_sub (N:=8) k3.rn k0.rn
 have Cp:=RN_mul Bf Bh
 have Cq:=RN_mul Bi Be
 have Cr:=RN_mul Bi Bg
 have Cs:=RN_mul Bd Bh
 have Bj:=RN_sub (N:=30) Cn Co
 have Ct:=RN_mul Bj k0.rn
 have Bk:=RN_sub (N:=30) Cp Cq
 have Dk:=RN_add (N:=37) rn_0 Ct
 have Cu:=RN_mul Bk k1.rn
 have Bl:=RN_sub (N:=30) Cr Cs
 have D6:=RN_add (N:=65) Dk Cu
 have Dl:=RN_mul Bl k2.rn
 have D7:=RN_add (N:=63) Ct Cu
 have D8:=RN_add (N:=91) D7 Dl
 have Am:RN n0 31 24:=(e0 ▸ Bj:RN n0 31 24)
 have An:RN n1 31 24:=(e1 ▸ Bk:RN n1 31 24)
 have Ao:RN n2 31 24:=(e2 ▸ Bl:RN n2 31 24)
 have Ba:=RN_mul Am k0.rn
 have Bb:=RN_mul An k1.rn
 have D9:=RN_add (N:=63) Ba Bb
 have Bm:=RN_mul Ao k2.rn
 have Dm:=RN_add (N:=91) D9 Bm
 have Ap:RN o 92 81:=(eo ▸ Dm:RN o 92 81)
 have Dn:=RN_mul k0.rn rn_m1
 have Do:=RN_mul k1.rn rn_m1
 have Dp:=RN_mul k2.rn rn_m1
 have Dq:=RN_add (N:=63) Bb Bm
 have Gj:=RN_add (N:=91) Ba Dq
 have Az:=RN_mul Am k9.rn
 have Cv:=RN_add (N:=37) rn_0 Az
 have A0:=RN_mul An k10.rn
 have Dr:=RN_add (N:=65) Cv A0
 have Bc:=RN_mul Ao k11.rn
 have Fa:=RN_add (N:=63) Az A0
 have Bn:=RN_add (N:=91) Fa Bc
 have Ds:=RN_add (N:=37) rn_0 Ba
 have Fb:=RN_add (N:=65) Ds Bb
 have Fc:=RN_sub (N:=173) Ap Bn
 have Dt:=RN_add (N:=63) A0 Bc
 have Du:=RN_add (N:=91) Az Dt
 have Gk:=RN_sub (N:=173) Du Ap
 have Gl:=RN_sub (N:=173) Bn Ap
 have Dv:=RN_mul k0.rn kq
 have Dw:=RN_mul k1.rn kq
 have Dx:=RN_mul k2.rn kq
 have Dy:=RN_add (N:=61) k9.rn Dv
 have Dz:=RN_add (N:=61) k10.rn Dw
 have D0:=RN_add (N:=61) k11.rn Dx
 have D1:=RN_mul An Dz
 have D2:=RN_mul Ao D0
 have D3:=RN_mul Am Dy
 have D4:=RN_add (N:=176) D1 D2
 have D5:=RN_add (N:=260) D3 D4
 have Gm:=RN_sub (N:=342) D5 Ap
 have c1:=known5_any
 have c2:=makeV i0 g0 i1 g1 i2 g2 p0 p1 p2 k0 k1 k2
 have c3:=makeV i3 g3 i4 g4 i5 g5 p3 p4 p5 k3 k4 k5
 have c4:=makeV i6 g6 i7 g7 i8 g8 p6 p7 p8 k6 k7 k8
 have c5:=makeV i9 g9 i10 g10 i11 g11 p9 p10 p11 k9 k10 k11
 have c6:CV 62 #[.agg #[.string (ratB p0),.string (ratB p1),.string (ratB p2)],.agg #[.string (ratB p3),.string (ratB p4),.string (ratB p5)],.agg #[.string (ratB p6),.string (ratB p7),.string (ratB p8)]] (.tuple #[.agg #[.string (ratB n0),.string (ratB n1),.string (ratB n2),.string (ratB o)],.int .i64 0]):=fun w R=>(by have h:=spanned_1 p0 p1 p2 p3 p4 p5 p6 p7 p8 (e0.trans q0) (by rw [e1];exact q1) k0.rn.r2 k1.rn.r2 k2.rn.r2 k3.rn.r2 k4.rn.r2 k5.rn.r2 k6.rn.r2 k7.rn.r2 k8.rn.r2 k3.rn.rm k0.rn.rm k4.rn.rm k1.rn.rm k5.rn.rm k2.rn.rm k6.rn.rm k7.rn.rm k8.rn.rm Bd.rm Be.rm Bf.rm Bg.rm Cn.rm Co.rm Bh.rm Bi.rm Cp.rm Cq.rm Cr.rm Cs.rm Bj.rm Ct.rm Bk.rm Dk.rm Cu.rm Bl.rm D6.rm Dl.rm Bj.r2 Bk.r2 Bl.r2 D8.r2 w R;rw [e0,e1,e2,eo] at h;exact h)
 have c7:=fun (w:World) (R:EnvV w)=>refVSub p3 p4 p5 p0 p1 p2 k0.rn.r4 k1.rn.r4 k2.rn.r4 k3.rn.r4 Dn.r4 k4.rn.r4 Do.r4 k5.rn.r4 Dp.r4 w R.toEnvR
 have c8:=fun (w:World) (R:EnvV w)=>refVSub p6 p7 p8 p0 p1 p2 k0.rn.r4 k1.rn.r4 k2.rn.r4 k6.rn.r4 Dn.r4 k7.rn.r4 Do.r4 k8.rn.r4 Dp.r4 w R.toEnvR
 have c9:CV 37 #[.agg #[.string (ratB (p3 - p0)),.string (ratB (p4 - p1)),.string (ratB (p5 - p2))],.agg #[.string (ratB (p6 - p0)),.string (ratB (p7 - p1)),.string (ratB (p8 - p2))]] (.agg #[.string (ratB n0),.string (ratB n1),.string (ratB n2)]):=fun w R=>(by have h:=refVCross (p3 - p0) (p4 - p1) (p5 - p2) (p6 - p0) (p7 - p1) (p8 - p2) Bd.r4 Be.r4 Bf.r4 Bg.r4 Cn.r4 Co.r4 Bh.r4 Bi.r4 Cp.r4 Cq.r4 Cr.r4 Cs.r4 w R.toEnvR;rw [e0,e1,e2] at h;exact h)
 have c10:=refZero_no n0 n1 n2  (Or.inr (Or.inl q1))
 have c11:CV 36 #[.agg #[.string (ratB n0),.string (ratB n1),.string (ratB n2)],.agg #[.string (ratB p0),.string (ratB p1),.string (ratB p2)]] (.string (ratB o)):=fun w R=>(by have h:=refVDot n0 n1 n2 p0 p1 p2 Am.r4 k0.rn.r4 An.r4 k1.rn.r4 Ao.r4 k2.rn.r4 Bb.r4 Bm.r4 Ba.r4 Dq.r4 w R.toEnvR;rw [show (n0*p0)+((n1*p1)+(n2*p2))=o from by rw [← eo];grind] at h;exact h)
 have c12:=side_any n0 n1 n2 o p9 p10 p11 Am.r2 An.r2 Ao.r2 Ap.r2 (Or.inr (Or.inl q1)) k9.rn.r2 k10.rn.r2 k11.rn.r2 Am.rm k9.rn.rm Az.rm An.rm k10.rn.rm Cv.rm A0.rm Ao.rm k11.rn.rm Dr.rm Bc.rm Bn.rm Ap.rm
 have c13:CV 63 #[.agg #[.string (ratB n0),.string (ratB n1),.string (ratB n2),.string (ratB o)],.agg #[.string (ratB p9),.string (ratB p10),.string (ratB p11)],.agg #[.string (ratB p0),.string (ratB p1),.string (ratB p2)]] (.tuple #[.string (ratB ((o - (((n0*p9)+(n1*p10))+(n2*p11))) / o)),.int .i64 0]):=fun w R=>(by have h:=pierce_any n0 n1 n2 o p9 p10 p11 p0 p1 p2 Am.r2 An.r2 Ao.r2 Ap.r2 (Or.inr (Or.inl q1)) k9.rn.r2 k10.rn.r2 k11.rn.r2 k0.rn.r2 k1.rn.r2 k2.rn.r2 Am.rm k9.rn.rm Az.rm An.rm k10.rn.rm Cv.rm A0.rm Ao.rm k11.rn.rm Dr.rm Bc.rm Ap.rm Bn.rm k0.rn.rm Ba.rm k1.rn.rm Ds.rm Bb.rm k2.rn.rm Fb.rm Bm.rm (by rw [eo];exact q2) Fc.rm Dm.rm kq'.r2 w R;rw [eo] at h;exact h)
 have c14:CV 64 #[.agg #[.string (ratB n0),.string (ratB n1),.string (ratB n2),.string (ratB o)],.agg #[.string (ratB p9),.string (ratB p10),.string (ratB p11)]] (.string (ratB ((((n0*p9)+(n1*p10))+(n2*p11)) - o))):=fun w R=>(by have h:=refPBeyond n0 n1 n2 o p9 p10 p11 Am.r4 k9.rn.r4 An.r4 k10.rn.r4 Ao.r4 k11.rn.r4 A0.r4 Bc.r4 Az.r4 Dt.r4 Du.r4 Ap.r4 w R.toEnvR;rw [show ((n0*p9)+((n1*p10)+(n2*p11))) - o=(((n0*p9)+(n1*p10))+(n2*p11)) - o from by grind] at h;exact h)
 have c15:=fun (w:World) (R:EnvV w)=>refRSign_any ((((n0*p9)+(n1*p10))+(n2*p11)) - o) w R.toEnvR
 have c17:=fun (w:World) (R:EnvV w)=>refVScale p0 p1 p2 ((o - (((n0*p9)+(n1*p10))+(n2*p11))) / o) k0.rn.r4 kq.r4 k1.rn.r4 k2.rn.r4 w R.toEnvR
 have c18:=fun (w:World) (R:EnvV w)=>refVAdd p9 p10 p11 (p0*((o - (((n0*p9)+(n1*p10))+(n2*p11))) / o)) (p1*((o - (((n0*p9)+(n1*p10))+(n2*p11))) / o)) (p2*((o - (((n0*p9)+(n1*p10))+(n2*p11))) / o)) k9.rn.r4 Dv.r4 k10.rn.r4 Dw.r4 k11.rn.r4 Dx.r4 w R.toEnvR
 have c19:CV 64 #[.agg #[.string (ratB n0),.string (ratB n1),.string (ratB n2),.string (ratB o)],.agg #[.string (ratB (p9+(p0*((o - (((n0*p9)+(n1*p10))+(n2*p11))) / o)))),.string (ratB (p10+(p1*((o - (((n0*p9)+(n1*p10))+(n2*p11))) / o)))),.string (ratB (p11+(p2*((o - (((n0*p9)+(n1*p10))+(n2*p11))) / o))))]] (.string ⟨#[48]⟩):=fun w R=>(by have h:=refPBeyond n0 n1 n2 o (p9+(p0*((o - (((n0*p9)+(n1*p10))+(n2*p11))) / o))) (p10+(p1*((o - (((n0*p9)+(n1*p10))+(n2*p11))) / o))) (p11+(p2*((o - (((n0*p9)+(n1*p10))+(n2*p11))) / o))) Am.r4 Dy.r4 An.r4 Dz.r4 Ao.r4 D0.r4 D1.r4 D2.r4 D3.r4 D4.r4 D5.r4 Ap.r4 w R.toEnvR;rw [show ((n0*(p9+(p0*((o - (((n0*p9)+(n1*p10))+(n2*p11))) / o))))+((n1*(p10+(p1*((o - (((n0*p9)+(n1*p10))+(n2*p11))) / o))))+(n2*(p11+(p2*((o - (((n0*p9)+(n1*p10))+(n2*p11))) / o)))))) - o=0 from by have:=q2;have:=eo;grind,rb_0] at h;exact h)
 have eq0:((ratB n0).toList == [48])=true:=by rw [ratB_eq_zero];exact decide_eq_true q0
 have pq0:(ratB n0).toList=[48]:=(zero_iff _).2 q0
 have eq1:((ratB n1).toList == [48])=false:=by rw [ratB_eq_zero];exact decide_eq_false q1
 have pq1:¬ (ratB n1).toList=[48]:=fun h=>q1 ((zero_iff _).1 h)
 have eq2:((ratB o).toList == [48])=false:=by rw [ratB_eq_zero];exact decide_eq_false q2
 have pq2:¬ (ratB o).toList=[48]:=fun h=>q2 ((zero_iff _).1 h)
 obtain ⟨Hr,Fd⟩:∃ vq,ratB (p10+(p1*((o - (((n0*p9)+(n1*p10))+(n2*p11))) / o)))=vq:=⟨_,rfl⟩
 obtain ⟨Hs,Fe⟩:∃ vq,ratB (p11+(p2*((o - (((n0*p9)+(n1*p10))+(n2*p11))) / o)))=vq:=⟨_,rfl⟩
 obtain ⟨Ht,Ff⟩:∃ vq,ratB (p9+(p0*((o - (((n0*p9)+(n1*p10))+(n2*p11))) / o)))=vq:=⟨_,rfl⟩
 obtain ⟨Hu,Fg⟩:∃ vq,ratB (p0*((o - (((n0*p9)+(n1*p10))+(n2*p11))) / o))=vq:=⟨_,rfl⟩
 obtain ⟨Hv,Fh⟩:∃ vq,ratB (p1*((o - (((n0*p9)+(n1*p10))+(n2*p11))) / o))=vq:=⟨_,rfl⟩
 obtain ⟨Hw,Fi⟩:∃ vq,ratB (p2*((o - (((n0*p9)+(n1*p10))+(n2*p11))) / o))=vq:=⟨_,rfl⟩
 obtain ⟨Hx,Fj⟩:∃ vq,ratB ((o - (((n0*p9)+(n1*p10))+(n2*p11))) / o)=vq:=⟨_,rfl⟩
 obtain ⟨Hy,Fk⟩:∃ vq,ratB ((((n0*p9)+(n1*p10))+(n2*p11)) - o)=vq:=⟨_,rfl⟩
 obtain ⟨Hz,Fl⟩:∃ vq,ratB (p3 - p0)=vq:=⟨_,rfl⟩
 obtain ⟨H0,Fm⟩:∃ vq,ratB (p4 - p1)=vq:=⟨_,rfl⟩
 obtain ⟨H1,Fn⟩:∃ vq,ratB (p5 - p2)=vq:=⟨_,rfl⟩
 obtain ⟨H2,Fo⟩:∃ vq,ratB (p6 - p0)=vq:=⟨_,rfl⟩
 obtain ⟨H3,Fp⟩:∃ vq,ratB (p7 - p1)=vq:=⟨_,rfl⟩
 obtain ⟨H4,Fq⟩:∃ vq,ratB (p8 - p2)=vq:=⟨_,rfl⟩
 obtain ⟨Cw,Fs⟩:∃ vq,ratB p10=vq:=⟨_,rfl⟩
 obtain ⟨Cx,Ft⟩:∃ vq,ratB p11=vq:=⟨_,rfl⟩
 obtain ⟨Cy,Fu⟩:∃ vq,ratB n0=vq:=⟨_,rfl⟩
 obtain ⟨Cz,Fv⟩:∃ vq,ratB n1=vq:=⟨_,rfl⟩
 obtain ⟨C0,Fw⟩:∃ vq,ratB n2=vq:=⟨_,rfl⟩
 obtain ⟨Da,Fx⟩:∃ vq,ratB p0=vq:=⟨_,rfl⟩
 obtain ⟨Db,Fy⟩:∃ vq,ratB p1=vq:=⟨_,rfl⟩
 obtain ⟨Dc,Fz⟩:∃ vq,ratB p2=vq:=⟨_,rfl⟩
 obtain ⟨Dd,F0⟩:∃ vq,ratB p3=vq:=⟨_,rfl⟩
 obtain ⟨De,F1⟩:∃ vq,ratB p4=vq:=⟨_,rfl⟩
 obtain ⟨Df,F2⟩:∃ vq,ratB p5=vq:=⟨_,rfl⟩
 obtain ⟨Dg,F3⟩:∃ vq,ratB p6=vq:=⟨_,rfl⟩
 obtain ⟨Dh,F4⟩:∃ vq,ratB p7=vq:=⟨_,rfl⟩
 obtain ⟨Di,F5⟩:∃ vq,ratB p8=vq:=⟨_,rfl⟩
 obtain ⟨Dj,F6⟩:∃ vq,ratB p9=vq:=⟨_,rfl⟩
 obtain ⟨H5,F7⟩:∃ vq,ratB o=vq:=⟨_,rfl⟩
 try simp only [Fd,Fe,Ff,Fg,Fh,Fi,Fj,Fk,Fl,Fm,Fn,Fo,Fp,Fq,Fs,Ft,Fu,Fv,Fw,Fx,Fy,Fz,F0,F1,F2,F3,F4,F5,F6,F7] at c1 c2 c3 c4 c5 c6 c7 c8 c9 c10 c11 c12 c13 c14 c15 c17 c18 c19 eq0 pq0 eq1 pq1 eq2 pq2 ⊢
 have C1:=Lib.hid c1
 have C2:=Lib.hid c2
 have C3:=Lib.hid c3
 have C4:=Lib.hid c4
 have C5:=Lib.hid c5
 have C6:=Lib.hid c6
 have C7:=Lib.hid c7
 have C8:=Lib.hid c8
 have C9:=Lib.hid c9
 have C10:=Lib.hid c10
 have C11:=Lib.hid c11
 have C12:=Lib.hid c12
 have C13:=Lib.hid c13
 have C14:=Lib.hid c14
 have C15:=Lib.hid c15
 have C17:=Lib.hid c17
 have C18:=Lib.hid c18
 have C19:=Lib.hid c19
 clear c1 c2 c3 c4 c5 c6 c7 c8 c9 c10 c11 c12 c13 c14 c15 c17 c18 c19 Fd Fe Ff Fg Fh Fi Fj Fk Fl Fm Fn Fo Fp Fq Fs Ft Fu Fv Fw Fx Fy Fz F0 F1 F2 F3 F4 F5 F6 F7 Bd Be Bf Bg Cn Co Bh Bi Cp Cq Cr Cs Bj Ct Bk Dk Cu Bl D6 Dl D7 D8 Am An Ao Ba Bb D9 Bm Dm Ap Dn Do Dp Dq Gj Az Cv A0 Dr Bc Fa Bn Ds Fb Fc Dt Du Gk Gl Dv Dw Dx Dy Dz D0 D1 D2 D3 D4 D5 Gm k0 k1 k2 k3 k4 k5 k6 k7 k8 k9 k10 k11 q0 q1 q2 kq kq' e0 e1 e2 eo
 have hb:=Below.refl w.heap.size w
 go_enter Tryz.func10,Tryz.ntmps10
 go_upto_region 1 with fail
 refine wp_alloc2 (fun w1 a0 a1 hk=>?_)
 replace hb:=hb.trans (hk.mono hb.size)
 clear hk
 obtain ⟨Bo,Bp,Bq,Br,Bs,Bt,Bu,Bv,Bw,Bx,By,Bz⟩:=ce12 a0
 obtain ⟨B0,B1,B2,B3,B4,B5,B6,B7,B8,B9,Ca,Cb⟩:=ce12 a1
 go_upto_region 3 with (go_at_call 13;with_reducible refine (chVB hb R C1).mono ?_;clear hb;rintro e w1 ⟨rfl,hk,hb⟩;clear Bo Bp Bq Br Bs Bt Bu Bv Bw Bx By Bz B0 B1 B2 B3 B4 B5 B6 B7 B8 B9 Ca Cb;replace a0:=zB hk a0;replace a1:=zB hk a1;obtain ⟨Bo,Bp,Bq,Br,Bs,Bt,Bu,Bv,Bw,Bx,By,Bz⟩:=ce12 a0;obtain ⟨B0,B1,B2,B3,B4,B5,B6,B7,B8,B9,Ca,Cb⟩:=ce12 a1;clear hk)
 obtain ⟨Gn,Go,Gp,Gq,Gr,Gs,Gt,Gu,Gv,Gw,Gx,Gy⟩:=cy12 a0
 obtain ⟨Gz,G0,G1,G2,G3,G4,G5,G6,G7,G8,G9,Ha⟩:=cy12 a1
 have Hb:=rrV C2 R hb
 have Hc:=rrV C3 R hb
 have Hd:=rrV C4 R hb
 have He:=rrV C5 R hb
 have F8:=qqV C2 R hb
 have F9:=qqV C3 R hb
 have Ga:=qqV C4 R hb
 have Gb:=qqV C5 R hb
 refine wp_free4 12 0 (fun i=>if i=12 then Obj.cells #[Value.string ⟨#[]⟩,Value.string ⟨#[]⟩,Value.string ⟨#[]⟩] 24 else if i=13 then Obj.cells #[Value.string ⟨#[]⟩,Value.string ⟨#[]⟩,Value.string ⟨#[]⟩] 24 else if i=14 then Obj.cells #[Value.string ⟨#[]⟩,Value.string ⟨#[]⟩,Value.string ⟨#[]⟩] 24 else if i=15 then Obj.cells #[Value.string ⟨#[]⟩,Value.string ⟨#[]⟩,Value.string ⟨#[]⟩] 24 else Obj.cells #[] 0) (fun i=>if i=12 then Obj.cells #[Value.string Da,Value.string Db,Value.string Dc] 24 else if i=13 then Obj.cells #[Value.string Dd,Value.string De,Value.string Df] 24 else if i=14 then Obj.cells #[Value.string Dg,Value.string Dh,Value.string Di] 24 else if i=15 then Obj.cells #[Value.string Dj,Value.string Cw,Value.string Cx] 24 else Obj.cells #[] 0) (some 5) (some 6) (some 7) (some 8) (by first | assumption | kernel_rfl) (by kernel_rfl) ?lay rfl rfl rfl rfl ?_
 case lay =>
   intro i h1 h2
   obtain rfl | rfl | rfl | rfl:i=12∨i=13∨i=14∨i=15:=by omega
   all_goals exact ⟨_,rfl,rfl,fun a w=>(by first | (go_simp;done) | (go_simp;rfl))⟩
 simp only [List.take_succ_cons,List.take_zero]
 repeat (refine wpB_step (fun K hK=>?_);go_simp;first | (refine hK _ ?_;clear hK K) | (apply Exists.intro;refine ⟨fun _=>?_,hK _ ?_⟩;(first | (with_reducible exact F8.out _ _) | (with_reducible exact F9.out _ _) | (with_reducible exact Ga.out _ _) | (with_reducible exact Gb.out _ _));clear hK K))
 refine wpB_nil ?_
 intro Aq Ar As At
 refine ⟨?_,?_,?_,?_,?_⟩
 · refine ⟨_,rfl,rfl,rfl,fun cs b h=>(by cases h),fun w hw=>?_⟩
   replace hw:w.heap[Aq]? = some (Obj.cells #[Value.string ⟨#[]⟩,Value.string ⟨#[]⟩,Value.string ⟨#[]⟩] 24):=hw
   have z0:w.cell? ⟨Aq,0,none⟩=some (Value.string ⟨#[]⟩):=zA hw
   have y0:w.frozen? ⟨Aq,0,none⟩=false:=zD hw
   have z1:w.cell? ⟨Aq,1,none⟩=some (Value.string ⟨#[]⟩):=zA hw
   have y1:w.frozen? ⟨Aq,1,none⟩=false:=zD hw
   have z2:w.cell? ⟨Aq,2,none⟩=some (Value.string ⟨#[]⟩):=zA hw
   have y2:w.frozen? ⟨Aq,2,none⟩=false:=zD hw
   refine ⟨_,?_,(Wrote.set (i:=2) (Wrote.set (i:=1) (Wrote.set (i:=0) (Wrote.refl hw) (Value.string Da)) (Value.string Db)) (Value.string Dc))⟩
   go_simp
 · refine ⟨_,rfl,rfl,rfl,fun cs b h=>(by cases h),fun w hw=>?_⟩
   replace hw:w.heap[Ar]? = some (Obj.cells #[Value.string ⟨#[]⟩,Value.string ⟨#[]⟩,Value.string ⟨#[]⟩] 24):=hw
   have z0:w.cell? ⟨Ar,0,none⟩=some (Value.string ⟨#[]⟩):=zA hw
   have y0:w.frozen? ⟨Ar,0,none⟩=false:=zD hw
   have z1:w.cell? ⟨Ar,1,none⟩=some (Value.string ⟨#[]⟩):=zA hw
   have y1:w.frozen? ⟨Ar,1,none⟩=false:=zD hw
   have z2:w.cell? ⟨Ar,2,none⟩=some (Value.string ⟨#[]⟩):=zA hw
   have y2:w.frozen? ⟨Ar,2,none⟩=false:=zD hw
   refine ⟨_,?_,(Wrote.set (i:=2) (Wrote.set (i:=1) (Wrote.set (i:=0) (Wrote.refl hw) (Value.string Dd)) (Value.string De)) (Value.string Df))⟩
   go_simp
 · refine ⟨_,rfl,rfl,rfl,fun cs b h=>(by cases h),fun w hw=>?_⟩
   replace hw:w.heap[As]? = some (Obj.cells #[Value.string ⟨#[]⟩,Value.string ⟨#[]⟩,Value.string ⟨#[]⟩] 24):=hw
   have z0:w.cell? ⟨As,0,none⟩=some (Value.string ⟨#[]⟩):=zA hw
   have y0:w.frozen? ⟨As,0,none⟩=false:=zD hw
   have z1:w.cell? ⟨As,1,none⟩=some (Value.string ⟨#[]⟩):=zA hw
   have y1:w.frozen? ⟨As,1,none⟩=false:=zD hw
   have z2:w.cell? ⟨As,2,none⟩=some (Value.string ⟨#[]⟩):=zA hw
   have y2:w.frozen? ⟨As,2,none⟩=false:=zD hw
   refine ⟨_,?_,(Wrote.set (i:=2) (Wrote.set (i:=1) (Wrote.set (i:=0) (Wrote.refl hw) (Value.string Dg)) (Value.string Dh)) (Value.string Di))⟩
   go_simp
 · refine ⟨_,rfl,rfl,rfl,fun cs b h=>(by cases h),fun w hw=>?_⟩
   replace hw:w.heap[At]? = some (Obj.cells #[Value.string ⟨#[]⟩,Value.string ⟨#[]⟩,Value.string ⟨#[]⟩] 24):=hw
   have z0:w.cell? ⟨At,0,none⟩=some (Value.string ⟨#[]⟩):=zA hw
   have y0:w.frozen? ⟨At,0,none⟩=false:=zD hw
   have z1:w.cell? ⟨At,1,none⟩=some (Value.string ⟨#[]⟩):=zA hw
   have y1:w.frozen? ⟨At,1,none⟩=false:=zD hw
   have z2:w.cell? ⟨At,2,none⟩=some (Value.string ⟨#[]⟩):=zA hw
   have y2:w.frozen? ⟨At,2,none⟩=false:=zD hw
   refine ⟨_,?_,(Wrote.set (i:=2) (Wrote.set (i:=1) (Wrote.set (i:=0) (Wrote.refl hw) (Value.string Dj)) (Value.string Cw)) (Value.string Cx))⟩
   go_simp
 intro w1 hk m0 m1 m2 m3 Aa Ad Ae Ab _ _ _ _ _ _
 clear Bo Bp Bq Br Bs Bt Bu Bv Bw Bx By Bz B0 B1 B2 B3 B4 B5 B6 B7 B8 B9 Ca Cb
 replace a0:=zB hk a0
 replace a1:=zB hk a1
 obtain ⟨Bo,Bp,Bq,Br,Bs,Bt,Bu,Bv,Bw,Bx,By,Bz⟩:=ce12 a0
 obtain ⟨B0,B1,B2,B3,B4,B5,B6,B7,B8,B9,Ca,Cb⟩:=ce12 a1
 replace hb:=hb.trans (hk.mono hb.size)
 clear hk
 replace Aa:w1.heap[Aq]? = some (Obj.cells #[Value.string Da,Value.string Db,Value.string Dc] 24):=Aa
 have Ag:w1.cell? ⟨Aq,0,none⟩=some (Value.string Da):=zA Aa
 have Ah:w1.cell? ⟨Aq,1,none⟩=some (Value.string Db):=zA Aa
 have Ai:w1.cell? ⟨Aq,2,none⟩=some (Value.string Dc):=zA Aa
 replace Ad:w1.heap[Ar]? = some (Obj.cells #[Value.string Dd,Value.string De,Value.string Df] 24):=Ad
 have A1:w1.cell? ⟨Ar,0,none⟩=some (Value.string Dd):=zA Ad
 have A2:w1.cell? ⟨Ar,1,none⟩=some (Value.string De):=zA Ad
 have A3:w1.cell? ⟨Ar,2,none⟩=some (Value.string Df):=zA Ad
 replace Ae:w1.heap[As]? = some (Obj.cells #[Value.string Dg,Value.string Dh,Value.string Di] 24):=Ae
 have A4:w1.cell? ⟨As,0,none⟩=some (Value.string Dg):=zA Ae
 have A5:w1.cell? ⟨As,1,none⟩=some (Value.string Dh):=zA Ae
 have A6:w1.cell? ⟨As,2,none⟩=some (Value.string Di):=zA Ae
 replace Ab:w1.heap[At]? = some (Obj.cells #[Value.string Dj,Value.string Cw,Value.string Cx] 24):=Ab
 have Aj:w1.cell? ⟨At,0,none⟩=some (Value.string Dj):=zA Ab
 have Ak:w1.cell? ⟨At,1,none⟩=some (Value.string Cw):=zA Ab
 have Al:w1.cell? ⟨At,2,none⟩=some (Value.string Cx):=zA Ab
 clear F8 F9 Ga Gb Hb Hc Hd He Gn Go Gp Gq Gr Gs Gt Gu Gv Gw Gx Gy Gz G0 G1 G2 G3 G4 G5 G6 G7 G8 G9 Ha m0 m1 m2 m3
 go_upto_region 5 with (go_at_call 62;with_reducible refine (chVB hb R C6).mono ?_;clear hb;rintro e w1 ⟨rfl,hk,hb⟩;clear Ag Ah Ai A1 A2 A3 A4 A5 A6 Aj Ak Al;replace Aa:=zB hk Aa;replace Ad:=zB hk Ad;replace Ae:=zB hk Ae;replace Ab:=zB hk Ab;obtain ⟨Ag,Ah,Ai⟩:=ce3 Aa;obtain ⟨A1,A2,A3⟩:=ce3 Ad;obtain ⟨A4,A5,A6⟩:=ce3 Ae;obtain ⟨Aj,Ak,Al⟩:=ce3 Ab;clear hk)
 clear Bo Bp Bq Br Bs Bt Bu Bv Bw Bx By Bz a0 B0 B1 B2 B3 B4 B5 B6 B7 B8 B9 Ca Cb a1
 refine wp_alloc1 (fun w1 Ac hk=>?_)
 clear Ag Ah Ai A1 A2 A3 A4 A5 A6 Aj Ak Al
 replace Aa:=zB hk Aa
 replace Ad:=zB hk Ad
 replace Ae:=zB hk Ae
 replace Ab:=zB hk Ab
 obtain ⟨Ag,Ah,Ai⟩:=ce3 Aa
 obtain ⟨A1,A2,A3⟩:=ce3 Ad
 obtain ⟨A4,A5,A6⟩:=ce3 Ae
 obtain ⟨Aj,Ak,Al⟩:=ce3 Ab
 replace hb:=hb.trans (hk.mono hb.size)
 clear hk
 obtain ⟨Av,Aw,Ax,Ay⟩:=ce4 Ac
 obtain ⟨Cc,Cd,Ce,Cf⟩:=cy4 Ac
 obtain ⟨Cg,Ch,Ci⟩:=cy3 Aa
 obtain ⟨Hf,Hg,Hh⟩:=cy3 Ad
 obtain ⟨Hi,Hj,Hk⟩:=cy3 Ae
 obtain ⟨Cj,Ck,Cm⟩:=cy3 Ab
 have Hl:=rrV C7 R hb
 have Hm:=rrV C8 R hb
 have Hn:=rrV C9 R hb
 have Gc:=qqV C7 R hb
 have Gd:=qqV C8 R hb
 have Ge:=qqV C9 R hb
 refine wp_free1 7 0 (fun i=>if i=7 then Obj.cells #[Value.string ⟨#[]⟩,Value.string ⟨#[]⟩,Value.string ⟨#[]⟩] 24 else Obj.cells #[] 0) (fun i=>if i=7 then Obj.cells #[Value.string Cy,Value.string Cz,Value.string C0] 24 else Obj.cells #[] 0) (some 11) (by first | assumption | kernel_rfl) (by kernel_rfl) ?lay rfl ?_
 case lay =>
   intro i h1 h2
   obtain rfl:i=7:=by omega
   all_goals exact ⟨_,rfl,rfl,fun a w=>(by first | (go_simp;done) | (go_simp;rfl))⟩
 simp only [List.take_succ_cons,List.take_zero]
 repeat (refine wpB_step (fun K hK=>?_);go_simp;first | (refine hK _ ?_;clear hK K) | (apply Exists.intro;refine ⟨fun _=>?_,hK _ ?_⟩;(first | (with_reducible exact Gc.out _ _) | (with_reducible exact Gd.out _ _) | (with_reducible exact Ge.out _ _));clear hK K))
 refine wpB_nil ?_
 intro Au
 refine ⟨?_,?_⟩
 · refine ⟨_,rfl,rfl,rfl,fun cs b h=>(by cases h),fun w hw=>?_⟩
   replace hw:w.heap[Au]? = some (Obj.cells #[Value.string ⟨#[]⟩,Value.string ⟨#[]⟩,Value.string ⟨#[]⟩] 24):=hw
   have z0:w.cell? ⟨Au,0,none⟩=some (Value.string ⟨#[]⟩):=zA hw
   have y0:w.frozen? ⟨Au,0,none⟩=false:=zD hw
   have z1:w.cell? ⟨Au,1,none⟩=some (Value.string ⟨#[]⟩):=zA hw
   have y1:w.frozen? ⟨Au,1,none⟩=false:=zD hw
   have z2:w.cell? ⟨Au,2,none⟩=some (Value.string ⟨#[]⟩):=zA hw
   have y2:w.frozen? ⟨Au,2,none⟩=false:=zD hw
   refine ⟨_,?_,(Wrote.set (i:=2) (Wrote.set (i:=1) (Wrote.set (i:=0) (Wrote.refl hw) (Value.string Cy)) (Value.string Cz)) (Value.string C0))⟩
   go_simp
 intro w1 hk m0 Af
 clear Av Aw Ax Ay Ag Ah Ai A1 A2 A3 A4 A5 A6 Aj Ak Al
 replace Ac:=zB hk Ac
 replace Aa:=zB hk Aa
 replace Ad:=zB hk Ad
 replace Ae:=zB hk Ae
 replace Ab:=zB hk Ab
 obtain ⟨Av,Aw,Ax,Ay⟩:=ce4 Ac
 obtain ⟨Ag,Ah,Ai⟩:=ce3 Aa
 obtain ⟨A1,A2,A3⟩:=ce3 Ad
 obtain ⟨A4,A5,A6⟩:=ce3 Ae
 obtain ⟨Aj,Ak,Al⟩:=ce3 Ab
 replace hb:=hb.trans (hk.mono hb.size)
 clear hk
 replace Af:w1.heap[Au]? = some (Obj.cells #[Value.string Cy,Value.string Cz,Value.string C0] 24):=Af
 have A7:w1.cell? ⟨Au,0,none⟩=some (Value.string Cy):=zA Af
 have A8:w1.cell? ⟨Au,1,none⟩=some (Value.string Cz):=zA Af
 have A9:w1.cell? ⟨Au,2,none⟩=some (Value.string C0):=zA Af
 clear Gc Gd Ge Hl Hm Hn Cc Cd Ce Cf Cg Ch Ci Hf Hg Hh Hi Hj Hk Cj Ck Cm m0
 go_upto_region 8 with (go_at_call 38;with_reducible refine (chVB hb R C10).mono ?_;clear hb;rintro e w1 ⟨rfl,hk,hb⟩;clear Av Aw Ax Ay Ag Ah Ai Aj Ak Al A7 A8 A9;replace Ac:=zB hk Ac;replace Aa:=zB hk Aa;replace Ab:=zB hk Ab;replace Af:=zB hk Af;obtain ⟨Av,Aw,Ax,Ay⟩:=ce4 Ac;obtain ⟨Ag,Ah,Ai⟩:=ce3 Aa;obtain ⟨Aj,Ak,Al⟩:=ce3 Ab;obtain ⟨A7,A8,A9⟩:=ce3 Af;clear hk)
 clear A1 A2 A3 Ad A4 A5 A6 Ae
 obtain ⟨Cc,Cd,Ce,Cf⟩:=cy4 Ac
 obtain ⟨Cg,Ch,Ci⟩:=cy3 Aa
 obtain ⟨Cj,Ck,Cm⟩:=cy3 Ab
 obtain ⟨Ho,Hp,Hq⟩:=cy3 Af
 have Gf:=rrV C11 R hb
 refine wp_region_quiet_below (by first | assumption | kernel_rfl) (by kernel_rfl) ?_
 repeat (quiet_step (first | (with_reducible exact Gf.out _ _)))
 refine wpQuiet_nil ?_
 intro w1 hw'
 obtain ⟨hk,hb⟩:=zQ hb hw'
 clear Av Aw Ax Ay Ag Ah Ai Aj Ak Al A7 A8 A9
 replace Ac:=zB hk Ac
 replace Aa:=zB hk Aa
 replace Ab:=zB hk Ab
 replace Af:=zB hk Af
 obtain ⟨Av,Aw,Ax,Ay⟩:=ce4 Ac
 obtain ⟨Ag,Ah,Ai⟩:=ce3 Aa
 obtain ⟨Aj,Ak,Al⟩:=ce3 Ab
 obtain ⟨A7,A8,A9⟩:=ce3 Af
 clear Gf Cc Cd Ce Cf Cg Ch Ci Cj Ck Cm Ho Hp Hq
 clear hk hw'
 go_upto_region 16 with ((first | (go_at_call 27;with_reducible refine (chVB hb R C12).mono ?_) | (go_at_call 63;with_reducible refine (chVB hb R C13).mono ?_) | (go_at_call 64;with_reducible refine (chVB hb R C14).mono ?_) | (go_at_call 42;with_reducible refine (chVB hb R C15).mono ?_) | (go_at_call 36;with_reducible refine (chVB hb R C11).mono ?_));clear hb;rintro e w1 ⟨rfl,hk,hb⟩;clear Av Aw Ax Ay Ag Ah Ai Aj Ak Al A7 A8 A9;replace Ac:=zB hk Ac;replace Aa:=zB hk Aa;replace Ab:=zB hk Ab;replace Af:=zB hk Af;obtain ⟨Av,Aw,Ax,Ay⟩:=ce4 Ac;obtain ⟨Ag,Ah,Ai⟩:=ce3 Aa;obtain ⟨Aj,Ak,Al⟩:=ce3 Ab;obtain ⟨A7,A8,A9⟩:=ce3 Af;clear hk)
 clear A7 A8 A9 Af
 obtain ⟨Cc,Cd,Ce,Cf⟩:=cy4 Ac
 obtain ⟨Cg,Ch,Ci⟩:=cy3 Aa
 obtain ⟨Cj,Ck,Cm⟩:=cy3 Ab
 have Gg:=rrV C17 R hb
 have Gh:=rrV C18 R hb
 have Gi:=rrV C19 R hb
 refine wp_region_quiet_below (by first | assumption | kernel_rfl) (by kernel_rfl) ?_
 repeat (quiet_step (first | (with_reducible exact Gg.out _ _) | (with_reducible exact Gh.out _ _) | (with_reducible exact Gi.out _ _)))
 refine wpQuiet_nil ?_
 intro w1 hw'
 obtain ⟨hk,hb⟩:=zQ hb hw'
 clear Av Aw Ax Ay Ag Ah Ai Aj Ak Al
 replace Ac:=zB hk Ac
 replace Aa:=zB hk Aa
 replace Ab:=zB hk Ab
 obtain ⟨Av,Aw,Ax,Ay⟩:=ce4 Ac
 obtain ⟨Ag,Ah,Ai⟩:=ce3 Aa
 obtain ⟨Aj,Ak,Al⟩:=ce3 Ab
 clear Gg Gh Gi Cc Cd Ce Cf Cg Ch Ci Cj Ck Cm
 clear hk hw'
 go_wp2
 first | go_ret | go_ret2 | go_ret3
 exact ⟨rfl,hb⟩
theorem lawPlanes_2z  (i0 g0 i1 g1 i2 g2 i3 g3 i4 g4 i5 g5 i6 g6 i7 g7 i8 g8 i9 g9 i10 g10 i11 g11:Int) (p0 p1 p2 p3 p4 p5 p6 p7 p8 p9 p10 p11:Rat) (k0:SmallIs i0 g0 p0) (k1:SmallIs i1 g1 p1) (k2:SmallIs i2 g2 p2) (k3:SmallIs i3 g3 p3) (k4:SmallIs i4 g4 p4) (k5:SmallIs i5 g5 p5) (k6:SmallIs i6 g6 p6) (k7:SmallIs i7 g7 p7) (k8:SmallIs i8 g8 p8) (k9:SmallIs i9 g9 p9) (k10:SmallIs i10 g10 p10) (k11:SmallIs i11 g11 p11) (n0 n1 n2 o:Rat) (e0:(((p4 - p1)*(p8 - p2)) - ((p5 - p2)*(p7 - p1)))=n0) (e1:(((p5 - p2)*(p6 - p0)) - ((p3 - p0)*(p8 - p2)))=n1) (e2:(((p3 - p0)*(p7 - p1)) - ((p4 - p1)*(p6 - p0)))=n2) (eo:(((n0*p0)+(n1*p1))+(n2*p2))=o) (q0:n0=0) (q1:n1=0) (q2:n2≠0) (q3:o=0) (w:World) (R:EnvV w) :
   Calls Tryz.prog 10 #[.agg #[.int .i16 i0,.int .u8 g0,.int .i16 i1,.int .u8 g1,.int .i16 i2,.int .u8 g2,.int .i16 i3,.int .u8 g3,.int .i16 i4,.int .u8 g4,.int .i16 i5,.int .u8 g5],.agg #[.int .i16 i6,.int .u8 g6,.int .i16 i7,.int .u8 g7,.int .i16 i8,.int .u8 g8,.int .i16 i9,.int .u8 g9,.int .i16 i10,.int .u8 g10,.int .i16 i11,.int .u8 g11]] w (Ret w (.bool true)):=by
 have Bd:=RN_sub (N:=8) k4.rn k1.rn
 have Be:=RN_sub (N:=8) k8.rn k2.rn
 have Bf:=RN_sub (N:=8) k5.rn k2.rn
 have Bg:=RN_sub (N:=8) k7.rn k1.rn
 have Cb:=RN_mul Bd Be
 have Cc:=RN_mul Bf Bg
 have Bh:=RN_sub (N:=8) k6.rn k0.rn
 have Bi:=RN_sub (N:=8) k3.rn k0.rn
 have Cd:=RN_mul Bf Bh
 have Ce:=RN_mul Bi Be
 have Cf:=RN_mul Bi Bg
 have Cg:=RN_mul Bd Bh
 have Bj:=RN_sub (N:=30) Cb Cc
 have Ch:=RN_mul Bj k0.rn
 have Bk:=RN_sub (N:=30) Cd Ce
 have Da:=RN_add (N:=37) rn_0 Ch
 have Ci:=RN_mul Bk k1.rn
 have Bl:=RN_sub (N:=30) Cf Cg
 have Du:=RN_add (N:=65) Da Ci
 have Db:=RN_mul Bl k2.rn
 have Dv:=RN_add (N:=63) Ch Ci
 have Dw:=RN_add (N:=91) Dv Db
 have Ar:RN n0 31 24:=(e0 ▸ Bj:RN n0 31 24)
 have As:RN n1 31 24:=(e1 ▸ Bk:RN n1 31 24)
 have At:RN n2 31 24:=(e2 ▸ Bl:RN n2 31 24)
 have A7:=RN_mul Ar k0.rn
 have A8:=RN_mul As k1.rn
 have Dx:=RN_add (N:=63) A7 A8
 have Bm:=RN_mul At k2.rn
 have Dy:=RN_add (N:=91) Dx Bm
 have Au:RN o 92 81:=(eo ▸ Dy:RN o 92 81)
 have Dc:=RN_mul k0.rn rn_m1
 have Dd:=RN_mul k1.rn rn_m1
 have De:=RN_mul k2.rn rn_m1
 have Df:=RN_add (N:=63) A8 Bm
 have Fx:=RN_add (N:=91) A7 Df
 have Az:=RN_mul Ar k9.rn
 have Cj:=RN_add (N:=37) rn_0 Az
 have A0:=RN_mul As k10.rn
 have Dg:=RN_add (N:=65) Cj A0
 have A9:=RN_mul At k11.rn
 have Dz:=RN_add (N:=63) Az A0
 have Ck:=RN_add (N:=91) Dz A9
 have Dh:=RN_add (N:=37) rn_0 A7
 have D0:=RN_add (N:=65) Dh A8
 have Di:=RN_add (N:=63) A0 A9
 have Dj:=RN_add (N:=91) Az Di
 have Fy:=RN_sub (N:=173) Dj Au
 have Fz:=RN_sub (N:=173) Ck Au
 have c1:=known5_any
 have c2:=makeV i0 g0 i1 g1 i2 g2 p0 p1 p2 k0 k1 k2
 have c3:=makeV i3 g3 i4 g4 i5 g5 p3 p4 p5 k3 k4 k5
 have c4:=makeV i6 g6 i7 g7 i8 g8 p6 p7 p8 k6 k7 k8
 have c5:=makeV i9 g9 i10 g10 i11 g11 p9 p10 p11 k9 k10 k11
 have c6:CV 62 #[.agg #[.string (ratB p0),.string (ratB p1),.string (ratB p2)],.agg #[.string (ratB p3),.string (ratB p4),.string (ratB p5)],.agg #[.string (ratB p6),.string (ratB p7),.string (ratB p8)]] (.tuple #[.agg #[.string (ratB n0),.string (ratB n1),.string (ratB n2),.string (ratB o)],.int .i64 0]):=fun w R=>(by have h:=spanned_2 p0 p1 p2 p3 p4 p5 p6 p7 p8 (e0.trans q0) (e1.trans q1) (by rw [e2];exact q2) k0.rn.r2 k1.rn.r2 k2.rn.r2 k3.rn.r2 k4.rn.r2 k5.rn.r2 k6.rn.r2 k7.rn.r2 k8.rn.r2 k3.rn.rm k0.rn.rm k4.rn.rm k1.rn.rm k5.rn.rm k2.rn.rm k6.rn.rm k7.rn.rm k8.rn.rm Bd.rm Be.rm Bf.rm Bg.rm Cb.rm Cc.rm Bh.rm Bi.rm Cd.rm Ce.rm Cf.rm Cg.rm Bj.rm Ch.rm Bk.rm Da.rm Ci.rm Bl.rm Du.rm Db.rm Bj.r2 Bk.r2 Bl.r2 Dw.r2 w R;rw [e0,e1,e2,eo] at h;exact h)
 have c7:=fun (w:World) (R:EnvV w)=>refVSub p3 p4 p5 p0 p1 p2 k0.rn.r4 k1.rn.r4 k2.rn.r4 k3.rn.r4 Dc.r4 k4.rn.r4 Dd.r4 k5.rn.r4 De.r4 w R.toEnvR
 have c8:=fun (w:World) (R:EnvV w)=>refVSub p6 p7 p8 p0 p1 p2 k0.rn.r4 k1.rn.r4 k2.rn.r4 k6.rn.r4 Dc.r4 k7.rn.r4 Dd.r4 k8.rn.r4 De.r4 w R.toEnvR
 have c9:CV 37 #[.agg #[.string (ratB (p3 - p0)),.string (ratB (p4 - p1)),.string (ratB (p5 - p2))],.agg #[.string (ratB (p6 - p0)),.string (ratB (p7 - p1)),.string (ratB (p8 - p2))]] (.agg #[.string (ratB n0),.string (ratB n1),.string (ratB n2)]):=fun w R=>(by have h:=refVCross (p3 - p0) (p4 - p1) (p5 - p2) (p6 - p0) (p7 - p1) (p8 - p2) Bd.r4 Be.r4 Bf.r4 Bg.r4 Cb.r4 Cc.r4 Bh.r4 Bi.r4 Cd.r4 Ce.r4 Cf.r4 Cg.r4 w R.toEnvR;rw [e0,e1,e2] at h;exact h)
 have c10:=refZero_no n0 n1 n2  (Or.inr (Or.inr q2))
 have c11:CV 36 #[.agg #[.string (ratB n0),.string (ratB n1),.string (ratB n2)],.agg #[.string (ratB p0),.string (ratB p1),.string (ratB p2)]] (.string (ratB o)):=fun w R=>(by have h:=refVDot n0 n1 n2 p0 p1 p2 Ar.r4 k0.rn.r4 As.r4 k1.rn.r4 At.r4 k2.rn.r4 A8.r4 Bm.r4 A7.r4 Df.r4 w R.toEnvR;rw [show (n0*p0)+((n1*p1)+(n2*p2))=o from by rw [← eo];grind] at h;exact h)
 have c12:=side_any n0 n1 n2 o p9 p10 p11 Ar.r2 As.r2 At.r2 Au.r2 (Or.inr (Or.inr q2)) k9.rn.r2 k10.rn.r2 k11.rn.r2 Ar.rm k9.rn.rm Az.rm As.rm k10.rn.rm Cj.rm A0.rm At.rm k11.rn.rm Dg.rm A9.rm Ck.rm Au.rm
 have c13:=pierce_none n0 n1 n2 o p9 p10 p11 p0 p1 p2 (eo.trans q3) Ar.r2 As.r2 At.r2 Au.r2 (Or.inr (Or.inr q2)) k9.rn.r2 k10.rn.r2 k11.rn.r2 k0.rn.r2 k1.rn.r2 k2.rn.r2 Ar.rm k9.rn.rm Az.rm As.rm k10.rn.rm Cj.rm A0.rm At.rm k11.rn.rm Dg.rm A9.rm Au.rm Ck.rm k0.rn.rm A7.rm k1.rn.rm Dh.rm A8.rm k2.rn.rm D0.rm Bm.rm
 have c14:CV 64 #[.agg #[.string (ratB n0),.string (ratB n1),.string (ratB n2),.string (ratB o)],.agg #[.string (ratB p9),.string (ratB p10),.string (ratB p11)]] (.string (ratB ((((n0*p9)+(n1*p10))+(n2*p11)) - o))):=fun w R=>(by have h:=refPBeyond n0 n1 n2 o p9 p10 p11 Ar.r4 k9.rn.r4 As.r4 k10.rn.r4 At.r4 k11.rn.r4 A0.r4 A9.r4 Az.r4 Di.r4 Dj.r4 Au.r4 w R.toEnvR;rw [show ((n0*p9)+((n1*p10)+(n2*p11))) - o=(((n0*p9)+(n1*p10))+(n2*p11)) - o from by grind] at h;exact h)
 have c15:=fun (w:World) (R:EnvV w)=>refRSign_any ((((n0*p9)+(n1*p10))+(n2*p11)) - o) w R.toEnvR
 have eq0:((ratB n0).toList == [48])=true:=by rw [ratB_eq_zero];exact decide_eq_true q0
 have pq0:(ratB n0).toList=[48]:=(zero_iff _).2 q0
 have eq1:((ratB n1).toList == [48])=true:=by rw [ratB_eq_zero];exact decide_eq_true q1
 have pq1:(ratB n1).toList=[48]:=(zero_iff _).2 q1
 have eq2:((ratB n2).toList == [48])=false:=by rw [ratB_eq_zero];exact decide_eq_false q2
 have pq2:¬ (ratB n2).toList=[48]:=fun h=>q2 ((zero_iff _).1 h)
 have eq3:((ratB o).toList == [48])=true:=by rw [ratB_eq_zero];exact decide_eq_true q3
 have pq3:(ratB o).toList=[48]:=(zero_iff _).2 q3
 obtain ⟨G4,D1⟩:∃ vq,ratB ((((n0*p9)+(n1*p10))+(n2*p11)) - o)=vq:=⟨_,rfl⟩
 obtain ⟨G5,D2⟩:∃ vq,ratB (p3 - p0)=vq:=⟨_,rfl⟩
 obtain ⟨G6,D3⟩:∃ vq,ratB (p4 - p1)=vq:=⟨_,rfl⟩
 obtain ⟨G7,D4⟩:∃ vq,ratB (p5 - p2)=vq:=⟨_,rfl⟩
 obtain ⟨G8,D5⟩:∃ vq,ratB (p6 - p0)=vq:=⟨_,rfl⟩
 obtain ⟨G9,D6⟩:∃ vq,ratB (p7 - p1)=vq:=⟨_,rfl⟩
 obtain ⟨Ha,D7⟩:∃ vq,ratB (p8 - p2)=vq:=⟨_,rfl⟩
 obtain ⟨Cm,D8⟩:∃ vq,ratB p10=vq:=⟨_,rfl⟩
 obtain ⟨Cn,D9⟩:∃ vq,ratB p11=vq:=⟨_,rfl⟩
 obtain ⟨Co,Fa⟩:∃ vq,ratB n0=vq:=⟨_,rfl⟩
 obtain ⟨Cp,Fb⟩:∃ vq,ratB n1=vq:=⟨_,rfl⟩
 obtain ⟨Cq,Fc⟩:∃ vq,ratB n2=vq:=⟨_,rfl⟩
 obtain ⟨Cr,Fd⟩:∃ vq,ratB p0=vq:=⟨_,rfl⟩
 obtain ⟨Cs,Fe⟩:∃ vq,ratB p1=vq:=⟨_,rfl⟩
 obtain ⟨Ct,Ff⟩:∃ vq,ratB p2=vq:=⟨_,rfl⟩
 obtain ⟨Cu,Fg⟩:∃ vq,ratB p3=vq:=⟨_,rfl⟩
 obtain ⟨Cv,Fh⟩:∃ vq,ratB p4=vq:=⟨_,rfl⟩
 obtain ⟨Cw,Fi⟩:∃ vq,ratB p5=vq:=⟨_,rfl⟩
 obtain ⟨Cx,Fj⟩:∃ vq,ratB p6=vq:=⟨_,rfl⟩
 obtain ⟨Cy,Fk⟩:∃ vq,ratB p7=vq:=⟨_,rfl⟩
 obtain ⟨Cz,Fl⟩:∃ vq,ratB p8=vq:=⟨_,rfl⟩
 obtain ⟨C0,Fm⟩:∃ vq,ratB p9=vq:=⟨_,rfl⟩
 obtain ⟨Hb,Fn⟩:∃ vq,ratB o=vq:=⟨_,rfl⟩
 try simp only [D1,D2,D3,D4,D5,D6,D7,D8,D9,Fa,Fb,Fc,Fd,Fe,Ff,Fg,Fh,Fi,Fj,Fk,Fl,Fm,Fn] at c1 c2 c3 c4 c5 c6 c7 c8 c9 c10 c11 c12 c13 c14 c15 eq0 pq0 eq1 pq1 eq2 pq2 eq3 pq3 ⊢
 have C1:=Lib.hid c1
 have C2:=Lib.hid c2
 have C3:=Lib.hid c3
 have C4:=Lib.hid c4
 have C5:=Lib.hid c5
 have C6:=Lib.hid c6
 have C7:=Lib.hid c7
 have C8:=Lib.hid c8
 have C9:=Lib.hid c9
 have C10:=Lib.hid c10
 have C11:=Lib.hid c11
 have C12:=Lib.hid c12
 have C13:=Lib.hid c13
 have C14:=Lib.hid c14
 have C15:=Lib.hid c15
 clear c1 c2 c3 c4 c5 c6 c7 c8 c9 c10 c11 c12 c13 c14 c15 D1 D2 D3 D4 D5 D6 D7 D8 D9 Fa Fb Fc Fd Fe Ff Fg Fh Fi Fj Fk Fl Fm Fn Bd Be Bf Bg Cb Cc Bh Bi Cd Ce Cf Cg Bj Ch Bk Da Ci Bl Du Db Dv Dw Ar As At A7 A8 Dx Bm Dy Au Dc Dd De Df Fx Az Cj A0 Dg A9 Dz Ck Dh D0 Di Dj Fy Fz k0 k1 k2 k3 k4 k5 k6 k7 k8 k9 k10 k11 q0 q1 q2 q3 e0 e1 e2 eo
 have hb:=Below.refl w.heap.size w
 go_enter Tryz.func10,Tryz.ntmps10
 go_upto_region 1 with fail
 refine wp_alloc2 (fun w1 a0 a1 hk=>?_)
 replace hb:=hb.trans (hk.mono hb.size)
 clear hk
 obtain ⟨Bn,Bo,Bp,Bq,Br,Bs,Bt,Bu,Bv,Bw,Bx,By⟩:=ce12 a0
 obtain ⟨Bz,B0,B1,B2,B3,B4,B5,B6,B7,B8,B9,Ca⟩:=ce12 a1
 go_upto_region 3 with (go_at_call 13;with_reducible refine (chVB hb R C1).mono ?_;clear hb;rintro e w1 ⟨rfl,hk,hb⟩;clear Bn Bo Bp Bq Br Bs Bt Bu Bv Bw Bx By Bz B0 B1 B2 B3 B4 B5 B6 B7 B8 B9 Ca;replace a0:=zB hk a0;replace a1:=zB hk a1;obtain ⟨Bn,Bo,Bp,Bq,Br,Bs,Bt,Bu,Bv,Bw,Bx,By⟩:=ce12 a0;obtain ⟨Bz,B0,B1,B2,B3,B4,B5,B6,B7,B8,B9,Ca⟩:=ce12 a1;clear hk)
 obtain ⟨F0,F1,F2,F3,F4,F5,F6,F7,F8,F9,Ga,Gb⟩:=cy12 a0
 obtain ⟨Gc,Gd,Ge,Gf,Gg,Gh,Gi,Gj,Gk,Gl,Gm,Gn⟩:=cy12 a1
 have Go:=rrV C2 R hb
 have Gp:=rrV C3 R hb
 have Gq:=rrV C4 R hb
 have Gr:=rrV C5 R hb
 have Fo:=qqV C2 R hb
 have Fp:=qqV C3 R hb
 have Fq:=qqV C4 R hb
 have Fs:=qqV C5 R hb
 refine wp_free4 12 0 (fun i=>if i=12 then Obj.cells #[Value.string ⟨#[]⟩,Value.string ⟨#[]⟩,Value.string ⟨#[]⟩] 24 else if i=13 then Obj.cells #[Value.string ⟨#[]⟩,Value.string ⟨#[]⟩,Value.string ⟨#[]⟩] 24 else if i=14 then Obj.cells #[Value.string ⟨#[]⟩,Value.string ⟨#[]⟩,Value.string ⟨#[]⟩] 24 else if i=15 then Obj.cells #[Value.string ⟨#[]⟩,Value.string ⟨#[]⟩,Value.string ⟨#[]⟩] 24 else Obj.cells #[] 0) (fun i=>if i=12 then Obj.cells #[Value.string Cr,Value.string Cs,Value.string Ct] 24 else if i=13 then Obj.cells #[Value.string Cu,Value.string Cv,Value.string Cw] 24 else if i=14 then Obj.cells #[Value.string Cx,Value.string Cy,Value.string Cz] 24 else if i=15 then Obj.cells #[Value.string C0,Value.string Cm,Value.string Cn] 24 else Obj.cells #[] 0) (some 5) (some 6) (some 7) (some 8) (by first | assumption | kernel_rfl) (by kernel_rfl) ?lay rfl rfl rfl rfl ?_
 case lay =>
   intro i h1 h2
   obtain rfl | rfl | rfl | rfl:i=12∨i=13∨i=14∨i=15:=by omega
   all_goals exact ⟨_,rfl,rfl,fun a w=>(by first | (go_simp;done) | (go_simp;rfl))⟩
 simp only [List.take_succ_cons,List.take_zero]
 repeat (refine wpB_step (fun K hK=>?_);go_simp;first | (refine hK _ ?_;clear hK K) | (apply Exists.intro;refine ⟨fun _=>?_,hK _ ?_⟩;(first | (with_reducible exact Fo.out _ _) | (with_reducible exact Fp.out _ _) | (with_reducible exact Fq.out _ _) | (with_reducible exact Fs.out _ _));clear hK K))
 refine wpB_nil ?_
 intro Am An Ao Ap
 refine ⟨?_,?_,?_,?_,?_⟩
 · refine ⟨_,rfl,rfl,rfl,fun cs b h=>(by cases h),fun w hw=>?_⟩
   replace hw:w.heap[Am]? = some (Obj.cells #[Value.string ⟨#[]⟩,Value.string ⟨#[]⟩,Value.string ⟨#[]⟩] 24):=hw
   have z0:w.cell? ⟨Am,0,none⟩=some (Value.string ⟨#[]⟩):=zA hw
   have y0:w.frozen? ⟨Am,0,none⟩=false:=zD hw
   have z1:w.cell? ⟨Am,1,none⟩=some (Value.string ⟨#[]⟩):=zA hw
   have y1:w.frozen? ⟨Am,1,none⟩=false:=zD hw
   have z2:w.cell? ⟨Am,2,none⟩=some (Value.string ⟨#[]⟩):=zA hw
   have y2:w.frozen? ⟨Am,2,none⟩=false:=zD hw
   refine ⟨_,?_,(Wrote.set (i:=2) (Wrote.set (i:=1) (Wrote.set (i:=0) (Wrote.refl hw) (Value.string Cr)) (Value.string Cs)) (Value.string Ct))⟩
   go_simp
 · refine ⟨_,rfl,rfl,rfl,fun cs b h=>(by cases h),fun w hw=>?_⟩
   replace hw:w.heap[An]? = some (Obj.cells #[Value.string ⟨#[]⟩,Value.string ⟨#[]⟩,Value.string ⟨#[]⟩] 24):=hw
   have z0:w.cell? ⟨An,0,none⟩=some (Value.string ⟨#[]⟩):=zA hw
   have y0:w.frozen? ⟨An,0,none⟩=false:=zD hw
   have z1:w.cell? ⟨An,1,none⟩=some (Value.string ⟨#[]⟩):=zA hw
   have y1:w.frozen? ⟨An,1,none⟩=false:=zD hw
   have z2:w.cell? ⟨An,2,none⟩=some (Value.string ⟨#[]⟩):=zA hw
   have y2:w.frozen? ⟨An,2,none⟩=false:=zD hw
   refine ⟨_,?_,(Wrote.set (i:=2) (Wrote.set (i:=1) (Wrote.set (i:=0) (Wrote.refl hw) (Value.string Cu)) (Value.string Cv)) (Value.string Cw))⟩
   go_simp
 · refine ⟨_,rfl,rfl,rfl,fun cs b h=>(by cases h),fun w hw=>?_⟩
   replace hw:w.heap[Ao]? = some (Obj.cells #[Value.string ⟨#[]⟩,Value.string ⟨#[]⟩,Value.string ⟨#[]⟩] 24):=hw
   have z0:w.cell? ⟨Ao,0,none⟩=some (Value.string ⟨#[]⟩):=zA hw
   have y0:w.frozen? ⟨Ao,0,none⟩=false:=zD hw
   have z1:w.cell? ⟨Ao,1,none⟩=some (Value.string ⟨#[]⟩):=zA hw
   have y1:w.frozen? ⟨Ao,1,none⟩=false:=zD hw
   have z2:w.cell? ⟨Ao,2,none⟩=some (Value.string ⟨#[]⟩):=zA hw
   have y2:w.frozen? ⟨Ao,2,none⟩=false:=zD hw
   refine ⟨_,?_,(Wrote.set (i:=2) (Wrote.set (i:=1) (Wrote.set (i:=0) (Wrote.refl hw) (Value.string Cx)) (Value.string Cy)) (Value.string Cz))⟩
   go_simp
 · refine ⟨_,rfl,rfl,rfl,fun cs b h=>(by cases h),fun w hw=>?_⟩
   replace hw:w.heap[Ap]? = some (Obj.cells #[Value.string ⟨#[]⟩,Value.string ⟨#[]⟩,Value.string ⟨#[]⟩] 24):=hw
   have z0:w.cell? ⟨Ap,0,none⟩=some (Value.string ⟨#[]⟩):=zA hw
   have y0:w.frozen? ⟨Ap,0,none⟩=false:=zD hw
   have z1:w.cell? ⟨Ap,1,none⟩=some (Value.string ⟨#[]⟩):=zA hw
   have y1:w.frozen? ⟨Ap,1,none⟩=false:=zD hw
   have z2:w.cell? ⟨Ap,2,none⟩=some (Value.string ⟨#[]⟩):=zA hw
   have y2:w.frozen? ⟨Ap,2,none⟩=false:=zD hw
   refine ⟨_,?_,(Wrote.set (i:=2) (Wrote.set (i:=1) (Wrote.set (i:=0) (Wrote.refl hw) (Value.string C0)) (Value.string Cm)) (Value.string Cn))⟩
   go_simp
 intro w1 hk m0 m1 m2 m3 Aa Ac Ad Ab _ _ _ _ _ _
 clear Bn Bo Bp Bq Br Bs Bt Bu Bv Bw Bx By Bz B0 B1 B2 B3 B4 B5 B6 B7 B8 B9 Ca
 replace a0:=zB hk a0
 replace a1:=zB hk a1
 obtain ⟨Bn,Bo,Bp,Bq,Br,Bs,Bt,Bu,Bv,Bw,Bx,By⟩:=ce12 a0
 obtain ⟨Bz,B0,B1,B2,B3,B4,B5,B6,B7,B8,B9,Ca⟩:=ce12 a1
 replace hb:=hb.trans (hk.mono hb.size)
 clear hk
 replace Aa:w1.heap[Am]? = some (Obj.cells #[Value.string Cr,Value.string Cs,Value.string Ct] 24):=Aa
 have Ag:w1.cell? ⟨Am,0,none⟩=some (Value.string Cr):=zA Aa
 have Ah:w1.cell? ⟨Am,1,none⟩=some (Value.string Cs):=zA Aa
 have Ai:w1.cell? ⟨Am,2,none⟩=some (Value.string Ct):=zA Aa
 replace Ac:w1.heap[An]? = some (Obj.cells #[Value.string Cu,Value.string Cv,Value.string Cw] 24):=Ac
 have A1:w1.cell? ⟨An,0,none⟩=some (Value.string Cu):=zA Ac
 have A2:w1.cell? ⟨An,1,none⟩=some (Value.string Cv):=zA Ac
 have A3:w1.cell? ⟨An,2,none⟩=some (Value.string Cw):=zA Ac
 replace Ad:w1.heap[Ao]? = some (Obj.cells #[Value.string Cx,Value.string Cy,Value.string Cz] 24):=Ad
 have A4:w1.cell? ⟨Ao,0,none⟩=some (Value.string Cx):=zA Ad
 have A5:w1.cell? ⟨Ao,1,none⟩=some (Value.string Cy):=zA Ad
 have A6:w1.cell? ⟨Ao,2,none⟩=some (Value.string Cz):=zA Ad
 replace Ab:w1.heap[Ap]? = some (Obj.cells #[Value.string C0,Value.string Cm,Value.string Cn] 24):=Ab
 have Aj:w1.cell? ⟨Ap,0,none⟩=some (Value.string C0):=zA Ab
 have Ak:w1.cell? ⟨Ap,1,none⟩=some (Value.string Cm):=zA Ab
 have Al:w1.cell? ⟨Ap,2,none⟩=some (Value.string Cn):=zA Ab
 clear Fo Fp Fq Fs Go Gp Gq Gr F0 F1 F2 F3 F4 F5 F6 F7 F8 F9 Ga Gb Gc Gd Ge Gf Gg Gh Gi Gj Gk Gl Gm Gn m0 m1 m2 m3
 go_upto_region 5 with (go_at_call 62;with_reducible refine (chVB hb R C6).mono ?_;clear hb;rintro e w1 ⟨rfl,hk,hb⟩;clear Ag Ah Ai A1 A2 A3 A4 A5 A6 Aj Ak Al;replace Aa:=zB hk Aa;replace Ac:=zB hk Ac;replace Ad:=zB hk Ad;replace Ab:=zB hk Ab;obtain ⟨Ag,Ah,Ai⟩:=ce3 Aa;obtain ⟨A1,A2,A3⟩:=ce3 Ac;obtain ⟨A4,A5,A6⟩:=ce3 Ad;obtain ⟨Aj,Ak,Al⟩:=ce3 Ab;clear hk)
 clear Bn Bo Bp Bq Br Bs Bt Bu Bv Bw Bx By a0 Bz B0 B1 B2 B3 B4 B5 B6 B7 B8 B9 Ca a1
 refine wp_alloc1 (fun w1 Ae hk=>?_)
 clear Ag Ah Ai A1 A2 A3 A4 A5 A6 Aj Ak Al
 replace Aa:=zB hk Aa
 replace Ac:=zB hk Ac
 replace Ad:=zB hk Ad
 replace Ab:=zB hk Ab
 obtain ⟨Ag,Ah,Ai⟩:=ce3 Aa
 obtain ⟨A1,A2,A3⟩:=ce3 Ac
 obtain ⟨A4,A5,A6⟩:=ce3 Ad
 obtain ⟨Aj,Ak,Al⟩:=ce3 Ab
 replace hb:=hb.trans (hk.mono hb.size)
 clear hk
 obtain ⟨Av,Aw,Ax,Ay⟩:=ce4 Ae
 obtain ⟨Dk,Dl,Dm,Dn⟩:=cy4 Ae
 obtain ⟨Do,Dp,Dq⟩:=cy3 Aa
 obtain ⟨Gs,Gt,Gu⟩:=cy3 Ac
 obtain ⟨Gv,Gw,Gx⟩:=cy3 Ad
 obtain ⟨Dr,Ds,Dt⟩:=cy3 Ab
 have Gy:=rrV C7 R hb
 have Gz:=rrV C8 R hb
 have G0:=rrV C9 R hb
 have Ft:=qqV C7 R hb
 have Fu:=qqV C8 R hb
 have Fv:=qqV C9 R hb
 refine wp_free1 7 0 (fun i=>if i=7 then Obj.cells #[Value.string ⟨#[]⟩,Value.string ⟨#[]⟩,Value.string ⟨#[]⟩] 24 else Obj.cells #[] 0) (fun i=>if i=7 then Obj.cells #[Value.string Co,Value.string Cp,Value.string Cq] 24 else Obj.cells #[] 0) (some 11) (by first | assumption | kernel_rfl) (by kernel_rfl) ?lay rfl ?_
 case lay =>
   intro i h1 h2
   obtain rfl:i=7:=by omega
   all_goals exact ⟨_,rfl,rfl,fun a w=>(by first | (go_simp;done) | (go_simp;rfl))⟩
 simp only [List.take_succ_cons,List.take_zero]
 repeat (refine wpB_step (fun K hK=>?_);go_simp;first | (refine hK _ ?_;clear hK K) | (apply Exists.intro;refine ⟨fun _=>?_,hK _ ?_⟩;(first | (with_reducible exact Ft.out _ _) | (with_reducible exact Fu.out _ _) | (with_reducible exact Fv.out _ _));clear hK K))
 refine wpB_nil ?_
 intro Aq
 refine ⟨?_,?_⟩
 · refine ⟨_,rfl,rfl,rfl,fun cs b h=>(by cases h),fun w hw=>?_⟩
   replace hw:w.heap[Aq]? = some (Obj.cells #[Value.string ⟨#[]⟩,Value.string ⟨#[]⟩,Value.string ⟨#[]⟩] 24):=hw
   have z0:w.cell? ⟨Aq,0,none⟩=some (Value.string ⟨#[]⟩):=zA hw
   have y0:w.frozen? ⟨Aq,0,none⟩=false:=zD hw
   have z1:w.cell? ⟨Aq,1,none⟩=some (Value.string ⟨#[]⟩):=zA hw
   have y1:w.frozen? ⟨Aq,1,none⟩=false:=zD hw
   have z2:w.cell? ⟨Aq,2,none⟩=some (Value.string ⟨#[]⟩):=zA hw
   have y2:w.frozen? ⟨Aq,2,none⟩=false:=zD hw
   refine ⟨_,?_,(Wrote.set (i:=2) (Wrote.set (i:=1) (Wrote.set (i:=0) (Wrote.refl hw) (Value.string Co)) (Value.string Cp)) (Value.string Cq))⟩
   go_simp
 intro w1 hk m0 Af
 clear Av Aw Ax Ay Ag Ah Ai A1 A2 A3 A4 A5 A6 Aj Ak Al
 replace Ae:=zB hk Ae
 replace Aa:=zB hk Aa
 replace Ac:=zB hk Ac
 replace Ad:=zB hk Ad
 replace Ab:=zB hk Ab
 obtain ⟨Av,Aw,Ax,Ay⟩:=ce4 Ae
 obtain ⟨Ag,Ah,Ai⟩:=ce3 Aa
 obtain ⟨A1,A2,A3⟩:=ce3 Ac
 obtain ⟨A4,A5,A6⟩:=ce3 Ad
 obtain ⟨Aj,Ak,Al⟩:=ce3 Ab
 replace hb:=hb.trans (hk.mono hb.size)
 clear hk
 replace Af:w1.heap[Aq]? = some (Obj.cells #[Value.string Co,Value.string Cp,Value.string Cq] 24):=Af
 have Ba:w1.cell? ⟨Aq,0,none⟩=some (Value.string Co):=zA Af
 have Bb:w1.cell? ⟨Aq,1,none⟩=some (Value.string Cp):=zA Af
 have Bc:w1.cell? ⟨Aq,2,none⟩=some (Value.string Cq):=zA Af
 clear Ft Fu Fv Gy Gz G0 Dk Dl Dm Dn Do Dp Dq Gs Gt Gu Gv Gw Gx Dr Ds Dt m0
 go_upto_region 8 with (go_at_call 38;with_reducible refine (chVB hb R C10).mono ?_;clear hb;rintro e w1 ⟨rfl,hk,hb⟩;clear Av Aw Ax Ay Ag Ah Ai Aj Ak Al Ba Bb Bc;replace Ae:=zB hk Ae;replace Aa:=zB hk Aa;replace Ab:=zB hk Ab;replace Af:=zB hk Af;obtain ⟨Av,Aw,Ax,Ay⟩:=ce4 Ae;obtain ⟨Ag,Ah,Ai⟩:=ce3 Aa;obtain ⟨Aj,Ak,Al⟩:=ce3 Ab;obtain ⟨Ba,Bb,Bc⟩:=ce3 Af;clear hk)
 clear A1 A2 A3 Ac A4 A5 A6 Ad
 obtain ⟨Dk,Dl,Dm,Dn⟩:=cy4 Ae
 obtain ⟨Do,Dp,Dq⟩:=cy3 Aa
 obtain ⟨Dr,Ds,Dt⟩:=cy3 Ab
 obtain ⟨G1,G2,G3⟩:=cy3 Af
 have Fw:=rrV C11 R hb
 refine wp_region_quiet_below (by first | assumption | kernel_rfl) (by kernel_rfl) ?_
 repeat (quiet_step (first | (with_reducible exact Fw.out _ _)))
 refine wpQuiet_nil ?_
 intro w1 hw'
 obtain ⟨hk,hb⟩:=zQ hb hw'
 clear Av Aw Ax Ay Ag Ah Ai Aj Ak Al Ba Bb Bc
 replace Ae:=zB hk Ae
 replace Aa:=zB hk Aa
 replace Ab:=zB hk Ab
 replace Af:=zB hk Af
 obtain ⟨Av,Aw,Ax,Ay⟩:=ce4 Ae
 obtain ⟨Ag,Ah,Ai⟩:=ce3 Aa
 obtain ⟨Aj,Ak,Al⟩:=ce3 Ab
 obtain ⟨Ba,Bb,Bc⟩:=ce3 Af
 clear Fw Dk Dl Dm Dn Do Dp Dq Dr Ds Dt G1 G2 G3
 clear hk hw'
 go_wp2_with ((first | (go_at_call 27;with_reducible refine (chVB hb R C12).mono ?_) | (go_at_call 63;with_reducible refine (chVB hb R C13).mono ?_) | (go_at_call 64;with_reducible refine (chVB hb R C14).mono ?_) | (go_at_call 42;with_reducible refine (chVB hb R C15).mono ?_) | (go_at_call 36;with_reducible refine (chVB hb R C11).mono ?_));clear hb;rintro e w1 ⟨rfl,hk,hb⟩;clear Av Aw Ax Ay Ag Ah Ai Aj Ak Al Ba Bb Bc;replace Ae:=zB hk Ae;replace Aa:=zB hk Aa;replace Ab:=zB hk Ab;replace Af:=zB hk Af;obtain ⟨Av,Aw,Ax,Ay⟩:=ce4 Ae;obtain ⟨Ag,Ah,Ai⟩:=ce3 Aa;obtain ⟨Aj,Ak,Al⟩:=ce3 Ab;obtain ⟨Ba,Bb,Bc⟩:=ce3 Af;clear hk)
 first | go_ret | go_ret2 | go_ret3
 exact ⟨rfl,hb⟩
theorem lawPlanes_2n  (i0 g0 i1 g1 i2 g2 i3 g3 i4 g4 i5 g5 i6 g6 i7 g7 i8 g8 i9 g9 i10 g10 i11 g11:Int) (p0 p1 p2 p3 p4 p5 p6 p7 p8 p9 p10 p11:Rat) (k0:SmallIs i0 g0 p0) (k1:SmallIs i1 g1 p1) (k2:SmallIs i2 g2 p2) (k3:SmallIs i3 g3 p3) (k4:SmallIs i4 g4 p4) (k5:SmallIs i5 g5 p5) (k6:SmallIs i6 g6 p6) (k7:SmallIs i7 g7 p7) (k8:SmallIs i8 g8 p8) (k9:SmallIs i9 g9 p9) (k10:SmallIs i10 g10 p10) (k11:SmallIs i11 g11 p11) (n0 n1 n2 o:Rat) (e0:(((p4 - p1)*(p8 - p2)) - ((p5 - p2)*(p7 - p1)))=n0) (e1:(((p5 - p2)*(p6 - p0)) - ((p3 - p0)*(p8 - p2)))=n1) (e2:(((p3 - p0)*(p7 - p1)) - ((p4 - p1)*(p6 - p0)))=n2) (eo:(((n0*p0)+(n1*p1))+(n2*p2))=o) (q0:n0=0) (q1:n1=0) (q2:n2≠0) (q3:o≠0) (w:World) (R:EnvV w) :
   Calls Tryz.prog 10 #[.agg #[.int .i16 i0,.int .u8 g0,.int .i16 i1,.int .u8 g1,.int .i16 i2,.int .u8 g2,.int .i16 i3,.int .u8 g3,.int .i16 i4,.int .u8 g4,.int .i16 i5,.int .u8 g5],.agg #[.int .i16 i6,.int .u8 g6,.int .i16 i7,.int .u8 g7,.int .i16 i8,.int .u8 g8,.int .i16 i9,.int .u8 g9,.int .i16 i10,.int .u8 g10,.int .i16 i11,.int .u8 g11]] w (Ret w (.bool true)):=by
 have kq:=planesK k0 k1 k2 k3 k4 k5 k6 k7 k8 k9 k10 k11 n0 n1 n2 e0.symm e1.symm e2.symm (by rw [eo];exact q3)
 rw [eo] at kq
 have kq':RN ((o - (((n0*p9)+(n1*p10))+(n2*p11))) / (((n0*p0)+(n1*p1))+(n2*p2))) 53 53:=by rw [eo];exact kq
 have Bd:=RN_sub (N:=8) k4.rn k1.rn
 have Be:=RN_sub (N:=8) k8.rn k2.rn
 have Bf:=RN_sub (N:=8) k5.rn k2.rn
 have Bg:=RN_sub (N:=8) k7.rn k1.rn
 have Cn:=RN_mul Bd Be
 have Co:=RN_mul Bf Bg
 have Bh:=RN_sub (N:=8) k6.rn k0.rn
 have Bi:=RN_sub (N:=8) k3.rn k0.rn
 have Cp:=RN_mul Bf Bh
 have Cq:=RN_mul Bi Be
 have Cr:=RN_mul Bi Bg
 have Cs:=RN_mul Bd Bh
 have Bj:=RN_sub (N:=30) Cn Co
 have Ct:=RN_mul Bj k0.rn
 have Bk:=RN_sub (N:=30) Cp Cq
 have Dk:=RN_add (N:=37) rn_0 Ct
 have Cu:=RN_mul Bk k1.rn
 have Bl:=RN_sub (N:=30) Cr Cs
 have D6:=RN_add (N:=65) Dk Cu
 have Dl:=RN_mul Bl k2.rn
 have D7:=RN_add (N:=63) Ct Cu
 have D8:=RN_add (N:=91) D7 Dl
 have Am:RN n0 31 24:=(e0 ▸ Bj:RN n0 31 24)
 have An:RN n1 31 24:=(e1 ▸ Bk:RN n1 31 24)
 have Ao:RN n2 31 24:=(e2 ▸ Bl:RN n2 31 24)
 have Ba:=RN_mul Am k0.rn
 have Bb:=RN_mul An k1.rn
 have D9:=RN_add (N:=63) Ba Bb
 have Bm:=RN_mul Ao k2.rn
 have Dm:=RN_add (N:=91) D9 Bm
 have Ap:RN o 92 81:=(eo ▸ Dm:RN o 92 81)
 have Dn:=RN_mul k0.rn rn_m1
 have Do:=RN_mul k1.rn rn_m1
 have Dp:=RN_mul k2.rn rn_m1
 have Dq:=RN_add (N:=63) Bb Bm
 have Gj:=RN_add (N:=91) Ba Dq
 have Az:=RN_mul Am k9.rn
 have Cv:=RN_add (N:=37) rn_0 Az
 have A0:=RN_mul An k10.rn
 have Dr:=RN_add (N:=65) Cv A0
 have Bc:=RN_mul Ao k11.rn
 have Fa:=RN_add (N:=63) Az A0
 have Bn:=RN_add (N:=91) Fa Bc
 have Ds:=RN_add (N:=37) rn_0 Ba
 have Fb:=RN_add (N:=65) Ds Bb
 have Fc:=RN_sub (N:=173) Ap Bn
 have Dt:=RN_add (N:=63) A0 Bc
 have Du:=RN_add (N:=91) Az Dt
 have Gk:=RN_sub (N:=173) Du Ap
 have Gl:=RN_sub (N:=173) Bn Ap
 have Dv:=RN_mul k0.rn kq
 have Dw:=RN_mul k1.rn kq
 have Dx:=RN_mul k2.rn kq
 have Dy:=RN_add (N:=61) k9.rn Dv
 have Dz:=RN_add (N:=61) k10.rn Dw
 have D0:=RN_add (N:=61) k11.rn Dx
 have D1:=RN_mul An Dz
 have D2:=RN_mul Ao D0
 have D3:=RN_mul Am Dy
 have D4:=RN_add (N:=176) D1 D2
 have D5:=RN_add (N:=260) D3 D4
 have Gm:=RN_sub (N:=342) D5 Ap
 have c1:=known5_any
 have c2:=makeV i0 g0 i1 g1 i2 g2 p0 p1 p2 k0 k1 k2
 have c3:=makeV i3 g3 i4 g4 i5 g5 p3 p4 p5 k3 k4 k5
 have c4:=makeV i6 g6 i7 g7 i8 g8 p6 p7 p8 k6 k7 k8
 have c5:=makeV i9 g9 i10 g10 i11 g11 p9 p10 p11 k9 k10 k11
 have c6:CV 62 #[.agg #[.string (ratB p0),.string (ratB p1),.string (ratB p2)],.agg #[.string (ratB p3),.string (ratB p4),.string (ratB p5)],.agg #[.string (ratB p6),.string (ratB p7),.string (ratB p8)]] (.tuple #[.agg #[.string (ratB n0),.string (ratB n1),.string (ratB n2),.string (ratB o)],.int .i64 0]):=fun w R=>(by have h:=spanned_2 p0 p1 p2 p3 p4 p5 p6 p7 p8 (e0.trans q0) (e1.trans q1) (by rw [e2];exact q2) k0.rn.r2 k1.rn.r2 k2.rn.r2 k3.rn.r2 k4.rn.r2 k5.rn.r2 k6.rn.r2 k7.rn.r2 k8.rn.r2 k3.rn.rm k0.rn.rm k4.rn.rm k1.rn.rm k5.rn.rm k2.rn.rm k6.rn.rm k7.rn.rm k8.rn.rm Bd.rm Be.rm Bf.rm Bg.rm Cn.rm Co.rm Bh.rm Bi.rm Cp.rm Cq.rm Cr.rm Cs.rm Bj.rm Ct.rm Bk.rm Dk.rm Cu.rm Bl.rm D6.rm Dl.rm Bj.r2 Bk.r2 Bl.r2 D8.r2 w R;rw [e0,e1,e2,eo] at h;exact h)
 have c7:=fun (w:World) (R:EnvV w)=>refVSub p3 p4 p5 p0 p1 p2 k0.rn.r4 k1.rn.r4 k2.rn.r4 k3.rn.r4 Dn.r4 k4.rn.r4 Do.r4 k5.rn.r4 Dp.r4 w R.toEnvR
 have c8:=fun (w:World) (R:EnvV w)=>refVSub p6 p7 p8 p0 p1 p2 k0.rn.r4 k1.rn.r4 k2.rn.r4 k6.rn.r4 Dn.r4 k7.rn.r4 Do.r4 k8.rn.r4 Dp.r4 w R.toEnvR
 have c9:CV 37 #[.agg #[.string (ratB (p3 - p0)),.string (ratB (p4 - p1)),.string (ratB (p5 - p2))],.agg #[.string (ratB (p6 - p0)),.string (ratB (p7 - p1)),.string (ratB (p8 - p2))]] (.agg #[.string (ratB n0),.string (ratB n1),.string (ratB n2)]):=fun w R=>(by have h:=refVCross (p3 - p0) (p4 - p1) (p5 - p2) (p6 - p0) (p7 - p1) (p8 - p2) Bd.r4 Be.r4 Bf.r4 Bg.r4 Cn.r4 Co.r4 Bh.r4 Bi.r4 Cp.r4 Cq.r4 Cr.r4 Cs.r4 w R.toEnvR;rw [e0,e1,e2] at h;exact h)
 have c10:=refZero_no n0 n1 n2  (Or.inr (Or.inr q2))
 have c11:CV 36 #[.agg #[.string (ratB n0),.string (ratB n1),.string (ratB n2)],.agg #[.string (ratB p0),.string (ratB p1),.string (ratB p2)]] (.string (ratB o)):=fun w R=>(by have h:=refVDot n0 n1 n2 p0 p1 p2 Am.r4 k0.rn.r4 An.r4 k1.rn.r4 Ao.r4 k2.rn.r4 Bb.r4 Bm.r4 Ba.r4 Dq.r4 w R.toEnvR;rw [show (n0*p0)+((n1*p1)+(n2*p2))=o from by rw [← eo];grind] at h;exact h)
 have c12:=side_any n0 n1 n2 o p9 p10 p11 Am.r2 An.r2 Ao.r2 Ap.r2 (Or.inr (Or.inr q2)) k9.rn.r2 k10.rn.r2 k11.rn.r2 Am.rm k9.rn.rm Az.rm An.rm k10.rn.rm Cv.rm A0.rm Ao.rm k11.rn.rm Dr.rm Bc.rm Bn.rm Ap.rm
 have c13:CV 63 #[.agg #[.string (ratB n0),.string (ratB n1),.string (ratB n2),.string (ratB o)],.agg #[.string (ratB p9),.string (ratB p10),.string (ratB p11)],.agg #[.string (ratB p0),.string (ratB p1),.string (ratB p2)]] (.tuple #[.string (ratB ((o - (((n0*p9)+(n1*p10))+(n2*p11))) / o)),.int .i64 0]):=fun w R=>(by have h:=pierce_any n0 n1 n2 o p9 p10 p11 p0 p1 p2 Am.r2 An.r2 Ao.r2 Ap.r2 (Or.inr (Or.inr q2)) k9.rn.r2 k10.rn.r2 k11.rn.r2 k0.rn.r2 k1.rn.r2 k2.rn.r2 Am.rm k9.rn.rm Az.rm An.rm k10.rn.rm Cv.rm A0.rm Ao.rm k11.rn.rm Dr.rm Bc.rm Ap.rm Bn.rm k0.rn.rm Ba.rm k1.rn.rm Ds.rm Bb.rm k2.rn.rm Fb.rm Bm.rm (by rw [eo];exact q3) Fc.rm Dm.rm kq'.r2 w R;rw [eo] at h;exact h)
 have c14:CV 64 #[.agg #[.string (ratB n0),.string (ratB n1),.string (ratB n2),.string (ratB o)],.agg #[.string (ratB p9),.string (ratB p10),.string (ratB p11)]] (.string (ratB ((((n0*p9)+(n1*p10))+(n2*p11)) - o))):=fun w R=>(by have h:=refPBeyond n0 n1 n2 o p9 p10 p11 Am.r4 k9.rn.r4 An.r4 k10.rn.r4 Ao.r4 k11.rn.r4 A0.r4 Bc.r4 Az.r4 Dt.r4 Du.r4 Ap.r4 w R.toEnvR;rw [show ((n0*p9)+((n1*p10)+(n2*p11))) - o=(((n0*p9)+(n1*p10))+(n2*p11)) - o from by grind] at h;exact h)
 have c15:=fun (w:World) (R:EnvV w)=>refRSign_any ((((n0*p9)+(n1*p10))+(n2*p11)) - o) w R.toEnvR
 have c17:=fun (w:World) (R:EnvV w)=>refVScale p0 p1 p2 ((o - (((n0*p9)+(n1*p10))+(n2*p11))) / o) k0.rn.r4 kq.r4 k1.rn.r4 k2.rn.r4 w R.toEnvR
 have c18:=fun (w:World) (R:EnvV w)=>refVAdd p9 p10 p11 (p0*((o - (((n0*p9)+(n1*p10))+(n2*p11))) / o)) (p1*((o - (((n0*p9)+(n1*p10))+(n2*p11))) / o)) (p2*((o - (((n0*p9)+(n1*p10))+(n2*p11))) / o)) k9.rn.r4 Dv.r4 k10.rn.r4 Dw.r4 k11.rn.r4 Dx.r4 w R.toEnvR
 have c19:CV 64 #[.agg #[.string (ratB n0),.string (ratB n1),.string (ratB n2),.string (ratB o)],.agg #[.string (ratB (p9+(p0*((o - (((n0*p9)+(n1*p10))+(n2*p11))) / o)))),.string (ratB (p10+(p1*((o - (((n0*p9)+(n1*p10))+(n2*p11))) / o)))),.string (ratB (p11+(p2*((o - (((n0*p9)+(n1*p10))+(n2*p11))) / o))))]] (.string ⟨#[48]⟩):=fun w R=>(by have h:=refPBeyond n0 n1 n2 o (p9+(p0*((o - (((n0*p9)+(n1*p10))+(n2*p11))) / o))) (p10+(p1*((o - (((n0*p9)+(n1*p10))+(n2*p11))) / o))) (p11+(p2*((o - (((n0*p9)+(n1*p10))+(n2*p11))) / o))) Am.r4 Dy.r4 An.r4 Dz.r4 Ao.r4 D0.r4 D1.r4 D2.r4 D3.r4 D4.r4 D5.r4 Ap.r4 w R.toEnvR;rw [show ((n0*(p9+(p0*((o - (((n0*p9)+(n1*p10))+(n2*p11))) / o))))+((n1*(p10+(p1*((o - (((n0*p9)+(n1*p10))+(n2*p11))) / o))))+(n2*(p11+(p2*((o - (((n0*p9)+(n1*p10))+(n2*p11))) / o)))))) - o=0 from by have:=q3;have:=eo;grind,rb_0] at h;exact h)
 have eq0:((ratB n0).toList == [48])=true:=by rw [ratB_eq_zero];exact decide_eq_true q0
 have pq0:(ratB n0).toList=[48]:=(zero_iff _).2 q0
 have eq1:((ratB n1).toList == [48])=true:=by rw [ratB_eq_zero];exact decide_eq_true q1
 have pq1:(ratB n1).toList=[48]:=(zero_iff _).2 q1
 have eq2:((ratB n2).toList == [48])=false:=by rw [ratB_eq_zero];exact decide_eq_false q2
 have pq2:¬ (ratB n2).toList=[48]:=fun h=>q2 ((zero_iff _).1 h)
 have eq3:((ratB o).toList == [48])=false:=by rw [ratB_eq_zero];exact decide_eq_false q3
 have pq3:¬ (ratB o).toList=[48]:=fun h=>q3 ((zero_iff _).1 h)
 obtain ⟨Hr,Fd⟩:∃ vq,ratB (p10+(p1*((o - (((n0*p9)+(n1*p10))+(n2*p11))) / o)))=vq:=⟨_,rfl⟩
 obtain ⟨Hs,Fe⟩:∃ vq,ratB (p11+(p2*((o - (((n0*p9)+(n1*p10))+(n2*p11))) / o)))=vq:=⟨_,rfl⟩
 obtain ⟨Ht,Ff⟩:∃ vq,ratB (p9+(p0*((o - (((n0*p9)+(n1*p10))+(n2*p11))) / o)))=vq:=⟨_,rfl⟩
 obtain ⟨Hu,Fg⟩:∃ vq,ratB (p0*((o - (((n0*p9)+(n1*p10))+(n2*p11))) / o))=vq:=⟨_,rfl⟩
 obtain ⟨Hv,Fh⟩:∃ vq,ratB (p1*((o - (((n0*p9)+(n1*p10))+(n2*p11))) / o))=vq:=⟨_,rfl⟩
 obtain ⟨Hw,Fi⟩:∃ vq,ratB (p2*((o - (((n0*p9)+(n1*p10))+(n2*p11))) / o))=vq:=⟨_,rfl⟩
 obtain ⟨Hx,Fj⟩:∃ vq,ratB ((o - (((n0*p9)+(n1*p10))+(n2*p11))) / o)=vq:=⟨_,rfl⟩
 obtain ⟨Hy,Fk⟩:∃ vq,ratB ((((n0*p9)+(n1*p10))+(n2*p11)) - o)=vq:=⟨_,rfl⟩
 obtain ⟨Hz,Fl⟩:∃ vq,ratB (p3 - p0)=vq:=⟨_,rfl⟩
 obtain ⟨H0,Fm⟩:∃ vq,ratB (p4 - p1)=vq:=⟨_,rfl⟩
 obtain ⟨H1,Fn⟩:∃ vq,ratB (p5 - p2)=vq:=⟨_,rfl⟩
 obtain ⟨H2,Fo⟩:∃ vq,ratB (p6 - p0)=vq:=⟨_,rfl⟩
 obtain ⟨H3,Fp⟩:∃ vq,ratB (p7 - p1)=vq:=⟨_,rfl⟩
 obtain ⟨H4,Fq⟩:∃ vq,ratB (p8 - p2)=vq:=⟨_,rfl⟩
 obtain ⟨Cw,Fs⟩:∃ vq,ratB p10=vq:=⟨_,rfl⟩
 obtain ⟨Cx,Ft⟩:∃ vq,ratB p11=vq:=⟨_,rfl⟩
 obtain ⟨Cy,Fu⟩:∃ vq,ratB n0=vq:=⟨_,rfl⟩
 obtain ⟨Cz,Fv⟩:∃ vq,ratB n1=vq:=⟨_,rfl⟩
 obtain ⟨C0,Fw⟩:∃ vq,ratB n2=vq:=⟨_,rfl⟩
 obtain ⟨Da,Fx⟩:∃ vq,ratB p0=vq:=⟨_,rfl⟩
 obtain ⟨Db,Fy⟩:∃ vq,ratB p1=vq:=⟨_,rfl⟩
 obtain ⟨Dc,Fz⟩:∃ vq,ratB p2=vq:=⟨_,rfl⟩
 obtain ⟨Dd,F0⟩:∃ vq,ratB p3=vq:=⟨_,rfl⟩
 obtain ⟨De,F1⟩:∃ vq,ratB p4=vq:=⟨_,rfl⟩
 obtain ⟨Df,F2⟩:∃ vq,ratB p5=vq:=⟨_,rfl⟩
 obtain ⟨Dg,F3⟩:∃ vq,ratB p6=vq:=⟨_,rfl⟩
 obtain ⟨Dh,F4⟩:∃ vq,ratB p7=vq:=⟨_,rfl⟩
 obtain ⟨Di,F5⟩:∃ vq,ratB p8=vq:=⟨_,rfl⟩
 obtain ⟨Dj,F6⟩:∃ vq,ratB p9=vq:=⟨_,rfl⟩
 obtain ⟨H5,F7⟩:∃ vq,ratB o=vq:=⟨_,rfl⟩
 try simp only [Fd,Fe,Ff,Fg,Fh,Fi,Fj,Fk,Fl,Fm,Fn,Fo,Fp,Fq,Fs,Ft,Fu,Fv,Fw,Fx,Fy,Fz,F0,F1,F2,F3,F4,F5,F6,F7] at c1 c2 c3 c4 c5 c6 c7 c8 c9 c10 c11 c12 c13 c14 c15 c17 c18 c19 eq0 pq0 eq1 pq1 eq2 pq2 eq3 pq3 ⊢
 have C1:=Lib.hid c1
 have C2:=Lib.hid c2
 have C3:=Lib.hid c3
 have C4:=Lib.hid c4
 have C5:=Lib.hid c5
 have C6:=Lib.hid c6
 have C7:=Lib.hid c7
 have C8:=Lib.hid c8
 have C9:=Lib.hid c9
 have C10:=Lib.hid c10
 have C11:=Lib.hid c11
 have C12:=Lib.hid c12
 have C13:=Lib.hid c13
 have C14:=Lib.hid c14
 have C15:=Lib.hid c15
 have C17:=Lib.hid c17
 have C18:=Lib.hid c18
 have C19:=Lib.hid c19
 clear c1 c2 c3 c4 c5 c6 c7 c8 c9 c10 c11 c12 c13 c14 c15 c17 c18 c19 Fd Fe Ff Fg Fh Fi Fj Fk Fl Fm Fn Fo Fp Fq Fs Ft Fu Fv Fw Fx Fy Fz F0 F1 F2 F3 F4 F5 F6 F7 Bd Be Bf Bg Cn Co Bh Bi Cp Cq Cr Cs Bj Ct Bk Dk Cu Bl D6 Dl D7 D8 Am An Ao Ba Bb D9 Bm Dm Ap Dn Do Dp Dq Gj Az Cv A0 Dr Bc Fa Bn Ds Fb Fc Dt Du Gk Gl Dv Dw Dx Dy Dz D0 D1 D2 D3 D4 D5 Gm k0 k1 k2 k3 k4 k5 k6 k7 k8 k9 k10 k11 q0 q1 q2 q3 kq kq' e0 e1 e2 eo
 have hb:=Below.refl w.heap.size w
 go_enter Tryz.func10,Tryz.ntmps10
 go_upto_region 1 with fail
 refine wp_alloc2 (fun w1 a0 a1 hk=>?_)
 replace hb:=hb.trans (hk.mono hb.size)
 clear hk
 obtain ⟨Bo,Bp,Bq,Br,Bs,Bt,Bu,Bv,Bw,Bx,By,Bz⟩:=ce12 a0
 obtain ⟨B0,B1,B2,B3,B4,B5,B6,B7,B8,B9,Ca,Cb⟩:=ce12 a1
 go_upto_region 3 with (go_at_call 13;with_reducible refine (chVB hb R C1).mono ?_;clear hb;rintro e w1 ⟨rfl,hk,hb⟩;clear Bo Bp Bq Br Bs Bt Bu Bv Bw Bx By Bz B0 B1 B2 B3 B4 B5 B6 B7 B8 B9 Ca Cb;replace a0:=zB hk a0;replace a1:=zB hk a1;obtain ⟨Bo,Bp,Bq,Br,Bs,Bt,Bu,Bv,Bw,Bx,By,Bz⟩:=ce12 a0;obtain ⟨B0,B1,B2,B3,B4,B5,B6,B7,B8,B9,Ca,Cb⟩:=ce12 a1;clear hk)
 obtain ⟨Gn,Go,Gp,Gq,Gr,Gs,Gt,Gu,Gv,Gw,Gx,Gy⟩:=cy12 a0
 obtain ⟨Gz,G0,G1,G2,G3,G4,G5,G6,G7,G8,G9,Ha⟩:=cy12 a1
 have Hb:=rrV C2 R hb
 have Hc:=rrV C3 R hb
 have Hd:=rrV C4 R hb
 have He:=rrV C5 R hb
 have F8:=qqV C2 R hb
 have F9:=qqV C3 R hb
 have Ga:=qqV C4 R hb
 have Gb:=qqV C5 R hb
 refine wp_free4 12 0 (fun i=>if i=12 then Obj.cells #[Value.string ⟨#[]⟩,Value.string ⟨#[]⟩,Value.string ⟨#[]⟩] 24 else if i=13 then Obj.cells #[Value.string ⟨#[]⟩,Value.string ⟨#[]⟩,Value.string ⟨#[]⟩] 24 else if i=14 then Obj.cells #[Value.string ⟨#[]⟩,Value.string ⟨#[]⟩,Value.string ⟨#[]⟩] 24 else if i=15 then Obj.cells #[Value.string ⟨#[]⟩,Value.string ⟨#[]⟩,Value.string ⟨#[]⟩] 24 else Obj.cells #[] 0) (fun i=>if i=12 then Obj.cells #[Value.string Da,Value.string Db,Value.string Dc] 24 else if i=13 then Obj.cells #[Value.string Dd,Value.string De,Value.string Df] 24 else if i=14 then Obj.cells #[Value.string Dg,Value.string Dh,Value.string Di] 24 else if i=15 then Obj.cells #[Value.string Dj,Value.string Cw,Value.string Cx] 24 else Obj.cells #[] 0) (some 5) (some 6) (some 7) (some 8) (by first | assumption | kernel_rfl) (by kernel_rfl) ?lay rfl rfl rfl rfl ?_
 case lay =>
   intro i h1 h2
   obtain rfl | rfl | rfl | rfl:i=12∨i=13∨i=14∨i=15:=by omega
   all_goals exact ⟨_,rfl,rfl,fun a w=>(by first | (go_simp;done) | (go_simp;rfl))⟩
 simp only [List.take_succ_cons,List.take_zero]
 repeat (refine wpB_step (fun K hK=>?_);go_simp;first | (refine hK _ ?_;clear hK K) | (apply Exists.intro;refine ⟨fun _=>?_,hK _ ?_⟩;(first | (with_reducible exact F8.out _ _) | (with_reducible exact F9.out _ _) | (with_reducible exact Ga.out _ _) | (with_reducible exact Gb.out _ _));clear hK K))
 refine wpB_nil ?_
 intro Aq Ar As At
 refine ⟨?_,?_,?_,?_,?_⟩
 · refine ⟨_,rfl,rfl,rfl,fun cs b h=>(by cases h),fun w hw=>?_⟩
   replace hw:w.heap[Aq]? = some (Obj.cells #[Value.string ⟨#[]⟩,Value.string ⟨#[]⟩,Value.string ⟨#[]⟩] 24):=hw
   have z0:w.cell? ⟨Aq,0,none⟩=some (Value.string ⟨#[]⟩):=zA hw
   have y0:w.frozen? ⟨Aq,0,none⟩=false:=zD hw
   have z1:w.cell? ⟨Aq,1,none⟩=some (Value.string ⟨#[]⟩):=zA hw
   have y1:w.frozen? ⟨Aq,1,none⟩=false:=zD hw
   have z2:w.cell? ⟨Aq,2,none⟩=some (Value.string ⟨#[]⟩):=zA hw
   have y2:w.frozen? ⟨Aq,2,none⟩=false:=zD hw
   refine ⟨_,?_,(Wrote.set (i:=2) (Wrote.set (i:=1) (Wrote.set (i:=0) (Wrote.refl hw) (Value.string Da)) (Value.string Db)) (Value.string Dc))⟩
   go_simp
 · refine ⟨_,rfl,rfl,rfl,fun cs b h=>(by cases h),fun w hw=>?_⟩
   replace hw:w.heap[Ar]? = some (Obj.cells #[Value.string ⟨#[]⟩,Value.string ⟨#[]⟩,Value.string ⟨#[]⟩] 24):=hw
   have z0:w.cell? ⟨Ar,0,none⟩=some (Value.string ⟨#[]⟩):=zA hw
   have y0:w.frozen? ⟨Ar,0,none⟩=false:=zD hw
   have z1:w.cell? ⟨Ar,1,none⟩=some (Value.string ⟨#[]⟩):=zA hw
   have y1:w.frozen? ⟨Ar,1,none⟩=false:=zD hw
   have z2:w.cell? ⟨Ar,2,none⟩=some (Value.string ⟨#[]⟩):=zA hw
   have y2:w.frozen? ⟨Ar,2,none⟩=false:=zD hw
   refine ⟨_,?_,(Wrote.set (i:=2) (Wrote.set (i:=1) (Wrote.set (i:=0) (Wrote.refl hw) (Value.string Dd)) (Value.string De)) (Value.string Df))⟩
   go_simp
 · refine ⟨_,rfl,rfl,rfl,fun cs b h=>(by cases h),fun w hw=>?_⟩
   replace hw:w.heap[As]? = some (Obj.cells #[Value.string ⟨#[]⟩,Value.string ⟨#[]⟩,Value.string ⟨#[]⟩] 24):=hw
   have z0:w.cell? ⟨As,0,none⟩=some (Value.string ⟨#[]⟩):=zA hw
   have y0:w.frozen? ⟨As,0,none⟩=false:=zD hw
   have z1:w.cell? ⟨As,1,none⟩=some (Value.string ⟨#[]⟩):=zA hw
   have y1:w.frozen? ⟨As,1,none⟩=false:=zD hw
   have z2:w.cell? ⟨As,2,none⟩=some (Value.string ⟨#[]⟩):=zA hw
   have y2:w.frozen? ⟨As,2,none⟩=false:=zD hw
   refine ⟨_,?_,(Wrote.set (i:=2) (Wrote.set (i:=1) (Wrote.set (i:=0) (Wrote.refl hw) (Value.string Dg)) (Value.string Dh)) (Value.string Di))⟩
   go_simp
 · refine ⟨_,rfl,rfl,rfl,fun cs b h=>(by cases h),fun w hw=>?_⟩
   replace hw:w.heap[At]? = some (Obj.cells #[Value.string ⟨#[]⟩,Value.string ⟨#[]⟩,Value.string ⟨#[]⟩] 24):=hw
   have z0:w.cell? ⟨At,0,none⟩=some (Value.string ⟨#[]⟩):=zA hw
   have y0:w.frozen? ⟨At,0,none⟩=false:=zD hw
   have z1:w.cell? ⟨At,1,none⟩=some (Value.string ⟨#[]⟩):=zA hw
   have y1:w.frozen? ⟨At,1,none⟩=false:=zD hw
   have z2:w.cell? ⟨At,2,none⟩=some (Value.string ⟨#[]⟩):=zA hw
   have y2:w.frozen? ⟨At,2,none⟩=false:=zD hw
   refine ⟨_,?_,(Wrote.set (i:=2) (Wrote.set (i:=1) (Wrote.set (i:=0) (Wrote.refl hw) (Value.string Dj)) (Value.string Cw)) (Value.string Cx))⟩
   go_simp
 intro w1 hk m0 m1 m2 m3 Aa Ad Ae Ab _ _ _ _ _ _
 clear Bo Bp Bq Br Bs Bt Bu Bv Bw Bx By Bz B0 B1 B2 B3 B4 B5 B6 B7 B8 B9 Ca Cb
 replace a0:=zB hk a0
 replace a1:=zB hk a1
 obtain ⟨Bo,Bp,Bq,Br,Bs,Bt,Bu,Bv,Bw,Bx,By,Bz⟩:=ce12 a0
 obtain ⟨B0,B1,B2,B3,B4,B5,B6,B7,B8,B9,Ca,Cb⟩:=ce12 a1
 replace hb:=hb.trans (hk.mono hb.size)
 clear hk
 replace Aa:w1.heap[Aq]? = some (Obj.cells #[Value.string Da,Value.string Db,Value.string Dc] 24):=Aa
 have Ag:w1.cell? ⟨Aq,0,none⟩=some (Value.string Da):=zA Aa
 have Ah:w1.cell? ⟨Aq,1,none⟩=some (Value.string Db):=zA Aa
 have Ai:w1.cell? ⟨Aq,2,none⟩=some (Value.string Dc):=zA Aa
 replace Ad:w1.heap[Ar]? = some (Obj.cells #[Value.string Dd,Value.string De,Value.string Df] 24):=Ad
 have A1:w1.cell? ⟨Ar,0,none⟩=some (Value.string Dd):=zA Ad
 have A2:w1.cell? ⟨Ar,1,none⟩=some (Value.string De):=zA Ad
 have A3:w1.cell? ⟨Ar,2,none⟩=some (Value.string Df):=zA Ad
 replace Ae:w1.heap[As]? = some (Obj.cells #[Value.string Dg,Value.string Dh,Value.string Di] 24):=Ae
 have A4:w1.cell? ⟨As,0,none⟩=some (Value.string Dg):=zA Ae
 have A5:w1.cell? ⟨As,1,none⟩=some (Value.string Dh):=zA Ae
 have A6:w1.cell? ⟨As,2,none⟩=some (Value.string Di):=zA Ae
 replace Ab:w1.heap[At]? = some (Obj.cells #[Value.string Dj,Value.string Cw,Value.string Cx] 24):=Ab
 have Aj:w1.cell? ⟨At,0,none⟩=some (Value.string Dj):=zA Ab
 have Ak:w1.cell? ⟨At,1,none⟩=some (Value.string Cw):=zA Ab
 have Al:w1.cell? ⟨At,2,none⟩=some (Value.string Cx):=zA Ab
 clear F8 F9 Ga Gb Hb Hc Hd He Gn Go Gp Gq Gr Gs Gt Gu Gv Gw Gx Gy Gz G0 G1 G2 G3 G4 G5 G6 G7 G8 G9 Ha m0 m1 m2 m3
 go_upto_region 5 with (go_at_call 62;with_reducible refine (chVB hb R C6).mono ?_;clear hb;rintro e w1 ⟨rfl,hk,hb⟩;clear Ag Ah Ai A1 A2 A3 A4 A5 A6 Aj Ak Al;replace Aa:=zB hk Aa;replace Ad:=zB hk Ad;replace Ae:=zB hk Ae;replace Ab:=zB hk Ab;obtain ⟨Ag,Ah,Ai⟩:=ce3 Aa;obtain ⟨A1,A2,A3⟩:=ce3 Ad;obtain ⟨A4,A5,A6⟩:=ce3 Ae;obtain ⟨Aj,Ak,Al⟩:=ce3 Ab;clear hk)
 clear Bo Bp Bq Br Bs Bt Bu Bv Bw Bx By Bz a0 B0 B1 B2 B3 B4 B5 B6 B7 B8 B9 Ca Cb a1
 refine wp_alloc1 (fun w1 Ac hk=>?_)
 clear Ag Ah Ai A1 A2 A3 A4 A5 A6 Aj Ak Al
 replace Aa:=zB hk Aa
 replace Ad:=zB hk Ad
 replace Ae:=zB hk Ae
 replace Ab:=zB hk Ab
 obtain ⟨Ag,Ah,Ai⟩:=ce3 Aa
 obtain ⟨A1,A2,A3⟩:=ce3 Ad
 obtain ⟨A4,A5,A6⟩:=ce3 Ae
 obtain ⟨Aj,Ak,Al⟩:=ce3 Ab
 replace hb:=hb.trans (hk.mono hb.size)
 clear hk
 obtain ⟨Av,Aw,Ax,Ay⟩:=ce4 Ac
 obtain ⟨Cc,Cd,Ce,Cf⟩:=cy4 Ac
 obtain ⟨Cg,Ch,Ci⟩:=cy3 Aa
 obtain ⟨Hf,Hg,Hh⟩:=cy3 Ad
 obtain ⟨Hi,Hj,Hk⟩:=cy3 Ae
 obtain ⟨Cj,Ck,Cm⟩:=cy3 Ab
 have Hl:=rrV C7 R hb
 have Hm:=rrV C8 R hb
 have Hn:=rrV C9 R hb
 have Gc:=qqV C7 R hb
 have Gd:=qqV C8 R hb
 have Ge:=qqV C9 R hb
 refine wp_free1 7 0 (fun i=>if i=7 then Obj.cells #[Value.string ⟨#[]⟩,Value.string ⟨#[]⟩,Value.string ⟨#[]⟩] 24 else Obj.cells #[] 0) (fun i=>if i=7 then Obj.cells #[Value.string Cy,Value.string Cz,Value.string C0] 24 else Obj.cells #[] 0) (some 11) (by first | assumption | kernel_rfl) (by kernel_rfl) ?lay rfl ?_
 case lay =>
   intro i h1 h2
   obtain rfl:i=7:=by omega
   all_goals exact ⟨_,rfl,rfl,fun a w=>(by first | (go_simp;done) | (go_simp;rfl))⟩
 simp only [List.take_succ_cons,List.take_zero]
 repeat (refine wpB_step (fun K hK=>?_);go_simp;first | (refine hK _ ?_;clear hK K) | (apply Exists.intro;refine ⟨fun _=>?_,hK _ ?_⟩;(first | (with_reducible exact Gc.out _ _) | (with_reducible exact Gd.out _ _) | (with_reducible exact Ge.out _ _));clear hK K))
 refine wpB_nil ?_
 intro Au
 refine ⟨?_,?_⟩
 · refine ⟨_,rfl,rfl,rfl,fun cs b h=>(by cases h),fun w hw=>?_⟩
   replace hw:w.heap[Au]? = some (Obj.cells #[Value.string ⟨#[]⟩,Value.string ⟨#[]⟩,Value.string ⟨#[]⟩] 24):=hw
   have z0:w.cell? ⟨Au,0,none⟩=some (Value.string ⟨#[]⟩):=zA hw
   have y0:w.frozen? ⟨Au,0,none⟩=false:=zD hw
   have z1:w.cell? ⟨Au,1,none⟩=some (Value.string ⟨#[]⟩):=zA hw
   have y1:w.frozen? ⟨Au,1,none⟩=false:=zD hw
   have z2:w.cell? ⟨Au,2,none⟩=some (Value.string ⟨#[]⟩):=zA hw
   have y2:w.frozen? ⟨Au,2,none⟩=false:=zD hw
   refine ⟨_,?_,(Wrote.set (i:=2) (Wrote.set (i:=1) (Wrote.set (i:=0) (Wrote.refl hw) (Value.string Cy)) (Value.string Cz)) (Value.string C0))⟩
   go_simp
 intro w1 hk m0 Af
 clear Av Aw Ax Ay Ag Ah Ai A1 A2 A3 A4 A5 A6 Aj Ak Al
 replace Ac:=zB hk Ac
 replace Aa:=zB hk Aa
 replace Ad:=zB hk Ad
 replace Ae:=zB hk Ae
 replace Ab:=zB hk Ab
 obtain ⟨Av,Aw,Ax,Ay⟩:=ce4 Ac
 obtain ⟨Ag,Ah,Ai⟩:=ce3 Aa
 obtain ⟨A1,A2,A3⟩:=ce3 Ad
 obtain ⟨A4,A5,A6⟩:=ce3 Ae
 obtain ⟨Aj,Ak,Al⟩:=ce3 Ab
 replace hb:=hb.trans (hk.mono hb.size)
 clear hk
 replace Af:w1.heap[Au]? = some (Obj.cells #[Value.string Cy,Value.string Cz,Value.string C0] 24):=Af
 have A7:w1.cell? ⟨Au,0,none⟩=some (Value.string Cy):=zA Af
 have A8:w1.cell? ⟨Au,1,none⟩=some (Value.string Cz):=zA Af
 have A9:w1.cell? ⟨Au,2,none⟩=some (Value.string C0):=zA Af
 clear Gc Gd Ge Hl Hm Hn Cc Cd Ce Cf Cg Ch Ci Hf Hg Hh Hi Hj Hk Cj Ck Cm m0
 go_upto_region 8 with (go_at_call 38;with_reducible refine (chVB hb R C10).mono ?_;clear hb;rintro e w1 ⟨rfl,hk,hb⟩;clear Av Aw Ax Ay Ag Ah Ai Aj Ak Al A7 A8 A9;replace Ac:=zB hk Ac;replace Aa:=zB hk Aa;replace Ab:=zB hk Ab;replace Af:=zB hk Af;obtain ⟨Av,Aw,Ax,Ay⟩:=ce4 Ac;obtain ⟨Ag,Ah,Ai⟩:=ce3 Aa;obtain ⟨Aj,Ak,Al⟩:=ce3 Ab;obtain ⟨A7,A8,A9⟩:=ce3 Af;clear hk)
 clear A1 A2 A3 Ad A4 A5 A6 Ae
 obtain ⟨Cc,Cd,Ce,Cf⟩:=cy4 Ac
 obtain ⟨Cg,Ch,Ci⟩:=cy3 Aa
 obtain ⟨Cj,Ck,Cm⟩:=cy3 Ab
 obtain ⟨Ho,Hp,Hq⟩:=cy3 Af
 have Gf:=rrV C11 R hb
 refine wp_region_quiet_below (by first | assumption | kernel_rfl) (by kernel_rfl) ?_
 repeat (quiet_step (first | (with_reducible exact Gf.out _ _)))
 refine wpQuiet_nil ?_
 intro w1 hw'
 obtain ⟨hk,hb⟩:=zQ hb hw'
 clear Av Aw Ax Ay Ag Ah Ai Aj Ak Al A7 A8 A9
 replace Ac:=zB hk Ac
 replace Aa:=zB hk Aa
 replace Ab:=zB hk Ab
 replace Af:=zB hk Af
 obtain ⟨Av,Aw,Ax,Ay⟩:=ce4 Ac
 obtain ⟨Ag,Ah,Ai⟩:=ce3 Aa
 obtain ⟨Aj,Ak,Al⟩:=ce3 Ab
 obtain ⟨A7,A8,A9⟩:=ce3 Af
 clear Gf Cc Cd Ce Cf Cg Ch Ci Cj Ck Cm Ho Hp Hq
 clear hk hw'
 go_upto_region 16 with ((first | (go_at_call 27;with_reducible refine (chVB hb R C12).mono ?_) | (go_at_call 63;with_reducible refine (chVB hb R C13).mono ?_) | (go_at_call 64;with_reducible refine (chVB hb R C14).mono ?_) | (go_at_call 42;with_reducible refine (chVB hb R C15).mono ?_) | (go_at_call 36;with_reducible refine (chVB hb R C11).mono ?_));clear hb;rintro e w1 ⟨rfl,hk,hb⟩;clear Av Aw Ax Ay Ag Ah Ai Aj Ak Al A7 A8 A9;replace Ac:=zB hk Ac;replace Aa:=zB hk Aa;replace Ab:=zB hk Ab;replace Af:=zB hk Af;obtain ⟨Av,Aw,Ax,Ay⟩:=ce4 Ac;obtain ⟨Ag,Ah,Ai⟩:=ce3 Aa;obtain ⟨Aj,Ak,Al⟩:=ce3 Ab;obtain ⟨A7,A8,A9⟩:=ce3 Af;clear hk)
 clear A7 A8 A9 Af
 obtain ⟨Cc,Cd,Ce,Cf⟩:=cy4 Ac
 obtain ⟨Cg,Ch,Ci⟩:=cy3 Aa
 obtain ⟨Cj,Ck,Cm⟩:=cy3 Ab
 have Gg:=rrV C17 R hb
 have Gh:=rrV C18 R hb
 have Gi:=rrV C19 R hb
 refine wp_region_quiet_below (by first | assumption | kernel_rfl) (by kernel_rfl) ?_
 repeat (quiet_step (first | (with_reducible exact Gg.out _ _) | (with_reducible exact Gh.out _ _) | (with_reducible exact Gi.out _ _)))
 refine wpQuiet_nil ?_
 intro w1 hw'
 obtain ⟨hk,hb⟩:=zQ hb hw'
 clear Av Aw Ax Ay Ag Ah Ai Aj Ak Al
 replace Ac:=zB hk Ac
 replace Aa:=zB hk Aa
 replace Ab:=zB hk Ab
 obtain ⟨Av,Aw,Ax,Ay⟩:=ce4 Ac
 obtain ⟨Ag,Ah,Ai⟩:=ce3 Aa
 obtain ⟨Aj,Ak,Al⟩:=ce3 Ab
 clear Gg Gh Gi Cc Cd Ce Cf Cg Ch Ci Cj Ck Cm
 clear hk hw'
 go_wp2
 first | go_ret | go_ret2 | go_ret3
 exact ⟨rfl,hb⟩
theorem lawPlanes_3n  (i0 g0 i1 g1 i2 g2 i3 g3 i4 g4 i5 g5 i6 g6 i7 g7 i8 g8 i9 g9 i10 g10 i11 g11:Int) (p0 p1 p2 p3 p4 p5 p6 p7 p8 p9 p10 p11:Rat) (k0:SmallIs i0 g0 p0) (k1:SmallIs i1 g1 p1) (k2:SmallIs i2 g2 p2) (k3:SmallIs i3 g3 p3) (k4:SmallIs i4 g4 p4) (k5:SmallIs i5 g5 p5) (k6:SmallIs i6 g6 p6) (k7:SmallIs i7 g7 p7) (k8:SmallIs i8 g8 p8) (k9:SmallIs i9 g9 p9) (k10:SmallIs i10 g10 p10) (k11:SmallIs i11 g11 p11) (n0 n1 n2 o:Rat) (e0:(((p4 - p1)*(p8 - p2)) - ((p5 - p2)*(p7 - p1)))=n0) (e1:(((p5 - p2)*(p6 - p0)) - ((p3 - p0)*(p8 - p2)))=n1) (e2:(((p3 - p0)*(p7 - p1)) - ((p4 - p1)*(p6 - p0)))=n2) (eo:(((n0*p0)+(n1*p1))+(n2*p2))=o) (q0:n0=0) (q1:n1=0) (q2:n2=0) (w:World) (R:EnvV w) :
   Calls Tryz.prog 10 #[.agg #[.int .i16 i0,.int .u8 g0,.int .i16 i1,.int .u8 g1,.int .i16 i2,.int .u8 g2,.int .i16 i3,.int .u8 g3,.int .i16 i4,.int .u8 g4,.int .i16 i5,.int .u8 g5],.agg #[.int .i16 i6,.int .u8 g6,.int .i16 i7,.int .u8 g7,.int .i16 i8,.int .u8 g8,.int .i16 i9,.int .u8 g9,.int .i16 i10,.int .u8 g10,.int .i16 i11,.int .u8 g11]] w (Ret w (.bool true)):=by
 have Ax:=RN_sub (N:=8) k4.rn k1.rn
 have Ay:=RN_sub (N:=8) k8.rn k2.rn
 have Az:=RN_sub (N:=8) k5.rn k2.rn
 have A0:=RN_sub (N:=8) k7.rn k1.rn
 have Br:=RN_mul Ax Ay
 have Bs:=RN_mul Az A0
 have A1:=RN_sub (N:=8) k6.rn k0.rn
 have A2:=RN_sub (N:=8) k3.rn k0.rn
 have Bt:=RN_mul Az A1
 have Bu:=RN_mul A2 Ay
 have Bv:=RN_mul A2 A0
 have Bw:=RN_mul Ax A1
 have Cg:=RN_sub (N:=30) Br Bs
 have Ch:=RN_sub (N:=30) Bt Bu
 have Ci:=RN_sub (N:=30) Bv Bw
 have Cn:=RN_mul Cg k0.rn
 have Co:=RN_mul Ch k1.rn
 have Cp:=RN_add (N:=63) Cn Co
 have Cq:=RN_mul Ci k2.rn
 have D3:=RN_add (N:=91) Cp Cq
 have Cr:RN n0 31 24:=(e0 ▸ Cg:RN n0 31 24)
 have Cs:RN n1 31 24:=(e1 ▸ Ch:RN n1 31 24)
 have Ct:RN n2 31 24:=(e2 ▸ Ci:RN n2 31 24)
 have Cu:=RN_mul Cr k0.rn
 have Cv:=RN_mul Cs k1.rn
 have Cw:=RN_add (N:=63) Cu Cv
 have Cx:=RN_mul Ct k2.rn
 have Cy:=RN_add (N:=91) Cw Cx
 have D4:RN o 92 81:=(eo ▸ Cy:RN o 92 81)
 have Cj:=RN_mul k0.rn rn_m1
 have Ck:=RN_mul k1.rn rn_m1
 have Cm:=RN_mul k2.rn rn_m1
 have c1:=known5_any
 have c2:=makeV i0 g0 i1 g1 i2 g2 p0 p1 p2 k0 k1 k2
 have c3:=makeV i3 g3 i4 g4 i5 g5 p3 p4 p5 k3 k4 k5
 have c4:=makeV i6 g6 i7 g7 i8 g8 p6 p7 p8 k6 k7 k8
 have c5:=makeV i9 g9 i10 g10 i11 g11 p9 p10 p11 k9 k10 k11
 have c6:=spanned_3 p0 p1 p2 p3 p4 p5 p6 p7 p8 (e0.trans q0) (e1.trans q1) (e2.trans q2) k0.rn.r2 k1.rn.r2 k2.rn.r2 k3.rn.r2 k4.rn.r2 k5.rn.r2 k6.rn.r2 k7.rn.r2 k8.rn.r2 k3.rn.rm k0.rn.rm k4.rn.rm k1.rn.rm k5.rn.rm k2.rn.rm k6.rn.rm k7.rn.rm k8.rn.rm Ax.rm Ay.rm Az.rm A0.rm Br.rm Bs.rm A1.rm A2.rm Bt.rm Bu.rm Bv.rm Bw.rm
 have c7:=fun (w:World) (R:EnvV w)=>refVSub p3 p4 p5 p0 p1 p2 k0.rn.r4 k1.rn.r4 k2.rn.r4 k3.rn.r4 Cj.r4 k4.rn.r4 Ck.r4 k5.rn.r4 Cm.r4 w R.toEnvR
 have c8:=fun (w:World) (R:EnvV w)=>refVSub p6 p7 p8 p0 p1 p2 k0.rn.r4 k1.rn.r4 k2.rn.r4 k6.rn.r4 Cj.r4 k7.rn.r4 Ck.r4 k8.rn.r4 Cm.r4 w R.toEnvR
 have c9:CV 37 #[.agg #[.string (ratB (p3 - p0)),.string (ratB (p4 - p1)),.string (ratB (p5 - p2))],.agg #[.string (ratB (p6 - p0)),.string (ratB (p7 - p1)),.string (ratB (p8 - p2))]] (.agg #[.string (ratB n0),.string (ratB n1),.string (ratB n2)]):=fun w R=>(by have h:=refVCross (p3 - p0) (p4 - p1) (p5 - p2) (p6 - p0) (p7 - p1) (p8 - p2) Ax.r4 Ay.r4 Az.r4 A0.r4 Br.r4 Bs.r4 A1.r4 A2.r4 Bt.r4 Bu.r4 Bv.r4 Bw.r4 w R.toEnvR;rw [e0,e1,e2] at h;exact h)
 have c10:=refZero_3 n0 n1 n2 q0 q1 q2
 have eq0:((ratB n0).toList == [48])=true:=by rw [ratB_eq_zero];exact decide_eq_true q0
 have pq0:(ratB n0).toList=[48]:=(zero_iff _).2 q0
 have eq1:((ratB n1).toList == [48])=true:=by rw [ratB_eq_zero];exact decide_eq_true q1
 have pq1:(ratB n1).toList=[48]:=(zero_iff _).2 q1
 have eq2:((ratB n2).toList == [48])=true:=by rw [ratB_eq_zero];exact decide_eq_true q2
 have pq2:(ratB n2).toList=[48]:=(zero_iff _).2 q2
 obtain ⟨Gh,Cz⟩:∃ vq,ratB (p3 - p0)=vq:=⟨_,rfl⟩
 obtain ⟨Gi,C0⟩:∃ vq,ratB (p4 - p1)=vq:=⟨_,rfl⟩
 obtain ⟨Gj,Da⟩:∃ vq,ratB (p5 - p2)=vq:=⟨_,rfl⟩
 obtain ⟨Gk,Db⟩:∃ vq,ratB (p6 - p0)=vq:=⟨_,rfl⟩
 obtain ⟨Gl,Dc⟩:∃ vq,ratB (p7 - p1)=vq:=⟨_,rfl⟩
 obtain ⟨Gm,Dd⟩:∃ vq,ratB (p8 - p2)=vq:=⟨_,rfl⟩
 obtain ⟨Bx,De⟩:∃ vq,ratB p10=vq:=⟨_,rfl⟩
 obtain ⟨By,Df⟩:∃ vq,ratB p11=vq:=⟨_,rfl⟩
 obtain ⟨Bz,Dg⟩:∃ vq,ratB n0=vq:=⟨_,rfl⟩
 obtain ⟨B0,Dh⟩:∃ vq,ratB n1=vq:=⟨_,rfl⟩
 obtain ⟨B1,Di⟩:∃ vq,ratB n2=vq:=⟨_,rfl⟩
 obtain ⟨B2,Dj⟩:∃ vq,ratB p0=vq:=⟨_,rfl⟩
 obtain ⟨B3,Dk⟩:∃ vq,ratB p1=vq:=⟨_,rfl⟩
 obtain ⟨B4,Dl⟩:∃ vq,ratB p2=vq:=⟨_,rfl⟩
 obtain ⟨B5,Dm⟩:∃ vq,ratB p3=vq:=⟨_,rfl⟩
 obtain ⟨B6,Dn⟩:∃ vq,ratB p4=vq:=⟨_,rfl⟩
 obtain ⟨B7,Do⟩:∃ vq,ratB p5=vq:=⟨_,rfl⟩
 obtain ⟨B8,Dp⟩:∃ vq,ratB p6=vq:=⟨_,rfl⟩
 obtain ⟨B9,Dq⟩:∃ vq,ratB p7=vq:=⟨_,rfl⟩
 obtain ⟨Ca,Dr⟩:∃ vq,ratB p8=vq:=⟨_,rfl⟩
 obtain ⟨Cb,Ds⟩:∃ vq,ratB p9=vq:=⟨_,rfl⟩
 try simp only [Cz,C0,Da,Db,Dc,Dd,De,Df,Dg,Dh,Di,Dj,Dk,Dl,Dm,Dn,Do,Dp,Dq,Dr,Ds] at c1 c2 c3 c4 c5 c6 c7 c8 c9 c10 eq0 pq0 eq1 pq1 eq2 pq2 ⊢
 have C1:=Lib.hid c1
 have C2:=Lib.hid c2
 have C3:=Lib.hid c3
 have C4:=Lib.hid c4
 have C5:=Lib.hid c5
 have C6:=Lib.hid c6
 have C7:=Lib.hid c7
 have C8:=Lib.hid c8
 have C9:=Lib.hid c9
 have C10:=Lib.hid c10
 clear c1 c2 c3 c4 c5 c6 c7 c8 c9 c10 Cz C0 Da Db Dc Dd De Df Dg Dh Di Dj Dk Dl Dm Dn Do Dp Dq Dr Ds Ax Ay Az A0 Br Bs A1 A2 Bt Bu Bv Bw Cg Ch Ci Cn Co Cp Cq D3 Cr Cs Ct Cu Cv Cw Cx Cy D4 Cj Ck Cm k0 k1 k2 k3 k4 k5 k6 k7 k8 k9 k10 k11 q0 q1 q2 e0 e1 e2 eo
 have hb:=Below.refl w.heap.size w
 go_enter Tryz.func10,Tryz.ntmps10
 go_upto_region 1 with fail
 refine wp_alloc2 (fun w1 a0 a1 hk=>?_)
 replace hb:=hb.trans (hk.mono hb.size)
 clear hk
 obtain ⟨A3,A4,A5,A6,A7,A8,A9,Ba,Bb,Bc,Bd,Be⟩:=ce12 a0
 obtain ⟨Bf,Bg,Bh,Bi,Bj,Bk,Bl,Bm,Bn,Bo,Bp,Bq⟩:=ce12 a1
 go_upto_region 3 with (go_at_call 13;with_reducible refine (chVB hb R C1).mono ?_;clear hb;rintro e w1 ⟨rfl,hk,hb⟩;clear A3 A4 A5 A6 A7 A8 A9 Ba Bb Bc Bd Be Bf Bg Bh Bi Bj Bk Bl Bm Bn Bo Bp Bq;replace a0:=zB hk a0;replace a1:=zB hk a1;obtain ⟨A3,A4,A5,A6,A7,A8,A9,Ba,Bb,Bc,Bd,Be⟩:=ce12 a0;obtain ⟨Bf,Bg,Bh,Bi,Bj,Bk,Bl,Bm,Bn,Bo,Bp,Bq⟩:=ce12 a1;clear hk)
 obtain ⟨D5,D6,D7,D8,D9,Fa,Fb,Fc,Fd,Fe,Ff,Fg⟩:=cy12 a0
 obtain ⟨Fh,Fi,Fj,Fk,Fl,Fm,Fn,Fo,Fp,Fq,Fs,Ft⟩:=cy12 a1
 have Fu:=rrV C2 R hb
 have Fv:=rrV C3 R hb
 have Fw:=rrV C4 R hb
 have Fx:=rrV C5 R hb
 have Dt:=qqV C2 R hb
 have Du:=qqV C3 R hb
 have Dv:=qqV C4 R hb
 have Dw:=qqV C5 R hb
 refine wp_free4 12 0 (fun i=>if i=12 then Obj.cells #[Value.string ⟨#[]⟩,Value.string ⟨#[]⟩,Value.string ⟨#[]⟩] 24 else if i=13 then Obj.cells #[Value.string ⟨#[]⟩,Value.string ⟨#[]⟩,Value.string ⟨#[]⟩] 24 else if i=14 then Obj.cells #[Value.string ⟨#[]⟩,Value.string ⟨#[]⟩,Value.string ⟨#[]⟩] 24 else if i=15 then Obj.cells #[Value.string ⟨#[]⟩,Value.string ⟨#[]⟩,Value.string ⟨#[]⟩] 24 else Obj.cells #[] 0) (fun i=>if i=12 then Obj.cells #[Value.string B2,Value.string B3,Value.string B4] 24 else if i=13 then Obj.cells #[Value.string B5,Value.string B6,Value.string B7] 24 else if i=14 then Obj.cells #[Value.string B8,Value.string B9,Value.string Ca] 24 else if i=15 then Obj.cells #[Value.string Cb,Value.string Bx,Value.string By] 24 else Obj.cells #[] 0) (some 5) (some 6) (some 7) (some 8) (by first | assumption | kernel_rfl) (by kernel_rfl) ?lay rfl rfl rfl rfl ?_
 case lay =>
   intro i h1 h2
   obtain rfl | rfl | rfl | rfl:i=12∨i=13∨i=14∨i=15:=by omega
   all_goals exact ⟨_,rfl,rfl,fun a w=>(by first | (go_simp;done) | (go_simp;rfl))⟩
 simp only [List.take_succ_cons,List.take_zero]
 repeat (refine wpB_step (fun K hK=>?_);go_simp;first | (refine hK _ ?_;clear hK K) | (apply Exists.intro;refine ⟨fun _=>?_,hK _ ?_⟩;(first | (with_reducible exact Dt.out _ _) | (with_reducible exact Du.out _ _) | (with_reducible exact Dv.out _ _) | (with_reducible exact Dw.out _ _));clear hK K))
 refine wpB_nil ?_
 intro Ae Af Ag Ah
 refine ⟨?_,?_,?_,?_,?_⟩
 · refine ⟨_,rfl,rfl,rfl,fun cs b h=>(by cases h),fun w hw=>?_⟩
   replace hw:w.heap[Ae]? = some (Obj.cells #[Value.string ⟨#[]⟩,Value.string ⟨#[]⟩,Value.string ⟨#[]⟩] 24):=hw
   have z0:w.cell? ⟨Ae,0,none⟩=some (Value.string ⟨#[]⟩):=zA hw
   have y0:w.frozen? ⟨Ae,0,none⟩=false:=zD hw
   have z1:w.cell? ⟨Ae,1,none⟩=some (Value.string ⟨#[]⟩):=zA hw
   have y1:w.frozen? ⟨Ae,1,none⟩=false:=zD hw
   have z2:w.cell? ⟨Ae,2,none⟩=some (Value.string ⟨#[]⟩):=zA hw
   have y2:w.frozen? ⟨Ae,2,none⟩=false:=zD hw
   refine ⟨_,?_,(Wrote.set (i:=2) (Wrote.set (i:=1) (Wrote.set (i:=0) (Wrote.refl hw) (Value.string B2)) (Value.string B3)) (Value.string B4))⟩
   go_simp
 · refine ⟨_,rfl,rfl,rfl,fun cs b h=>(by cases h),fun w hw=>?_⟩
   replace hw:w.heap[Af]? = some (Obj.cells #[Value.string ⟨#[]⟩,Value.string ⟨#[]⟩,Value.string ⟨#[]⟩] 24):=hw
   have z0:w.cell? ⟨Af,0,none⟩=some (Value.string ⟨#[]⟩):=zA hw
   have y0:w.frozen? ⟨Af,0,none⟩=false:=zD hw
   have z1:w.cell? ⟨Af,1,none⟩=some (Value.string ⟨#[]⟩):=zA hw
   have y1:w.frozen? ⟨Af,1,none⟩=false:=zD hw
   have z2:w.cell? ⟨Af,2,none⟩=some (Value.string ⟨#[]⟩):=zA hw
   have y2:w.frozen? ⟨Af,2,none⟩=false:=zD hw
   refine ⟨_,?_,(Wrote.set (i:=2) (Wrote.set (i:=1) (Wrote.set (i:=0) (Wrote.refl hw) (Value.string B5)) (Value.string B6)) (Value.string B7))⟩
   go_simp
 · refine ⟨_,rfl,rfl,rfl,fun cs b h=>(by cases h),fun w hw=>?_⟩
   replace hw:w.heap[Ag]? = some (Obj.cells #[Value.string ⟨#[]⟩,Value.string ⟨#[]⟩,Value.string ⟨#[]⟩] 24):=hw
   have z0:w.cell? ⟨Ag,0,none⟩=some (Value.string ⟨#[]⟩):=zA hw
   have y0:w.frozen? ⟨Ag,0,none⟩=false:=zD hw
   have z1:w.cell? ⟨Ag,1,none⟩=some (Value.string ⟨#[]⟩):=zA hw
   have y1:w.frozen? ⟨Ag,1,none⟩=false:=zD hw
   have z2:w.cell? ⟨Ag,2,none⟩=some (Value.string ⟨#[]⟩):=zA hw
   have y2:w.frozen? ⟨Ag,2,none⟩=false:=zD hw
   refine ⟨_,?_,(Wrote.set (i:=2) (Wrote.set (i:=1) (Wrote.set (i:=0) (Wrote.refl hw) (Value.string B8)) (Value.string B9)) (Value.string Ca))⟩
   go_simp
 · refine ⟨_,rfl,rfl,rfl,fun cs b h=>(by cases h),fun w hw=>?_⟩
   replace hw:w.heap[Ah]? = some (Obj.cells #[Value.string ⟨#[]⟩,Value.string ⟨#[]⟩,Value.string ⟨#[]⟩] 24):=hw
   have z0:w.cell? ⟨Ah,0,none⟩=some (Value.string ⟨#[]⟩):=zA hw
   have y0:w.frozen? ⟨Ah,0,none⟩=false:=zD hw
   have z1:w.cell? ⟨Ah,1,none⟩=some (Value.string ⟨#[]⟩):=zA hw
   have y1:w.frozen? ⟨Ah,1,none⟩=false:=zD hw
   have z2:w.cell? ⟨Ah,2,none⟩=some (Value.string ⟨#[]⟩):=zA hw
   have y2:w.frozen? ⟨Ah,2,none⟩=false:=zD hw
   refine ⟨_,?_,(Wrote.set (i:=2) (Wrote.set (i:=1) (Wrote.set (i:=0) (Wrote.refl hw) (Value.string Cb)) (Value.string Bx)) (Value.string By))⟩
   go_simp
 intro w1 hk m0 m1 m2 m3 Aa Ac Ad Ab _ _ _ _ _ _
 clear A3 A4 A5 A6 A7 A8 A9 Ba Bb Bc Bd Be Bf Bg Bh Bi Bj Bk Bl Bm Bn Bo Bp Bq
 replace a0:=zB hk a0
 replace a1:=zB hk a1
 obtain ⟨A3,A4,A5,A6,A7,A8,A9,Ba,Bb,Bc,Bd,Be⟩:=ce12 a0
 obtain ⟨Bf,Bg,Bh,Bi,Bj,Bk,Bl,Bm,Bn,Bo,Bp,Bq⟩:=ce12 a1
 replace hb:=hb.trans (hk.mono hb.size)
 clear hk
 replace Aa:w1.heap[Ae]? = some (Obj.cells #[Value.string B2,Value.string B3,Value.string B4] 24):=Aa
 have Aj:w1.cell? ⟨Ae,0,none⟩=some (Value.string B2):=zA Aa
 have Ak:w1.cell? ⟨Ae,1,none⟩=some (Value.string B3):=zA Aa
 have Al:w1.cell? ⟨Ae,2,none⟩=some (Value.string B4):=zA Aa
 replace Ac:w1.heap[Af]? = some (Obj.cells #[Value.string B5,Value.string B6,Value.string B7] 24):=Ac
 have Ar:w1.cell? ⟨Af,0,none⟩=some (Value.string B5):=zA Ac
 have As:w1.cell? ⟨Af,1,none⟩=some (Value.string B6):=zA Ac
 have At:w1.cell? ⟨Af,2,none⟩=some (Value.string B7):=zA Ac
 replace Ad:w1.heap[Ag]? = some (Obj.cells #[Value.string B8,Value.string B9,Value.string Ca] 24):=Ad
 have Au:w1.cell? ⟨Ag,0,none⟩=some (Value.string B8):=zA Ad
 have Av:w1.cell? ⟨Ag,1,none⟩=some (Value.string B9):=zA Ad
 have Aw:w1.cell? ⟨Ag,2,none⟩=some (Value.string Ca):=zA Ad
 replace Ab:w1.heap[Ah]? = some (Obj.cells #[Value.string Cb,Value.string Bx,Value.string By] 24):=Ab
 have Am:w1.cell? ⟨Ah,0,none⟩=some (Value.string Cb):=zA Ab
 have An:w1.cell? ⟨Ah,1,none⟩=some (Value.string Bx):=zA Ab
 have Ao:w1.cell? ⟨Ah,2,none⟩=some (Value.string By):=zA Ab
 clear Dt Du Dv Dw Fu Fv Fw Fx D5 D6 D7 D8 D9 Fa Fb Fc Fd Fe Ff Fg Fh Fi Fj Fk Fl Fm Fn Fo Fp Fq Fs Ft m0 m1 m2 m3
 go_upto_region 5 with (go_at_call 62;with_reducible refine (chVB hb R C6).mono ?_;clear hb;rintro e w1 ⟨rfl,hk,hb⟩;clear Aj Ak Al Ar As At Au Av Aw Am An Ao;replace Aa:=zB hk Aa;replace Ac:=zB hk Ac;replace Ad:=zB hk Ad;replace Ab:=zB hk Ab;obtain ⟨Aj,Ak,Al⟩:=ce3 Aa;obtain ⟨Ar,As,At⟩:=ce3 Ac;obtain ⟨Au,Av,Aw⟩:=ce3 Ad;obtain ⟨Am,An,Ao⟩:=ce3 Ab;clear hk)
 clear A3 A4 A5 A6 A7 A8 A9 Ba Bb Bc Bd Be a0 Bf Bg Bh Bi Bj Bk Bl Bm Bn Bo Bp Bq a1
 refine wp_alloc1 (fun w1 Ap hk=>?_)
 clear Aj Ak Al Ar As At Au Av Aw Am An Ao
 replace Aa:=zB hk Aa
 replace Ac:=zB hk Ac
 replace Ad:=zB hk Ad
 replace Ab:=zB hk Ab
 obtain ⟨Aj,Ak,Al⟩:=ce3 Aa
 obtain ⟨Ar,As,At⟩:=ce3 Ac
 obtain ⟨Au,Av,Aw⟩:=ce3 Ad
 obtain ⟨Am,An,Ao⟩:=ce3 Ab
 replace hb:=hb.trans (hk.mono hb.size)
 clear hk
 obtain ⟨Cc,Cd,Ce,Cf⟩:=ce4 Ap
 obtain ⟨Fy,Fz,F0,F1⟩:=cy4 Ap
 obtain ⟨F2,F3,F4⟩:=cy3 Aa
 obtain ⟨F5,F6,F7⟩:=cy3 Ac
 obtain ⟨F8,F9,Ga⟩:=cy3 Ad
 obtain ⟨Gb,Gc,Gd⟩:=cy3 Ab
 have Ge:=rrV C7 R hb
 have Gf:=rrV C8 R hb
 have Gg:=rrV C9 R hb
 have Dx:=qqV C7 R hb
 have Dy:=qqV C8 R hb
 have Dz:=qqV C9 R hb
 refine wp_free1 7 0 (fun i=>if i=7 then Obj.cells #[Value.string ⟨#[]⟩,Value.string ⟨#[]⟩,Value.string ⟨#[]⟩] 24 else Obj.cells #[] 0) (fun i=>if i=7 then Obj.cells #[Value.string Bz,Value.string B0,Value.string B1] 24 else Obj.cells #[] 0) (some 11) (by first | assumption | kernel_rfl) (by kernel_rfl) ?lay rfl ?_
 case lay =>
   intro i h1 h2
   obtain rfl:i=7:=by omega
   all_goals exact ⟨_,rfl,rfl,fun a w=>(by first | (go_simp;done) | (go_simp;rfl))⟩
 simp only [List.take_succ_cons,List.take_zero]
 repeat (refine wpB_step (fun K hK=>?_);go_simp;first | (refine hK _ ?_;clear hK K) | (apply Exists.intro;refine ⟨fun _=>?_,hK _ ?_⟩;(first | (with_reducible exact Dx.out _ _) | (with_reducible exact Dy.out _ _) | (with_reducible exact Dz.out _ _));clear hK K))
 refine wpB_nil ?_
 intro Ai
 refine ⟨?_,?_⟩
 · refine ⟨_,rfl,rfl,rfl,fun cs b h=>(by cases h),fun w hw=>?_⟩
   replace hw:w.heap[Ai]? = some (Obj.cells #[Value.string ⟨#[]⟩,Value.string ⟨#[]⟩,Value.string ⟨#[]⟩] 24):=hw
   have z0:w.cell? ⟨Ai,0,none⟩=some (Value.string ⟨#[]⟩):=zA hw
   have y0:w.frozen? ⟨Ai,0,none⟩=false:=zD hw
   have z1:w.cell? ⟨Ai,1,none⟩=some (Value.string ⟨#[]⟩):=zA hw
   have y1:w.frozen? ⟨Ai,1,none⟩=false:=zD hw
   have z2:w.cell? ⟨Ai,2,none⟩=some (Value.string ⟨#[]⟩):=zA hw
   have y2:w.frozen? ⟨Ai,2,none⟩=false:=zD hw
   refine ⟨_,?_,(Wrote.set (i:=2) (Wrote.set (i:=1) (Wrote.set (i:=0) (Wrote.refl hw) (Value.string Bz)) (Value.string B0)) (Value.string B1))⟩
   go_simp
 intro w1 hk m0 Aq
 clear Cc Cd Ce Cf Aj Ak Al Ar As At Au Av Aw Am An Ao
 replace Ap:=zB hk Ap
 replace Aa:=zB hk Aa
 replace Ac:=zB hk Ac
 replace Ad:=zB hk Ad
 replace Ab:=zB hk Ab
 obtain ⟨Cc,Cd,Ce,Cf⟩:=ce4 Ap
 obtain ⟨Aj,Ak,Al⟩:=ce3 Aa
 obtain ⟨Ar,As,At⟩:=ce3 Ac
 obtain ⟨Au,Av,Aw⟩:=ce3 Ad
 obtain ⟨Am,An,Ao⟩:=ce3 Ab
 replace hb:=hb.trans (hk.mono hb.size)
 clear hk
 replace Aq:w1.heap[Ai]? = some (Obj.cells #[Value.string Bz,Value.string B0,Value.string B1] 24):=Aq
 have D0:w1.cell? ⟨Ai,0,none⟩=some (Value.string Bz):=zA Aq
 have D1:w1.cell? ⟨Ai,1,none⟩=some (Value.string B0):=zA Aq
 have D2:w1.cell? ⟨Ai,2,none⟩=some (Value.string B1):=zA Aq
 clear Dx Dy Dz Ge Gf Gg Fy Fz F0 F1 F2 F3 F4 F5 F6 F7 F8 F9 Ga Gb Gc Gd m0
 go_wp2_with (go_at_call 38;with_reducible refine (chVB hb R C10).mono ?_;clear hb;rintro e w1 ⟨rfl,hk,hb⟩;clear Cc Cd Ce Cf Aj Ak Al Am An Ao D0 D1 D2;replace Ap:=zB hk Ap;replace Aa:=zB hk Aa;replace Ab:=zB hk Ab;replace Aq:=zB hk Aq;obtain ⟨Cc,Cd,Ce,Cf⟩:=ce4 Ap;obtain ⟨Aj,Ak,Al⟩:=ce3 Aa;obtain ⟨Am,An,Ao⟩:=ce3 Ab;obtain ⟨D0,D1,D2⟩:=ce3 Aq;clear hk)
 first | go_ret | go_ret2 | go_ret3
 exact ⟨rfl,hb⟩
theorem lawPlanes (i0 g0 i1 g1 i2 g2 i3 g3 i4 g4 i5 g5 i6 g6 i7 g7 i8 g8 i9 g9 i10 g10 i11 g11:Int) (b0:(-32768≤i0∧i0≤32767)∧(0≤g0∧g0≤255)) (b1:(-32768≤i1∧i1≤32767)∧(0≤g1∧g1≤255)) (b2:(-32768≤i2∧i2≤32767)∧(0≤g2∧g2≤255)) (b3:(-32768≤i3∧i3≤32767)∧(0≤g3∧g3≤255)) (b4:(-32768≤i4∧i4≤32767)∧(0≤g4∧g4≤255)) (b5:(-32768≤i5∧i5≤32767)∧(0≤g5∧g5≤255)) (b6:(-32768≤i6∧i6≤32767)∧(0≤g6∧g6≤255)) (b7:(-32768≤i7∧i7≤32767)∧(0≤g7∧g7≤255)) (b8:(-32768≤i8∧i8≤32767)∧(0≤g8∧g8≤255)) (b9:(-32768≤i9∧i9≤32767)∧(0≤g9∧g9≤255)) (b10:(-32768≤i10∧i10≤32767)∧(0≤g10∧g10≤255)) (b11:(-32768≤i11∧i11≤32767)∧(0≤g11∧g11≤255)) (w:World) (R:EnvV w) :
   Calls Tryz.prog 10 #[.agg #[.int .i16 i0,.int .u8 g0,.int .i16 i1,.int .u8 g1,.int .i16 i2,.int .u8 g2,.int .i16 i3,.int .u8 g3,.int .i16 i4,.int .u8 g4,.int .i16 i5,.int .u8 g5],.agg #[.int .i16 i6,.int .u8 g6,.int .i16 i7,.int .u8 g7,.int .i16 i8,.int .u8 g8,.int .i16 i9,.int .u8 g9,.int .i16 i10,.int .u8 g10,.int .i16 i11,.int .u8 g11]] w (Ret w (.bool true)):=by
 obtain ⟨p0,k0⟩:∃ p,SmallIs i0 g0 p:=⟨_,b0.1,b0.2,rfl⟩
 obtain ⟨p1,k1⟩:∃ p,SmallIs i1 g1 p:=⟨_,b1.1,b1.2,rfl⟩
 obtain ⟨p2,k2⟩:∃ p,SmallIs i2 g2 p:=⟨_,b2.1,b2.2,rfl⟩
 obtain ⟨p3,k3⟩:∃ p,SmallIs i3 g3 p:=⟨_,b3.1,b3.2,rfl⟩
 obtain ⟨p4,k4⟩:∃ p,SmallIs i4 g4 p:=⟨_,b4.1,b4.2,rfl⟩
 obtain ⟨p5,k5⟩:∃ p,SmallIs i5 g5 p:=⟨_,b5.1,b5.2,rfl⟩
 obtain ⟨p6,k6⟩:∃ p,SmallIs i6 g6 p:=⟨_,b6.1,b6.2,rfl⟩
 obtain ⟨p7,k7⟩:∃ p,SmallIs i7 g7 p:=⟨_,b7.1,b7.2,rfl⟩
 obtain ⟨p8,k8⟩:∃ p,SmallIs i8 g8 p:=⟨_,b8.1,b8.2,rfl⟩
 obtain ⟨p9,k9⟩:∃ p,SmallIs i9 g9 p:=⟨_,b9.1,b9.2,rfl⟩
 obtain ⟨p10,k10⟩:∃ p,SmallIs i10 g10 p:=⟨_,b10.1,b10.2,rfl⟩
 obtain ⟨p11,k11⟩:∃ p,SmallIs i11 g11 p:=⟨_,b11.1,b11.2,rfl⟩
 by_cases q0:(((p4 - p1)*(p8 - p2)) - ((p5 - p2)*(p7 - p1)))=0
 · skip
   by_cases q1:(((p5 - p2)*(p6 - p0)) - ((p3 - p0)*(p8 - p2)))=0
   · skip
     by_cases q2:(((p3 - p0)*(p7 - p1)) - ((p4 - p1)*(p6 - p0)))=0
     · skip
       exact lawPlanes_3n i0 g0 i1 g1 i2 g2 i3 g3 i4 g4 i5 g5 i6 g6 i7 g7 i8 g8 i9 g9 i10 g10 i11 g11 p0 p1 p2 p3 p4 p5 p6 p7 p8 p9 p10 p11 k0 k1 k2 k3 k4 k5 k6 k7 k8 k9 k10 k11 _ _ _ _ rfl rfl rfl rfl q0 q1 q2 w R
     · by_cases qz:((((((p4 - p1)*(p8 - p2)) - ((p5 - p2)*(p7 - p1)))*p0)+((((p5 - p2)*(p6 - p0)) - ((p3 - p0)*(p8 - p2)))*p1))+((((p3 - p0)*(p7 - p1)) - ((p4 - p1)*(p6 - p0)))*p2))=0
       · exact lawPlanes_2z i0 g0 i1 g1 i2 g2 i3 g3 i4 g4 i5 g5 i6 g6 i7 g7 i8 g8 i9 g9 i10 g10 i11 g11 p0 p1 p2 p3 p4 p5 p6 p7 p8 p9 p10 p11 k0 k1 k2 k3 k4 k5 k6 k7 k8 k9 k10 k11 _ _ _ _ rfl rfl rfl rfl q0 q1 q2 qz w R
       · exact lawPlanes_2n i0 g0 i1 g1 i2 g2 i3 g3 i4 g4 i5 g5 i6 g6 i7 g7 i8 g8 i9 g9 i10 g10 i11 g11 p0 p1 p2 p3 p4 p5 p6 p7 p8 p9 p10 p11 k0 k1 k2 k3 k4 k5 k6 k7 k8 k9 k10 k11 _ _ _ _ rfl rfl rfl rfl q0 q1 q2 qz w R
   · by_cases qz:((((((p4 - p1)*(p8 - p2)) - ((p5 - p2)*(p7 - p1)))*p0)+((((p5 - p2)*(p6 - p0)) - ((p3 - p0)*(p8 - p2)))*p1))+((((p3 - p0)*(p7 - p1)) - ((p4 - p1)*(p6 - p0)))*p2))=0
     · exact lawPlanes_1z i0 g0 i1 g1 i2 g2 i3 g3 i4 g4 i5 g5 i6 g6 i7 g7 i8 g8 i9 g9 i10 g10 i11 g11 p0 p1 p2 p3 p4 p5 p6 p7 p8 p9 p10 p11 k0 k1 k2 k3 k4 k5 k6 k7 k8 k9 k10 k11 _ _ _ _ rfl rfl rfl rfl q0 q1 qz w R
     · exact lawPlanes_1n i0 g0 i1 g1 i2 g2 i3 g3 i4 g4 i5 g5 i6 g6 i7 g7 i8 g8 i9 g9 i10 g10 i11 g11 p0 p1 p2 p3 p4 p5 p6 p7 p8 p9 p10 p11 k0 k1 k2 k3 k4 k5 k6 k7 k8 k9 k10 k11 _ _ _ _ rfl rfl rfl rfl q0 q1 qz w R
 · by_cases qz:((((((p4 - p1)*(p8 - p2)) - ((p5 - p2)*(p7 - p1)))*p0)+((((p5 - p2)*(p6 - p0)) - ((p3 - p0)*(p8 - p2)))*p1))+((((p3 - p0)*(p7 - p1)) - ((p4 - p1)*(p6 - p0)))*p2))=0
   · exact lawPlanes_0z i0 g0 i1 g1 i2 g2 i3 g3 i4 g4 i5 g5 i6 g6 i7 g7 i8 g8 i9 g9 i10 g10 i11 g11 p0 p1 p2 p3 p4 p5 p6 p7 p8 p9 p10 p11 k0 k1 k2 k3 k4 k5 k6 k7 k8 k9 k10 k11 _ _ _ _ rfl rfl rfl rfl q0 qz w R
   · exact lawPlanes_0n i0 g0 i1 g1 i2 g2 i3 g3 i4 g4 i5 g5 i6 g6 i7 g7 i8 g8 i9 g9 i10 g10 i11 g11 p0 p1 p2 p3 p4 p5 p6 p7 p8 p9 p10 p11 k0 k1 k2 k3 k4 k5 k6 k7 k8 k9 k10 k11 _ _ _ _ rfl rfl rfl rfl q0 qz w R
end Go.Proofs.YtpennccflalobaaGreatDoor.Kl
