import Derived.Test.YtpennccflalobaaGreatDoorKlVLinesLawVLinesA
namespace Go.Proofs.YtpennccflalobaaGreatDoor.Kl
open Go Go.RowKit
set_option maxRecDepth 100000
set_option maxHeartbeats 8000000
theorem lines_na  (i0 g0 i1 g1 i2 g2 i3 g3 i4 g4 i5 g5 i6 g6 i7 g7 i8 g8 i9 g9 i10 g10 i11 g11:Int) (p0 p1 p2 p3 p4 p5 p6 p7 p8 p9 p10 p11:Rat) (k0:SmallIs i0 g0 p0) (k1:SmallIs i1 g1 p1) (k2:SmallIs i2 g2 p2) (k3:SmallIs i3 g3 p3) (k4:SmallIs i4 g4 p4) (k5:SmallIs i5 g5 p5) (k6:SmallIs i6 g6 p6) (k7:SmallIs i7 g7 p7) (k8:SmallIs i8 g8 p8) (k9:SmallIs i9 g9 p9) (k10:SmallIs i10 g10 p10) (k11:SmallIs i11 g11 p11) (lA lB lC mA mB mC lu lv:Rat) (eA:p1 - p4=lA) (eB:p3 - p0=lB) (eC:(lA*p0)+(lB*p1)=lC) (eF:p7 - p10=mA) (eG:p9 - p6=mB) (eH:(mA*p6)+(mB*p7)=mC) (eU:((lA*p6)+(lB*p7)) - lC=lu) (eV:((lA*p9)+(lB*p10)) - lC=lv) (q0:(lA*mB)≠(lB*mA)) (q1:lu=0) (q2:lv≠0) (m:Int) (hsm:lu.num.sign*lv.num.sign=m) (hm:m≤0) (d0:¬ ((ratB p0).toList=(ratB p3).toList∧(ratB p1).toList=(ratB p4).toList)) (d1:¬ ((ratB p6).toList=(ratB p9).toList∧(ratB p7).toList=(ratB p10).toList)) (cT0:CV 54 #[.agg #[.string (ratB p0),.string (ratB p1)],.agg #[.string (ratB p3),.string (ratB p4)]] (.tuple #[.agg #[.string (ratB lA),.string (ratB lB),.string (ratB lC)],.int .i64 0])) (cT1:CV 54 #[.agg #[.string (ratB p6),.string (ratB p7)],.agg #[.string (ratB p9),.string (ratB p10)]] (.tuple #[.agg #[.string (ratB mA),.string (ratB mB),.string (ratB mC)],.int .i64 0])) (cM:CV 57 #[.agg #[.string (ratB lA),.string (ratB lB),.string (ratB lC)],.agg #[.string (ratB mA),.string (ratB mB),.string (ratB mC)]] (.tuple #[.agg #[.string (ratB (((lC*mB) - (lB*mC)) / ((lA*mB) - (lB*mA)))),.string (ratB (((lA*mC) - (lC*mA)) / ((lA*mB) - (lB*mA))))],.bool true,.int .i64 0])) (hD:((lA*mB) - (lB*mA))≠0) (hk:lu - lv≠0) (cC:CV 59 #[.agg #[.string (ratB lA),.string (ratB lB),.string (ratB lC)],.agg #[.string (ratB p6),.string (ratB p7)],.agg #[.string (ratB p9),.string (ratB p10)]] (.tuple #[.string (ratB (lu / (lu - lv))),.bool true,.int .i64 0])) (w:World) (R:EnvV w) :
   Calls Tryz.prog 8 #[.agg #[.int .i16 i0,.int .u8 g0,.int .i16 i1,.int .u8 g1,.int .i16 i2,.int .u8 g2,.int .i16 i3,.int .u8 g3,.int .i16 i4,.int .u8 g4,.int .i16 i5,.int .u8 g5],.agg #[.int .i16 i6,.int .u8 g6,.int .i16 i7,.int .u8 g7,.int .i16 i8,.int .u8 g8,.int .i16 i9,.int .u8 g9,.int .i16 i10,.int .u8 g10,.int .i16 i11,.int .u8 g11]] w (Ret w (.bool true)):=by
 have Di:=RN_sub (N:=8) k1.rn k4.rn
 have Dj:=RN_sub (N:=8) k3.rn k0.rn
 have Dk:=RN_sub (N:=8) k7.rn k10.rn
 have Ci:=RN_sub (N:=8) k9.rn k6.rn
 have Ar:RN lA 9 6:=eA ▸ Di
 have As:RN lB 9 6:=eB ▸ Dj
 have A4:RN mA 9 6:=eF ▸ Dk
 have A5:RN mB 9 6:=eG ▸ Ci
 have Ck:=RN_mul Ar k0.rn
 have Cm:=RN_mul As k1.rn
 have Cj:=RN_add (N:=23) Ck Cm
 have At:RN lC 24 18:=eC ▸ Cj
 have Dl:=RN_mul A4 k6.rn
 have Dm:=RN_mul A5 k7.rn
 have Dn:=RN_add (N:=23) Dl Dm
 have Bg:RN mC 24 18:=eH ▸ Dn
 have Cn:=RN_mul Ar k6.rn
 have Co:=RN_mul As k7.rn
 have Cp:=RN_add (N:=23) Cn Co
 have Do:=RN_sub (N:=42) Cp At
 have Cq:RN lu 43 36:=eU ▸ Do
 have Cr:=RN_mul Ar k9.rn
 have Cs:=RN_mul As k10.rn
 have Ct:=RN_add (N:=23) Cr Cs
 have Dp:=RN_sub (N:=42) Ct At
 have Dq:RN lv 43 36:=eV ▸ Dp
 have F4:=RN_sub (N:=25) Cj rn_0
 have Dr:=RN_mul Ar A5
 have Ds:=RN_mul As A4
 have Cu:=RN_sub (N:=30) Dr Ds
 have Dt:=RN_mul At A5
 have Du:=RN_mul As Bg
 have Dv:=RN_sub (N:=57) Dt Du
 have Bh:=RN_div Dv Cu hD
 have Dw:=RN_mul Ar Bg
 have Dx:=RN_mul At A4
 have Dy:=RN_sub (N:=57) Dw Dx
 have Bi:=RN_div Dy Cu hD
 have Cv:=RN_mul Ar Bh
 have Cw:=RN_mul As Bi
 have Cx:=RN_add (N:=176) Cv Cw
 have F5:=RN_sub (N:=195) Cx At
 have Cy:=RN_mul A4 Bh
 have Cz:=RN_mul A5 Bi
 have C0:=RN_add (N:=176) Cy Cz
 have F6:=RN_sub (N:=195) C0 Bg
 have Dz:=RN_sub (N:=79) Cq Dq
 have Bj:=RN_div Cq Dz hk
 have Da:=RN_mul Bj Ci
 have Db:=RN_sub (N:=8) k10.rn k7.rn
 have Dc:=RN_mul Bj Db
 have Dd:=RN_add (N:=127) k6.rn Da
 have De:=RN_add (N:=127) k7.rn Dc
 have Df:=RN_mul Ar Dd
 have Dg:=RN_mul As De
 have Dh:=RN_add (N:=268) Df Dg
 have F7:=RN_sub (N:=287) Dh At
 have c1:=known5_any
 have c2:=makeP i0 g0 i1 g1 i2 g2 p0 p1 p2 k0 k1 k2
 have c3:=makeP i3 g3 i4 g4 i5 g5 p3 p4 p5 k3 k4 k5
 have c4:=makeP i6 g6 i7 g7 i8 g8 p6 p7 p8 k6 k7 k8
 have c5:=makeP i9 g9 i10 g10 i11 g11 p9 p10 p11 k9 k10 k11
 have c6:=cT0
 have c7:=cT1
 have c8:CV 55 #[.string (ratB p1),.string (ratB p4)] (.string (ratB lA)):=fun w R=>(by have h:=refRSub_any p1 p4 k1.rn.r4 k4.rn.r4 w R.toEnvR;rw [eA] at h;exact h)
 have c9:CV 55 #[.string (ratB p3),.string (ratB p0)] (.string (ratB lB)):=fun w R=>(by have h:=refRSub_any p3 p0 k3.rn.r4 k0.rn.r4 w R.toEnvR;rw [eB] at h;exact h)
 have c12:CV 56 #[.string (ratB lA),.string (ratB lB),.string ⟨#[48]⟩,.agg #[.string (ratB p0),.string (ratB p1)]] (.string (ratB lC)):=fun w R=>(by have h:=(by have h:=refPValue lA lB (0:Rat) p0 p1 Ar.r4 k0.rn.r4 As.r4 k1.rn.r4 Ck.r4 Cm.r4 Cj.r4 (RN.rl (K:=400) rn_0) w R.toEnvR;simp only [rb_0] at h;exact h);rw [show ((lA*p0)+(lB*p1)) - (0:Rat)=lC from by rw [← eC];grind] at h;exact h)
 have c13:=cM
 have c14:=fun (w:World) (R:EnvV w)=>refRMul_any lA mB w R.toEnvR Ar.r4 A5.r4
 have c15:=fun (w:World) (R:EnvV w)=>refRMul_any lB mA w R.toEnvR As.r4 A4.r4
 have c16:CV 56 #[.string (ratB lA),.string (ratB lB),.string (ratB lC),.agg #[.string (ratB (((lC*mB) - (lB*mC)) / ((lA*mB) - (lB*mA)))),.string (ratB (((lA*mC) - (lC*mA)) / ((lA*mB) - (lB*mA))))]] (.string ⟨#[48]⟩):=fun w R=>(by have h:=refPValue lA lB lC (((lC*mB) - (lB*mC)) / ((lA*mB) - (lB*mA))) (((lA*mC) - (lC*mA)) / ((lA*mB) - (lB*mA))) Ar.r4 Bh.r4 As.r4 Bi.r4 Cv.r4 Cw.r4 Cx.r4 At.r4 w R.toEnvR;rw [show ((lA*(((lC*mB) - (lB*mC)) / ((lA*mB) - (lB*mA))))+(lB*(((lA*mC) - (lC*mA)) / ((lA*mB) - (lB*mA))))) - lC=0 from by have:=hD;grind,rb_0] at h;exact h)
 have c17:CV 56 #[.string (ratB mA),.string (ratB mB),.string (ratB mC),.agg #[.string (ratB (((lC*mB) - (lB*mC)) / ((lA*mB) - (lB*mA)))),.string (ratB (((lA*mC) - (lC*mA)) / ((lA*mB) - (lB*mA))))]] (.string ⟨#[48]⟩):=fun w R=>(by have h:=refPValue mA mB mC (((lC*mB) - (lB*mC)) / ((lA*mB) - (lB*mA))) (((lA*mC) - (lC*mA)) / ((lA*mB) - (lB*mA))) A4.r4 Bh.r4 A5.r4 Bi.r4 Cy.r4 Cz.r4 C0.r4 Bg.r4 w R.toEnvR;rw [show ((mA*(((lC*mB) - (lB*mC)) / ((lA*mB) - (lB*mA))))+(mB*(((lA*mC) - (lC*mA)) / ((lA*mB) - (lB*mA))))) - mC=0 from by have:=hD;grind,rb_0] at h;exact h)
 have c18:=cC
 have c19:CV 56 #[.string (ratB lA),.string (ratB lB),.string (ratB lC),.agg #[.string (ratB p6),.string (ratB p7)]] (.string (ratB lu)):=fun w R=>(by have h:=refPValue lA lB lC p6 p7 Ar.r4 k6.rn.r4 As.r4 k7.rn.r4 Cn.r4 Co.r4 Cp.r4 At.r4 w R.toEnvR;rw [eU] at h;exact h)
 have c20:CV 56 #[.string (ratB lA),.string (ratB lB),.string (ratB lC),.agg #[.string (ratB p9),.string (ratB p10)]] (.string (ratB lv)):=fun w R=>(by have h:=refPValue lA lB lC p9 p10 Ar.r4 k9.rn.r4 As.r4 k10.rn.r4 Cr.r4 Cs.r4 Ct.r4 At.r4 w R.toEnvR;rw [eV] at h;exact h)
 have c21:=fun (w:World) (R:EnvV w)=>refRSign_any lu w R.toEnvR
 have c22:=fun (w:World) (R:EnvV w)=>refRSign_any lv w R.toEnvR
 have c23:CV 50 #[.string ⟨#[48]⟩,.string ⟨#[49]⟩,.string (ratB (lu / (lu - lv)))] (.bool true):=fun w R=>(by have h:=(by have h:=refInside_any (0:Rat) (1:Rat) (lu / (lu - lv)) (RN.rl (K:=400) rn_0) (RN.rl (K:=400) rn_1) Bj.r4 w R.toEnvR;simp only [rb_0,rb_1] at h;exact h);rw [show decide (((lu / (lu - lv)) - (0:Rat)).num.sign*((lu / (lu - lv)) - (1:Rat)).num.sign≤0)=true from decide_eq_true (in_share lu lv m hk hsm hm)] at h;exact h)
 have c24:=fun (w:World) (R:EnvV w)=>refPToward p6 p7 p9 p10 (lu / (lu - lv)) k9.rn.r4 k6.rn.r4 Bj.r4 Ci.r4 Da.r4 k10.rn.r4 k7.rn.r4 Db.r4 Dc.r4 w R.toEnvR
 have c25:CV 56 #[.string (ratB lA),.string (ratB lB),.string (ratB lC),.agg #[.string (ratB (p6+((lu / (lu - lv))*(p9 - p6)))),.string (ratB (p7+((lu / (lu - lv))*(p10 - p7))))]] (.string ⟨#[48]⟩):=fun w R=>(by have h:=refPValue lA lB lC (p6+((lu / (lu - lv))*(p9 - p6))) (p7+((lu / (lu - lv))*(p10 - p7))) Ar.r4 Dd.r4 As.r4 De.r4 Df.r4 Dg.r4 Dh.r4 At.r4 w R.toEnvR;rw [show ((lA*(p6+((lu / (lu - lv))*(p9 - p6))))+(lB*(p7+((lu / (lu - lv))*(p10 - p7))))) - lC=0 from by have:=hk;have:=eU;have:=eV;grind,rb_0] at h;exact h)
 have eq0:((ratB (lA*mB)).toList == (ratB (lB*mA)).toList)=false:=beq_eq_false_iff_ne.2 (fun g=>q0 (ratB_li g))
 have pq0:¬ (ratB (lA*mB)).toList=(ratB (lB*mA)).toList:=fun g=>q0 (ratB_li g)
 have eq1:((ratB lu).toList == [48])=true:=by rw [ratB_eq_zero];exact decide_eq_true q1
 have pq1:(ratB lu).toList=[48]:=(zero_iff _).2 q1
 have eq2:((ratB lv).toList == [48])=false:=by rw [ratB_eq_zero];exact decide_eq_false q2
 have pq2:¬ (ratB lv).toList=[48]:=fun h=>q2 ((zero_iff _).1 h)
 have hw:IntKind.i64.wrap (lu.num.sign*lv.num.sign)=m:=(sign_wrap _ _ (sign_in _) (sign_in _)).trans hsm
 have d0p:¬ ((ratB p0).toList=(ratB p3).toList∧(ratB p1).toList=(ratB p4).toList):=d0
 have d1p:¬ ((ratB p6).toList=(ratB p9).toList∧(ratB p7).toList=(ratB p10).toList):=d1
 have d0e:((ratB p0).toList == (ratB p3).toList && (ratB p1).toList == (ratB p4).toList)=false:=and_beq_false d0
 have d1e:((ratB p6).toList == (ratB p9).toList && (ratB p7).toList == (ratB p10).toList)=false:=and_beq_false d1
 obtain ⟨G4,D0⟩:∃ vq,ratB (((lA*mC) - (lC*mA)) / ((lA*mB) - (lB*mA)))=vq:=⟨_,rfl⟩
 obtain ⟨G5,D1⟩:∃ vq,ratB (((lC*mB) - (lB*mC)) / ((lA*mB) - (lB*mA)))=vq:=⟨_,rfl⟩
 obtain ⟨G6,D2⟩:∃ vq,ratB (p7+((lu / (lu - lv))*(p10 - p7)))=vq:=⟨_,rfl⟩
 obtain ⟨G7,D3⟩:∃ vq,ratB (p6+((lu / (lu - lv))*(p9 - p6)))=vq:=⟨_,rfl⟩
 obtain ⟨G8,D4⟩:∃ vq,ratB (lu / (lu - lv))=vq:=⟨_,rfl⟩
 obtain ⟨G9,D5⟩:∃ vq,ratB (lA*mB)=vq:=⟨_,rfl⟩
 obtain ⟨Ha,D6⟩:∃ vq,ratB (lB*mA)=vq:=⟨_,rfl⟩
 obtain ⟨Bk,D7⟩:∃ vq,ratB p10=vq:=⟨_,rfl⟩
 obtain ⟨Hb,D8⟩:∃ vq,ratB lA=vq:=⟨_,rfl⟩
 obtain ⟨Hc,D9⟩:∃ vq,ratB lB=vq:=⟨_,rfl⟩
 obtain ⟨Hd,Fa⟩:∃ vq,ratB lC=vq:=⟨_,rfl⟩
 obtain ⟨He,Fb⟩:∃ vq,ratB lu=vq:=⟨_,rfl⟩
 obtain ⟨Hf,Fc⟩:∃ vq,ratB lv=vq:=⟨_,rfl⟩
 obtain ⟨Hg,Fd⟩:∃ vq,ratB mA=vq:=⟨_,rfl⟩
 obtain ⟨Hh,Fe⟩:∃ vq,ratB mB=vq:=⟨_,rfl⟩
 obtain ⟨Hi,Ff⟩:∃ vq,ratB mC=vq:=⟨_,rfl⟩
 obtain ⟨Bl,Fg⟩:∃ vq,ratB p0=vq:=⟨_,rfl⟩
 obtain ⟨Bm,Fh⟩:∃ vq,ratB p1=vq:=⟨_,rfl⟩
 obtain ⟨Bn,Fi⟩:∃ vq,ratB p3=vq:=⟨_,rfl⟩
 obtain ⟨Bo,Fj⟩:∃ vq,ratB p4=vq:=⟨_,rfl⟩
 obtain ⟨Bp,Fk⟩:∃ vq,ratB p6=vq:=⟨_,rfl⟩
 obtain ⟨Bq,Fl⟩:∃ vq,ratB p7=vq:=⟨_,rfl⟩
 obtain ⟨Br,Fm⟩:∃ vq,ratB p9=vq:=⟨_,rfl⟩
 try simp only [D0,D1,D2,D3,D4,D5,D6,D7,D8,D9,Fa,Fb,Fc,Fd,Fe,Ff,Fg,Fh,Fi,Fj,Fk,Fl,Fm] at c1 c2 c3 c4 c5 c6 c7 c8 c9 c12 c13 c14 c15 c16 c17 c18 c19 c20 c21 c22 c23 c24 c25 eq0 pq0 eq1 pq1 eq2 pq2 hw d0p d1p d0e d1e ⊢
 obtain ⟨su,esu⟩:∃ vq,lu.num.sign=vq:=⟨_,rfl⟩
 try simp only [esu] at c1 c2 c3 c4 c5 c6 c7 c8 c9 c12 c13 c14 c15 c16 c17 c18 c19 c20 c21 c22 c23 c24 c25 eq0 pq0 eq1 pq1 eq2 pq2 hw d0p d1p d0e d1e ⊢
 obtain ⟨sv,esv⟩:∃ vq,lv.num.sign=vq:=⟨_,rfl⟩
 try simp only [esv] at c1 c2 c3 c4 c5 c6 c7 c8 c9 c12 c13 c14 c15 c16 c17 c18 c19 c20 c21 c22 c23 c24 c25 eq0 pq0 eq1 pq1 eq2 pq2 hw d0p d1p d0e d1e ⊢
 have C1:=Lib.hid c1
 have C2:=Lib.hid c2
 have C3:=Lib.hid c3
 have C4:=Lib.hid c4
 have C5:=Lib.hid c5
 have C6:=Lib.hid c6
 have C7:=Lib.hid c7
 have C8:=Lib.hid c8
 have C9:=Lib.hid c9
 have C12:=Lib.hid c12
 have C13:=Lib.hid c13
 have C14:=Lib.hid c14
 have C15:=Lib.hid c15
 have C16:=Lib.hid c16
 have C17:=Lib.hid c17
 have C18:=Lib.hid c18
 have C19:=Lib.hid c19
 have C20:=Lib.hid c20
 have C21:=Lib.hid c21
 have C22:=Lib.hid c22
 have C23:=Lib.hid c23
 have C24:=Lib.hid c24
 have C25:=Lib.hid c25
 clear c1 c2 c3 c4 c5 c6 c7 c8 c9 c12 c13 c14 c15 c16 c17 c18 c19 c20 c21 c22 c23 c24 c25 D0 D1 D2 D3 D4 D5 D6 D7 D8 D9 Fa Fb Fc Fd Fe Ff Fg Fh Fi Fj Fk Fl Fm esu esv Di Dj Dk Ci Ar As A4 A5 Ck Cm Cj At Dl Dm Dn Bg Cn Co Cp Do Cq Cr Cs Ct Dp Dq F4 Dr Ds Cu Dt Du Dv Bh Dw Dx Dy Bi Cv Cw Cx F5 Cy Cz C0 F6 Dz Bj Da Db Dc Dd De Df Dg Dh F7 k0 k1 k2 k3 k4 k5 k6 k7 k8 k9 k10 k11 q0 q1 q2 hsm d0 d1 cT0 cT1 cM hD hk cC eA eB eC eF eG eH eU eV
 have hb:=Below.refl w.heap.size w
 go_enter Tryz.func8,Tryz.ntmps8
 go_upto_region 1 with fail
 refine wp_alloc2 (fun w1 a0 a1 hk=>?_)
 replace hb:=hb.trans (hk.mono hb.size)
 clear hk
 obtain ⟨Bs,Bt,Bu,Bv,Bw,Bx,By,Bz,B0,B1,B2,B3⟩:=ce12 a0
 obtain ⟨B4,B5,B6,B7,B8,B9,Ca,Cb,Cc,Cd,Ce,Cf⟩:=ce12 a1
 go_upto_region 3 with (go_at_call 13;with_reducible refine (chVB hb R C1).mono ?_;clear hb;rintro e w1 ⟨rfl,hk,hb⟩;clear Bs Bt Bu Bv Bw Bx By Bz B0 B1 B2 B3 B4 B5 B6 B7 B8 B9 Ca Cb Cc Cd Ce Cf;replace a0:=zB hk a0;replace a1:=zB hk a1;obtain ⟨Bs,Bt,Bu,Bv,Bw,Bx,By,Bz,B0,B1,B2,B3⟩:=ce12 a0;obtain ⟨B4,B5,B6,B7,B8,B9,Ca,Cb,Cc,Cd,Ce,Cf⟩:=ce12 a1;clear hk)
 obtain ⟨F8,F9,Ga,Gb,Gc,Gd,Ge,Gf,Gg,Gh,Gi,Gj⟩:=cy12 a0
 obtain ⟨Gk,Gl,Gm,Gn,Go,Gp,Gq,Gr,Gs,Gt,Gu,Gv⟩:=cy12 a1
 have Gw:=rrV C2 R hb
 have Gx:=rrV C3 R hb
 have Gy:=rrV C4 R hb
 have Gz:=rrV C5 R hb
 have Fn:=qqV C2 R hb
 have Fo:=qqV C3 R hb
 have Fp:=qqV C4 R hb
 have Fq:=qqV C5 R hb
 refine wp_free4 12 0 (fun i=>if i=12 then Obj.cells #[Value.string ⟨#[]⟩,Value.string ⟨#[]⟩] 30 else if i=13 then Obj.cells #[Value.string ⟨#[]⟩,Value.string ⟨#[]⟩] 30 else if i=14 then Obj.cells #[Value.string ⟨#[]⟩,Value.string ⟨#[]⟩] 30 else if i=15 then Obj.cells #[Value.string ⟨#[]⟩,Value.string ⟨#[]⟩] 30 else Obj.cells #[] 0) (fun i=>if i=12 then Obj.cells #[Value.string Bl,Value.string Bm] 30 else if i=13 then Obj.cells #[Value.string Bn,Value.string Bo] 30 else if i=14 then Obj.cells #[Value.string Bp,Value.string Bq] 30 else if i=15 then Obj.cells #[Value.string Br,Value.string Bk] 30 else Obj.cells #[] 0) (some 5) (some 6) (some 7) (some 8) (by first | assumption | kernel_rfl) (by kernel_rfl) ?lay rfl rfl rfl rfl ?_
 case lay =>
   intro i h1 h2
   obtain rfl | rfl | rfl | rfl:i=12∨i=13∨i=14∨i=15:=by omega
   all_goals exact ⟨_,rfl,rfl,fun a w=>(by first | (go_simp;done) | (go_simp;rfl))⟩
 simp only [List.take_succ_cons,List.take_zero]
 repeat (refine wpB_step (fun K hK=>?_);go_simp;first | (refine hK _ ?_;clear hK K) | (apply Exists.intro;refine ⟨fun _=>?_,hK _ ?_⟩;(first | (with_reducible exact Fn.out _ _) | (with_reducible exact Fo.out _ _) | (with_reducible exact Fp.out _ _) | (with_reducible exact Fq.out _ _));clear hK K))
 refine wpB_nil ?_
 intro A0 A1 A2 A3
 refine ⟨?_,?_,?_,?_,?_⟩
 · refine ⟨_,rfl,rfl,rfl,fun cs b h=>(by cases h),fun w hw=>?_⟩
   replace hw:w.heap[A0]? = some (Obj.cells #[Value.string ⟨#[]⟩,Value.string ⟨#[]⟩] 30):=hw
   have z0:w.cell? ⟨A0,0,none⟩=some (Value.string ⟨#[]⟩):=zA hw
   have y0:w.frozen? ⟨A0,0,none⟩=false:=zD hw
   have z1:w.cell? ⟨A0,1,none⟩=some (Value.string ⟨#[]⟩):=zA hw
   have y1:w.frozen? ⟨A0,1,none⟩=false:=zD hw
   refine ⟨_,?_,(Wrote.set (i:=1) (Wrote.set (i:=0) (Wrote.refl hw) (Value.string Bl)) (Value.string Bm))⟩
   go_simp
 · refine ⟨_,rfl,rfl,rfl,fun cs b h=>(by cases h),fun w hw=>?_⟩
   replace hw:w.heap[A1]? = some (Obj.cells #[Value.string ⟨#[]⟩,Value.string ⟨#[]⟩] 30):=hw
   have z0:w.cell? ⟨A1,0,none⟩=some (Value.string ⟨#[]⟩):=zA hw
   have y0:w.frozen? ⟨A1,0,none⟩=false:=zD hw
   have z1:w.cell? ⟨A1,1,none⟩=some (Value.string ⟨#[]⟩):=zA hw
   have y1:w.frozen? ⟨A1,1,none⟩=false:=zD hw
   refine ⟨_,?_,(Wrote.set (i:=1) (Wrote.set (i:=0) (Wrote.refl hw) (Value.string Bn)) (Value.string Bo))⟩
   go_simp
 · refine ⟨_,rfl,rfl,rfl,fun cs b h=>(by cases h),fun w hw=>?_⟩
   replace hw:w.heap[A2]? = some (Obj.cells #[Value.string ⟨#[]⟩,Value.string ⟨#[]⟩] 30):=hw
   have z0:w.cell? ⟨A2,0,none⟩=some (Value.string ⟨#[]⟩):=zA hw
   have y0:w.frozen? ⟨A2,0,none⟩=false:=zD hw
   have z1:w.cell? ⟨A2,1,none⟩=some (Value.string ⟨#[]⟩):=zA hw
   have y1:w.frozen? ⟨A2,1,none⟩=false:=zD hw
   refine ⟨_,?_,(Wrote.set (i:=1) (Wrote.set (i:=0) (Wrote.refl hw) (Value.string Bp)) (Value.string Bq))⟩
   go_simp
 · refine ⟨_,rfl,rfl,rfl,fun cs b h=>(by cases h),fun w hw=>?_⟩
   replace hw:w.heap[A3]? = some (Obj.cells #[Value.string ⟨#[]⟩,Value.string ⟨#[]⟩] 30):=hw
   have z0:w.cell? ⟨A3,0,none⟩=some (Value.string ⟨#[]⟩):=zA hw
   have y0:w.frozen? ⟨A3,0,none⟩=false:=zD hw
   have z1:w.cell? ⟨A3,1,none⟩=some (Value.string ⟨#[]⟩):=zA hw
   have y1:w.frozen? ⟨A3,1,none⟩=false:=zD hw
   refine ⟨_,?_,(Wrote.set (i:=1) (Wrote.set (i:=0) (Wrote.refl hw) (Value.string Br)) (Value.string Bk))⟩
   go_simp
 intro w1 hk m0 m1 m2 m3 Ai Aj Aa Ab _ _ _ _ _ _
 clear Bs Bt Bu Bv Bw Bx By Bz B0 B1 B2 B3 B4 B5 B6 B7 B8 B9 Ca Cb Cc Cd Ce Cf
 replace a0:=zB hk a0
 replace a1:=zB hk a1
 obtain ⟨Bs,Bt,Bu,Bv,Bw,Bx,By,Bz,B0,B1,B2,B3⟩:=ce12 a0
 obtain ⟨B4,B5,B6,B7,B8,B9,Ca,Cb,Cc,Cd,Ce,Cf⟩:=ce12 a1
 replace hb:=hb.trans (hk.mono hb.size)
 clear hk
 replace Ai:w1.heap[A0]? = some (Obj.cells #[Value.string Bl,Value.string Bm] 30):=Ai
 have Au:w1.cell? ⟨A0,0,none⟩=some (Value.string Bl):=zA Ai
 have Av:w1.cell? ⟨A0,1,none⟩=some (Value.string Bm):=zA Ai
 replace Aj:w1.heap[A1]? = some (Obj.cells #[Value.string Bn,Value.string Bo] 30):=Aj
 have Aw:w1.cell? ⟨A1,0,none⟩=some (Value.string Bn):=zA Aj
 have Ax:w1.cell? ⟨A1,1,none⟩=some (Value.string Bo):=zA Aj
 replace Aa:w1.heap[A2]? = some (Obj.cells #[Value.string Bp,Value.string Bq] 30):=Aa
 have Ae:w1.cell? ⟨A2,0,none⟩=some (Value.string Bp):=zA Aa
 have Af:w1.cell? ⟨A2,1,none⟩=some (Value.string Bq):=zA Aa
 replace Ab:w1.heap[A3]? = some (Obj.cells #[Value.string Br,Value.string Bk] 30):=Ab
 have Ag:w1.cell? ⟨A3,0,none⟩=some (Value.string Br):=zA Ab
 have Ah:w1.cell? ⟨A3,1,none⟩=some (Value.string Bk):=zA Ab
 clear Fn Fo Fp Fq Gw Gx Gy Gz F8 F9 Ga Gb Gc Gd Ge Gf Gg Gh Gi Gj Gk Gl Gm Gn Go Gp Gq Gr Gs Gt Gu Gv m0 m1 m2 m3
 go_upto_region 5 with (go_at_call 54;with_reducible refine (chVB hb R C6).mono ?_;clear hb;rintro e w1 ⟨rfl,hk,hb⟩;clear Au Av Aw Ax Ae Af Ag Ah;replace Ai:=zB hk Ai;replace Aj:=zB hk Aj;replace Aa:=zB hk Aa;replace Ab:=zB hk Ab;obtain ⟨Au,Av⟩:=ce2 Ai;obtain ⟨Aw,Ax⟩:=ce2 Aj;obtain ⟨Ae,Af⟩:=ce2 Aa;obtain ⟨Ag,Ah⟩:=ce2 Ab;clear hk)
 clear Bs Bt Bu Bv Bw Bx By Bz B0 B1 B2 B3 a0 B4 B5 B6 B7 B8 B9 Ca Cb Cc Cd Ce Cf a1
 refine wp_alloc1 (fun w1 Ac hk=>?_)
 clear Au Av Aw Ax Ae Af Ag Ah
 replace Ai:=zB hk Ai
 replace Aj:=zB hk Aj
 replace Aa:=zB hk Aa
 replace Ab:=zB hk Ab
 obtain ⟨Au,Av⟩:=ce2 Ai
 obtain ⟨Aw,Ax⟩:=ce2 Aj
 obtain ⟨Ae,Af⟩:=ce2 Aa
 obtain ⟨Ag,Ah⟩:=ce2 Ab
 replace hb:=hb.trans (hk.mono hb.size)
 clear hk
 obtain ⟨Ak,Al,Am⟩:=ce3 Ac
 go_upto_region 6 with (go_at_call 54;with_reducible refine (chVB hb R C7).mono ?_;clear hb;rintro e w1 ⟨rfl,hk,hb⟩;clear Ak Al Am Au Av Aw Ax Ae Af Ag Ah;replace Ac:=zB hk Ac;replace Ai:=zB hk Ai;replace Aj:=zB hk Aj;replace Aa:=zB hk Aa;replace Ab:=zB hk Ab;obtain ⟨Ak,Al,Am⟩:=ce3 Ac;obtain ⟨Au,Av⟩:=ce2 Ai;obtain ⟨Aw,Ax⟩:=ce2 Aj;obtain ⟨Ae,Af⟩:=ce2 Aa;obtain ⟨Ag,Ah⟩:=ce2 Ab;clear hk)
 refine wp_alloc1 (fun w1 Ad hk=>?_)
 clear Ak Al Am Au Av Aw Ax Ae Af Ag Ah
 replace Ac:=zB hk Ac
 replace Ai:=zB hk Ai
 replace Aj:=zB hk Aj
 replace Aa:=zB hk Aa
 replace Ab:=zB hk Ab
 obtain ⟨Ak,Al,Am⟩:=ce3 Ac
 obtain ⟨Au,Av⟩:=ce2 Ai
 obtain ⟨Aw,Ax⟩:=ce2 Aj
 obtain ⟨Ae,Af⟩:=ce2 Aa
 obtain ⟨Ag,Ah⟩:=ce2 Ab
 replace hb:=hb.trans (hk.mono hb.size)
 clear hk
 obtain ⟨Ao,Ap,Aq⟩:=ce3 Ad
 go_upto_region 6 with fail
 refine wp_to (fun a=>((((((((a.put (some 49) (.agg #[.string Bl,.string Bm])).put (some 50) (.agg #[.string Bn,.string Bo])).put (some 51) (.bool false)).put (some 52) (.bool false)).put (some 53) (.agg #[.string Bp,.string Bq])).put (some 54) (.agg #[.string Br,.string Bk])).put (some 55) (.bool false)).put (some 56) (.bool false))) ?_ ?_
 · go_wp2
   all_goals first | exact ⟨rfl,rfl,rfl⟩ | exact (d0p ⟨by assumption,by assumption⟩).elim | exact (d1p ⟨by assumption,by assumption⟩).elim
 simp only [Act.put,List.setIfInBounds_toArray,List.set_cons_zero,List.set_cons_succ]
 go_upto_region 8 with fail
 obtain ⟨A6,A7,A8⟩:=cy3 Ac
 obtain ⟨A9,Ba,Bb⟩:=cy3 Ad
 obtain ⟨G0,G1⟩:=cy2 Ai
 obtain ⟨G2,G3⟩:=cy2 Aj
 obtain ⟨Bc,Bd⟩:=cy2 Aa
 obtain ⟨Be,Bf⟩:=cy2 Ab
 have Fs:=rrV C8 R hb
 have Ft:=rrV C9 R hb
 have Fu:=rrV C8 R hb
 have Fv:=rrV C9 R hb
 have Fw:=rrV C12 R hb
 refine wp_region_quiet_below (by first | assumption | kernel_rfl) (by kernel_rfl) ?_
 repeat (quiet_step (first | (with_reducible exact Fs.out _ _) | (with_reducible exact Ft.out _ _) | (with_reducible exact Fu.out _ _) | (with_reducible exact Fv.out _ _) | (with_reducible exact Fw.out _ _)))
 refine wpQuiet_nil ?_
 intro w1 hw'
 obtain ⟨hk,hb⟩:=zQ hb hw'
 clear Ak Al Am Ao Ap Aq Au Av Aw Ax Ae Af Ag Ah
 replace Ac:=zB hk Ac
 replace Ad:=zB hk Ad
 replace Ai:=zB hk Ai
 replace Aj:=zB hk Aj
 replace Aa:=zB hk Aa
 replace Ab:=zB hk Ab
 obtain ⟨Ak,Al,Am⟩:=ce3 Ac
 obtain ⟨Ao,Ap,Aq⟩:=ce3 Ad
 obtain ⟨Au,Av⟩:=ce2 Ai
 obtain ⟨Aw,Ax⟩:=ce2 Aj
 obtain ⟨Ae,Af⟩:=ce2 Aa
 obtain ⟨Ag,Ah⟩:=ce2 Ab
 clear Fs Ft Fu Fv Fw A6 A7 A8 A9 Ba Bb G0 G1 G2 G3 Bc Bd Be Bf
 clear hk hw'
 go_upto_region 11 with (go_at_call 57;with_reducible refine (chVB hb R C13).mono ?_;clear hb;rintro e w1 ⟨rfl,hk,hb⟩;clear Ak Al Am Ao Ap Aq Ae Af Ag Ah;replace Ac:=zB hk Ac;replace Ad:=zB hk Ad;replace Aa:=zB hk Aa;replace Ab:=zB hk Ab;obtain ⟨Ak,Al,Am⟩:=ce3 Ac;obtain ⟨Ao,Ap,Aq⟩:=ce3 Ad;obtain ⟨Ae,Af⟩:=ce2 Aa;obtain ⟨Ag,Ah⟩:=ce2 Ab;clear hk)
 clear Au Av Ai Aw Ax Aj
 refine wp_alloc1 (fun w1 An hk=>?_)
 clear Ak Al Am Ao Ap Aq Ae Af Ag Ah
 replace Ac:=zB hk Ac
 replace Ad:=zB hk Ad
 replace Aa:=zB hk Aa
 replace Ab:=zB hk Ab
 obtain ⟨Ak,Al,Am⟩:=ce3 Ac
 obtain ⟨Ao,Ap,Aq⟩:=ce3 Ad
 obtain ⟨Ae,Af⟩:=ce2 Aa
 obtain ⟨Ag,Ah⟩:=ce2 Ab
 replace hb:=hb.trans (hk.mono hb.size)
 clear hk
 obtain ⟨Ay,Az⟩:=ce2 An
 obtain ⟨A6,A7,A8⟩:=cy3 Ac
 obtain ⟨A9,Ba,Bb⟩:=cy3 Ad
 obtain ⟨Cg,Ch⟩:=cy2 An
 obtain ⟨Bc,Bd⟩:=cy2 Aa
 obtain ⟨Be,Bf⟩:=cy2 Ab
 have Fx:=rrV C14 R hb
 have Fy:=rrV C15 R hb
 refine wp_region_quiet_below (by first | assumption | kernel_rfl) (by kernel_rfl) ?_
 repeat (quiet_step (first | (with_reducible exact Fx.out _ _) | (with_reducible exact Fy.out _ _)))
 refine wpQuiet_nil ?_
 intro w1 hw'
 obtain ⟨hk,hb⟩:=zQ hb hw'
 clear Ak Al Am Ao Ap Aq Ay Az Ae Af Ag Ah
 replace Ac:=zB hk Ac
 replace Ad:=zB hk Ad
 replace An:=zB hk An
 replace Aa:=zB hk Aa
 replace Ab:=zB hk Ab
 obtain ⟨Ak,Al,Am⟩:=ce3 Ac
 obtain ⟨Ao,Ap,Aq⟩:=ce3 Ad
 obtain ⟨Ay,Az⟩:=ce2 An
 obtain ⟨Ae,Af⟩:=ce2 Aa
 obtain ⟨Ag,Ah⟩:=ce2 Ab
 clear Fx Fy A6 A7 A8 A9 Ba Bb Cg Ch Bc Bd Be Bf
 clear hk hw'
 go_upto_region 15 with ((first | (go_at_call 56;first | with_reducible refine (chVB hb R C16).mono ?_ | with_reducible refine (chVB hb R C17).mono ?_) | (go_at_call 59;with_reducible refine (chVB hb R C18).mono ?_));clear hb;rintro e w1 ⟨rfl,hk,hb⟩;clear Ak Al Am Ao Ap Aq Ay Az Ae Af Ag Ah;replace Ac:=zB hk Ac;replace Ad:=zB hk Ad;replace An:=zB hk An;replace Aa:=zB hk Aa;replace Ab:=zB hk Ab;obtain ⟨Ak,Al,Am⟩:=ce3 Ac;obtain ⟨Ao,Ap,Aq⟩:=ce3 Ad;obtain ⟨Ay,Az⟩:=ce2 An;obtain ⟨Ae,Af⟩:=ce2 Aa;obtain ⟨Ag,Ah⟩:=ce2 Ab;clear hk)
 obtain ⟨A6,A7,A8⟩:=cy3 Ac
 obtain ⟨A9,Ba,Bb⟩:=cy3 Ad
 obtain ⟨Cg,Ch⟩:=cy2 An
 obtain ⟨Bc,Bd⟩:=cy2 Aa
 obtain ⟨Be,Bf⟩:=cy2 Ab
 have Fz:=rrV C19 R hb
 have F0:=rrV C20 R hb
 refine wp_region_quiet_below (by first | assumption | kernel_rfl) (by kernel_rfl) ?_
 repeat (quiet_step (first | (with_reducible exact Fz.out _ _) | (with_reducible exact F0.out _ _)))
 refine wpQuiet_nil ?_
 intro w1 hw'
 obtain ⟨hk,hb⟩:=zQ hb hw'
 clear Ak Al Am Ao Ap Aq Ay Az Ae Af Ag Ah
 replace Ac:=zB hk Ac
 replace Ad:=zB hk Ad
 replace An:=zB hk An
 replace Aa:=zB hk Aa
 replace Ab:=zB hk Ab
 obtain ⟨Ak,Al,Am⟩:=ce3 Ac
 obtain ⟨Ao,Ap,Aq⟩:=ce3 Ad
 obtain ⟨Ay,Az⟩:=ce2 An
 obtain ⟨Ae,Af⟩:=ce2 Aa
 obtain ⟨Ag,Ah⟩:=ce2 Ab
 clear Fz F0 A6 A7 A8 A9 Ba Bb Cg Ch Bc Bd Be Bf
 clear hk hw'
 go_upto_region 19 with ((go_at_call 42;first | with_reducible refine (chVB hb R C21).mono ?_ | with_reducible refine (chVB hb R C22).mono ?_);clear hb;rintro e w1 ⟨rfl,hk,hb⟩;clear Ak Al Am Ao Ap Aq Ay Az Ae Af Ag Ah;replace Ac:=zB hk Ac;replace Ad:=zB hk Ad;replace An:=zB hk An;replace Aa:=zB hk Aa;replace Ab:=zB hk Ab;obtain ⟨Ak,Al,Am⟩:=ce3 Ac;obtain ⟨Ao,Ap,Aq⟩:=ce3 Ad;obtain ⟨Ay,Az⟩:=ce2 An;obtain ⟨Ae,Af⟩:=ce2 Aa;obtain ⟨Ag,Ah⟩:=ce2 Ab;clear hk)
 obtain ⟨A6,A7,A8⟩:=cy3 Ac
 obtain ⟨A9,Ba,Bb⟩:=cy3 Ad
 obtain ⟨Cg,Ch⟩:=cy2 An
 obtain ⟨Bc,Bd⟩:=cy2 Aa
 obtain ⟨Be,Bf⟩:=cy2 Ab
 have F1:=rrV C23 R hb
 have F2:=rrV C24 R hb
 have F3:=rrV C25 R hb
 refine wp_region_quiet_below (by first | assumption | kernel_rfl) (by kernel_rfl) ?_
 repeat (quiet_step (first | (with_reducible exact F1.out _ _) | (with_reducible exact F2.out _ _) | (with_reducible exact F3.out _ _)))
 refine wpQuiet_nil ?_
 intro w1 hw'
 obtain ⟨hk,hb⟩:=zQ hb hw'
 clear Ak Al Am Ao Ap Aq Ay Az Ae Af Ag Ah
 replace Ac:=zB hk Ac
 replace Ad:=zB hk Ad
 replace An:=zB hk An
 replace Aa:=zB hk Aa
 replace Ab:=zB hk Ab
 obtain ⟨Ak,Al,Am⟩:=ce3 Ac
 obtain ⟨Ao,Ap,Aq⟩:=ce3 Ad
 obtain ⟨Ay,Az⟩:=ce2 An
 obtain ⟨Ae,Af⟩:=ce2 Aa
 obtain ⟨Ag,Ah⟩:=ce2 Ab
 clear F1 F2 F3 A6 A7 A8 A9 Ba Bb Cg Ch Bc Bd Be Bf
 clear hk hw'
 go_wp2
 first | go_ret | go_ret2 | go_ret3
 exact ⟨rfl,hb⟩
end Go.Proofs.YtpennccflalobaaGreatDoor.Kl
