import Derived.Test.YtpennccflalobaaGreatDoorKlVLinesLawVLinesA
namespace Go.Proofs.YtpennccflalobaaGreatDoor.Kl
open Go Go.RowKit
set_option maxRecDepth 100000
set_option maxHeartbeats 8000000
theorem lines_pp  (i0 g0 i1 g1 i2 g2 i3 g3 i4 g4 i5 g5 i6 g6 i7 g7 i8 g8 i9 g9 i10 g10 i11 g11:Int) (p0 p1 p2 p3 p4 p5 p6 p7 p8 p9 p10 p11:Rat) (k0:SmallIs i0 g0 p0) (k1:SmallIs i1 g1 p1) (k2:SmallIs i2 g2 p2) (k3:SmallIs i3 g3 p3) (k4:SmallIs i4 g4 p4) (k5:SmallIs i5 g5 p5) (k6:SmallIs i6 g6 p6) (k7:SmallIs i7 g7 p7) (k8:SmallIs i8 g8 p8) (k9:SmallIs i9 g9 p9) (k10:SmallIs i10 g10 p10) (k11:SmallIs i11 g11 p11) (lA lB lC mA mB mC lu lv:Rat) (eA:p1 - p4=lA) (eB:p3 - p0=lB) (eC:(lA*p0)+(lB*p1)=lC) (eF:p7 - p10=mA) (eG:p9 - p6=mB) (eH:(mA*p6)+(mB*p7)=mC) (eU:((lA*p6)+(lB*p7)) - lC=lu) (eV:((lA*p9)+(lB*p10)) - lC=lv) (q0:(lA*mB)=(lB*mA)) (m:Int) (hsm:lu.num.sign*lv.num.sign=m) (_hm:0 < m) (d0:¬ ((ratB p0).toList=(ratB p3).toList∧(ratB p1).toList=(ratB p4).toList)) (d1:¬ ((ratB p6).toList=(ratB p9).toList∧(ratB p7).toList=(ratB p10).toList)) (cT0:CV 54 #[.agg #[.string (ratB p0),.string (ratB p1)],.agg #[.string (ratB p3),.string (ratB p4)]] (.tuple #[.agg #[.string (ratB lA),.string (ratB lB),.string (ratB lC)],.int .i64 0])) (cT1:CV 54 #[.agg #[.string (ratB p6),.string (ratB p7)],.agg #[.string (ratB p9),.string (ratB p10)]] (.tuple #[.agg #[.string (ratB mA),.string (ratB mB),.string (ratB mC)],.int .i64 0])) (cM:CV 57 #[.agg #[.string (ratB lA),.string (ratB lB),.string (ratB lC)],.agg #[.string (ratB mA),.string (ratB mB),.string (ratB mC)]] (.tuple #[.agg #[.string ⟨#[]⟩,.string ⟨#[]⟩],.bool false,.int .i64 0])) (cC:CV 59 #[.agg #[.string (ratB lA),.string (ratB lB),.string (ratB lC)],.agg #[.string (ratB p6),.string (ratB p7)],.agg #[.string (ratB p9),.string (ratB p10)]] (.tuple #[.string ⟨#[]⟩,.bool false,.int .i64 0])) (w:World) (R:EnvV w) :
   Calls Tryz.prog 8 #[.agg #[.int .i16 i0,.int .u8 g0,.int .i16 i1,.int .u8 g1,.int .i16 i2,.int .u8 g2,.int .i16 i3,.int .u8 g3,.int .i16 i4,.int .u8 g4,.int .i16 i5,.int .u8 g5],.agg #[.int .i16 i6,.int .u8 g6,.int .i16 i7,.int .u8 g7,.int .i16 i8,.int .u8 g8,.int .i16 i9,.int .u8 g9,.int .i16 i10,.int .u8 g10,.int .i16 i11,.int .u8 g11]] w (Ret w (.bool true)):=by
 have Co:=RN_sub (N:=8) k1.rn k4.rn
 have Cp:=RN_sub (N:=8) k3.rn k0.rn
 have Cq:=RN_sub (N:=8) k7.rn k10.rn
 have Cr:=RN_sub (N:=8) k9.rn k6.rn
 have Ax:RN lA 9 6:=eA ▸ Co
 have Ay:RN lB 9 6:=eB ▸ Cp
 have Cc:RN mA 9 6:=eF ▸ Cq
 have Cd:RN mB 9 6:=eG ▸ Cr
 have Cf:=RN_mul Ax k0.rn
 have Cg:=RN_mul Ay k1.rn
 have Ce:=RN_add (N:=23) Cf Cg
 have Bd:RN lC 24 18:=eC ▸ Ce
 have Cs:=RN_mul Cc k6.rn
 have Ct:=RN_mul Cd k7.rn
 have Cu:=RN_add (N:=23) Cs Ct
 have D1:RN mC 24 18:=eH ▸ Cu
 have Ch:=RN_mul Ax k6.rn
 have Ci:=RN_mul Ay k7.rn
 have Cj:=RN_add (N:=23) Ch Ci
 have Cv:=RN_sub (N:=42) Cj Bd
 have D2:RN lu 43 36:=eU ▸ Cv
 have Ck:=RN_mul Ax k9.rn
 have Cm:=RN_mul Ay k10.rn
 have Cn:=RN_add (N:=23) Ck Cm
 have Cw:=RN_sub (N:=42) Cn Bd
 have D3:RN lv 43 36:=eV ▸ Cw
 have D4:=RN_sub (N:=25) Ce rn_0
 have D5:=RN_mul Ax Cd
 have D6:=RN_mul Ay Cc
 have c1:=known5_any
 have c2:=makeP i0 g0 i1 g1 i2 g2 p0 p1 p2 k0 k1 k2
 have c3:=makeP i3 g3 i4 g4 i5 g5 p3 p4 p5 k3 k4 k5
 have c4:=makeP i6 g6 i7 g7 i8 g8 p6 p7 p8 k6 k7 k8
 have c5:=makeP i9 g9 i10 g10 i11 g11 p9 p10 p11 k9 k10 k11
 have c6:=cT0
 have c7:=cT1
 have c8:CV 55 #[.string (ratB p1),.string (ratB p4)] (.string (ratB lA)):=fun w R=>(by have h:=refRSub_any p1 p4 k1.rn.r4 k4.rn.r4 w R.toEnvR;rw [eA] at h;exact h)
 have c9:CV 55 #[.string (ratB p3),.string (ratB p0)] (.string (ratB lB)):=fun w R=>(by have h:=refRSub_any p3 p0 k3.rn.r4 k0.rn.r4 w R.toEnvR;rw [eB] at h;exact h)
 have c12:CV 56 #[.string (ratB lA),.string (ratB lB),.string ⟨#[48]⟩,.agg #[.string (ratB p0),.string (ratB p1)]] (.string (ratB lC)):=fun w R=>(by have h:=(by have h:=refPValue lA lB (0:Rat) p0 p1 Ax.r4 k0.rn.r4 Ay.r4 k1.rn.r4 Cf.r4 Cg.r4 Ce.r4 (RN.rl (K:=400) rn_0) w R.toEnvR;simp only [rb_0] at h;exact h);rw [show ((lA*p0)+(lB*p1)) - (0:Rat)=lC from by rw [← eC];grind] at h;exact h)
 have c13:=cM
 have c14:=fun (w:World) (R:EnvV w)=>refRMul_any lA mB w R.toEnvR Ax.r4 Cd.r4
 have c15:=fun (w:World) (R:EnvV w)=>refRMul_any lB mA w R.toEnvR Ay.r4 Cc.r4
 have c16:=cC
 have c17:CV 56 #[.string (ratB lA),.string (ratB lB),.string (ratB lC),.agg #[.string (ratB p6),.string (ratB p7)]] (.string (ratB lu)):=fun w R=>(by have h:=refPValue lA lB lC p6 p7 Ax.r4 k6.rn.r4 Ay.r4 k7.rn.r4 Ch.r4 Ci.r4 Cj.r4 Bd.r4 w R.toEnvR;rw [eU] at h;exact h)
 have c18:CV 56 #[.string (ratB lA),.string (ratB lB),.string (ratB lC),.agg #[.string (ratB p9),.string (ratB p10)]] (.string (ratB lv)):=fun w R=>(by have h:=refPValue lA lB lC p9 p10 Ax.r4 k9.rn.r4 Ay.r4 k10.rn.r4 Ck.r4 Cm.r4 Cn.r4 Bd.r4 w R.toEnvR;rw [eV] at h;exact h)
 have c19:=fun (w:World) (R:EnvV w)=>refRSign_any lu w R.toEnvR
 have c20:=fun (w:World) (R:EnvV w)=>refRSign_any lv w R.toEnvR
 have eq0:((ratB (lA*mB)).toList == (ratB (lB*mA)).toList)=true:=by rw [q0];exact beq_self_eq_true _
 have pq0:(ratB (lA*mB)).toList=(ratB (lB*mA)).toList:=by rw [q0]
 have hw:IntKind.i64.wrap (lu.num.sign*lv.num.sign)=m:=(sign_wrap _ _ (sign_in _) (sign_in _)).trans hsm
 have d0p:¬ ((ratB p0).toList=(ratB p3).toList∧(ratB p1).toList=(ratB p4).toList):=d0
 have d1p:¬ ((ratB p6).toList=(ratB p9).toList∧(ratB p7).toList=(ratB p10).toList):=d1
 have d0e:((ratB p0).toList == (ratB p3).toList && (ratB p1).toList == (ratB p4).toList)=false:=and_beq_false d0
 have d1e:((ratB p6).toList == (ratB p9).toList && (ratB p7).toList == (ratB p10).toList)=false:=and_beq_false d1
 obtain ⟨F4,Cx⟩:∃ vq,ratB (lA*mB)=vq:=⟨_,rfl⟩
 obtain ⟨F5,Cy⟩:∃ vq,ratB (lB*mA)=vq:=⟨_,rfl⟩
 obtain ⟨Be,Cz⟩:∃ vq,ratB p10=vq:=⟨_,rfl⟩
 obtain ⟨F6,C0⟩:∃ vq,ratB lA=vq:=⟨_,rfl⟩
 obtain ⟨F7,Da⟩:∃ vq,ratB lB=vq:=⟨_,rfl⟩
 obtain ⟨F8,Db⟩:∃ vq,ratB lC=vq:=⟨_,rfl⟩
 obtain ⟨F9,Dc⟩:∃ vq,ratB lu=vq:=⟨_,rfl⟩
 obtain ⟨Ga,Dd⟩:∃ vq,ratB lv=vq:=⟨_,rfl⟩
 obtain ⟨Gb,De⟩:∃ vq,ratB mA=vq:=⟨_,rfl⟩
 obtain ⟨Gc,Df⟩:∃ vq,ratB mB=vq:=⟨_,rfl⟩
 obtain ⟨Gd,Dg⟩:∃ vq,ratB mC=vq:=⟨_,rfl⟩
 obtain ⟨Bf,Dh⟩:∃ vq,ratB p0=vq:=⟨_,rfl⟩
 obtain ⟨Bg,Di⟩:∃ vq,ratB p1=vq:=⟨_,rfl⟩
 obtain ⟨Bh,Dj⟩:∃ vq,ratB p3=vq:=⟨_,rfl⟩
 obtain ⟨Bi,Dk⟩:∃ vq,ratB p4=vq:=⟨_,rfl⟩
 obtain ⟨Bj,Dl⟩:∃ vq,ratB p6=vq:=⟨_,rfl⟩
 obtain ⟨Bk,Dm⟩:∃ vq,ratB p7=vq:=⟨_,rfl⟩
 obtain ⟨Bl,Dn⟩:∃ vq,ratB p9=vq:=⟨_,rfl⟩
 try simp only [Cx,Cy,Cz,C0,Da,Db,Dc,Dd,De,Df,Dg,Dh,Di,Dj,Dk,Dl,Dm,Dn] at c1 c2 c3 c4 c5 c6 c7 c8 c9 c12 c13 c14 c15 c16 c17 c18 c19 c20 eq0 pq0 hw d0p d1p d0e d1e ⊢
 obtain ⟨su,esu⟩:∃ vq,lu.num.sign=vq:=⟨_,rfl⟩
 try simp only [esu] at c1 c2 c3 c4 c5 c6 c7 c8 c9 c12 c13 c14 c15 c16 c17 c18 c19 c20 eq0 pq0 hw d0p d1p d0e d1e ⊢
 obtain ⟨sv,esv⟩:∃ vq,lv.num.sign=vq:=⟨_,rfl⟩
 try simp only [esv] at c1 c2 c3 c4 c5 c6 c7 c8 c9 c12 c13 c14 c15 c16 c17 c18 c19 c20 eq0 pq0 hw d0p d1p d0e d1e ⊢
 have C1:=Lib.hid c1
 have C2:=Lib.hid c2
 have C3:=Lib.hid c3
 have C4:=Lib.hid c4
 have C5:=Lib.hid c5
 have C6:=Lib.hid c6
 have C7:=Lib.hid c7
 have C8:=Lib.hid c8
 have C9:=Lib.hid c9
 have C12:=Lib.hid c12
 have C13:=Lib.hid c13
 have C14:=Lib.hid c14
 have C15:=Lib.hid c15
 have C16:=Lib.hid c16
 have C17:=Lib.hid c17
 have C18:=Lib.hid c18
 have C19:=Lib.hid c19
 have C20:=Lib.hid c20
 clear c1 c2 c3 c4 c5 c6 c7 c8 c9 c12 c13 c14 c15 c16 c17 c18 c19 c20 Cx Cy Cz C0 Da Db Dc Dd De Df Dg Dh Di Dj Dk Dl Dm Dn esu esv Co Cp Cq Cr Ax Ay Cc Cd Cf Cg Ce Bd Cs Ct Cu D1 Ch Ci Cj Cv D2 Ck Cm Cn Cw D3 D4 D5 D6 k0 k1 k2 k3 k4 k5 k6 k7 k8 k9 k10 k11 q0 hsm d0 d1 cT0 cT1 cM cC eA eB eC eF eG eH eU eV
 have hb:=Below.refl w.heap.size w
 go_enter Tryz.func8,Tryz.ntmps8
 go_upto_region 1 with fail
 refine wp_alloc2 (fun w1 a0 a1 hk=>?_)
 replace hb:=hb.trans (hk.mono hb.size)
 clear hk
 obtain ⟨Bm,Bn,Bo,Bp,Bq,Br,Bs,Bt,Bu,Bv,Bw,Bx⟩:=ce12 a0
 obtain ⟨By,Bz,B0,B1,B2,B3,B4,B5,B6,B7,B8,B9⟩:=ce12 a1
 go_upto_region 3 with (go_at_call 13;with_reducible refine (chVB hb R C1).mono ?_;clear hb;rintro e w1 ⟨rfl,hk,hb⟩;clear Bm Bn Bo Bp Bq Br Bs Bt Bu Bv Bw Bx By Bz B0 B1 B2 B3 B4 B5 B6 B7 B8 B9;replace a0:=zB hk a0;replace a1:=zB hk a1;obtain ⟨Bm,Bn,Bo,Bp,Bq,Br,Bs,Bt,Bu,Bv,Bw,Bx⟩:=ce12 a0;obtain ⟨By,Bz,B0,B1,B2,B3,B4,B5,B6,B7,B8,B9⟩:=ce12 a1;clear hk)
 obtain ⟨D7,D8,D9,Fa,Fb,Fc,Fd,Fe,Ff,Fg,Fh,Fi⟩:=cy12 a0
 obtain ⟨Fj,Fk,Fl,Fm,Fn,Fo,Fp,Fq,Fs,Ft,Fu,Fv⟩:=cy12 a1
 have Fw:=rrV C2 R hb
 have Fx:=rrV C3 R hb
 have Fy:=rrV C4 R hb
 have Fz:=rrV C5 R hb
 have Do:=qqV C2 R hb
 have Dp:=qqV C3 R hb
 have Dq:=qqV C4 R hb
 have Dr:=qqV C5 R hb
 refine wp_free4 12 0 (fun i=>if i=12 then Obj.cells #[Value.string ⟨#[]⟩,Value.string ⟨#[]⟩] 30 else if i=13 then Obj.cells #[Value.string ⟨#[]⟩,Value.string ⟨#[]⟩] 30 else if i=14 then Obj.cells #[Value.string ⟨#[]⟩,Value.string ⟨#[]⟩] 30 else if i=15 then Obj.cells #[Value.string ⟨#[]⟩,Value.string ⟨#[]⟩] 30 else Obj.cells #[] 0) (fun i=>if i=12 then Obj.cells #[Value.string Bf,Value.string Bg] 30 else if i=13 then Obj.cells #[Value.string Bh,Value.string Bi] 30 else if i=14 then Obj.cells #[Value.string Bj,Value.string Bk] 30 else if i=15 then Obj.cells #[Value.string Bl,Value.string Be] 30 else Obj.cells #[] 0) (some 5) (some 6) (some 7) (some 8) (by first | assumption | kernel_rfl) (by kernel_rfl) ?lay rfl rfl rfl rfl ?_
 case lay =>
   intro i h1 h2
   obtain rfl | rfl | rfl | rfl:i=12∨i=13∨i=14∨i=15:=by omega
   all_goals exact ⟨_,rfl,rfl,fun a w=>(by first | (go_simp;done) | (go_simp;rfl))⟩
 simp only [List.take_succ_cons,List.take_zero]
 repeat (refine wpB_step (fun K hK=>?_);go_simp;first | (refine hK _ ?_;clear hK K) | (apply Exists.intro;refine ⟨fun _=>?_,hK _ ?_⟩;(first | (with_reducible exact Do.out _ _) | (with_reducible exact Dp.out _ _) | (with_reducible exact Dq.out _ _) | (with_reducible exact Dr.out _ _));clear hK K))
 refine wpB_nil ?_
 intro Az A0 A1 A2
 refine ⟨?_,?_,?_,?_,?_⟩
 · refine ⟨_,rfl,rfl,rfl,fun cs b h=>(by cases h),fun w hw=>?_⟩
   replace hw:w.heap[Az]? = some (Obj.cells #[Value.string ⟨#[]⟩,Value.string ⟨#[]⟩] 30):=hw
   have z0:w.cell? ⟨Az,0,none⟩=some (Value.string ⟨#[]⟩):=zA hw
   have y0:w.frozen? ⟨Az,0,none⟩=false:=zD hw
   have z1:w.cell? ⟨Az,1,none⟩=some (Value.string ⟨#[]⟩):=zA hw
   have y1:w.frozen? ⟨Az,1,none⟩=false:=zD hw
   refine ⟨_,?_,(Wrote.set (i:=1) (Wrote.set (i:=0) (Wrote.refl hw) (Value.string Bf)) (Value.string Bg))⟩
   go_simp
 · refine ⟨_,rfl,rfl,rfl,fun cs b h=>(by cases h),fun w hw=>?_⟩
   replace hw:w.heap[A0]? = some (Obj.cells #[Value.string ⟨#[]⟩,Value.string ⟨#[]⟩] 30):=hw
   have z0:w.cell? ⟨A0,0,none⟩=some (Value.string ⟨#[]⟩):=zA hw
   have y0:w.frozen? ⟨A0,0,none⟩=false:=zD hw
   have z1:w.cell? ⟨A0,1,none⟩=some (Value.string ⟨#[]⟩):=zA hw
   have y1:w.frozen? ⟨A0,1,none⟩=false:=zD hw
   refine ⟨_,?_,(Wrote.set (i:=1) (Wrote.set (i:=0) (Wrote.refl hw) (Value.string Bh)) (Value.string Bi))⟩
   go_simp
 · refine ⟨_,rfl,rfl,rfl,fun cs b h=>(by cases h),fun w hw=>?_⟩
   replace hw:w.heap[A1]? = some (Obj.cells #[Value.string ⟨#[]⟩,Value.string ⟨#[]⟩] 30):=hw
   have z0:w.cell? ⟨A1,0,none⟩=some (Value.string ⟨#[]⟩):=zA hw
   have y0:w.frozen? ⟨A1,0,none⟩=false:=zD hw
   have z1:w.cell? ⟨A1,1,none⟩=some (Value.string ⟨#[]⟩):=zA hw
   have y1:w.frozen? ⟨A1,1,none⟩=false:=zD hw
   refine ⟨_,?_,(Wrote.set (i:=1) (Wrote.set (i:=0) (Wrote.refl hw) (Value.string Bj)) (Value.string Bk))⟩
   go_simp
 · refine ⟨_,rfl,rfl,rfl,fun cs b h=>(by cases h),fun w hw=>?_⟩
   replace hw:w.heap[A2]? = some (Obj.cells #[Value.string ⟨#[]⟩,Value.string ⟨#[]⟩] 30):=hw
   have z0:w.cell? ⟨A2,0,none⟩=some (Value.string ⟨#[]⟩):=zA hw
   have y0:w.frozen? ⟨A2,0,none⟩=false:=zD hw
   have z1:w.cell? ⟨A2,1,none⟩=some (Value.string ⟨#[]⟩):=zA hw
   have y1:w.frozen? ⟨A2,1,none⟩=false:=zD hw
   refine ⟨_,?_,(Wrote.set (i:=1) (Wrote.set (i:=0) (Wrote.refl hw) (Value.string Bl)) (Value.string Be))⟩
   go_simp
 intro w1 hk m0 m1 m2 m3 Ai Aj Aa Ab _ _ _ _ _ _
 clear Bm Bn Bo Bp Bq Br Bs Bt Bu Bv Bw Bx By Bz B0 B1 B2 B3 B4 B5 B6 B7 B8 B9
 replace a0:=zB hk a0
 replace a1:=zB hk a1
 obtain ⟨Bm,Bn,Bo,Bp,Bq,Br,Bs,Bt,Bu,Bv,Bw,Bx⟩:=ce12 a0
 obtain ⟨By,Bz,B0,B1,B2,B3,B4,B5,B6,B7,B8,B9⟩:=ce12 a1
 replace hb:=hb.trans (hk.mono hb.size)
 clear hk
 replace Ai:w1.heap[Az]? = some (Obj.cells #[Value.string Bf,Value.string Bg] 30):=Ai
 have Ar:w1.cell? ⟨Az,0,none⟩=some (Value.string Bf):=zA Ai
 have As:w1.cell? ⟨Az,1,none⟩=some (Value.string Bg):=zA Ai
 replace Aj:w1.heap[A0]? = some (Obj.cells #[Value.string Bh,Value.string Bi] 30):=Aj
 have At:w1.cell? ⟨A0,0,none⟩=some (Value.string Bh):=zA Aj
 have Au:w1.cell? ⟨A0,1,none⟩=some (Value.string Bi):=zA Aj
 replace Aa:w1.heap[A1]? = some (Obj.cells #[Value.string Bj,Value.string Bk] 30):=Aa
 have Ae:w1.cell? ⟨A1,0,none⟩=some (Value.string Bj):=zA Aa
 have Af:w1.cell? ⟨A1,1,none⟩=some (Value.string Bk):=zA Aa
 replace Ab:w1.heap[A2]? = some (Obj.cells #[Value.string Bl,Value.string Be] 30):=Ab
 have Ag:w1.cell? ⟨A2,0,none⟩=some (Value.string Bl):=zA Ab
 have Ah:w1.cell? ⟨A2,1,none⟩=some (Value.string Be):=zA Ab
 clear Do Dp Dq Dr Fw Fx Fy Fz D7 D8 D9 Fa Fb Fc Fd Fe Ff Fg Fh Fi Fj Fk Fl Fm Fn Fo Fp Fq Fs Ft Fu Fv m0 m1 m2 m3
 go_upto_region 5 with (go_at_call 54;with_reducible refine (chVB hb R C6).mono ?_;clear hb;rintro e w1 ⟨rfl,hk,hb⟩;clear Ar As At Au Ae Af Ag Ah;replace Ai:=zB hk Ai;replace Aj:=zB hk Aj;replace Aa:=zB hk Aa;replace Ab:=zB hk Ab;obtain ⟨Ar,As⟩:=ce2 Ai;obtain ⟨At,Au⟩:=ce2 Aj;obtain ⟨Ae,Af⟩:=ce2 Aa;obtain ⟨Ag,Ah⟩:=ce2 Ab;clear hk)
 clear Bm Bn Bo Bp Bq Br Bs Bt Bu Bv Bw Bx a0 By Bz B0 B1 B2 B3 B4 B5 B6 B7 B8 B9 a1
 refine wp_alloc1 (fun w1 Ac hk=>?_)
 clear Ar As At Au Ae Af Ag Ah
 replace Ai:=zB hk Ai
 replace Aj:=zB hk Aj
 replace Aa:=zB hk Aa
 replace Ab:=zB hk Ab
 obtain ⟨Ar,As⟩:=ce2 Ai
 obtain ⟨At,Au⟩:=ce2 Aj
 obtain ⟨Ae,Af⟩:=ce2 Aa
 obtain ⟨Ag,Ah⟩:=ce2 Ab
 replace hb:=hb.trans (hk.mono hb.size)
 clear hk
 obtain ⟨Ak,Al,Am⟩:=ce3 Ac
 go_upto_region 6 with (go_at_call 54;with_reducible refine (chVB hb R C7).mono ?_;clear hb;rintro e w1 ⟨rfl,hk,hb⟩;clear Ak Al Am Ar As At Au Ae Af Ag Ah;replace Ac:=zB hk Ac;replace Ai:=zB hk Ai;replace Aj:=zB hk Aj;replace Aa:=zB hk Aa;replace Ab:=zB hk Ab;obtain ⟨Ak,Al,Am⟩:=ce3 Ac;obtain ⟨Ar,As⟩:=ce2 Ai;obtain ⟨At,Au⟩:=ce2 Aj;obtain ⟨Ae,Af⟩:=ce2 Aa;obtain ⟨Ag,Ah⟩:=ce2 Ab;clear hk)
 refine wp_alloc1 (fun w1 Ad hk=>?_)
 clear Ak Al Am Ar As At Au Ae Af Ag Ah
 replace Ac:=zB hk Ac
 replace Ai:=zB hk Ai
 replace Aj:=zB hk Aj
 replace Aa:=zB hk Aa
 replace Ab:=zB hk Ab
 obtain ⟨Ak,Al,Am⟩:=ce3 Ac
 obtain ⟨Ar,As⟩:=ce2 Ai
 obtain ⟨At,Au⟩:=ce2 Aj
 obtain ⟨Ae,Af⟩:=ce2 Aa
 obtain ⟨Ag,Ah⟩:=ce2 Ab
 replace hb:=hb.trans (hk.mono hb.size)
 clear hk
 obtain ⟨Ao,Ap,Aq⟩:=ce3 Ad
 go_upto_region 6 with fail
 refine wp_to (fun a=>((((((((a.put (some 49) (.agg #[.string Bf,.string Bg])).put (some 50) (.agg #[.string Bh,.string Bi])).put (some 51) (.bool false)).put (some 52) (.bool false)).put (some 53) (.agg #[.string Bj,.string Bk])).put (some 54) (.agg #[.string Bl,.string Be])).put (some 55) (.bool false)).put (some 56) (.bool false))) ?_ ?_
 · go_wp2
   all_goals first | exact ⟨rfl,rfl,rfl⟩ | exact (d0p ⟨by assumption,by assumption⟩).elim | exact (d1p ⟨by assumption,by assumption⟩).elim
 simp only [Act.put,List.setIfInBounds_toArray,List.set_cons_zero,List.set_cons_succ]
 go_upto_region 8 with fail
 obtain ⟨A3,A4,A5⟩:=cy3 Ac
 obtain ⟨A6,A7,A8⟩:=cy3 Ad
 obtain ⟨F0,F1⟩:=cy2 Ai
 obtain ⟨F2,F3⟩:=cy2 Aj
 obtain ⟨A9,Ba⟩:=cy2 Aa
 obtain ⟨Bb,Bc⟩:=cy2 Ab
 have Ds:=rrV C8 R hb
 have Dt:=rrV C9 R hb
 have Du:=rrV C8 R hb
 have Dv:=rrV C9 R hb
 have Dw:=rrV C12 R hb
 refine wp_region_quiet_below (by first | assumption | kernel_rfl) (by kernel_rfl) ?_
 repeat (quiet_step (first | (with_reducible exact Ds.out _ _) | (with_reducible exact Dt.out _ _) | (with_reducible exact Du.out _ _) | (with_reducible exact Dv.out _ _) | (with_reducible exact Dw.out _ _)))
 refine wpQuiet_nil ?_
 intro w1 hw'
 obtain ⟨hk,hb⟩:=zQ hb hw'
 clear Ak Al Am Ao Ap Aq Ar As At Au Ae Af Ag Ah
 replace Ac:=zB hk Ac
 replace Ad:=zB hk Ad
 replace Ai:=zB hk Ai
 replace Aj:=zB hk Aj
 replace Aa:=zB hk Aa
 replace Ab:=zB hk Ab
 obtain ⟨Ak,Al,Am⟩:=ce3 Ac
 obtain ⟨Ao,Ap,Aq⟩:=ce3 Ad
 obtain ⟨Ar,As⟩:=ce2 Ai
 obtain ⟨At,Au⟩:=ce2 Aj
 obtain ⟨Ae,Af⟩:=ce2 Aa
 obtain ⟨Ag,Ah⟩:=ce2 Ab
 clear Ds Dt Du Dv Dw A3 A4 A5 A6 A7 A8 F0 F1 F2 F3 A9 Ba Bb Bc
 clear hk hw'
 go_upto_region 11 with (go_at_call 57;with_reducible refine (chVB hb R C13).mono ?_;clear hb;rintro e w1 ⟨rfl,hk,hb⟩;clear Ak Al Am Ao Ap Aq Ae Af Ag Ah;replace Ac:=zB hk Ac;replace Ad:=zB hk Ad;replace Aa:=zB hk Aa;replace Ab:=zB hk Ab;obtain ⟨Ak,Al,Am⟩:=ce3 Ac;obtain ⟨Ao,Ap,Aq⟩:=ce3 Ad;obtain ⟨Ae,Af⟩:=ce2 Aa;obtain ⟨Ag,Ah⟩:=ce2 Ab;clear hk)
 clear Ar As Ai At Au Aj
 refine wp_alloc1 (fun w1 An hk=>?_)
 clear Ak Al Am Ao Ap Aq Ae Af Ag Ah
 replace Ac:=zB hk Ac
 replace Ad:=zB hk Ad
 replace Aa:=zB hk Aa
 replace Ab:=zB hk Ab
 obtain ⟨Ak,Al,Am⟩:=ce3 Ac
 obtain ⟨Ao,Ap,Aq⟩:=ce3 Ad
 obtain ⟨Ae,Af⟩:=ce2 Aa
 obtain ⟨Ag,Ah⟩:=ce2 Ab
 replace hb:=hb.trans (hk.mono hb.size)
 clear hk
 obtain ⟨Av,Aw⟩:=ce2 An
 obtain ⟨A3,A4,A5⟩:=cy3 Ac
 obtain ⟨A6,A7,A8⟩:=cy3 Ad
 obtain ⟨Ca,Cb⟩:=cy2 An
 obtain ⟨A9,Ba⟩:=cy2 Aa
 obtain ⟨Bb,Bc⟩:=cy2 Ab
 have Dx:=rrV C14 R hb
 have Dy:=rrV C15 R hb
 refine wp_region_quiet_below (by first | assumption | kernel_rfl) (by kernel_rfl) ?_
 repeat (quiet_step (first | (with_reducible exact Dx.out _ _) | (with_reducible exact Dy.out _ _)))
 refine wpQuiet_nil ?_
 intro w1 hw'
 obtain ⟨hk,hb⟩:=zQ hb hw'
 clear Ak Al Am Ao Ap Aq Av Aw Ae Af Ag Ah
 replace Ac:=zB hk Ac
 replace Ad:=zB hk Ad
 replace An:=zB hk An
 replace Aa:=zB hk Aa
 replace Ab:=zB hk Ab
 obtain ⟨Ak,Al,Am⟩:=ce3 Ac
 obtain ⟨Ao,Ap,Aq⟩:=ce3 Ad
 obtain ⟨Av,Aw⟩:=ce2 An
 obtain ⟨Ae,Af⟩:=ce2 Aa
 obtain ⟨Ag,Ah⟩:=ce2 Ab
 clear Dx Dy A3 A4 A5 A6 A7 A8 Ca Cb A9 Ba Bb Bc
 clear hk hw'
 go_upto_region 15 with (go_at_call 59;with_reducible refine (chVB hb R C16).mono ?_;clear hb;rintro e w1 ⟨rfl,hk,hb⟩;clear Ak Al Am Ao Ap Aq Av Aw Ae Af Ag Ah;replace Ac:=zB hk Ac;replace Ad:=zB hk Ad;replace An:=zB hk An;replace Aa:=zB hk Aa;replace Ab:=zB hk Ab;obtain ⟨Ak,Al,Am⟩:=ce3 Ac;obtain ⟨Ao,Ap,Aq⟩:=ce3 Ad;obtain ⟨Av,Aw⟩:=ce2 An;obtain ⟨Ae,Af⟩:=ce2 Aa;obtain ⟨Ag,Ah⟩:=ce2 Ab;clear hk)
 obtain ⟨A3,A4,A5⟩:=cy3 Ac
 obtain ⟨A6,A7,A8⟩:=cy3 Ad
 obtain ⟨Ca,Cb⟩:=cy2 An
 obtain ⟨A9,Ba⟩:=cy2 Aa
 obtain ⟨Bb,Bc⟩:=cy2 Ab
 have Dz:=rrV C17 R hb
 have D0:=rrV C18 R hb
 refine wp_region_quiet_below (by first | assumption | kernel_rfl) (by kernel_rfl) ?_
 repeat (quiet_step (first | (with_reducible exact Dz.out _ _) | (with_reducible exact D0.out _ _)))
 refine wpQuiet_nil ?_
 intro w1 hw'
 obtain ⟨hk,hb⟩:=zQ hb hw'
 clear Ak Al Am Ao Ap Aq Av Aw Ae Af Ag Ah
 replace Ac:=zB hk Ac
 replace Ad:=zB hk Ad
 replace An:=zB hk An
 replace Aa:=zB hk Aa
 replace Ab:=zB hk Ab
 obtain ⟨Ak,Al,Am⟩:=ce3 Ac
 obtain ⟨Ao,Ap,Aq⟩:=ce3 Ad
 obtain ⟨Av,Aw⟩:=ce2 An
 obtain ⟨Ae,Af⟩:=ce2 Aa
 obtain ⟨Ag,Ah⟩:=ce2 Ab
 clear Dz D0 A3 A4 A5 A6 A7 A8 Ca Cb A9 Ba Bb Bc
 clear hk hw'
 go_upto_region 19 with ((go_at_call 42;first | with_reducible refine (chVB hb R C19).mono ?_ | with_reducible refine (chVB hb R C20).mono ?_);clear hb;rintro e w1 ⟨rfl,hk,hb⟩;clear Ak Al Am Ao Ap Aq Av Aw Ae Af Ag Ah;replace Ac:=zB hk Ac;replace Ad:=zB hk Ad;replace An:=zB hk An;replace Aa:=zB hk Aa;replace Ab:=zB hk Ab;obtain ⟨Ak,Al,Am⟩:=ce3 Ac;obtain ⟨Ao,Ap,Aq⟩:=ce3 Ad;obtain ⟨Av,Aw⟩:=ce2 An;obtain ⟨Ae,Af⟩:=ce2 Aa;obtain ⟨Ag,Ah⟩:=ce2 Ab;clear hk)
 go_quiet (fail)
 go_wp2
 first | go_ret | go_ret2 | go_ret3
 exact ⟨rfl,hb.trans ((below_drewN _ _).mono hb.size)⟩
theorem lines_pz  (i0 g0 i1 g1 i2 g2 i3 g3 i4 g4 i5 g5 i6 g6 i7 g7 i8 g8 i9 g9 i10 g10 i11 g11:Int) (p0 p1 p2 p3 p4 p5 p6 p7 p8 p9 p10 p11:Rat) (k0:SmallIs i0 g0 p0) (k1:SmallIs i1 g1 p1) (k2:SmallIs i2 g2 p2) (k3:SmallIs i3 g3 p3) (k4:SmallIs i4 g4 p4) (k5:SmallIs i5 g5 p5) (k6:SmallIs i6 g6 p6) (k7:SmallIs i7 g7 p7) (k8:SmallIs i8 g8 p8) (k9:SmallIs i9 g9 p9) (k10:SmallIs i10 g10 p10) (k11:SmallIs i11 g11 p11) (lA lB lC mA mB mC lu lv:Rat) (eA:p1 - p4=lA) (eB:p3 - p0=lB) (eC:(lA*p0)+(lB*p1)=lC) (eF:p7 - p10=mA) (eG:p9 - p6=mB) (eH:(mA*p6)+(mB*p7)=mC) (eU:((lA*p6)+(lB*p7)) - lC=lu) (eV:((lA*p9)+(lB*p10)) - lC=lv) (q0:(lA*mB)=(lB*mA)) (q1:lu=0) (q2:lv=0) (m:Int) (hsm:lu.num.sign*lv.num.sign=m) (_hm:m≤0) (d0:¬ ((ratB p0).toList=(ratB p3).toList∧(ratB p1).toList=(ratB p4).toList)) (d1:¬ ((ratB p6).toList=(ratB p9).toList∧(ratB p7).toList=(ratB p10).toList)) (cT0:CV 54 #[.agg #[.string (ratB p0),.string (ratB p1)],.agg #[.string (ratB p3),.string (ratB p4)]] (.tuple #[.agg #[.string (ratB lA),.string (ratB lB),.string (ratB lC)],.int .i64 0])) (cT1:CV 54 #[.agg #[.string (ratB p6),.string (ratB p7)],.agg #[.string (ratB p9),.string (ratB p10)]] (.tuple #[.agg #[.string (ratB mA),.string (ratB mB),.string (ratB mC)],.int .i64 0])) (cM:CV 57 #[.agg #[.string (ratB lA),.string (ratB lB),.string (ratB lC)],.agg #[.string (ratB mA),.string (ratB mB),.string (ratB mC)]] (.tuple #[.agg #[.string ⟨#[]⟩,.string ⟨#[]⟩],.bool false,.int .i64 0])) (cC:CV 59 #[.agg #[.string (ratB lA),.string (ratB lB),.string (ratB lC)],.agg #[.string (ratB p6),.string (ratB p7)],.agg #[.string (ratB p9),.string (ratB p10)]] (.tuple #[.string ⟨#[]⟩,.bool false,.int .i64 0])) (w:World) (R:EnvV w) :
   Calls Tryz.prog 8 #[.agg #[.int .i16 i0,.int .u8 g0,.int .i16 i1,.int .u8 g1,.int .i16 i2,.int .u8 g2,.int .i16 i3,.int .u8 g3,.int .i16 i4,.int .u8 g4,.int .i16 i5,.int .u8 g5],.agg #[.int .i16 i6,.int .u8 g6,.int .i16 i7,.int .u8 g7,.int .i16 i8,.int .u8 g8,.int .i16 i9,.int .u8 g9,.int .i16 i10,.int .u8 g10,.int .i16 i11,.int .u8 g11]] w (Ret w (.bool true)):=by
 have Co:=RN_sub (N:=8) k1.rn k4.rn
 have Cp:=RN_sub (N:=8) k3.rn k0.rn
 have Cq:=RN_sub (N:=8) k7.rn k10.rn
 have Cr:=RN_sub (N:=8) k9.rn k6.rn
 have Ax:RN lA 9 6:=eA ▸ Co
 have Ay:RN lB 9 6:=eB ▸ Cp
 have Cc:RN mA 9 6:=eF ▸ Cq
 have Cd:RN mB 9 6:=eG ▸ Cr
 have Cf:=RN_mul Ax k0.rn
 have Cg:=RN_mul Ay k1.rn
 have Ce:=RN_add (N:=23) Cf Cg
 have Bd:RN lC 24 18:=eC ▸ Ce
 have Cs:=RN_mul Cc k6.rn
 have Ct:=RN_mul Cd k7.rn
 have Cu:=RN_add (N:=23) Cs Ct
 have D1:RN mC 24 18:=eH ▸ Cu
 have Ch:=RN_mul Ax k6.rn
 have Ci:=RN_mul Ay k7.rn
 have Cj:=RN_add (N:=23) Ch Ci
 have Cv:=RN_sub (N:=42) Cj Bd
 have D2:RN lu 43 36:=eU ▸ Cv
 have Ck:=RN_mul Ax k9.rn
 have Cm:=RN_mul Ay k10.rn
 have Cn:=RN_add (N:=23) Ck Cm
 have Cw:=RN_sub (N:=42) Cn Bd
 have D3:RN lv 43 36:=eV ▸ Cw
 have D4:=RN_sub (N:=25) Ce rn_0
 have D5:=RN_mul Ax Cd
 have D6:=RN_mul Ay Cc
 have c1:=known5_any
 have c2:=makeP i0 g0 i1 g1 i2 g2 p0 p1 p2 k0 k1 k2
 have c3:=makeP i3 g3 i4 g4 i5 g5 p3 p4 p5 k3 k4 k5
 have c4:=makeP i6 g6 i7 g7 i8 g8 p6 p7 p8 k6 k7 k8
 have c5:=makeP i9 g9 i10 g10 i11 g11 p9 p10 p11 k9 k10 k11
 have c6:=cT0
 have c7:=cT1
 have c8:CV 55 #[.string (ratB p1),.string (ratB p4)] (.string (ratB lA)):=fun w R=>(by have h:=refRSub_any p1 p4 k1.rn.r4 k4.rn.r4 w R.toEnvR;rw [eA] at h;exact h)
 have c9:CV 55 #[.string (ratB p3),.string (ratB p0)] (.string (ratB lB)):=fun w R=>(by have h:=refRSub_any p3 p0 k3.rn.r4 k0.rn.r4 w R.toEnvR;rw [eB] at h;exact h)
 have c12:CV 56 #[.string (ratB lA),.string (ratB lB),.string ⟨#[48]⟩,.agg #[.string (ratB p0),.string (ratB p1)]] (.string (ratB lC)):=fun w R=>(by have h:=(by have h:=refPValue lA lB (0:Rat) p0 p1 Ax.r4 k0.rn.r4 Ay.r4 k1.rn.r4 Cf.r4 Cg.r4 Ce.r4 (RN.rl (K:=400) rn_0) w R.toEnvR;simp only [rb_0] at h;exact h);rw [show ((lA*p0)+(lB*p1)) - (0:Rat)=lC from by rw [← eC];grind] at h;exact h)
 have c13:=cM
 have c14:=fun (w:World) (R:EnvV w)=>refRMul_any lA mB w R.toEnvR Ax.r4 Cd.r4
 have c15:=fun (w:World) (R:EnvV w)=>refRMul_any lB mA w R.toEnvR Ay.r4 Cc.r4
 have c16:=cC
 have c17:CV 56 #[.string (ratB lA),.string (ratB lB),.string (ratB lC),.agg #[.string (ratB p6),.string (ratB p7)]] (.string (ratB lu)):=fun w R=>(by have h:=refPValue lA lB lC p6 p7 Ax.r4 k6.rn.r4 Ay.r4 k7.rn.r4 Ch.r4 Ci.r4 Cj.r4 Bd.r4 w R.toEnvR;rw [eU] at h;exact h)
 have c18:CV 56 #[.string (ratB lA),.string (ratB lB),.string (ratB lC),.agg #[.string (ratB p9),.string (ratB p10)]] (.string (ratB lv)):=fun w R=>(by have h:=refPValue lA lB lC p9 p10 Ax.r4 k9.rn.r4 Ay.r4 k10.rn.r4 Ck.r4 Cm.r4 Cn.r4 Bd.r4 w R.toEnvR;rw [eV] at h;exact h)
 have c19:=fun (w:World) (R:EnvV w)=>refRSign_any lu w R.toEnvR
 have c20:=fun (w:World) (R:EnvV w)=>refRSign_any lv w R.toEnvR
 have eq0:((ratB (lA*mB)).toList == (ratB (lB*mA)).toList)=true:=by rw [q0];exact beq_self_eq_true _
 have pq0:(ratB (lA*mB)).toList=(ratB (lB*mA)).toList:=by rw [q0]
 have eq1:((ratB lu).toList == [48])=true:=by rw [ratB_eq_zero];exact decide_eq_true q1
 have pq1:(ratB lu).toList=[48]:=(zero_iff _).2 q1
 have eq2:((ratB lv).toList == [48])=true:=by rw [ratB_eq_zero];exact decide_eq_true q2
 have pq2:(ratB lv).toList=[48]:=(zero_iff _).2 q2
 have hw:IntKind.i64.wrap (lu.num.sign*lv.num.sign)=m:=(sign_wrap _ _ (sign_in _) (sign_in _)).trans hsm
 have d0p:¬ ((ratB p0).toList=(ratB p3).toList∧(ratB p1).toList=(ratB p4).toList):=d0
 have d1p:¬ ((ratB p6).toList=(ratB p9).toList∧(ratB p7).toList=(ratB p10).toList):=d1
 have d0e:((ratB p0).toList == (ratB p3).toList && (ratB p1).toList == (ratB p4).toList)=false:=and_beq_false d0
 have d1e:((ratB p6).toList == (ratB p9).toList && (ratB p7).toList == (ratB p10).toList)=false:=and_beq_false d1
 obtain ⟨F4,Cx⟩:∃ vq,ratB (lA*mB)=vq:=⟨_,rfl⟩
 obtain ⟨F5,Cy⟩:∃ vq,ratB (lB*mA)=vq:=⟨_,rfl⟩
 obtain ⟨Be,Cz⟩:∃ vq,ratB p10=vq:=⟨_,rfl⟩
 obtain ⟨F6,C0⟩:∃ vq,ratB lA=vq:=⟨_,rfl⟩
 obtain ⟨F7,Da⟩:∃ vq,ratB lB=vq:=⟨_,rfl⟩
 obtain ⟨F8,Db⟩:∃ vq,ratB lC=vq:=⟨_,rfl⟩
 obtain ⟨F9,Dc⟩:∃ vq,ratB lu=vq:=⟨_,rfl⟩
 obtain ⟨Ga,Dd⟩:∃ vq,ratB lv=vq:=⟨_,rfl⟩
 obtain ⟨Gb,De⟩:∃ vq,ratB mA=vq:=⟨_,rfl⟩
 obtain ⟨Gc,Df⟩:∃ vq,ratB mB=vq:=⟨_,rfl⟩
 obtain ⟨Gd,Dg⟩:∃ vq,ratB mC=vq:=⟨_,rfl⟩
 obtain ⟨Bf,Dh⟩:∃ vq,ratB p0=vq:=⟨_,rfl⟩
 obtain ⟨Bg,Di⟩:∃ vq,ratB p1=vq:=⟨_,rfl⟩
 obtain ⟨Bh,Dj⟩:∃ vq,ratB p3=vq:=⟨_,rfl⟩
 obtain ⟨Bi,Dk⟩:∃ vq,ratB p4=vq:=⟨_,rfl⟩
 obtain ⟨Bj,Dl⟩:∃ vq,ratB p6=vq:=⟨_,rfl⟩
 obtain ⟨Bk,Dm⟩:∃ vq,ratB p7=vq:=⟨_,rfl⟩
 obtain ⟨Bl,Dn⟩:∃ vq,ratB p9=vq:=⟨_,rfl⟩
 try simp only [Cx,Cy,Cz,C0,Da,Db,Dc,Dd,De,Df,Dg,Dh,Di,Dj,Dk,Dl,Dm,Dn] at c1 c2 c3 c4 c5 c6 c7 c8 c9 c12 c13 c14 c15 c16 c17 c18 c19 c20 eq0 pq0 eq1 pq1 eq2 pq2 hw d0p d1p d0e d1e ⊢
 obtain ⟨su,esu⟩:∃ vq,lu.num.sign=vq:=⟨_,rfl⟩
 try simp only [esu] at c1 c2 c3 c4 c5 c6 c7 c8 c9 c12 c13 c14 c15 c16 c17 c18 c19 c20 eq0 pq0 eq1 pq1 eq2 pq2 hw d0p d1p d0e d1e ⊢
 obtain ⟨sv,esv⟩:∃ vq,lv.num.sign=vq:=⟨_,rfl⟩
 try simp only [esv] at c1 c2 c3 c4 c5 c6 c7 c8 c9 c12 c13 c14 c15 c16 c17 c18 c19 c20 eq0 pq0 eq1 pq1 eq2 pq2 hw d0p d1p d0e d1e ⊢
 have C1:=Lib.hid c1
 have C2:=Lib.hid c2
 have C3:=Lib.hid c3
 have C4:=Lib.hid c4
 have C5:=Lib.hid c5
 have C6:=Lib.hid c6
 have C7:=Lib.hid c7
 have C8:=Lib.hid c8
 have C9:=Lib.hid c9
 have C12:=Lib.hid c12
 have C13:=Lib.hid c13
 have C14:=Lib.hid c14
 have C15:=Lib.hid c15
 have C16:=Lib.hid c16
 have C17:=Lib.hid c17
 have C18:=Lib.hid c18
 have C19:=Lib.hid c19
 have C20:=Lib.hid c20
 clear c1 c2 c3 c4 c5 c6 c7 c8 c9 c12 c13 c14 c15 c16 c17 c18 c19 c20 Cx Cy Cz C0 Da Db Dc Dd De Df Dg Dh Di Dj Dk Dl Dm Dn esu esv Co Cp Cq Cr Ax Ay Cc Cd Cf Cg Ce Bd Cs Ct Cu D1 Ch Ci Cj Cv D2 Ck Cm Cn Cw D3 D4 D5 D6 k0 k1 k2 k3 k4 k5 k6 k7 k8 k9 k10 k11 q0 q1 q2 hsm d0 d1 cT0 cT1 cM cC eA eB eC eF eG eH eU eV
 have hb:=Below.refl w.heap.size w
 go_enter Tryz.func8,Tryz.ntmps8
 go_upto_region 1 with fail
 refine wp_alloc2 (fun w1 a0 a1 hk=>?_)
 replace hb:=hb.trans (hk.mono hb.size)
 clear hk
 obtain ⟨Bm,Bn,Bo,Bp,Bq,Br,Bs,Bt,Bu,Bv,Bw,Bx⟩:=ce12 a0
 obtain ⟨By,Bz,B0,B1,B2,B3,B4,B5,B6,B7,B8,B9⟩:=ce12 a1
 go_upto_region 3 with (go_at_call 13;with_reducible refine (chVB hb R C1).mono ?_;clear hb;rintro e w1 ⟨rfl,hk,hb⟩;clear Bm Bn Bo Bp Bq Br Bs Bt Bu Bv Bw Bx By Bz B0 B1 B2 B3 B4 B5 B6 B7 B8 B9;replace a0:=zB hk a0;replace a1:=zB hk a1;obtain ⟨Bm,Bn,Bo,Bp,Bq,Br,Bs,Bt,Bu,Bv,Bw,Bx⟩:=ce12 a0;obtain ⟨By,Bz,B0,B1,B2,B3,B4,B5,B6,B7,B8,B9⟩:=ce12 a1;clear hk)
 obtain ⟨D7,D8,D9,Fa,Fb,Fc,Fd,Fe,Ff,Fg,Fh,Fi⟩:=cy12 a0
 obtain ⟨Fj,Fk,Fl,Fm,Fn,Fo,Fp,Fq,Fs,Ft,Fu,Fv⟩:=cy12 a1
 have Fw:=rrV C2 R hb
 have Fx:=rrV C3 R hb
 have Fy:=rrV C4 R hb
 have Fz:=rrV C5 R hb
 have Do:=qqV C2 R hb
 have Dp:=qqV C3 R hb
 have Dq:=qqV C4 R hb
 have Dr:=qqV C5 R hb
 refine wp_free4 12 0 (fun i=>if i=12 then Obj.cells #[Value.string ⟨#[]⟩,Value.string ⟨#[]⟩] 30 else if i=13 then Obj.cells #[Value.string ⟨#[]⟩,Value.string ⟨#[]⟩] 30 else if i=14 then Obj.cells #[Value.string ⟨#[]⟩,Value.string ⟨#[]⟩] 30 else if i=15 then Obj.cells #[Value.string ⟨#[]⟩,Value.string ⟨#[]⟩] 30 else Obj.cells #[] 0) (fun i=>if i=12 then Obj.cells #[Value.string Bf,Value.string Bg] 30 else if i=13 then Obj.cells #[Value.string Bh,Value.string Bi] 30 else if i=14 then Obj.cells #[Value.string Bj,Value.string Bk] 30 else if i=15 then Obj.cells #[Value.string Bl,Value.string Be] 30 else Obj.cells #[] 0) (some 5) (some 6) (some 7) (some 8) (by first | assumption | kernel_rfl) (by kernel_rfl) ?lay rfl rfl rfl rfl ?_
 case lay =>
   intro i h1 h2
   obtain rfl | rfl | rfl | rfl:i=12∨i=13∨i=14∨i=15:=by omega
   all_goals exact ⟨_,rfl,rfl,fun a w=>(by first | (go_simp;done) | (go_simp;rfl))⟩
 simp only [List.take_succ_cons,List.take_zero]
 repeat (refine wpB_step (fun K hK=>?_);go_simp;first | (refine hK _ ?_;clear hK K) | (apply Exists.intro;refine ⟨fun _=>?_,hK _ ?_⟩;(first | (with_reducible exact Do.out _ _) | (with_reducible exact Dp.out _ _) | (with_reducible exact Dq.out _ _) | (with_reducible exact Dr.out _ _));clear hK K))
 refine wpB_nil ?_
 intro Az A0 A1 A2
 refine ⟨?_,?_,?_,?_,?_⟩
 · refine ⟨_,rfl,rfl,rfl,fun cs b h=>(by cases h),fun w hw=>?_⟩
   replace hw:w.heap[Az]? = some (Obj.cells #[Value.string ⟨#[]⟩,Value.string ⟨#[]⟩] 30):=hw
   have z0:w.cell? ⟨Az,0,none⟩=some (Value.string ⟨#[]⟩):=zA hw
   have y0:w.frozen? ⟨Az,0,none⟩=false:=zD hw
   have z1:w.cell? ⟨Az,1,none⟩=some (Value.string ⟨#[]⟩):=zA hw
   have y1:w.frozen? ⟨Az,1,none⟩=false:=zD hw
   refine ⟨_,?_,(Wrote.set (i:=1) (Wrote.set (i:=0) (Wrote.refl hw) (Value.string Bf)) (Value.string Bg))⟩
   go_simp
 · refine ⟨_,rfl,rfl,rfl,fun cs b h=>(by cases h),fun w hw=>?_⟩
   replace hw:w.heap[A0]? = some (Obj.cells #[Value.string ⟨#[]⟩,Value.string ⟨#[]⟩] 30):=hw
   have z0:w.cell? ⟨A0,0,none⟩=some (Value.string ⟨#[]⟩):=zA hw
   have y0:w.frozen? ⟨A0,0,none⟩=false:=zD hw
   have z1:w.cell? ⟨A0,1,none⟩=some (Value.string ⟨#[]⟩):=zA hw
   have y1:w.frozen? ⟨A0,1,none⟩=false:=zD hw
   refine ⟨_,?_,(Wrote.set (i:=1) (Wrote.set (i:=0) (Wrote.refl hw) (Value.string Bh)) (Value.string Bi))⟩
   go_simp
 · refine ⟨_,rfl,rfl,rfl,fun cs b h=>(by cases h),fun w hw=>?_⟩
   replace hw:w.heap[A1]? = some (Obj.cells #[Value.string ⟨#[]⟩,Value.string ⟨#[]⟩] 30):=hw
   have z0:w.cell? ⟨A1,0,none⟩=some (Value.string ⟨#[]⟩):=zA hw
   have y0:w.frozen? ⟨A1,0,none⟩=false:=zD hw
   have z1:w.cell? ⟨A1,1,none⟩=some (Value.string ⟨#[]⟩):=zA hw
   have y1:w.frozen? ⟨A1,1,none⟩=false:=zD hw
   refine ⟨_,?_,(Wrote.set (i:=1) (Wrote.set (i:=0) (Wrote.refl hw) (Value.string Bj)) (Value.string Bk))⟩
   go_simp
 · refine ⟨_,rfl,rfl,rfl,fun cs b h=>(by cases h),fun w hw=>?_⟩
   replace hw:w.heap[A2]? = some (Obj.cells #[Value.string ⟨#[]⟩,Value.string ⟨#[]⟩] 30):=hw
   have z0:w.cell? ⟨A2,0,none⟩=some (Value.string ⟨#[]⟩):=zA hw
   have y0:w.frozen? ⟨A2,0,none⟩=false:=zD hw
   have z1:w.cell? ⟨A2,1,none⟩=some (Value.string ⟨#[]⟩):=zA hw
   have y1:w.frozen? ⟨A2,1,none⟩=false:=zD hw
   refine ⟨_,?_,(Wrote.set (i:=1) (Wrote.set (i:=0) (Wrote.refl hw) (Value.string Bl)) (Value.string Be))⟩
   go_simp
 intro w1 hk m0 m1 m2 m3 Ai Aj Aa Ab _ _ _ _ _ _
 clear Bm Bn Bo Bp Bq Br Bs Bt Bu Bv Bw Bx By Bz B0 B1 B2 B3 B4 B5 B6 B7 B8 B9
 replace a0:=zB hk a0
 replace a1:=zB hk a1
 obtain ⟨Bm,Bn,Bo,Bp,Bq,Br,Bs,Bt,Bu,Bv,Bw,Bx⟩:=ce12 a0
 obtain ⟨By,Bz,B0,B1,B2,B3,B4,B5,B6,B7,B8,B9⟩:=ce12 a1
 replace hb:=hb.trans (hk.mono hb.size)
 clear hk
 replace Ai:w1.heap[Az]? = some (Obj.cells #[Value.string Bf,Value.string Bg] 30):=Ai
 have Ar:w1.cell? ⟨Az,0,none⟩=some (Value.string Bf):=zA Ai
 have As:w1.cell? ⟨Az,1,none⟩=some (Value.string Bg):=zA Ai
 replace Aj:w1.heap[A0]? = some (Obj.cells #[Value.string Bh,Value.string Bi] 30):=Aj
 have At:w1.cell? ⟨A0,0,none⟩=some (Value.string Bh):=zA Aj
 have Au:w1.cell? ⟨A0,1,none⟩=some (Value.string Bi):=zA Aj
 replace Aa:w1.heap[A1]? = some (Obj.cells #[Value.string Bj,Value.string Bk] 30):=Aa
 have Ae:w1.cell? ⟨A1,0,none⟩=some (Value.string Bj):=zA Aa
 have Af:w1.cell? ⟨A1,1,none⟩=some (Value.string Bk):=zA Aa
 replace Ab:w1.heap[A2]? = some (Obj.cells #[Value.string Bl,Value.string Be] 30):=Ab
 have Ag:w1.cell? ⟨A2,0,none⟩=some (Value.string Bl):=zA Ab
 have Ah:w1.cell? ⟨A2,1,none⟩=some (Value.string Be):=zA Ab
 clear Do Dp Dq Dr Fw Fx Fy Fz D7 D8 D9 Fa Fb Fc Fd Fe Ff Fg Fh Fi Fj Fk Fl Fm Fn Fo Fp Fq Fs Ft Fu Fv m0 m1 m2 m3
 go_upto_region 5 with (go_at_call 54;with_reducible refine (chVB hb R C6).mono ?_;clear hb;rintro e w1 ⟨rfl,hk,hb⟩;clear Ar As At Au Ae Af Ag Ah;replace Ai:=zB hk Ai;replace Aj:=zB hk Aj;replace Aa:=zB hk Aa;replace Ab:=zB hk Ab;obtain ⟨Ar,As⟩:=ce2 Ai;obtain ⟨At,Au⟩:=ce2 Aj;obtain ⟨Ae,Af⟩:=ce2 Aa;obtain ⟨Ag,Ah⟩:=ce2 Ab;clear hk)
 clear Bm Bn Bo Bp Bq Br Bs Bt Bu Bv Bw Bx a0 By Bz B0 B1 B2 B3 B4 B5 B6 B7 B8 B9 a1
 refine wp_alloc1 (fun w1 Ac hk=>?_)
 clear Ar As At Au Ae Af Ag Ah
 replace Ai:=zB hk Ai
 replace Aj:=zB hk Aj
 replace Aa:=zB hk Aa
 replace Ab:=zB hk Ab
 obtain ⟨Ar,As⟩:=ce2 Ai
 obtain ⟨At,Au⟩:=ce2 Aj
 obtain ⟨Ae,Af⟩:=ce2 Aa
 obtain ⟨Ag,Ah⟩:=ce2 Ab
 replace hb:=hb.trans (hk.mono hb.size)
 clear hk
 obtain ⟨Ak,Al,Am⟩:=ce3 Ac
 go_upto_region 6 with (go_at_call 54;with_reducible refine (chVB hb R C7).mono ?_;clear hb;rintro e w1 ⟨rfl,hk,hb⟩;clear Ak Al Am Ar As At Au Ae Af Ag Ah;replace Ac:=zB hk Ac;replace Ai:=zB hk Ai;replace Aj:=zB hk Aj;replace Aa:=zB hk Aa;replace Ab:=zB hk Ab;obtain ⟨Ak,Al,Am⟩:=ce3 Ac;obtain ⟨Ar,As⟩:=ce2 Ai;obtain ⟨At,Au⟩:=ce2 Aj;obtain ⟨Ae,Af⟩:=ce2 Aa;obtain ⟨Ag,Ah⟩:=ce2 Ab;clear hk)
 refine wp_alloc1 (fun w1 Ad hk=>?_)
 clear Ak Al Am Ar As At Au Ae Af Ag Ah
 replace Ac:=zB hk Ac
 replace Ai:=zB hk Ai
 replace Aj:=zB hk Aj
 replace Aa:=zB hk Aa
 replace Ab:=zB hk Ab
 obtain ⟨Ak,Al,Am⟩:=ce3 Ac
 obtain ⟨Ar,As⟩:=ce2 Ai
 obtain ⟨At,Au⟩:=ce2 Aj
 obtain ⟨Ae,Af⟩:=ce2 Aa
 obtain ⟨Ag,Ah⟩:=ce2 Ab
 replace hb:=hb.trans (hk.mono hb.size)
 clear hk
 obtain ⟨Ao,Ap,Aq⟩:=ce3 Ad
 go_upto_region 6 with fail
 refine wp_to (fun a=>((((((((a.put (some 49) (.agg #[.string Bf,.string Bg])).put (some 50) (.agg #[.string Bh,.string Bi])).put (some 51) (.bool false)).put (some 52) (.bool false)).put (some 53) (.agg #[.string Bj,.string Bk])).put (some 54) (.agg #[.string Bl,.string Be])).put (some 55) (.bool false)).put (some 56) (.bool false))) ?_ ?_
 · go_wp2
   all_goals first | exact ⟨rfl,rfl,rfl⟩ | exact (d0p ⟨by assumption,by assumption⟩).elim | exact (d1p ⟨by assumption,by assumption⟩).elim
 simp only [Act.put,List.setIfInBounds_toArray,List.set_cons_zero,List.set_cons_succ]
 go_upto_region 8 with fail
 obtain ⟨A3,A4,A5⟩:=cy3 Ac
 obtain ⟨A6,A7,A8⟩:=cy3 Ad
 obtain ⟨F0,F1⟩:=cy2 Ai
 obtain ⟨F2,F3⟩:=cy2 Aj
 obtain ⟨A9,Ba⟩:=cy2 Aa
 obtain ⟨Bb,Bc⟩:=cy2 Ab
 have Ds:=rrV C8 R hb
 have Dt:=rrV C9 R hb
 have Du:=rrV C8 R hb
 have Dv:=rrV C9 R hb
 have Dw:=rrV C12 R hb
 refine wp_region_quiet_below (by first | assumption | kernel_rfl) (by kernel_rfl) ?_
 repeat (quiet_step (first | (with_reducible exact Ds.out _ _) | (with_reducible exact Dt.out _ _) | (with_reducible exact Du.out _ _) | (with_reducible exact Dv.out _ _) | (with_reducible exact Dw.out _ _)))
 refine wpQuiet_nil ?_
 intro w1 hw'
 obtain ⟨hk,hb⟩:=zQ hb hw'
 clear Ak Al Am Ao Ap Aq Ar As At Au Ae Af Ag Ah
 replace Ac:=zB hk Ac
 replace Ad:=zB hk Ad
 replace Ai:=zB hk Ai
 replace Aj:=zB hk Aj
 replace Aa:=zB hk Aa
 replace Ab:=zB hk Ab
 obtain ⟨Ak,Al,Am⟩:=ce3 Ac
 obtain ⟨Ao,Ap,Aq⟩:=ce3 Ad
 obtain ⟨Ar,As⟩:=ce2 Ai
 obtain ⟨At,Au⟩:=ce2 Aj
 obtain ⟨Ae,Af⟩:=ce2 Aa
 obtain ⟨Ag,Ah⟩:=ce2 Ab
 clear Ds Dt Du Dv Dw A3 A4 A5 A6 A7 A8 F0 F1 F2 F3 A9 Ba Bb Bc
 clear hk hw'
 go_upto_region 11 with (go_at_call 57;with_reducible refine (chVB hb R C13).mono ?_;clear hb;rintro e w1 ⟨rfl,hk,hb⟩;clear Ak Al Am Ao Ap Aq Ae Af Ag Ah;replace Ac:=zB hk Ac;replace Ad:=zB hk Ad;replace Aa:=zB hk Aa;replace Ab:=zB hk Ab;obtain ⟨Ak,Al,Am⟩:=ce3 Ac;obtain ⟨Ao,Ap,Aq⟩:=ce3 Ad;obtain ⟨Ae,Af⟩:=ce2 Aa;obtain ⟨Ag,Ah⟩:=ce2 Ab;clear hk)
 clear Ar As Ai At Au Aj
 refine wp_alloc1 (fun w1 An hk=>?_)
 clear Ak Al Am Ao Ap Aq Ae Af Ag Ah
 replace Ac:=zB hk Ac
 replace Ad:=zB hk Ad
 replace Aa:=zB hk Aa
 replace Ab:=zB hk Ab
 obtain ⟨Ak,Al,Am⟩:=ce3 Ac
 obtain ⟨Ao,Ap,Aq⟩:=ce3 Ad
 obtain ⟨Ae,Af⟩:=ce2 Aa
 obtain ⟨Ag,Ah⟩:=ce2 Ab
 replace hb:=hb.trans (hk.mono hb.size)
 clear hk
 obtain ⟨Av,Aw⟩:=ce2 An
 obtain ⟨A3,A4,A5⟩:=cy3 Ac
 obtain ⟨A6,A7,A8⟩:=cy3 Ad
 obtain ⟨Ca,Cb⟩:=cy2 An
 obtain ⟨A9,Ba⟩:=cy2 Aa
 obtain ⟨Bb,Bc⟩:=cy2 Ab
 have Dx:=rrV C14 R hb
 have Dy:=rrV C15 R hb
 refine wp_region_quiet_below (by first | assumption | kernel_rfl) (by kernel_rfl) ?_
 repeat (quiet_step (first | (with_reducible exact Dx.out _ _) | (with_reducible exact Dy.out _ _)))
 refine wpQuiet_nil ?_
 intro w1 hw'
 obtain ⟨hk,hb⟩:=zQ hb hw'
 clear Ak Al Am Ao Ap Aq Av Aw Ae Af Ag Ah
 replace Ac:=zB hk Ac
 replace Ad:=zB hk Ad
 replace An:=zB hk An
 replace Aa:=zB hk Aa
 replace Ab:=zB hk Ab
 obtain ⟨Ak,Al,Am⟩:=ce3 Ac
 obtain ⟨Ao,Ap,Aq⟩:=ce3 Ad
 obtain ⟨Av,Aw⟩:=ce2 An
 obtain ⟨Ae,Af⟩:=ce2 Aa
 obtain ⟨Ag,Ah⟩:=ce2 Ab
 clear Dx Dy A3 A4 A5 A6 A7 A8 Ca Cb A9 Ba Bb Bc
 clear hk hw'
 go_upto_region 15 with (go_at_call 59;with_reducible refine (chVB hb R C16).mono ?_;clear hb;rintro e w1 ⟨rfl,hk,hb⟩;clear Ak Al Am Ao Ap Aq Av Aw Ae Af Ag Ah;replace Ac:=zB hk Ac;replace Ad:=zB hk Ad;replace An:=zB hk An;replace Aa:=zB hk Aa;replace Ab:=zB hk Ab;obtain ⟨Ak,Al,Am⟩:=ce3 Ac;obtain ⟨Ao,Ap,Aq⟩:=ce3 Ad;obtain ⟨Av,Aw⟩:=ce2 An;obtain ⟨Ae,Af⟩:=ce2 Aa;obtain ⟨Ag,Ah⟩:=ce2 Ab;clear hk)
 obtain ⟨A3,A4,A5⟩:=cy3 Ac
 obtain ⟨A6,A7,A8⟩:=cy3 Ad
 obtain ⟨Ca,Cb⟩:=cy2 An
 obtain ⟨A9,Ba⟩:=cy2 Aa
 obtain ⟨Bb,Bc⟩:=cy2 Ab
 have Dz:=rrV C17 R hb
 have D0:=rrV C18 R hb
 refine wp_region_quiet_below (by first | assumption | kernel_rfl) (by kernel_rfl) ?_
 repeat (quiet_step (first | (with_reducible exact Dz.out _ _) | (with_reducible exact D0.out _ _)))
 refine wpQuiet_nil ?_
 intro w1 hw'
 obtain ⟨hk,hb⟩:=zQ hb hw'
 clear Ak Al Am Ao Ap Aq Av Aw Ae Af Ag Ah
 replace Ac:=zB hk Ac
 replace Ad:=zB hk Ad
 replace An:=zB hk An
 replace Aa:=zB hk Aa
 replace Ab:=zB hk Ab
 obtain ⟨Ak,Al,Am⟩:=ce3 Ac
 obtain ⟨Ao,Ap,Aq⟩:=ce3 Ad
 obtain ⟨Av,Aw⟩:=ce2 An
 obtain ⟨Ae,Af⟩:=ce2 Aa
 obtain ⟨Ag,Ah⟩:=ce2 Ab
 clear Dz D0 A3 A4 A5 A6 A7 A8 Ca Cb A9 Ba Bb Bc
 clear hk hw'
 go_upto_region 19 with ((go_at_call 42;first | with_reducible refine (chVB hb R C19).mono ?_ | with_reducible refine (chVB hb R C20).mono ?_);clear hb;rintro e w1 ⟨rfl,hk,hb⟩;clear Ak Al Am Ao Ap Aq Av Aw Ae Af Ag Ah;replace Ac:=zB hk Ac;replace Ad:=zB hk Ad;replace An:=zB hk An;replace Aa:=zB hk Aa;replace Ab:=zB hk Ab;obtain ⟨Ak,Al,Am⟩:=ce3 Ac;obtain ⟨Ao,Ap,Aq⟩:=ce3 Ad;obtain ⟨Av,Aw⟩:=ce2 An;obtain ⟨Ae,Af⟩:=ce2 Aa;obtain ⟨Ag,Ah⟩:=ce2 Ab;clear hk)
 go_quiet (fail)
 go_wp2
 first | go_ret | go_ret2 | go_ret3
 exact ⟨rfl,hb.trans ((below_drewN _ _).mono hb.size)⟩
end Go.Proofs.YtpennccflalobaaGreatDoor.Kl
