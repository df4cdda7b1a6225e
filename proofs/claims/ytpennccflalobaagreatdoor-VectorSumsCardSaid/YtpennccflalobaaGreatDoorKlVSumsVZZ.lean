import Derived.Test.YtpennccflalobaaGreatDoorKlVSumsVIZ
import Derived.Test.YtpennccflalobaaGreatDoorKlBVYZ
import Derived.Test.YtpennccflalobaaGreatDoorKlVSumsQMid
namespace Go.Proofs.YtpennccflalobaaGreatDoor.Kl
open Go Go.RowKit
set_option maxRecDepth 100000
set_option maxHeartbeats 8000000
def SmallIs (i g:Int) (p:Rat):Prop:=(-32768≤i∧i≤32767)∧(0≤g∧g≤255)∧fieldQ i g=p
theorem SmallIs.rn {i g:Int} {p:Rat} (h:SmallIs i g p):RN p 5 3:=h.2.2 ▸ RN_field i g h.1 h.2.1
theorem SmallIs.i0 {i g:Int} {p:Rat} (h:SmallIs i g p) : -32768≤i:=h.1.1
theorem makeS (i g:Int) (p:Rat) (h:SmallIs i g p) (w:World) (R:EnvR w) :
   Calls Tryz.prog 31 #[.agg #[.int .i16 i,.int .u8 g]] w (Ret w (.string (ratB p))):=by
 have:=make2_any i g h.1 h.2.1 w R
 rwa [h.2.2] at this
theorem makeV  (i0 g0 i1 g1 i2 g2:Int) (p0 p1 p2:Rat) (k0:SmallIs i0 g0 p0) (k1:SmallIs i1 g1 p1) (k2:SmallIs i2 g2 p2) (w:World) (R:EnvV w) :
   Calls Tryz.prog 30 #[.agg #[.int .i16 i0,.int .u8 g0,.int .i16 i1,.int .u8 g1,.int .i16 i2,.int .u8 g2]] w (Ret w (.agg #[.string (ratB p0),.string (ratB p1),.string (ratB p2)])):=by
 have c1:=fun (w:World) (R:EnvV w)=>makeS i0 g0 p0 k0 w R.toEnvR
 have c2:=fun (w:World) (R:EnvV w)=>makeS i1 g1 p1 k1 w R.toEnvR
 have c3:=fun (w:World) (R:EnvV w)=>makeS i2 g2 p2 k2 w R.toEnvR
 obtain ⟨As,Ad⟩:∃ vq,ratB p0=vq:=⟨_,rfl⟩
 obtain ⟨At,Ae⟩:∃ vq,ratB p1=vq:=⟨_,rfl⟩
 obtain ⟨Au,Af⟩:∃ vq,ratB p2=vq:=⟨_,rfl⟩
 try simp only [Ad,Ae,Af] at c1 c2 c3 ⊢
 have C1:=Lib.hid c1
 have C2:=Lib.hid c2
 have C3:=Lib.hid c3
 clear c1 c2 c3 Ad Ae Af k0 k1 k2
 have hb:=Below.refl w.heap.size w
 go_enter Tryz.func30,Tryz.ntmps30
 go_upto_region 1 with fail
 refine wp_alloc2 (fun w1 a0 a1 hk=>?_)
 replace hb:=hb.trans (hk.mono hb.size)
 clear hk
 obtain ⟨Ag,Ah,Ai,Aj,Ak,Al⟩:=ce6 a0
 obtain ⟨Aa,Am,Ab,An,Ac,Ao⟩:=cf3 a1
 go_upto_region 1 with fail
 obtain ⟨Av,Aw,Ax,Ay,Az,A0⟩:=cy6 a0
 obtain ⟨A1,A2,A3⟩:=cy3 a1
 have Ap:=rrV C1 R hb
 have Aq:=rrV C2 R hb
 have Ar:=rrV C3 R hb
 refine wp_region_tail_below 10 (by first | assumption | kernel_rfl) (by kernel_rfl) ?_
 simp only [List.take_succ_cons,List.take_zero,List.drop_succ_cons,List.drop_zero]
 repeat (quiet_step (first | (with_reducible exact Ap.out _ _) | (with_reducible exact Aq.out _ _) | (with_reducible exact Ar.out _ _)))
 refine wpQuiet_nil ?_
 intro w1 hw'
 obtain ⟨hk,hb⟩:=zQ hb hw'
 clear Ag Ah Ai Aj Ak Al Aa Ab Ac Am An Ao
 replace a0:=zB hk a0
 replace a1:=zB hk a1
 obtain ⟨Ag,Ah,Ai,Aj,Ak,Al⟩:=ce6 a0
 obtain ⟨Aa,Am,Ab,An,Ac,Ao⟩:=cf3 a1
 clear Ap Aq Ar Av Aw Ax Ay Az A0 A1 A2 A3
 clear hk hw'
 go_wp2
 refine bodyPost_ret (v:=.agg #[.string As,.string At,.string Au]) (by simp [results,Tryz.results30,go_sem,Aa,Ab,Ac]) rfl ⟨rfl,?_⟩
 repeat' (first | exact hb | refine Below.setCell ?_ (by first | exact Nat.le_refl _ | (dsimp only;omega)) _)
theorem lawSums_0  (i0 g0 i1 g1 i2 g2 i3 g3 i4 g4 i5 g5 i6 g6:Int) (p0 p1 p2 p3 p4 p5 p6:Rat) (k0:SmallIs i0 g0 p0) (k1:SmallIs i1 g1 p1) (k2:SmallIs i2 g2 p2) (k3:SmallIs i3 g3 p3) (k4:SmallIs i4 g4 p4) (k5:SmallIs i5 g5 p5) (k6:SmallIs i6 g6 p6) (w:World) (R:EnvV w) :
   Calls Tryz.prog 4 #[.agg #[.int .i16 i0,.int .u8 g0,.int .i16 i1,.int .u8 g1,.int .i16 i2,.int .u8 g2,.int .i16 i3,.int .u8 g3,.int .i16 i4,.int .u8 g4,.int .i16 i5,.int .u8 g5],.agg #[.int .i16 i6,.int .u8 g6]] w (Ret w (.bool true)):=by
 have Cd:=RN_add (N:=8) k0.rn k3.rn
 have Ce:=RN_add (N:=8) k1.rn k4.rn
 have Cf:=RN_add (N:=8) k2.rn k5.rn
 have Cg:=RN_sub (N:=8) k0.rn k3.rn
 have Ch:=RN_sub (N:=8) k1.rn k4.rn
 have Ci:=RN_sub (N:=8) k2.rn k5.rn
 have Cj:=RN_mul k0.rn k6.rn
 have Ck:=RN_mul k1.rn k6.rn
 have Cm:=RN_mul k2.rn k6.rn
 have A0:=RN_mul k0.rn k3.rn
 have Bt:=RN_add (N:=11) rn_0 A0
 have A1:=RN_mul k1.rn k4.rn
 have Cn:=RN_add (N:=18) Bt A1
 have A2:=RN_mul k2.rn k5.rn
 have Co:=RN_add (N:=16) A0 A1
 have Cp:=RN_add (N:=23) Co A2
 have A3:=RN_mul k1.rn k5.rn
 have A4:=RN_mul k2.rn k4.rn
 have A5:=RN_mul k2.rn k3.rn
 have A6:=RN_mul k0.rn k5.rn
 have A7:=RN_mul k0.rn k4.rn
 have A8:=RN_mul k1.rn k3.rn
 have Cq:=RN_sub (N:=16) A3 A4
 have Cr:=RN_sub (N:=16) A5 A6
 have Cs:=RN_sub (N:=16) A7 A8
 have Ct:=RN_mul k3.rn rn_m1
 have Cu:=RN_mul k4.rn rn_m1
 have Cv:=RN_mul k5.rn rn_m1
 have Bu:=RN_add (N:=16) A1 A2
 have D0:=RN_add (N:=23) A0 Bu
 have c1:=known5_any
 have c2:=makeV i0 g0 i1 g1 i2 g2 p0 p1 p2 k0 k1 k2
 have c3:=makeV i3 g3 i4 g4 i5 g5 p3 p4 p5 k3 k4 k5
 have c4:=fun (w:World) (R:EnvV w)=>makeS i6 g6 p6 k6 w R.toEnvR
 have c5:=fun (w:World) (R:EnvV w)=>vadd_any p0 p1 p2 p3 p4 p5 k0.rn.r2 k1.rn.r2 k2.rn.r2 k3.rn.r2 k4.rn.r2 k5.rn.r2 k0.rn.rm k3.rn.rm k1.rn.rm k4.rn.rm k2.rn.rm k5.rn.rm Cd.r2 Ce.r2 Cf.r2 w R.toEnvR
 have c6:=fun (w:World) (R:EnvV w)=>vsub_any p0 p1 p2 p3 p4 p5 k0.rn.r2 k1.rn.r2 k2.rn.r2 k3.rn.r2 k4.rn.r2 k5.rn.r2 k0.rn.rm k3.rn.rm k1.rn.rm k4.rn.rm k2.rn.rm k5.rn.rm Cg.r2 Ch.r2 Ci.r2 w R.toEnvR
 have c7:=fun (w:World) (R:EnvV w)=>vscale_any p0 p1 p2 p6 k0.rn.r2 k1.rn.r2 k2.rn.r2 k6.rn.r2 k0.rn.rm k6.rn.rm k1.rn.rm k2.rn.rm Cj.r2 Ck.r2 Cm.r2 w R.toEnvR
 have c8:=fun (w:World) (R:EnvV w)=>vdot_any p0 p1 p2 p3 p4 p5 k0.rn.r2 k1.rn.r2 k2.rn.r2 k3.rn.r2 k4.rn.r2 k5.rn.r2 k0.rn.rm k3.rn.rm A0.rm k1.rn.rm k4.rn.rm Bt.rm A1.rm k2.rn.rm k5.rn.rm Cn.rm A2.rm Cp.r2 w R.toEnvR
 have c9:=fun (w:World) (R:EnvV w)=>vcross_any p0 p1 p2 p3 p4 p5 k0.rn.r2 k1.rn.r2 k2.rn.r2 k3.rn.r2 k4.rn.r2 k5.rn.r2 k1.rn.rm k5.rn.rm k2.rn.rm k4.rn.rm A3.rm A4.rm k3.rn.rm k0.rn.rm A5.rm A6.rm A7.rm A8.rm Cq.r2 Cr.r2 Cs.r2 w R.toEnvR
 have c10:=isZero_any p0 p1 p2 k0.rn.r2 k1.rn.r2 k2.rn.r2
 have c11:=parallel_any p0 p1 p2 p3 p4 p5 k0.rn.r2 k1.rn.r2 k2.rn.r2 k3.rn.r2 k4.rn.r2 k5.rn.r2 k1.rn.rm k5.rn.rm k2.rn.rm k4.rn.rm A3.rm A4.rm k3.rn.rm k0.rn.rm A5.rm A6.rm A7.rm A8.rm
 have c12:=fun (w:World) (R:EnvV w)=>firstErr7 0 0 0 0 0 0 0 0 (by first | decide | simp [firstNZ]) w R.toEnvR
 have c13:=fun (w:World) (R:EnvV w)=>refVAdd p0 p1 p2 p3 p4 p5 k0.rn.r4 k3.rn.r4 k1.rn.r4 k4.rn.r4 k2.rn.r4 k5.rn.r4 w R.toEnvR
 have c14:=fun (w:World) (R:EnvV w)=>refVSub p0 p1 p2 p3 p4 p5 k3.rn.r4 k4.rn.r4 k5.rn.r4 k0.rn.r4 Ct.r4 k1.rn.r4 Cu.r4 k2.rn.r4 Cv.r4 w R.toEnvR
 have c15:=fun (w:World) (R:EnvV w)=>refVScale p0 p1 p2 p6 k0.rn.r4 k6.rn.r4 k1.rn.r4 k2.rn.r4 w R.toEnvR
 have c16:CV 36 #[.agg #[.string (ratB p0),.string (ratB p1),.string (ratB p2)],.agg #[.string (ratB p3),.string (ratB p4),.string (ratB p5)]] (.string (ratB (((p0*p3)+(p1*p4))+(p2*p5)))):=fun w R=>(by have h:=refVDot p0 p1 p2 p3 p4 p5 k0.rn.r4 k3.rn.r4 k1.rn.r4 k4.rn.r4 k2.rn.r4 k5.rn.r4 A1.r4 A2.r4 A0.r4 Bu.r4 w R.toEnvR;rw [show (p0*p3)+((p1*p4)+(p2*p5))=((p0*p3)+(p1*p4))+(p2*p5) from by grind] at h;exact h)
 have c17:=fun (w:World) (R:EnvV w)=>refVCross p0 p1 p2 p3 p4 p5 k1.rn.r4 k5.rn.r4 k2.rn.r4 k4.rn.r4 A3.r4 A4.r4 k3.rn.r4 k0.rn.r4 A5.r4 A6.r4 A7.r4 A8.r4 w R.toEnvR
 have c18:=refZero_any p0 p1 p2
 have c20:=refZero_any ((p1*p5) - (p2*p4)) ((p2*p3) - (p0*p5)) ((p0*p4) - (p1*p3))
 obtain ⟨Fj,Cw⟩:∃ vq,ratB (((p0*p3)+(p1*p4))+(p2*p5))=vq:=⟨_,rfl⟩
 obtain ⟨Fk,Cx⟩:∃ vq,ratB ((p0*p4) - (p1*p3))=vq:=⟨_,rfl⟩
 obtain ⟨Fl,Cy⟩:∃ vq,ratB ((p1*p5) - (p2*p4))=vq:=⟨_,rfl⟩
 obtain ⟨Fm,Cz⟩:∃ vq,ratB ((p2*p3) - (p0*p5))=vq:=⟨_,rfl⟩
 obtain ⟨Fn,C0⟩:∃ vq,ratB (p0*p6)=vq:=⟨_,rfl⟩
 obtain ⟨Fo,Da⟩:∃ vq,ratB (p0+p3)=vq:=⟨_,rfl⟩
 obtain ⟨Fp,Db⟩:∃ vq,ratB (p0 - p3)=vq:=⟨_,rfl⟩
 obtain ⟨Fq,Dc⟩:∃ vq,ratB (p1*p6)=vq:=⟨_,rfl⟩
 obtain ⟨Fs,Dd⟩:∃ vq,ratB (p1+p4)=vq:=⟨_,rfl⟩
 obtain ⟨Ft,De⟩:∃ vq,ratB (p1 - p4)=vq:=⟨_,rfl⟩
 obtain ⟨Fu,Df⟩:∃ vq,ratB (p2*p6)=vq:=⟨_,rfl⟩
 obtain ⟨Fv,Dg⟩:∃ vq,ratB (p2+p5)=vq:=⟨_,rfl⟩
 obtain ⟨Fw,Dh⟩:∃ vq,ratB (p2 - p5)=vq:=⟨_,rfl⟩
 obtain ⟨Bn,Di⟩:∃ vq,ratB p0=vq:=⟨_,rfl⟩
 obtain ⟨Bo,Dj⟩:∃ vq,ratB p1=vq:=⟨_,rfl⟩
 obtain ⟨Bp,Dk⟩:∃ vq,ratB p2=vq:=⟨_,rfl⟩
 obtain ⟨Bq,Dl⟩:∃ vq,ratB p3=vq:=⟨_,rfl⟩
 obtain ⟨Br,Dm⟩:∃ vq,ratB p4=vq:=⟨_,rfl⟩
 obtain ⟨Bs,Dn⟩:∃ vq,ratB p5=vq:=⟨_,rfl⟩
 obtain ⟨D1,Do⟩:∃ vq,ratB p6=vq:=⟨_,rfl⟩
 try simp only [Cw,Cx,Cy,Cz,C0,Da,Db,Dc,Dd,De,Df,Dg,Dh,Di,Dj,Dk,Dl,Dm,Dn,Do] at c1 c2 c3 c4 c5 c6 c7 c8 c9 c10 c11 c12 c13 c14 c15 c16 c17 c18 c20 ⊢
 obtain ⟨bz,ebz⟩:∃ vq,decide (p0=0∧p1=0∧p2=0)=vq:=⟨_,rfl⟩
 try simp only [ebz] at c1 c2 c3 c4 c5 c6 c7 c8 c9 c10 c11 c12 c13 c14 c15 c16 c17 c18 c20 ⊢
 obtain ⟨bp,ebp⟩:∃ vq,decide (((p1*p5) - (p2*p4))=0∧((p2*p3) - (p0*p5))=0∧((p0*p4) - (p1*p3))=0)=vq:=⟨_,rfl⟩
 try simp only [ebp] at c1 c2 c3 c4 c5 c6 c7 c8 c9 c10 c11 c12 c13 c14 c15 c16 c17 c18 c20 ⊢
 have C1:=Lib.hid c1
 have C2:=Lib.hid c2
 have C3:=Lib.hid c3
 have C4:=Lib.hid c4
 have C5:=Lib.hid c5
 have C6:=Lib.hid c6
 have C7:=Lib.hid c7
 have C8:=Lib.hid c8
 have C9:=Lib.hid c9
 have C10:=Lib.hid c10
 have C11:=Lib.hid c11
 have C12:=Lib.hid c12
 have C13:=Lib.hid c13
 have C14:=Lib.hid c14
 have C15:=Lib.hid c15
 have C16:=Lib.hid c16
 have C17:=Lib.hid c17
 have C18:=Lib.hid c18
 have C20:=Lib.hid c20
 clear c1 c2 c3 c4 c5 c6 c7 c8 c9 c10 c11 c12 c13 c14 c15 c16 c17 c18 c20 Cw Cx Cy Cz C0 Da Db Dc Dd De Df Dg Dh Di Dj Dk Dl Dm Dn Do ebz ebp Cd Ce Cf Cg Ch Ci Cj Ck Cm A0 Bt A1 Cn A2 Co Cp A3 A4 A5 A6 A7 A8 Cq Cr Cs Ct Cu Cv Bu D0 k0 k1 k2 k3 k4 k5 k6
 have hb:=Below.refl w.heap.size w
 go_enter Tryz.func4,Tryz.ntmps4
 go_upto_region 1 with fail
 refine wp_alloc2 (fun w1 a0 a1 hk=>?_)
 replace hb:=hb.trans (hk.mono hb.size)
 clear hk
 obtain ⟨A9,Ba,Bb,Bc,Bd,Be,Bf,Bg,Bh,Bi,Bj,Bk⟩:=ce12 a0
 obtain ⟨Bl,Bm⟩:=ce2 a1
 go_upto_region 3 with (go_at_call 13;with_reducible refine (chVB hb R C1).mono ?_;clear hb;rintro e w1 ⟨rfl,hk,hb⟩;clear A9 Ba Bb Bc Bd Be Bf Bg Bh Bi Bj Bk Bl Bm;replace a0:=zB hk a0;replace a1:=zB hk a1;obtain ⟨A9,Ba,Bb,Bc,Bd,Be,Bf,Bg,Bh,Bi,Bj,Bk⟩:=ce12 a0;obtain ⟨Bl,Bm⟩:=ce2 a1;clear hk)
 obtain ⟨D2,D3,D4,D5,D6,D7,D8,D9,Fa,Fb,Fc,Fd⟩:=cy12 a0
 obtain ⟨Fe,Ff⟩:=cy2 a1
 have Fg:=rrV C2 R hb
 have Fh:=rrV C3 R hb
 have Fi:=rrV C4 R hb
 have Dp:=qqV C2 R hb
 have Dq:=qqV C3 R hb
 have Dr:=qqV C4 R hb
 refine wp_free2 8 1 (fun i=>if i=8 then Obj.cells #[Value.string ⟨#[]⟩,Value.string ⟨#[]⟩,Value.string ⟨#[]⟩] 24 else if i=9 then Obj.cells #[Value.string ⟨#[]⟩,Value.string ⟨#[]⟩,Value.string ⟨#[]⟩] 24 else Obj.cells #[] 0) (fun i=>if i=8 then Obj.cells #[Value.string Bn,Value.string Bo,Value.string Bp] 24 else if i=9 then Obj.cells #[Value.string Bq,Value.string Br,Value.string Bs] 24 else Obj.cells #[] 0) (some 5) (some 6) (by first | assumption | kernel_rfl) (by kernel_rfl) ?lay rfl rfl ?_
 case lay =>
   intro i h1 h2
   obtain rfl | rfl:i=8∨i=9:=by omega
   all_goals exact ⟨_,rfl,rfl,fun a w=>(by first | (go_simp;done) | (go_simp;rfl))⟩
 simp only [List.take_succ_cons,List.take_zero]
 repeat (refine wpB_step (fun K hK=>?_);go_simp;first | (refine hK _ ?_;clear hK K) | (apply Exists.intro;refine ⟨fun _=>?_,hK _ ?_⟩;(first | (with_reducible exact Dp.out _ _) | (with_reducible exact Dq.out _ _) | (with_reducible exact Dr.out _ _));clear hK K))
 refine wpB_nil ?_
 intro Av Aw
 refine ⟨?_,?_,?_⟩
 · refine ⟨_,rfl,rfl,rfl,fun cs b h=>(by cases h),fun w hw=>?_⟩
   replace hw:w.heap[Av]? = some (Obj.cells #[Value.string ⟨#[]⟩,Value.string ⟨#[]⟩,Value.string ⟨#[]⟩] 24):=hw
   have z0:w.cell? ⟨Av,0,none⟩=some (Value.string ⟨#[]⟩):=zA hw
   have y0:w.frozen? ⟨Av,0,none⟩=false:=zD hw
   have z1:w.cell? ⟨Av,1,none⟩=some (Value.string ⟨#[]⟩):=zA hw
   have y1:w.frozen? ⟨Av,1,none⟩=false:=zD hw
   have z2:w.cell? ⟨Av,2,none⟩=some (Value.string ⟨#[]⟩):=zA hw
   have y2:w.frozen? ⟨Av,2,none⟩=false:=zD hw
   refine ⟨_,?_,(Wrote.set (i:=2) (Wrote.set (i:=1) (Wrote.set (i:=0) (Wrote.refl hw) (Value.string Bn)) (Value.string Bo)) (Value.string Bp))⟩
   go_simp
 · refine ⟨_,rfl,rfl,rfl,fun cs b h=>(by cases h),fun w hw=>?_⟩
   replace hw:w.heap[Aw]? = some (Obj.cells #[Value.string ⟨#[]⟩,Value.string ⟨#[]⟩,Value.string ⟨#[]⟩] 24):=hw
   have z0:w.cell? ⟨Aw,0,none⟩=some (Value.string ⟨#[]⟩):=zA hw
   have y0:w.frozen? ⟨Aw,0,none⟩=false:=zD hw
   have z1:w.cell? ⟨Aw,1,none⟩=some (Value.string ⟨#[]⟩):=zA hw
   have y1:w.frozen? ⟨Aw,1,none⟩=false:=zD hw
   have z2:w.cell? ⟨Aw,2,none⟩=some (Value.string ⟨#[]⟩):=zA hw
   have y2:w.frozen? ⟨Aw,2,none⟩=false:=zD hw
   refine ⟨_,?_,(Wrote.set (i:=2) (Wrote.set (i:=1) (Wrote.set (i:=0) (Wrote.refl hw) (Value.string Bq)) (Value.string Br)) (Value.string Bs))⟩
   go_simp
 refine ⟨_,Value.string D1,rfl,Or.inl ⟨rfl,fun p=>?_⟩,?_⟩
 · go_simp
   try exact ⟨rfl,rfl⟩
 intro w1 hk m0 m1 Aa Ab _
 clear A9 Ba Bb Bc Bd Be Bf Bg Bh Bi Bj Bk Bl Bm
 replace a0:=zB hk a0
 replace a1:=zB hk a1
 obtain ⟨A9,Ba,Bb,Bc,Bd,Be,Bf,Bg,Bh,Bi,Bj,Bk⟩:=ce12 a0
 obtain ⟨Bl,Bm⟩:=ce2 a1
 replace hb:=hb.trans (hk.mono hb.size)
 clear hk
 replace Aa:w1.heap[Av]? = some (Obj.cells #[Value.string Bn,Value.string Bo,Value.string Bp] 24):=Aa
 have Ae:w1.cell? ⟨Av,0,none⟩=some (Value.string Bn):=zA Aa
 have Af:w1.cell? ⟨Av,1,none⟩=some (Value.string Bo):=zA Aa
 have Ag:w1.cell? ⟨Av,2,none⟩=some (Value.string Bp):=zA Aa
 replace Ab:w1.heap[Aw]? = some (Obj.cells #[Value.string Bq,Value.string Br,Value.string Bs] 24):=Ab
 have Ah:w1.cell? ⟨Aw,0,none⟩=some (Value.string Bq):=zA Ab
 have Ai:w1.cell? ⟨Aw,1,none⟩=some (Value.string Br):=zA Ab
 have Aj:w1.cell? ⟨Aw,2,none⟩=some (Value.string Bs):=zA Ab
 clear Dp Dq Dr Fg Fh Fi D2 D3 D4 D5 D6 D7 D8 D9 Fa Fb Fc Fd Fe Ff m0 m1
 go_upto_region 5 with (go_at_call 22;with_reducible refine (chVB hb R C5).mono ?_;clear hb;rintro e w1 ⟨rfl,hk,hb⟩;clear Ae Af Ag Ah Ai Aj;replace Aa:=zB hk Aa;replace Ab:=zB hk Ab;obtain ⟨Ae,Af,Ag⟩:=ce3 Aa;obtain ⟨Ah,Ai,Aj⟩:=ce3 Ab;clear hk)
 clear A9 Ba Bb Bc Bd Be Bf Bg Bh Bi Bj Bk a0 Bl Bm a1
 refine wp_alloc1 (fun w1 Ac hk=>?_)
 clear Ae Af Ag Ah Ai Aj
 replace Aa:=zB hk Aa
 replace Ab:=zB hk Ab
 obtain ⟨Ae,Af,Ag⟩:=ce3 Aa
 obtain ⟨Ah,Ai,Aj⟩:=ce3 Ab
 replace hb:=hb.trans (hk.mono hb.size)
 clear hk
 obtain ⟨Al,Am,An⟩:=ce3 Ac
 go_upto_region 6 with (go_at_call 23;with_reducible refine (chVB hb R C6).mono ?_;clear hb;rintro e w1 ⟨rfl,hk,hb⟩;clear Al Am An Ae Af Ag Ah Ai Aj;replace Ac:=zB hk Ac;replace Aa:=zB hk Aa;replace Ab:=zB hk Ab;obtain ⟨Al,Am,An⟩:=ce3 Ac;obtain ⟨Ae,Af,Ag⟩:=ce3 Aa;obtain ⟨Ah,Ai,Aj⟩:=ce3 Ab;clear hk)
 refine wp_alloc1 (fun w1 Ad hk=>?_)
 clear Al Am An Ae Af Ag Ah Ai Aj
 replace Ac:=zB hk Ac
 replace Aa:=zB hk Aa
 replace Ab:=zB hk Ab
 obtain ⟨Al,Am,An⟩:=ce3 Ac
 obtain ⟨Ae,Af,Ag⟩:=ce3 Aa
 obtain ⟨Ah,Ai,Aj⟩:=ce3 Ab
 replace hb:=hb.trans (hk.mono hb.size)
 clear hk
 obtain ⟨Ao,Ap,Aq⟩:=ce3 Ad
 go_upto_region 7 with (go_at_call 29;with_reducible refine (chVB hb R C7).mono ?_;clear hb;rintro e w1 ⟨rfl,hk,hb⟩;clear Al Am An Ao Ap Aq Ae Af Ag Ah Ai Aj;replace Ac:=zB hk Ac;replace Ad:=zB hk Ad;replace Aa:=zB hk Aa;replace Ab:=zB hk Ab;obtain ⟨Al,Am,An⟩:=ce3 Ac;obtain ⟨Ao,Ap,Aq⟩:=ce3 Ad;obtain ⟨Ae,Af,Ag⟩:=ce3 Aa;obtain ⟨Ah,Ai,Aj⟩:=ce3 Ab;clear hk)
 refine wp_alloc1 (fun w1 Ak hk=>?_)
 clear Al Am An Ao Ap Aq Ae Af Ag Ah Ai Aj
 replace Ac:=zB hk Ac
 replace Ad:=zB hk Ad
 replace Aa:=zB hk Aa
 replace Ab:=zB hk Ab
 obtain ⟨Al,Am,An⟩:=ce3 Ac
 obtain ⟨Ao,Ap,Aq⟩:=ce3 Ad
 obtain ⟨Ae,Af,Ag⟩:=ce3 Aa
 obtain ⟨Ah,Ai,Aj⟩:=ce3 Ab
 replace hb:=hb.trans (hk.mono hb.size)
 clear hk
 obtain ⟨As,At,Au⟩:=ce3 Ak
 go_upto_region 9 with ((first | (go_at_call 24;with_reducible refine (chVB hb R C8).mono ?_) | (go_at_call 25;with_reducible refine (chVB hb R C9).mono ?_));clear hb;rintro e w1 ⟨rfl,hk,hb⟩;clear Al Am An Ao Ap Aq As At Au Ae Af Ag Ah Ai Aj;replace Ac:=zB hk Ac;replace Ad:=zB hk Ad;replace Ak:=zB hk Ak;replace Aa:=zB hk Aa;replace Ab:=zB hk Ab;obtain ⟨Al,Am,An⟩:=ce3 Ac;obtain ⟨Ao,Ap,Aq⟩:=ce3 Ad;obtain ⟨As,At,Au⟩:=ce3 Ak;obtain ⟨Ae,Af,Ag⟩:=ce3 Aa;obtain ⟨Ah,Ai,Aj⟩:=ce3 Ab;clear hk)
 refine wp_alloc1 (fun w1 Ar hk=>?_)
 clear Al Am An Ao Ap Aq As At Au Ae Af Ag Ah Ai Aj
 replace Ac:=zB hk Ac
 replace Ad:=zB hk Ad
 replace Ak:=zB hk Ak
 replace Aa:=zB hk Aa
 replace Ab:=zB hk Ab
 obtain ⟨Al,Am,An⟩:=ce3 Ac
 obtain ⟨Ao,Ap,Aq⟩:=ce3 Ad
 obtain ⟨As,At,Au⟩:=ce3 Ak
 obtain ⟨Ae,Af,Ag⟩:=ce3 Aa
 obtain ⟨Ah,Ai,Aj⟩:=ce3 Ab
 replace hb:=hb.trans (hk.mono hb.size)
 clear hk
 obtain ⟨Ax,Ay,Az⟩:=ce3 Ar
 go_upto_region 11 with ((first | (go_at_call 32;with_reducible refine (chVB hb R C10).mono ?_) | (go_at_call 26;with_reducible refine (chVB hb R C11).mono ?_));clear hb;rintro e w1 ⟨rfl,hk,hb⟩;clear Al Am An Ao Ap Aq As At Au Ax Ay Az Ae Af Ag Ah Ai Aj;replace Ac:=zB hk Ac;replace Ad:=zB hk Ad;replace Ak:=zB hk Ak;replace Ar:=zB hk Ar;replace Aa:=zB hk Aa;replace Ab:=zB hk Ab;obtain ⟨Al,Am,An⟩:=ce3 Ac;obtain ⟨Ao,Ap,Aq⟩:=ce3 Ad;obtain ⟨As,At,Au⟩:=ce3 Ak;obtain ⟨Ax,Ay,Az⟩:=ce3 Ar;obtain ⟨Ae,Af,Ag⟩:=ce3 Aa;obtain ⟨Ah,Ai,Aj⟩:=ce3 Ab;clear hk)
 obtain ⟨Bv,Bw,Bx⟩:=cy3 Ac
 obtain ⟨By,Bz,B0⟩:=cy3 Ad
 obtain ⟨B1,B2,B3⟩:=cy3 Ak
 obtain ⟨B4,B5,B6⟩:=cy3 Ar
 obtain ⟨B7,B8,B9⟩:=cy3 Aa
 obtain ⟨Ca,Cb,Cc⟩:=cy3 Ab
 refine wp_region_mid 7 1 (by first | assumption | kernel_rfl) (by kernel_rfl) ?_
 simp only [List.take_succ_cons,List.take_zero,List.drop_succ_cons,List.drop_zero]
 repeat (quiet_step (first | fail))
 refine wpQuiet_nil ?_
 intro w1 hw'
 obtain ⟨hk,hb⟩:=zQ hb hw'
 clear Al Am An Ao Ap Aq As At Au Ax Ay Az Ae Af Ag Ah Ai Aj
 replace Ac:=zB hk Ac
 replace Ad:=zB hk Ad
 replace Ak:=zB hk Ak
 replace Ar:=zB hk Ar
 replace Aa:=zB hk Aa
 replace Ab:=zB hk Ab
 obtain ⟨Al,Am,An⟩:=ce3 Ac
 obtain ⟨Ao,Ap,Aq⟩:=ce3 Ad
 obtain ⟨As,At,Au⟩:=ce3 Ak
 obtain ⟨Ax,Ay,Az⟩:=ce3 Ar
 obtain ⟨Ae,Af,Ag⟩:=ce3 Aa
 obtain ⟨Ah,Ai,Aj⟩:=ce3 Ab
 clear Bv Bw Bx By Bz B0 B1 B2 B3 B4 B5 B6 B7 B8 B9 Ca Cb Cc
 clear hk hw'
 go_wp2_with (go_at_call 21;with_reducible refine (zL hb (C12.out _ (R.below hb))).mono ?_;clear hb;rintro e w1 ⟨rfl,hk,hb⟩;clear Al Am An Ao Ap Aq As At Au Ax Ay Az Ae Af Ag Ah Ai Aj;replace Ac:=zB hk Ac;replace Ad:=zB hk Ad;replace Ak:=zB hk Ak;replace Ar:=zB hk Ar;replace Aa:=zB hk Aa;replace Ab:=zB hk Ab;obtain ⟨Al,Am,An⟩:=ce3 Ac;obtain ⟨Ao,Ap,Aq⟩:=ce3 Ad;obtain ⟨As,At,Au⟩:=ce3 Ak;obtain ⟨Ax,Ay,Az⟩:=ce3 Ar;obtain ⟨Ae,Af,Ag⟩:=ce3 Aa;obtain ⟨Ah,Ai,Aj⟩:=ce3 Ab;clear hk)
 obtain ⟨Bv,Bw,Bx⟩:=cy3 Ac
 obtain ⟨By,Bz,B0⟩:=cy3 Ad
 obtain ⟨B1,B2,B3⟩:=cy3 Ak
 obtain ⟨B4,B5,B6⟩:=cy3 Ar
 obtain ⟨B7,B8,B9⟩:=cy3 Aa
 obtain ⟨Ca,Cb,Cc⟩:=cy3 Ab
 have Ds:=rrV C13 R hb
 have Dt:=rrV C14 R hb
 have Du:=rrV C15 R hb
 have Dv:=rrV C16 R hb
 have Dw:=rrV C17 R hb
 have Dx:=rrV C18 R hb
 have Dy:=rrV C17 R hb
 have Dz:=rrV C20 R hb
 refine ⟨w1,Below.refl _ _,?_⟩
 repeat (quiet_step (first | (with_reducible exact Ds.out _ _) | (with_reducible exact Dt.out _ _) | (with_reducible exact Du.out _ _) | (with_reducible exact Dv.out _ _) | (with_reducible exact Dw.out _ _) | (with_reducible exact Dx.out _ _) | (with_reducible exact Dy.out _ _) | (with_reducible exact Dz.out _ _)))
 refine wpQuiet_nil ?_
 intro w1 hw'
 obtain ⟨hk,hb⟩:=zQ hb hw'
 clear Al Am An Ao Ap Aq As At Au Ax Ay Az Ae Af Ag Ah Ai Aj
 replace Ac:=zB hk Ac
 replace Ad:=zB hk Ad
 replace Ak:=zB hk Ak
 replace Ar:=zB hk Ar
 replace Aa:=zB hk Aa
 replace Ab:=zB hk Ab
 obtain ⟨Al,Am,An⟩:=ce3 Ac
 obtain ⟨Ao,Ap,Aq⟩:=ce3 Ad
 obtain ⟨As,At,Au⟩:=ce3 Ak
 obtain ⟨Ax,Ay,Az⟩:=ce3 Ar
 obtain ⟨Ae,Af,Ag⟩:=ce3 Aa
 obtain ⟨Ah,Ai,Aj⟩:=ce3 Ab
 clear Ds Dt Du Dv Dw Dx Dy Dz Bv Bw Bx By Bz B0 B1 B2 B3 B4 B5 B6 B7 B8 B9 Ca Cb Cc
 clear hk hw'
 go_wp2
 first | go_ret | go_ret2 | go_ret3
 exact ⟨rfl,hb⟩
theorem lawSums (i0 g0 i1 g1 i2 g2 i3 g3 i4 g4 i5 g5 i6 g6:Int) (b0:(-32768≤i0∧i0≤32767)∧(0≤g0∧g0≤255)) (b1:(-32768≤i1∧i1≤32767)∧(0≤g1∧g1≤255)) (b2:(-32768≤i2∧i2≤32767)∧(0≤g2∧g2≤255)) (b3:(-32768≤i3∧i3≤32767)∧(0≤g3∧g3≤255)) (b4:(-32768≤i4∧i4≤32767)∧(0≤g4∧g4≤255)) (b5:(-32768≤i5∧i5≤32767)∧(0≤g5∧g5≤255)) (b6:(-32768≤i6∧i6≤32767)∧(0≤g6∧g6≤255)) (w:World) (R:EnvV w) :
   Calls Tryz.prog 4 #[.agg #[.int .i16 i0,.int .u8 g0,.int .i16 i1,.int .u8 g1,.int .i16 i2,.int .u8 g2,.int .i16 i3,.int .u8 g3,.int .i16 i4,.int .u8 g4,.int .i16 i5,.int .u8 g5],.agg #[.int .i16 i6,.int .u8 g6]] w (Ret w (.bool true)):=by
 obtain ⟨p0,k0⟩:∃ p,SmallIs i0 g0 p:=⟨_,b0.1,b0.2,rfl⟩
 obtain ⟨p1,k1⟩:∃ p,SmallIs i1 g1 p:=⟨_,b1.1,b1.2,rfl⟩
 obtain ⟨p2,k2⟩:∃ p,SmallIs i2 g2 p:=⟨_,b2.1,b2.2,rfl⟩
 obtain ⟨p3,k3⟩:∃ p,SmallIs i3 g3 p:=⟨_,b3.1,b3.2,rfl⟩
 obtain ⟨p4,k4⟩:∃ p,SmallIs i4 g4 p:=⟨_,b4.1,b4.2,rfl⟩
 obtain ⟨p5,k5⟩:∃ p,SmallIs i5 g5 p:=⟨_,b5.1,b5.2,rfl⟩
 obtain ⟨p6,k6⟩:∃ p,SmallIs i6 g6 p:=⟨_,b6.1,b6.2,rfl⟩
 exact lawSums_0 i0 g0 i1 g1 i2 g2 i3 g3 i4 g4 i5 g5 i6 g6 p0 p1 p2 p3 p4 p5 p6 k0 k1 k2 k3 k4 k5 k6 w R
end Go.Proofs.YtpennccflalobaaGreatDoor.Kl
