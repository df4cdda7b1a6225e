import Derived.Test.YtpennccflalobaaGreatDoorKlVPlanesVU
import Derived.Test.YtpennccflalobaaGreatDoorKlBVYZ
namespace Go.Proofs.YtpennccflalobaaGreatDoor.Kl
open Go Go.RowKit
set_option maxRecDepth 100000
set_option maxHeartbeats 8000000
def SmallIs (i g:Int) (p:Rat):Prop:=(-32768≤i∧i≤32767)∧(0≤g∧g≤255)∧fieldQ i g=p
theorem SmallIs.rn {i g:Int} {p:Rat} (h:SmallIs i g p):RN p 5 3:=h.2.2 ▸ RN_field i g h.1 h.2.1
theorem SmallIs.i0 {i g:Int} {p:Rat} (h:SmallIs i g p) : -32768≤i:=h.1.1
theorem makeS (i g:Int) (p:Rat) (h:SmallIs i g p) (w:World) (R:EnvR w) :
   Calls Tryz.prog 31 #[.agg #[.int .i16 i,.int .u8 g]] w (Ret w (.string (ratB p))):=by
 have:=make2_any i g h.1 h.2.1 w R
 rwa [h.2.2] at this
theorem makeV  (i0 g0 i1 g1 i2 g2:Int) (p0 p1 p2:Rat) (k0:SmallIs i0 g0 p0) (k1:SmallIs i1 g1 p1) (k2:SmallIs i2 g2 p2) (w:World) (R:EnvV w) :
   Calls Tryz.prog 30 #[.agg #[.int .i16 i0,.int .u8 g0,.int .i16 i1,.int .u8 g1,.int .i16 i2,.int .u8 g2]] w (Ret w (.agg #[.string (ratB p0),.string (ratB p1),.string (ratB p2)])):=by
 have c1:=fun (w:World) (R:EnvV w)=>makeS i0 g0 p0 k0 w R.toEnvR
 have c2:=fun (w:World) (R:EnvV w)=>makeS i1 g1 p1 k1 w R.toEnvR
 have c3:=fun (w:World) (R:EnvV w)=>makeS i2 g2 p2 k2 w R.toEnvR
 obtain ⟨As,Ad⟩:∃ vq,ratB p0=vq:=⟨_,rfl⟩
 obtain ⟨At,Ae⟩:∃ vq,ratB p1=vq:=⟨_,rfl⟩
 obtain ⟨Au,Af⟩:∃ vq,ratB p2=vq:=⟨_,rfl⟩
 try simp only [Ad,Ae,Af] at c1 c2 c3 ⊢
 have C1:=Lib.hid c1
 have C2:=Lib.hid c2
 have C3:=Lib.hid c3
 clear c1 c2 c3 Ad Ae Af k0 k1 k2
 have hb:=Below.refl w.heap.size w
 go_enter Tryz.func30,Tryz.ntmps30
 go_upto_region 1 with fail
 refine wp_alloc2 (fun w1 a0 a1 hk=>?_)
 replace hb:=hb.trans (hk.mono hb.size)
 clear hk
 obtain ⟨Ag,Ah,Ai,Aj,Ak,Al⟩:=ce6 a0
 obtain ⟨Aa,Am,Ab,An,Ac,Ao⟩:=cf3 a1
 go_upto_region 1 with fail
 obtain ⟨Av,Aw,Ax,Ay,Az,A0⟩:=cy6 a0
 obtain ⟨A1,A2,A3⟩:=cy3 a1
 have Ap:=rrV C1 R hb
 have Aq:=rrV C2 R hb
 have Ar:=rrV C3 R hb
 refine wp_region_tail_below 10 (by first | assumption | kernel_rfl) (by kernel_rfl) ?_
 simp only [List.take_succ_cons,List.take_zero,List.drop_succ_cons,List.drop_zero]
 repeat (quiet_step (first | (with_reducible exact Ap.out _ _) | (with_reducible exact Aq.out _ _) | (with_reducible exact Ar.out _ _)))
 refine wpQuiet_nil ?_
 intro w1 hw'
 obtain ⟨hk,hb⟩:=zQ hb hw'
 clear Ag Ah Ai Aj Ak Al Aa Ab Ac Am An Ao
 replace a0:=zB hk a0
 replace a1:=zB hk a1
 obtain ⟨Ag,Ah,Ai,Aj,Ak,Al⟩:=ce6 a0
 obtain ⟨Aa,Am,Ab,An,Ac,Ao⟩:=cf3 a1
 clear Ap Aq Ar Av Aw Ax Ay Az A0 A1 A2 A3
 clear hk hw'
 go_wp2
 refine bodyPost_ret (v:=.agg #[.string As,.string At,.string Au]) (by simp [results,Tryz.results30,go_sem,Aa,Ab,Ac]) rfl ⟨rfl,?_⟩
 repeat' (first | exact hb | refine Below.setCell ?_ (by first | exact Nat.le_refl _ | (dsimp only;omega)) _)
theorem pierce_none (a b c d x y z u v t:Rat) (q0:(((a*u)+(b*v))+(c*t))=0) (r1:RL a 200) (r2:RL b 200) (r3:RL c 200) (r4:RL d 200) (r5:a≠0∨b≠0∨c≠0) (r6:RL x 200) (r7:RL y 200) (r8:RL z 200) (r9:RL u 200) (r10:RL v 200) (r11:RL t 200) (r12:RL a 10000) (r13:RL x 10000) (r14:RL (a*x) 10000) (r15:RL b 10000) (r16:RL y 10000) (r17:RL ((0:Rat)+(a*x)) 10000) (r18:RL (b*y) 10000) (r19:RL c 10000) (r20:RL z 10000) (r21:RL (((0:Rat)+(a*x))+(b*y)) 10000) (r22:RL (c*z) 10000) (r23:RL d 10000) (r24:RL (((a*x)+(b*y))+(c*z)) 10000) (r25:RL u 10000) (r26:RL (a*u) 10000) (r27:RL v 10000) (r28:RL ((0:Rat)+(a*u)) 10000) (r29:RL (b*v) 10000) (r30:RL t 10000) (r31:RL (((0:Rat)+(a*u))+(b*v)) 10000) (r32:RL (c*t) 10000) (w:World) (R:EnvV w) :
   Calls Tryz.prog 63 #[.agg #[.string (ratB a),.string (ratB b),.string (ratB c),.string (ratB d)],.agg #[.string (ratB x),.string (ratB y),.string (ratB z)],.agg #[.string (ratB u),.string (ratB v),.string (ratB t)]] w (Ret w (.tuple #[.string ⟨#[]⟩,.int .i64 19])):=by
 have c1:=checkPlane_ok a b c d r1 r2 r3 r4 r5
 have c2:=fun (w:World) (R:EnvV w)=>vcheck_ok x y z r6 r7 r8 w R.toEnvR
 have c3:=fun (w:World) (R:EnvV w)=>vcheck_ok u v t r9 r10 r11 w R.toEnvR
 have c4:=fun (w:World) (R:EnvV w)=>orErr3 0 0 0 0 (by decide) w R.toEnvR
 have c5:=fun (w:World) (R:EnvV w)=>dot_any a b c x y z r12 r13 r14 r15 r16 r17 r18 r19 r20 r21 r22 w R.toEnvR
 have c6:=fun (w:World) (R:EnvV w)=>rsub_any d (((a*x)+(b*y))+(c*z)) r23 r24 w R.toEnvR
 have c7:CV 74 #[.agg #[.string (ratB a),.string (ratB b),.string (ratB c)],.agg #[.string (ratB u),.string (ratB v),.string (ratB t)]] (.string ⟨#[48]⟩):=fun w R=>(by have h:=dot_any a b c u v t r12 r25 r26 r15 r27 r28 r29 r19 r30 r31 r32 w R.toEnvR;rw [q0,rb_0] at h;exact h)
 have c8:CV 111 #[.string (ratB (d - (((a*x)+(b*y))+(c*z)))),.string ⟨#[48]⟩] (.tuple #[.string ⟨#[]⟩,.int .i64 17]):=fun w R=>(by have h:=rdiv_zero (ratB (d - (((a*x)+(b*y))+(c*z)))) w R.toEnvR;rw [rb_0] at h;exact h)
 obtain ⟨Bd,Au⟩:∃ vq,ratB (d - (((a*x)+(b*y))+(c*z)))=vq:=⟨_,rfl⟩
 obtain ⟨Be,Av⟩:∃ vq,ratB (((a*x)+(b*y))+(c*z))=vq:=⟨_,rfl⟩
 obtain ⟨Bf,Aw⟩:∃ vq,ratB a=vq:=⟨_,rfl⟩
 obtain ⟨Bg,Ax⟩:∃ vq,ratB b=vq:=⟨_,rfl⟩
 obtain ⟨Bh,Ay⟩:∃ vq,ratB c=vq:=⟨_,rfl⟩
 obtain ⟨Bi,Az⟩:∃ vq,ratB d=vq:=⟨_,rfl⟩
 obtain ⟨Bj,A0⟩:∃ vq,ratB t=vq:=⟨_,rfl⟩
 obtain ⟨Bk,A1⟩:∃ vq,ratB u=vq:=⟨_,rfl⟩
 obtain ⟨Bl,A2⟩:∃ vq,ratB v=vq:=⟨_,rfl⟩
 obtain ⟨Bm,A3⟩:∃ vq,ratB x=vq:=⟨_,rfl⟩
 obtain ⟨Bn,A4⟩:∃ vq,ratB y=vq:=⟨_,rfl⟩
 obtain ⟨Bo,A5⟩:∃ vq,ratB z=vq:=⟨_,rfl⟩
 try simp only [Au,Av,Aw,Ax,Ay,Az,A0,A1,A2,A3,A4,A5] at c1 c2 c3 c4 c5 c6 c7 c8 ⊢
 have C1:=Lib.hid c1
 have C2:=Lib.hid c2
 have C3:=Lib.hid c3
 have C4:=Lib.hid c4
 have C5:=Lib.hid c5
 have C6:=Lib.hid c6
 have C7:=Lib.hid c7
 have C8:=Lib.hid c8
 clear c1 c2 c3 c4 c5 c6 c7 c8 Au Av Aw Ax Ay Az A0 A1 A2 A3 A4 A5 q0 r1 r2 r3 r4 r5 r6 r7 r8 r9 r10 r11 r12 r13 r14 r15 r16 r17 r18 r19 r20 r21 r22 r23 r24 r25 r26 r27 r28 r29 r30 r31 r32
 have hb:=Below.refl w.heap.size w
 go_enter Tryz.func63,Tryz.ntmps63
 go_upto_region 1 with fail
 refine wp_alloc3 (fun w1 a0 a1 a2 hk=>?_)
 replace hb:=hb.trans (hk.mono hb.size)
 clear hk
 obtain ⟨Aa,Ab,Ac,Ad⟩:=ce4 a0
 obtain ⟨Ae,Af,Ag⟩:=ce3 a1
 obtain ⟨Ah,Ai,Aj⟩:=ce3 a2
 go_upto_region 1 with fail
 obtain ⟨Ak,Al,Am,An⟩:=cy4 a0
 obtain ⟨Ao,Ap,Aq⟩:=cy3 a1
 obtain ⟨Ar,As,At⟩:=cy3 a2
 have A6:=rrV C1 R hb
 have A7:=rrV C2 R hb
 have A8:=rrV C3 R hb
 refine wp_region_tail_below 6 (by first | assumption | kernel_rfl) (by kernel_rfl) ?_
 simp only [List.take_succ_cons,List.take_zero,List.drop_succ_cons,List.drop_zero]
 repeat (quiet_step (first | (with_reducible exact A6.out _ _) | (with_reducible exact A7.out _ _) | (with_reducible exact A8.out _ _)))
 refine wpQuiet_nil ?_
 intro w1 hw'
 obtain ⟨hk,hb⟩:=zQ hb hw'
 clear Aa Ab Ac Ad Ae Af Ag Ah Ai Aj
 replace a0:=zB hk a0
 replace a1:=zB hk a1
 replace a2:=zB hk a2
 obtain ⟨Aa,Ab,Ac,Ad⟩:=ce4 a0
 obtain ⟨Ae,Af,Ag⟩:=ce3 a1
 obtain ⟨Ah,Ai,Aj⟩:=ce3 a2
 clear A6 A7 A8 Ak Al Am An Ao Ap Aq Ar As At
 clear hk hw'
 go_upto_region 4 with (go_at_call 69;with_reducible refine (zL hb (C4.out _ (R.below hb))).mono ?_;clear hb;rintro e w1 ⟨rfl,hk,hb⟩;clear Aa Ab Ac Ad Ae Af Ag Ah Ai Aj;replace a0:=zB hk a0;replace a1:=zB hk a1;replace a2:=zB hk a2;obtain ⟨Aa,Ab,Ac,Ad⟩:=ce4 a0;obtain ⟨Ae,Af,Ag⟩:=ce3 a1;obtain ⟨Ah,Ai,Aj⟩:=ce3 a2;clear hk)
 obtain ⟨Ak,Al,Am,An⟩:=cy4 a0
 obtain ⟨Ao,Ap,Aq⟩:=cy3 a1
 obtain ⟨Ar,As,At⟩:=cy3 a2
 have A9:=rrV C5 R hb
 have Ba:=rrV C6 R hb
 have Bb:=rrV C7 R hb
 have Bc:=rrV C8 R hb
 refine wp_region_quiet_below (by first | assumption | kernel_rfl) (by kernel_rfl) ?_
 repeat (quiet_step (first | (with_reducible exact A9.out _ _) | (with_reducible exact Ba.out _ _) | (with_reducible exact Bb.out _ _) | (with_reducible exact Bc.out _ _)))
 refine wpQuiet_nil ?_
 intro w1 hw'
 obtain ⟨hk,hb⟩:=zQ hb hw'
 clear Aa Ab Ac Ad Ae Af Ag Ah Ai Aj
 replace a0:=zB hk a0
 replace a1:=zB hk a1
 replace a2:=zB hk a2
 obtain ⟨Aa,Ab,Ac,Ad⟩:=ce4 a0
 obtain ⟨Ae,Af,Ag⟩:=ce3 a1
 obtain ⟨Ah,Ai,Aj⟩:=ce3 a2
 clear A9 Ba Bb Bc Ak Al Am An Ao Ap Aq Ar As At
 clear hk hw'
 go_wp2
 first | go_ret | go_ret2 | go_ret3
 exact ⟨rfl,hb⟩
end Go.Proofs.YtpennccflalobaaGreatDoor.Kl
