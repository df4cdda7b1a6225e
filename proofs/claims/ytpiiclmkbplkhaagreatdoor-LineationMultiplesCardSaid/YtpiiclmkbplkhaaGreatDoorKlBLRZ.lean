import Derived.Test.YtpiiclmkbplkhaaGreatDoorKlBLT
namespace Go.Proofs.YtpiiclmkbplkhaaGreatDoor.Kl
open Go Go.RowKit
set_option maxRecDepth 100000
set_option maxHeartbeats 8000000
theorem sqnnL (a:Rat):0≤a*a:=by
 by_cases h:0≤a
 · exact Rat.mul_nonneg h h
 · have h2:0 ≤ -a:=by grind
   have:=Rat.mul_nonneg h2 h2
   grind
theorem sqsum_ne {a b c:Rat} (h:a≠0∨b≠0∨c≠0):a*a+b*b+c*c≠0:=fun e=>by
 have ha:=sqnnL a
 have hb:=sqnnL b
 have hc:=sqnnL c
 have a0:a*a=0:=by grind
 have b0:b*b=0:=by grind
 have c0:c*c=0:=by grind
 exact nz3L h ⟨(Rat.mul_eq_zero.1 a0).elim id id,(Rat.mul_eq_zero.1 b0).elim id id,(Rat.mul_eq_zero.1 c0).elim id id⟩
theorem sq2_ne {a b:Rat} (h:a≠0∨b≠0):a*a+b*b≠0:=fun e=>by
 have h1:=sqsum_ne (c:=0) (h.elim Or.inl (fun k=>Or.inr (Or.inl k)))
 exact h1 (by rw [e];decide +kernel)
theorem mul_ne {a b:Rat} (ha:a≠0) (hb:b≠0):a*b≠0:=fun e=>(Rat.mul_eq_zero.1 e).elim ha hb
theorem lSame_f (a b c x y z:Rat) (na:RN a 6 3) (nb:RN b 6 3) (nc:RN c 6 3) (nx:RN x 6 3) (ny:RN y 6 3) (nz:RN z 6 3) (hu:a≠0∨b≠0∨c≠0) (hv:x≠0∨y≠0∨z≠0) (hp:¬ (((b*z) - (c*y))=0∧((c*x) - (a*z))=0∧((a*y) - (b*x))=0)) (w:World) (R:EnvV w) :
   Calls Tryz.prog 16 #[.agg #[.string (ratB a),.string (ratB b),.string (ratB c)],.agg #[.string (ratB x),.string (ratB y),.string (ratB z)]] w (Ret w (.tuple #[.bool false,.int .i64 0])):=by
 have Ag:=RN_mul nb nz
 have Ah:=RN_mul nc ny
 have Ai:=RN_mul nc nx
 have Aj:=RN_mul na nz
 have Ak:=RN_mul na ny
 have Al:=RN_mul nb nx
 have c1:=lcheck_ok a b c hu na.r2 nb.r2 nc.r2
 have c2:=lcheck_ok x y z hv nx.r2 ny.r2 nz.r2
 have c3:=fun (w:World) (R:EnvV w)=>orErr2 0 0 0 (by decide) w R.toEnvR
 have c4:CV 44 #[.agg #[.string (ratB a),.string (ratB b),.string (ratB c)],.agg #[.string (ratB x),.string (ratB y),.string (ratB z)]] (.tuple #[.bool false,.int .i64 0]):=fun w R=>(by have h':=parallel_any a b c x y z na.r2 nb.r2 nc.r2 nx.r2 ny.r2 nz.r2 nb.rm nz.rm nc.rm ny.rm Ag.rm Ah.rm nx.rm na.rm Ai.rm Aj.rm Ak.rm Al.rm w R;rw [decide_eq_false hp] at h';exact h')
 obtain ⟨A0,Am⟩:∃ vq,ratB a=vq:=⟨_,rfl⟩
 obtain ⟨A1,An⟩:∃ vq,ratB b=vq:=⟨_,rfl⟩
 obtain ⟨A2,Ao⟩:∃ vq,ratB c=vq:=⟨_,rfl⟩
 obtain ⟨A3,Ap⟩:∃ vq,ratB x=vq:=⟨_,rfl⟩
 obtain ⟨A4,Aq⟩:∃ vq,ratB y=vq:=⟨_,rfl⟩
 obtain ⟨A5,Ar⟩:∃ vq,ratB z=vq:=⟨_,rfl⟩
 try simp only [Am,An,Ao,Ap,Aq,Ar] at c1 c2 c3 c4 ⊢
 have C1:=Lib.hid c1
 have C2:=Lib.hid c2
 have C3:=Lib.hid c3
 have C4:=Lib.hid c4
 clear c1 c2 c3 c4 Am An Ao Ap Aq Ar Ag Ah Ai Aj Ak Al na nb nc nx ny nz hu hv hp
 have hb:=Below.refl w.heap.size w
 go_enter Tryz.func16,Tryz.ntmps16
 go_upto_region 1 with fail
 refine wp_alloc2 (fun w1 a0 a1 hk=>?_)
 replace hb:=hb.trans (hk.mono hb.size)
 clear hk
 obtain ⟨Aa,Ab,Ac⟩:=ce3 a0
 obtain ⟨Ad,Ae,Af⟩:=ce3 a1
 go_upto_region 1 with fail
 obtain ⟨Au,Av,Aw⟩:=cy3 a0
 obtain ⟨Ax,Ay,Az⟩:=cy3 a1
 have As:=rrV C1 R hb
 have At:=rrV C2 R hb
 refine wp_region_tail_below 4 (by first | assumption | kernel_rfl) (by kernel_rfl) ?_
 simp only [List.take_succ_cons,List.take_zero,List.drop_succ_cons,List.drop_zero]
 repeat (quiet_step (first | (with_reducible exact As.out _ _) | (with_reducible exact At.out _ _)))
 refine wpQuiet_nil ?_
 intro w1 hw'
 obtain ⟨hk,hb⟩:=zQ hb hw'
 clear Aa Ab Ac Ad Ae Af
 replace a0:=zB hk a0
 replace a1:=zB hk a1
 obtain ⟨Aa,Ab,Ac⟩:=ce3 a0
 obtain ⟨Ad,Ae,Af⟩:=ce3 a1
 clear As At Au Av Aw Ax Ay Az
 clear hk hw'
 go_wp2_with ((first | (go_at_call 43;with_reducible refine (zL hb (C3.out _ (R.below hb))).mono ?_) | (go_at_call 44;with_reducible refine (chVB hb R C4).mono ?_));clear hb;rintro e w1 ⟨rfl,hk,hb⟩;clear Aa Ab Ac Ad Ae Af;replace a0:=zB hk a0;replace a1:=zB hk a1;obtain ⟨Aa,Ab,Ac⟩:=ce3 a0;obtain ⟨Ad,Ae,Af⟩:=ce3 a1;clear hk)
 first | go_ret | go_ret2 | go_ret3
 exact ⟨rfl,hb⟩
theorem xdetL (a b c d:Rat) (r1:RL a 10000) (r2:RL d 10000) (r3:RL b 10000) (r4:RL c 10000) (r5:RL (a*d) 10000) (r6:RL (b*c) 10000) (w:World) (R:EnvV w) :
   Calls Tryz.prog 79 #[.string (ratB a),.string (ratB b),.string (ratB c),.string (ratB d)] w (Ret w (.string (ratB ((a*d) - (b*c))))):=by
 have c1:=fun (w:World) (R:EnvV w)=>rmul_any a d r1 r2 w R.toEnvR
 have c2:=fun (w:World) (R:EnvV w)=>rmul_any b c r3 r4 w R.toEnvR
 have c3:=fun (w:World) (R:EnvV w)=>rsub_any (a*d) (b*c) r5 r6 w R.toEnvR
 have C1:=Lib.hid c1
 have C2:=Lib.hid c2
 have C3:=Lib.hid c3
 clear c1 c2 c3 r1 r2 r3 r4 r5 r6
 have hb:=Below.refl w.heap.size w
 go_enter Tryz.func79,Tryz.ntmps79
 go_wp2_with ((first | (go_at_call 38;first | with_reducible refine (chVB hb R C1).mono ?_ | with_reducible refine (chVB hb R C2).mono ?_) | (go_at_call 112;with_reducible refine (chVB hb R C3).mono ?_));clear hb;rintro e w1 ⟨rfl,hk,hb⟩;clear hk)
 first | go_ret | go_ret2 | go_ret3
 exact ⟨rfl,hb⟩
theorem xcrossL (a b c x y z:Rat) (r1:RL b 10000) (r2:RL z 10000) (r3:RL c 10000) (r4:RL y 10000) (r5:RL (b*z) 10000) (r6:RL (c*y) 10000) (r7:RL x 10000) (r8:RL a 10000) (r9:RL (c*x) 10000) (r10:RL (a*z) 10000) (r11:RL (a*y) 10000) (r12:RL (b*x) 10000) (w:World) (R:EnvV w) :
   Calls Tryz.prog 53 #[.agg #[.string (ratB a),.string (ratB b),.string (ratB c)],.agg #[.string (ratB x),.string (ratB y),.string (ratB z)]] w (Ret w (.agg #[.string (ratB ((b*z) - (c*y))),.string (ratB ((c*x) - (a*z))),.string (ratB ((a*y) - (b*x)))])):=by
 have c1:=xdetL b c y z r1 r2 r3 r4 r5 r6
 have c2:=xdetL c a z x r3 r7 r8 r2 r9 r10
 have c3:=xdetL a b x y r8 r4 r1 r7 r11 r12
 obtain ⟨Ay,Ad⟩:∃ vq,ratB ((a*y) - (b*x))=vq:=⟨_,rfl⟩
 obtain ⟨Az,Ae⟩:∃ vq,ratB ((b*z) - (c*y))=vq:=⟨_,rfl⟩
 obtain ⟨A0,Af⟩:∃ vq,ratB ((c*x) - (a*z))=vq:=⟨_,rfl⟩
 obtain ⟨Ba,Ag⟩:∃ vq,ratB a=vq:=⟨_,rfl⟩
 obtain ⟨Bb,Ah⟩:∃ vq,ratB b=vq:=⟨_,rfl⟩
 obtain ⟨Bc,Ai⟩:∃ vq,ratB c=vq:=⟨_,rfl⟩
 obtain ⟨Bd,Aj⟩:∃ vq,ratB x=vq:=⟨_,rfl⟩
 obtain ⟨Be,Ak⟩:∃ vq,ratB y=vq:=⟨_,rfl⟩
 obtain ⟨Bf,Al⟩:∃ vq,ratB z=vq:=⟨_,rfl⟩
 try simp only [Ad,Ae,Af,Ag,Ah,Ai,Aj,Ak,Al] at c1 c2 c3 ⊢
 have C1:=Lib.hid c1
 have C2:=Lib.hid c2
 have C3:=Lib.hid c3
 clear c1 c2 c3 Ad Ae Af Ag Ah Ai Aj Ak Al r1 r2 r3 r4 r5 r6 r7 r8 r9 r10 r11 r12
 have hb:=Below.refl w.heap.size w
 go_enter Tryz.func53,Tryz.ntmps53
 go_upto_region 1 with fail
 refine wp_alloc3 (fun w1 a0 a1 a2 hk=>?_)
 replace hb:=hb.trans (hk.mono hb.size)
 clear hk
 obtain ⟨Am,An,Ao⟩:=ce3 a0
 obtain ⟨Ap,Aq,Ar⟩:=ce3 a1
 obtain ⟨Aa,As,Ab,At,Ac,Au⟩:=cf3 a2
 go_upto_region 1 with fail
 obtain ⟨A1,A2,A3⟩:=cy3 a0
 obtain ⟨A4,A5,A6⟩:=cy3 a1
 obtain ⟨A7,A8,A9⟩:=cy3 a2
 have Av:=rrV C1 R hb
 have Aw:=rrV C2 R hb
 have Ax:=rrV C3 R hb
 refine wp_region_tail_below 28 (by first | assumption | kernel_rfl) (by kernel_rfl) ?_
 simp only [List.take_succ_cons,List.take_zero,List.drop_succ_cons,List.drop_zero]
 repeat (quiet_step (first | (with_reducible exact Av.out _ _) | (with_reducible exact Aw.out _ _) | (with_reducible exact Ax.out _ _)))
 refine wpQuiet_nil ?_
 intro w1 hw'
 obtain ⟨hk,hb⟩:=zQ hb hw'
 clear Am An Ao Ap Aq Ar Aa Ab Ac As At Au
 replace a0:=zB hk a0
 replace a1:=zB hk a1
 replace a2:=zB hk a2
 obtain ⟨Am,An,Ao⟩:=ce3 a0
 obtain ⟨Ap,Aq,Ar⟩:=ce3 a1
 obtain ⟨Aa,As,Ab,At,Ac,Au⟩:=cf3 a2
 clear Av Aw Ax A1 A2 A3 A4 A5 A6 A7 A8 A9
 clear hk hw'
 go_wp2
 refine bodyPost_ret (v:=.agg #[.string Az,.string A0,.string Ay]) (by simp [results,Tryz.results53,go_sem,Aa,Ab,Ac]) rfl ⟨rfl,?_⟩
 repeat' (first | exact hb | refine Below.setCell ?_ (by first | exact Nat.le_refl _ | (dsimp only;omega)) _)
theorem xdotL (a b c x y z:Rat) (r1:RL a 10000) (r2:RL x 10000) (r3:RL b 10000) (r4:RL y 10000) (r5:RL c 10000) (r6:RL z 10000) (r7:RL (a*x) 80) (r8:RL (b*y) 80) (r9:RL (c*z) 80) (w:World) (R:EnvV w) :
   Calls Tryz.prog 55 #[.agg #[.string (ratB a),.string (ratB b),.string (ratB c)],.agg #[.string (ratB x),.string (ratB y),.string (ratB z)]] w (Ret w (.string (ratB (((a*x)+(b*y))+(c*z))))):=by
 have c1:=fun (w:World) (R:EnvV w)=>rmul_any a x r1 r2 w R.toEnvR
 have c2:=fun (w:World) (R:EnvV w)=>rmul_any b y r3 r4 w R.toEnvR
 have c3:=fun (w:World) (R:EnvV w)=>rmul_any c z r5 r6 w R.toEnvR
 have c4:=fun (w:World) (R:EnvV w)=>rsum3 (a*x) (b*y) (c*z) r7 r8 r9 w R.toEnvR
 obtain ⟨Az,Ag⟩:∃ vq,ratB (((a*x)+(b*y))+(c*z))=vq:=⟨_,rfl⟩
 obtain ⟨A0,Ah⟩:∃ vq,ratB (a*x)=vq:=⟨_,rfl⟩
 obtain ⟨A1,Ai⟩:∃ vq,ratB (b*y)=vq:=⟨_,rfl⟩
 obtain ⟨A2,Aj⟩:∃ vq,ratB (c*z)=vq:=⟨_,rfl⟩
 obtain ⟨A3,Ak⟩:∃ vq,ratB a=vq:=⟨_,rfl⟩
 obtain ⟨A4,Al⟩:∃ vq,ratB b=vq:=⟨_,rfl⟩
 obtain ⟨A5,Am⟩:∃ vq,ratB c=vq:=⟨_,rfl⟩
 obtain ⟨A6,An⟩:∃ vq,ratB x=vq:=⟨_,rfl⟩
 obtain ⟨A7,Ao⟩:∃ vq,ratB y=vq:=⟨_,rfl⟩
 obtain ⟨A8,Ap⟩:∃ vq,ratB z=vq:=⟨_,rfl⟩
 try simp only [Ag,Ah,Ai,Aj,Ak,Al,Am,An,Ao,Ap] at c1 c2 c3 c4 ⊢
 have C1:=Lib.hid c1
 have C2:=Lib.hid c2
 have C3:=Lib.hid c3
 have C4:=Lib.hid c4
 clear c1 c2 c3 c4 Ag Ah Ai Aj Ak Al Am An Ao Ap r1 r2 r3 r4 r5 r6 r7 r8 r9
 have hb:=Below.refl w.heap.size w
 go_enter Tryz.func55,Tryz.ntmps55
 go_upto_region 1 with fail
 refine wp_alloc2 (fun w1 a0 a1 hk=>?_)
 replace hb:=hb.trans (hk.mono hb.size)
 clear hk
 obtain ⟨Aa,Ab,Ac⟩:=ce3 a0
 obtain ⟨Ad,Ae,Af⟩:=ce3 a1
 go_upto_region 1 with fail
 obtain ⟨At,Au,Av⟩:=cy3 a0
 obtain ⟨Aw,Ax,Ay⟩:=cy3 a1
 have Aq:=rrV C1 R hb
 have Ar:=rrV C2 R hb
 have As:=rrV C3 R hb
 refine wp_region_tail_below 15 (by first | assumption | kernel_rfl) (by kernel_rfl) ?_
 simp only [List.take_succ_cons,List.take_zero,List.drop_succ_cons,List.drop_zero]
 repeat (quiet_step (first | (with_reducible exact Aq.out _ _) | (with_reducible exact Ar.out _ _) | (with_reducible exact As.out _ _)))
 refine wpQuiet_nil ?_
 intro w1 hw'
 obtain ⟨hk,hb⟩:=zQ hb hw'
 clear Aa Ab Ac Ad Ae Af
 replace a0:=zB hk a0
 replace a1:=zB hk a1
 obtain ⟨Aa,Ab,Ac⟩:=ce3 a0
 obtain ⟨Ad,Ae,Af⟩:=ce3 a1
 clear Aq Ar As At Au Av Aw Ax Ay
 clear hk hw'
 go_wp2_with (go_at_call 87;with_reducible refine (zL hb (C4.out _ (R.below hb))).mono ?_;clear hb;rintro e w1 ⟨rfl,hk,hb⟩;clear Aa Ab Ac Ad Ae Af;replace a0:=zB hk a0;replace a1:=zB hk a1;obtain ⟨Aa,Ab,Ac⟩:=ce3 a0;obtain ⟨Ad,Ae,Af⟩:=ce3 a1;clear hk)
 first | go_ret | go_ret2 | go_ret3
 exact ⟨rfl,hb⟩
theorem lcos (a b c x y z:Rat) (r1:RL a 10000) (r2:RL x 10000) (r3:RL b 10000) (r4:RL y 10000) (r5:RL c 10000) (r6:RL z 10000) (r7:RL (a*x) 80) (r8:RL (b*y) 80) (r9:RL (c*z) 80) (r10:RL (((a*x)+(b*y))+(c*z)) 10000) (r11:RL (a*a) 80) (r12:RL (b*b) 80) (r13:RL (c*c) 80) (r14:RL (x*x) 80) (r15:RL (y*y) 80) (r16:RL (z*z) 80) (r17:RL (((a*a)+(b*b))+(c*c)) 10000) (r18:RL (((x*x)+(y*y))+(z*z)) 10000) (r19:((((a*a)+(b*b))+(c*c))*(((x*x)+(y*y))+(z*z)))≠0) (r20:RL ((((a*x)+(b*y))+(c*z))*(((a*x)+(b*y))+(c*z))) 10000) (r21:RL ((((a*a)+(b*b))+(c*c))*(((x*x)+(y*y))+(z*z))) 10000) (w:World) (R:EnvV w) :
   Calls Tryz.prog 50 #[.agg #[.string (ratB a),.string (ratB b),.string (ratB c)],.agg #[.string (ratB x),.string (ratB y),.string (ratB z)]] w (Ret w (.string (ratB (((((a*x)+(b*y))+(c*z))*(((a*x)+(b*y))+(c*z))) / ((((a*a)+(b*b))+(c*c))*(((x*x)+(y*y))+(z*z))))))):=by
 have c1:=xdotL a b c x y z r1 r2 r3 r4 r5 r6 r7 r8 r9
 have c2:=fun (w:World) (R:EnvV w)=>rmul_any (((a*x)+(b*y))+(c*z)) (((a*x)+(b*y))+(c*z)) r10 r10 w R.toEnvR
 have c3:=xdotL a b c a b c r1 r1 r3 r3 r5 r5 r11 r12 r13
 have c4:=xdotL x y z x y z r2 r2 r4 r4 r6 r6 r14 r15 r16
 have c5:=fun (w:World) (R:EnvV w)=>rmul_any (((a*a)+(b*b))+(c*c)) (((x*x)+(y*y))+(z*z)) r17 r18 w R.toEnvR
 have c6:=fun (w:World) (R:EnvV w)=>rdiv_any ((((a*x)+(b*y))+(c*z))*(((a*x)+(b*y))+(c*z))) ((((a*a)+(b*b))+(c*c))*(((x*x)+(y*y))+(z*z))) r20 r21 r19 w R.toEnvR
 obtain ⟨A3,Ag⟩:∃ vq,ratB (((((a*x)+(b*y))+(c*z))*(((a*x)+(b*y))+(c*z))) / ((((a*a)+(b*b))+(c*c))*(((x*x)+(y*y))+(z*z))))=vq:=⟨_,rfl⟩
 obtain ⟨A4,Ah⟩:∃ vq,ratB ((((a*a)+(b*b))+(c*c))*(((x*x)+(y*y))+(z*z)))=vq:=⟨_,rfl⟩
 obtain ⟨A5,Ai⟩:∃ vq,ratB ((((a*x)+(b*y))+(c*z))*(((a*x)+(b*y))+(c*z)))=vq:=⟨_,rfl⟩
 obtain ⟨A6,Aj⟩:∃ vq,ratB (((a*a)+(b*b))+(c*c))=vq:=⟨_,rfl⟩
 obtain ⟨A7,Ak⟩:∃ vq,ratB (((a*x)+(b*y))+(c*z))=vq:=⟨_,rfl⟩
 obtain ⟨A8,Al⟩:∃ vq,ratB (((x*x)+(y*y))+(z*z))=vq:=⟨_,rfl⟩
 obtain ⟨A9,Am⟩:∃ vq,ratB a=vq:=⟨_,rfl⟩
 obtain ⟨Ba,An⟩:∃ vq,ratB b=vq:=⟨_,rfl⟩
 obtain ⟨Bb,Ao⟩:∃ vq,ratB c=vq:=⟨_,rfl⟩
 obtain ⟨Bc,Ap⟩:∃ vq,ratB x=vq:=⟨_,rfl⟩
 obtain ⟨Bd,Aq⟩:∃ vq,ratB y=vq:=⟨_,rfl⟩
 obtain ⟨Be,Ar⟩:∃ vq,ratB z=vq:=⟨_,rfl⟩
 try simp only [Ag,Ah,Ai,Aj,Ak,Al,Am,An,Ao,Ap,Aq,Ar] at c1 c2 c3 c4 c5 c6 ⊢
 have C1:=Lib.hid c1
 have C2:=Lib.hid c2
 have C3:=Lib.hid c3
 have C4:=Lib.hid c4
 have C5:=Lib.hid c5
 have C6:=Lib.hid c6
 clear c1 c2 c3 c4 c5 c6 Ag Ah Ai Aj Ak Al Am An Ao Ap Aq Ar r1 r2 r3 r4 r5 r6 r7 r8 r9 r10 r11 r12 r13 r14 r15 r16 r17 r18 r19 r20 r21
 have hb:=Below.refl w.heap.size w
 go_enter Tryz.func50,Tryz.ntmps50
 go_upto_region 1 with fail
 refine wp_alloc2 (fun w1 a0 a1 hk=>?_)
 replace hb:=hb.trans (hk.mono hb.size)
 clear hk
 obtain ⟨Aa,Ab,Ac⟩:=ce3 a0
 obtain ⟨Ad,Ae,Af⟩:=ce3 a1
 go_upto_region 2 with (go_at_call 55;with_reducible refine (chVB hb R C1).mono ?_;clear hb;rintro e w1 ⟨rfl,hk,hb⟩;clear Aa Ab Ac Ad Ae Af;replace a0:=zB hk a0;replace a1:=zB hk a1;obtain ⟨Aa,Ab,Ac⟩:=ce3 a0;obtain ⟨Ad,Ae,Af⟩:=ce3 a1;clear hk)
 obtain ⟨Ax,Ay,Az⟩:=cy3 a0
 obtain ⟨A0,A1,A2⟩:=cy3 a1
 have As:=rrV C2 R hb
 have At:=rrV C3 R hb
 have Au:=rrV C4 R hb
 have Av:=rrV C5 R hb
 have Aw:=rrV C6 R hb
 refine wp_region_quiet_below (by first | assumption | kernel_rfl) (by kernel_rfl) ?_
 repeat (quiet_step (first | (with_reducible exact As.out _ _) | (with_reducible exact At.out _ _) | (with_reducible exact Au.out _ _) | (with_reducible exact Av.out _ _) | (with_reducible exact Aw.out _ _)))
 refine wpQuiet_nil ?_
 intro w1 hw'
 obtain ⟨hk,hb⟩:=zQ hb hw'
 clear Aa Ab Ac Ad Ae Af
 replace a0:=zB hk a0
 replace a1:=zB hk a1
 obtain ⟨Aa,Ab,Ac⟩:=ce3 a0
 obtain ⟨Ad,Ae,Af⟩:=ce3 a1
 clear As At Au Av Aw Ax Ay Az A0 A1 A2
 clear hk hw'
 go_wp2
 first | go_ret | go_ret2 | go_ret3
 exact ⟨rfl,hb⟩
theorem langle (a b c x y z:Rat) (r1:RL a 10000) (r2:RL x 10000) (r3:RL b 10000) (r4:RL y 10000) (r5:RL c 10000) (r6:RL z 10000) (r7:RL (a*x) 80) (r8:RL (b*y) 80) (r9:RL (c*z) 80) (r10:RL (((a*x)+(b*y))+(c*z)) 10000) (r11:RL (a*a) 80) (r12:RL (b*b) 80) (r13:RL (c*c) 80) (r14:RL (x*x) 80) (r15:RL (y*y) 80) (r16:RL (z*z) 80) (r17:RL (((a*a)+(b*b))+(c*c)) 10000) (r18:RL (((x*x)+(y*y))+(z*z)) 10000) (r19:((((a*a)+(b*b))+(c*c))*(((x*x)+(y*y))+(z*z)))≠0) (r20:RL ((((a*x)+(b*y))+(c*z))*(((a*x)+(b*y))+(c*z))) 10000) (r21:RL ((((a*a)+(b*b))+(c*c))*(((x*x)+(y*y))+(z*z))) 10000) (r22:RL (((((a*x)+(b*y))+(c*z))*(((a*x)+(b*y))+(c*z))) / ((((a*a)+(b*b))+(c*c))*(((x*x)+(y*y))+(z*z)))) 200) (w:World) (R:EnvV w) :
   Calls Tryz.prog 49 #[.agg #[.string (ratB a),.string (ratB b),.string (ratB c)],.agg #[.string (ratB x),.string (ratB y),.string (ratB z)]] w (Ret w (.tuple #[.string (ratB (((((a*x)+(b*y))+(c*z))*(((a*x)+(b*y))+(c*z))) / ((((a*a)+(b*b))+(c*c))*(((x*x)+(y*y))+(z*z))))),.int .i64 0])):=by
 have c1:=lcos a b c x y z r1 r2 r3 r4 r5 r6 r7 r8 r9 r10 r11 r12 r13 r14 r15 r16 r17 r18 r19 r20 r21
 have c2:∀ w,EnvV w→Calls Tryz.prog 82 #[.string (ratB (((((a*x)+(b*y))+(c*z))*(((a*x)+(b*y))+(c*z))) / ((((a*a)+(b*b))+(c*c))*(((x*x)+(y*y))+(z*z))))),.slice (some ⟨w.heap.size,0,none⟩) 1 1] (w.alloc (Obj.cells #[Value.string (ratB (((((a*x)+(b*y))+(c*z))*(((a*x)+(b*y))+(c*z))) / ((((a*a)+(b*b))+(c*c))*(((x*x)+(y*y))+(z*z)))))] 22)) (Ret w (.tuple #[.string (ratB (((((a*x)+(b*y))+(c*z))*(((a*x)+(b*y))+(c*z))) / ((((a*a)+(b*b))+(c*c))*(((x*x)+(y*y))+(z*z))))),.int .i64 0])):=fun w R=>resR (ratB (((((a*x)+(b*y))+(c*z))*(((a*x)+(b*y))+(c*z))) / ((((a*a)+(b*b))+(c*c))*(((x*x)+(y*y))+(z*z))))) (ratB (((((a*x)+(b*y))+(c*z))*(((a*x)+(b*y))+(c*z))) / ((((a*a)+(b*b))+(c*c))*(((x*x)+(y*y))+(z*z))))) (by intro t ht;simp only [List.mem_cons,List.not_mem_nil,or_false] at ht;subst ht;exact ⟨_,rfl,r22⟩) w R.toEnvR
 obtain ⟨An,Aa⟩:∃ vq,ratB (((((a*x)+(b*y))+(c*z))*(((a*x)+(b*y))+(c*z))) / ((((a*a)+(b*b))+(c*c))*(((x*x)+(y*y))+(z*z))))=vq:=⟨_,rfl⟩
 obtain ⟨Ao,Ab⟩:∃ vq,ratB a=vq:=⟨_,rfl⟩
 obtain ⟨Ap,Ac⟩:∃ vq,ratB b=vq:=⟨_,rfl⟩
 obtain ⟨Aq,Ad⟩:∃ vq,ratB c=vq:=⟨_,rfl⟩
 obtain ⟨Ar,Ae⟩:∃ vq,ratB x=vq:=⟨_,rfl⟩
 obtain ⟨As,Af⟩:∃ vq,ratB y=vq:=⟨_,rfl⟩
 obtain ⟨At,Ag⟩:∃ vq,ratB z=vq:=⟨_,rfl⟩
 try simp only [Aa,Ab,Ac,Ad,Ae,Af,Ag] at c1 c2 ⊢
 have C1:=Lib.hid c1
 have C2:=Lib.hid c2
 clear c1 c2 Aa Ab Ac Ad Ae Af Ag r1 r2 r3 r4 r5 r6 r7 r8 r9 r10 r11 r12 r13 r14 r15 r16 r17 r18 r19 r20 r21 r22
 have hb:=Below.refl w.heap.size w
 go_enter Tryz.func49,Tryz.ntmps49
 go_upto_region 1 with fail
 refine wp_alloc2 (fun w1 a0 a1 hk=>?_)
 replace hb:=hb.trans (hk.mono hb.size)
 clear hk
 obtain ⟨Ah,Ai,Aj⟩:=ce3 a0
 obtain ⟨Ak,Al,Am⟩:=ce3 a1
 go_wp2_with (first | (go_at_call 50;with_reducible refine (chVB hb R C1).mono ?_;clear hb;rintro e w1 ⟨rfl,hk,hb⟩;clear Ah Ai Aj Ak Al Am;replace a0:=zB hk a0;replace a1:=zB hk a1;obtain ⟨Ah,Ai,Aj⟩:=ce3 a0;obtain ⟨Ak,Al,Am⟩:=ce3 a1;clear hk) | (go_at_call 82;with_reducible refine (zL hb (C2.out _ (R.below hb))).mono ?_;clear hb;rintro e w1 ⟨rfl,hk,hb⟩;clear hk))
 first | go_ret | go_ret2 | go_ret3
 exact ⟨rfl,hb⟩
theorem lcosN (a b c x y z:Rat) (na:RN a 6 3) (nb:RN b 6 3) (nc:RN c 6 3) (nx:RN x 6 3) (ny:RN y 6 3) (nz:RN z 6 3) (hu:a≠0∨b≠0∨c≠0) (hv:x≠0∨y≠0∨z≠0) (w:World) (R:EnvV w) :
   Calls Tryz.prog 50 #[.agg #[.string (ratB a),.string (ratB b),.string (ratB c)],.agg #[.string (ratB x),.string (ratB y),.string (ratB z)]] w (Ret w (.string (ratB (((((a*x)+(b*y))+(c*z))*(((a*x)+(b*y))+(c*z))) / ((((a*a)+(b*b))+(c*c))*(((x*x)+(y*y))+(z*z))))))):=
 lcos a b c x y z (RN.rl (K:=10000) na) (RN.rl (K:=10000) nx) (RN.rl (K:=10000) nb) (RN.rl (K:=10000) ny) (RN.rl (K:=10000) nc) (RN.rl (K:=10000) nz) (RN.rl (K:=80) (RN_mul na nx) (by decide) (by decide)) (RN.rl (K:=80) (RN_mul nb ny) (by decide) (by decide)) (RN.rl (K:=80) (RN_mul nc nz) (by decide) (by decide)) (RN.rl (K:=10000) (RN_add (N:=25) (RN_add (N:=18) (RN_mul na nx) (RN_mul nb ny)) (RN_mul nc nz)) (by decide) (by decide)) (RN.rl (K:=80) (RN_mul na na) (by decide) (by decide)) (RN.rl (K:=80) (RN_mul nb nb) (by decide) (by decide)) (RN.rl (K:=80) (RN_mul nc nc) (by decide) (by decide)) (RN.rl (K:=80) (RN_mul nx nx) (by decide) (by decide)) (RN.rl (K:=80) (RN_mul ny ny) (by decide) (by decide)) (RN.rl (K:=80) (RN_mul nz nz) (by decide) (by decide)) (RN.rl (K:=10000) (RN_add (N:=25) (RN_add (N:=18) (RN_mul na na) (RN_mul nb nb)) (RN_mul nc nc)) (by decide) (by decide)) (RN.rl (K:=10000) (RN_add (N:=25) (RN_add (N:=18) (RN_mul nx nx) (RN_mul ny ny)) (RN_mul nz nz)) (by decide) (by decide)) (mul_ne (sqsum_ne hu) (sqsum_ne hv)) (RN.rl (K:=10000) (RN_mul (RN_add (N:=25) (RN_add (N:=18) (RN_mul na nx) (RN_mul nb ny)) (RN_mul nc nz)) (RN_add (N:=25) (RN_add (N:=18) (RN_mul na nx) (RN_mul nb ny)) (RN_mul nc nz))) (by decide) (by decide)) (RN.rl (K:=10000) (RN_mul (RN_add (N:=25) (RN_add (N:=18) (RN_mul na na) (RN_mul nb nb)) (RN_mul nc nc)) (RN_add (N:=25) (RN_add (N:=18) (RN_mul nx nx) (RN_mul ny ny)) (RN_mul nz nz))) (by decide) (by decide)) w R
theorem xdotN (a b c x y z:Rat) (na:RN a 6 3) (nb:RN b 6 3) (nc:RN c 6 3) (nx:RN x 6 3) (ny:RN y 6 3) (nz:RN z 6 3) (w:World) (R:EnvV w) :
   Calls Tryz.prog 55 #[.agg #[.string (ratB a),.string (ratB b),.string (ratB c)],.agg #[.string (ratB x),.string (ratB y),.string (ratB z)]] w (Ret w (.string (ratB (((a*x)+(b*y))+(c*z))))):=
 xdotL a b c x y z (RN.rl (K:=10000) na) (RN.rl (K:=10000) nx) (RN.rl (K:=10000) nb) (RN.rl (K:=10000) ny) (RN.rl (K:=10000) nc) (RN.rl (K:=10000) nz) (RN.rl (K:=80) (RN_mul na nx) (by decide) (by decide)) (RN.rl (K:=80) (RN_mul nb ny) (by decide) (by decide)) (RN.rl (K:=80) (RN_mul nc nz) (by decide) (by decide)) w R
theorem xdetN (a b x y:Rat) (na:RN a 6 3) (nb:RN b 6 3) (nx:RN x 6 3) (ny:RN y 6 3) (w:World) (R:EnvV w) :
   Calls Tryz.prog 79 #[.string (ratB a),.string (ratB b),.string (ratB x),.string (ratB y)] w (Ret w (.string (ratB ((a*y) - (b*x))))):=
 xdetL a b x y (RN.rl (K:=10000) na) (RN.rl (K:=10000) ny) (RN.rl (K:=10000) nb) (RN.rl (K:=10000) nx) (RN.rl (K:=10000) (RN_mul na ny) (by decide) (by decide)) (RN.rl (K:=10000) (RN_mul nb nx) (by decide) (by decide)) w R
theorem llies_t (a b c x y z:Rat) (na:RN a 6 3) (nb:RN b 6 3) (nc:RN c 6 3) (nx:RN x 6 3) (ny:RN y 6 3) (nz:RN z 6 3) (q0:(((a*x)+(b*y))+(c*z))=0) (w:World) (R:EnvV w) :
   Calls Tryz.prog 51 #[.agg #[.string (ratB a),.string (ratB b),.string (ratB c)],.agg #[.string (ratB x),.string (ratB y),.string (ratB z)]] w (Ret w (.bool true)):=by
 have Aa:=RN_mul na nx
 have Ad:=Aa.rl (K:=80)
 have Ab:=RN_mul nb ny
 have Ae:=Ab.rl (K:=80)
 have Ac:=RN_mul nc nz
 have Af:=Ac.rl (K:=80)
 have Ag:=RN_add (N:=18) Aa Ab
 have Au:=RN_add (N:=25) Ag Ac
 have c1:=xdotL a b c x y z na.rm nx.rm nb.rm ny.rm nc.rm nz.rm Ad Ae Af
 have eq0:((ratB (((a*x)+(b*y))+(c*z))).toList == [48])=true:=by rw [ratB_eq_zero];exact decide_eq_true q0
 have pq0:(ratB (((a*x)+(b*y))+(c*z))).toList=[48]:=(zero_iff _).2 q0
 obtain ⟨Av,Ah⟩:∃ vq,ratB (((a*x)+(b*y))+(c*z))=vq:=⟨_,rfl⟩
 obtain ⟨Aw,Ai⟩:∃ vq,ratB a=vq:=⟨_,rfl⟩
 obtain ⟨Ax,Aj⟩:∃ vq,ratB b=vq:=⟨_,rfl⟩
 obtain ⟨Ay,Ak⟩:∃ vq,ratB c=vq:=⟨_,rfl⟩
 obtain ⟨Az,Al⟩:∃ vq,ratB x=vq:=⟨_,rfl⟩
 obtain ⟨A0,Am⟩:∃ vq,ratB y=vq:=⟨_,rfl⟩
 obtain ⟨A1,An⟩:∃ vq,ratB z=vq:=⟨_,rfl⟩
 try simp only [Ah,Ai,Aj,Ak,Al,Am,An] at c1 eq0 pq0 ⊢
 have C1:=Lib.hid c1
 clear c1 Ah Ai Aj Ak Al Am An Aa Ad Ab Ae Ac Af Ag Au q0 na nb nc nx ny nz
 have hb:=Below.refl w.heap.size w
 go_enter Tryz.func51,Tryz.ntmps51
 go_upto_region 1 with fail
 refine wp_alloc2 (fun w1 a0 a1 hk=>?_)
 replace hb:=hb.trans (hk.mono hb.size)
 clear hk
 obtain ⟨Ao,Ap,Aq⟩:=ce3 a0
 obtain ⟨Ar,As,At⟩:=ce3 a1
 go_wp2_with (go_at_call 55;with_reducible refine (chVB hb R C1).mono ?_;clear hb;rintro e w1 ⟨rfl,hk,hb⟩;clear Ao Ap Aq Ar As At;replace a0:=zB hk a0;replace a1:=zB hk a1;obtain ⟨Ao,Ap,Aq⟩:=ce3 a0;obtain ⟨Ar,As,At⟩:=ce3 a1;clear hk)
 first | go_ret | go_ret2 | go_ret3
 exact ⟨rfl,hb⟩
theorem strike_ne {a b:Rat} (h:a≠0∨b≠0) : -b * -b+a*a+(0:Rat)*(0:Rat)≠0:=fun e=>sq2_ne h (by rw [← e];grind)
theorem lPitch_ok (a b c x y z:Rat) (na:RN a 6 3) (nb:RN b 6 3) (nc:RN c 6 3) (nx:RN x 6 3) (ny:RN y 6 3) (nz:RN z 6 3) (hu:a≠0∨b≠0∨c≠0) (hv:x≠0∨y≠0∨z≠0) (g:a≠0∨b≠0) (q0:((a*x)+(b*y))+(c*z)=0) (w:World) (R:EnvV w) :
   Calls Tryz.prog 23 #[.agg #[.string (ratB a),.string (ratB b),.string (ratB c)],.agg #[.string (ratB x),.string (ratB y),.string (ratB z)]] w (Ret w (.tuple #[.string (ratB ((((((-b)*x)+(a*y))+((0:Rat)*z))*((((-b)*x)+(a*y))+((0:Rat)*z))) / (((((-b)*(-b))+(a*a))+((0:Rat)*(0:Rat)))*(((x*x)+(y*y))+(z*z))))),.int .i64 0])):=by
 have Ag:RN (-b) 6 3:=(RN_neg nb)
 have A1:=nb.rl (K:=40000)
 have Ai:=RN_mul Ag nx
 have A2:=Ai.rl (K:=80)
 have Aj:=RN_mul na ny
 have A3:=Aj.rl (K:=80)
 have Ak:=RN_mul rn_0 nz
 have A4:=Ak.rl (K:=80)
 have A5:=RN_add (N:=18) Ai Aj
 have Ah:=RN_add (N:=23) A5 Ak
 have Al:=RN_mul Ag Ag
 have A6:=Al.rl (K:=80)
 have Am:=RN_mul na na
 have A7:=Am.rl (K:=80)
 have An:=RN_mul rn_0 rn_0
 have A8:=An.rl (K:=80)
 have Ao:=RN_mul nx nx
 have A9:=Ao.rl (K:=80)
 have Ap:=RN_mul ny ny
 have Ba:=Ap.rl (K:=80)
 have Aq:=RN_mul nz nz
 have Bb:=Aq.rl (K:=80)
 have Bc:=RN_add (N:=18) Al Am
 have Ar:=RN_add (N:=21) Bc An
 have Bd:=RN_add (N:=18) Ao Ap
 have As:=RN_add (N:=25) Bd Aq
 have At:=RN_mul Ar As
 have Au:=RN_mul Ah Ah
 have Be:=RN_div Au At (mul_ne (strike_ne g) (sqsum_ne hv))
 have c1:=lcheck_ok a b c hu na.r2 nb.r2 nc.r2
 have c2:=lcheck_ok x y z hv nx.r2 ny.r2 nz.r2
 have c3:=fun (w:World) (R:EnvV w)=>orErr2 0 0 0 (by decide) w R.toEnvR
 have c4:=lver_f a b c g
 have c5:=llies_t a b c x y z na nb nc nx ny nz q0
 have c6:=fun (w:World) (R:EnvV w)=>rneg_any b A1 w R.toEnvR
 have c7:CV 49 #[.agg #[.string (ratB (-b)),.string (ratB a),.string ⟨#[48]⟩],.agg #[.string (ratB x),.string (ratB y),.string (ratB z)]] (.tuple #[.string (ratB ((((((-b)*x)+(a*y))+((0:Rat)*z))*((((-b)*x)+(a*y))+((0:Rat)*z))) / (((((-b)*(-b))+(a*a))+((0:Rat)*(0:Rat)))*(((x*x)+(y*y))+(z*z))))),.int .i64 0]):=fun w R=>(by have h:=langle (-b) a (0:Rat) x y z Ag.rm nx.rm na.rm ny.rm (RN.rl (K:=10000) rn_0) nz.rm A2 A3 A4 Ah.rm A6 A7 A8 A9 Ba Bb Ar.rm As.rm (mul_ne (strike_ne g) (sqsum_ne hv)) Au.rm At.rm Be.r2 w R;simp only [rb_0] at h;exact h)
 obtain ⟨Br,Bf⟩:∃ vq,ratB ((((((-b)*x)+(a*y))+((0:Rat)*z))*((((-b)*x)+(a*y))+((0:Rat)*z))) / (((((-b)*(-b))+(a*a))+((0:Rat)*(0:Rat)))*(((x*x)+(y*y))+(z*z))))=vq:=⟨_,rfl⟩
 obtain ⟨Bs,Bg⟩:∃ vq,ratB (-b)=vq:=⟨_,rfl⟩
 obtain ⟨Bt,Bh⟩:∃ vq,ratB a=vq:=⟨_,rfl⟩
 obtain ⟨Bu,Bi⟩:∃ vq,ratB b=vq:=⟨_,rfl⟩
 obtain ⟨Bv,Bj⟩:∃ vq,ratB c=vq:=⟨_,rfl⟩
 obtain ⟨Bw,Bk⟩:∃ vq,ratB x=vq:=⟨_,rfl⟩
 obtain ⟨Bx,Bl⟩:∃ vq,ratB y=vq:=⟨_,rfl⟩
 obtain ⟨By,Bm⟩:∃ vq,ratB z=vq:=⟨_,rfl⟩
 try simp only [Bf,Bg,Bh,Bi,Bj,Bk,Bl,Bm] at c1 c2 c3 c4 c5 c6 c7 ⊢
 have C1:=Lib.hid c1
 have C2:=Lib.hid c2
 have C3:=Lib.hid c3
 have C4:=Lib.hid c4
 have C5:=Lib.hid c5
 have C6:=Lib.hid c6
 have C7:=Lib.hid c7
 clear c1 c2 c3 c4 c5 c6 c7 Bf Bg Bh Bi Bj Bk Bl Bm Ag A1 Ai A2 Aj A3 Ak A4 A5 Ah Al A6 Am A7 An A8 Ao A9 Ap Ba Aq Bb Bc Ar Bd As At Au Be na nb nc nx ny nz hu hv g q0
 have hb:=Below.refl w.heap.size w
 go_enter Tryz.func23,Tryz.ntmps23
 go_upto_region 1 with fail
 refine wp_alloc2 (fun w1 a0 a1 hk=>?_)
 replace hb:=hb.trans (hk.mono hb.size)
 clear hk
 obtain ⟨Aa,Ab,Ac⟩:=ce3 a0
 obtain ⟨Ad,Ae,Af⟩:=ce3 a1
 go_upto_region 1 with fail
 obtain ⟨Av,Aw,Ax⟩:=cy3 a0
 obtain ⟨Ay,Az,A0⟩:=cy3 a1
 have Bn:=rrV C1 R hb
 have Bo:=rrV C2 R hb
 refine wp_region_tail_below 4 (by first | assumption | kernel_rfl) (by kernel_rfl) ?_
 simp only [List.take_succ_cons,List.take_zero,List.drop_succ_cons,List.drop_zero]
 repeat (quiet_step (first | (with_reducible exact Bn.out _ _) | (with_reducible exact Bo.out _ _)))
 refine wpQuiet_nil ?_
 intro w1 hw'
 obtain ⟨hk,hb⟩:=zQ hb hw'
 clear Aa Ab Ac Ad Ae Af
 replace a0:=zB hk a0
 replace a1:=zB hk a1
 obtain ⟨Aa,Ab,Ac⟩:=ce3 a0
 obtain ⟨Ad,Ae,Af⟩:=ce3 a1
 clear Bn Bo Av Aw Ax Ay Az A0
 clear hk hw'
 go_upto_region 8 with ((first | (go_at_call 43;with_reducible refine (zL hb (C3.out _ (R.below hb))).mono ?_) | (go_at_call 45;with_reducible refine (chVB hb R C4).mono ?_) | (go_at_call 51;with_reducible refine (chVB hb R C5).mono ?_));clear hb;rintro e w1 ⟨rfl,hk,hb⟩;clear Aa Ab Ac Ad Ae Af;replace a0:=zB hk a0;replace a1:=zB hk a1;obtain ⟨Aa,Ab,Ac⟩:=ce3 a0;obtain ⟨Ad,Ae,Af⟩:=ce3 a1;clear hk)
 obtain ⟨Av,Aw,Ax⟩:=cy3 a0
 obtain ⟨Ay,Az,A0⟩:=cy3 a1
 have Bp:=rrV C6 R hb
 have Bq:=rrV C7 R hb
 refine wp_region_quiet_below (by first | assumption | kernel_rfl) (by kernel_rfl) ?_
 repeat (quiet_step (first | (with_reducible exact Bp.out _ _) | (with_reducible exact Bq.out _ _)))
 refine wpQuiet_nil ?_
 intro w1 hw'
 obtain ⟨hk,hb⟩:=zQ hb hw'
 clear Aa Ab Ac Ad Ae Af
 replace a0:=zB hk a0
 replace a1:=zB hk a1
 obtain ⟨Aa,Ab,Ac⟩:=ce3 a0
 obtain ⟨Ad,Ae,Af⟩:=ce3 a1
 clear Bp Bq Av Aw Ax Ay Az A0
 clear hk hw'
 go_wp2
 first | go_ret | go_ret2 | go_ret3
 exact ⟨rfl,hb⟩
theorem nz3R {a b c:Rat} (h:¬ (a=0∧b=0∧c=0)):a≠0∨b≠0∨c≠0:=by
 by_cases q0:a=0
 · by_cases q1:b=0
   · exact Or.inr (Or.inr (fun q2=>h ⟨q0,q1,q2⟩))
   · exact Or.inr (Or.inl q1)
 · exact Or.inl q0
theorem lIntersect_ok (a b c x y z:Rat) (na:RN a 6 3) (nb:RN b 6 3) (nc:RN c 6 3) (nx:RN x 6 3) (ny:RN y 6 3) (nz:RN z 6 3) (hu:a≠0∨b≠0∨c≠0) (hv:x≠0∨y≠0∨z≠0) (hp:¬ (((b*z) - (c*y))=0∧((c*x) - (a*z))=0∧((a*y) - (b*x))=0)) (p q r:Int) (hp_:((b*z) - (c*y))*dnF ((b*z) - (c*y)) ((c*x) - (a*z)) ((a*y) - (b*x))=(p:Rat)) (bp:p.natAbs≤1000000000000) (hq_:((c*x) - (a*z))*dnF ((b*z) - (c*y)) ((c*x) - (a*z)) ((a*y) - (b*x))=(q:Rat)) (bq:q.natAbs≤1000000000000) (hr_:((a*y) - (b*x))*dnF ((b*z) - (c*y)) ((c*x) - (a*z)) ((a*y) - (b*x))=(r:Rat)) (br:r.natAbs≤1000000000000) (w:World) (R:EnvV w) :
   Calls Tryz.prog 22 #[.agg #[.string (ratB a),.string (ratB b),.string (ratB c)],.agg #[.string (ratB x),.string (ratB y),.string (ratB z)]] w (Ret w (.tuple #[.agg #[.string (itoaB p),.string (itoaB q),.string (itoaB r)],.int .i64 0])):=by
 have Aa:=RN_mul nb nz
 have Ab:=RN_mul nc ny
 have Ac:=RN_mul nc nx
 have Ad:=RN_mul na nz
 have Ae:=RN_mul na ny
 have Af:=RN_mul nb nx
 have Aj:=RN_sub (N:=18) Aa Ab
 have Ak:=RN_sub (N:=18) Ac Ad
 have Al:=RN_sub (N:=18) Ae Af
 have c1:=lSame_f a b c x y z na nb nc nx ny nz hu hv hp
 have c2:=xcrossL a b c x y z nb.rm nz.rm nc.rm ny.rm Aa.rm Ab.rm nx.rm na.rm Ac.rm Ad.rm Ae.rm Af.rm
 have c3:=lform_any ((b*z) - (c*y)) ((c*x) - (a*z)) ((a*y) - (b*x)) p q r (nz3R hp) Aj.r2 Ak.r2 Al.r2 hp_ hq_ hr_ bp bq br
 obtain ⟨A4,Am⟩:∃ vq,ratB ((a*y) - (b*x))=vq:=⟨_,rfl⟩
 obtain ⟨A5,An⟩:∃ vq,ratB ((b*z) - (c*y))=vq:=⟨_,rfl⟩
 obtain ⟨A6,Ao⟩:∃ vq,ratB ((c*x) - (a*z))=vq:=⟨_,rfl⟩
 obtain ⟨A7,Ap⟩:∃ vq,ratB a=vq:=⟨_,rfl⟩
 obtain ⟨A8,Aq⟩:∃ vq,ratB b=vq:=⟨_,rfl⟩
 obtain ⟨A9,Ar⟩:∃ vq,ratB c=vq:=⟨_,rfl⟩
 obtain ⟨Ba,As⟩:∃ vq,ratB x=vq:=⟨_,rfl⟩
 obtain ⟨Bb,At⟩:∃ vq,ratB y=vq:=⟨_,rfl⟩
 obtain ⟨Bc,Au⟩:∃ vq,ratB z=vq:=⟨_,rfl⟩
 try simp only [Am,An,Ao,Ap,Aq,Ar,As,At,Au] at c1 c2 c3 ⊢
 have C1:=Lib.hid c1
 have C2:=Lib.hid c2
 have C3:=Lib.hid c3
 clear c1 c2 c3 Am An Ao Ap Aq Ar As At Au Aa Ab Ac Ad Ae Af Aj Ak Al na nb nc nx ny nz hu hv hp hp_ hq_ hr_ bp bq br
 have hb:=Below.refl w.heap.size w
 go_enter Tryz.func22,Tryz.ntmps22
 go_upto_region 1 with fail
 refine wp_alloc3 (fun w1 a0 a1 a2 hk=>?_)
 replace hb:=hb.trans (hk.mono hb.size)
 clear hk
 obtain ⟨Av,Aw,Ax⟩:=ce3 a0
 obtain ⟨Ay,Az,A0⟩:=ce3 a1
 obtain ⟨Ag,A1,Ah,A2,Ai,A3⟩:=cf3 a2
 go_wp2_with ((first | (go_at_call 16;with_reducible refine (chVB hb R C1).mono ?_) | (go_at_call 53;with_reducible refine (chVB hb R C2).mono ?_) | (go_at_call 52;with_reducible refine (chVB hb R C3).mono ?_));clear hb;rintro e w1 ⟨rfl,hk,hb⟩;clear Av Aw Ax Ay Az A0 Ag Ah Ai A1 A2 A3;replace a0:=zB hk a0;replace a1:=zB hk a1;replace a2:=zB hk a2;obtain ⟨Av,Aw,Ax⟩:=ce3 a0;obtain ⟨Ay,Az,A0⟩:=ce3 a1;obtain ⟨Ag,A1,Ah,A2,Ai,A3⟩:=cf3 a2;clear hk)
 refine bodyPost_ret (v:=.tuple #[.agg #[.string (itoaB p),.string (itoaB q),.string (itoaB r)],.int .i64 0]) (by simp [results,Tryz.results22,go_sem,Ag,Ah,Ai]) rfl ⟨rfl,?_⟩
 repeat' (first | exact hb | refine Below.setCell ?_ (by first | exact Nat.le_refl _ | (dsimp only;omega)) _)
theorem linter_1  (s0 s1 s2 t0 t1 t2:ByteArray) (q dt:ByteArray) (D M:Int) (cs:CV 15 #[.agg #[.string s0,.string s1,.string s2]] (.int .i64 0)) (ct:CV 15 #[.agg #[.string t0,.string t1,.string t2]] (.int .i64 0)) (kq:CV 50 #[.agg #[.string s0,.string s1,.string s2],.agg #[.string t0,.string t1,.string t2]] (.string q)) (kd:CV 55 #[.agg #[.string s0,.string s1,.string s2],.agg #[.string t0,.string t1,.string t2]] (.string dt)) (ks:CV 54 #[.string dt] (.int .i64 D)) (k4:CV 36 #[.string q,.string ⟨#[49,47,52]⟩] (.int .i64 M)) (WC0:decide (0 < D)=true) (WC1:decide (0 < M)=true) (w:World) (R:EnvV w) :
   Calls Tryz.prog 24 #[.agg #[.string s0,.string s1,.string s2],.agg #[.string t0,.string t1,.string t2]] w (Ret w (.tuple #[.int .i64 1,.int .i64 0])):=by
 have c1:=cs
 have c2:=ct
 have c3:=fun (w:World) (R:EnvV w)=>orErr2 0 0 0 (by decide) w R.toEnvR
 have c4:=kq
 have c5:=kd
 have c6:=ks
 have c7:=k4
 have gc0:decide (0 < D)=true:=WC0
 have gc1:decide (0 < M)=true:=WC1
 have C1:=Lib.hid c1
 have C2:=Lib.hid c2
 have C3:=Lib.hid c3
 have C4:=Lib.hid c4
 have C5:=Lib.hid c5
 have C6:=Lib.hid c6
 have C7:=Lib.hid c7
 clear c1 c2 c3 c4 c5 c6 c7 cs ct kq kd ks k4 WC0 WC1
 have hb:=Below.refl w.heap.size w
 go_enter Tryz.func24,Tryz.ntmps24
 go_upto_region 1 with fail
 refine wp_alloc2 (fun w1 a0 a1 hk=>?_)
 replace hb:=hb.trans (hk.mono hb.size)
 clear hk
 obtain ⟨Aa,Ab,Ac⟩:=ce3 a0
 obtain ⟨Ad,Ae,Af⟩:=ce3 a1
 go_upto_region 1 with fail
 obtain ⟨Ai,Aj,Ak⟩:=cy3 a0
 obtain ⟨Al,Am,An⟩:=cy3 a1
 have Ag:=rrV C1 R hb
 have Ah:=rrV C2 R hb
 refine wp_region_tail_below 4 (by first | assumption | kernel_rfl) (by kernel_rfl) ?_
 simp only [List.take_succ_cons,List.take_zero,List.drop_succ_cons,List.drop_zero]
 repeat (quiet_step (first | (with_reducible exact Ag.out _ _) | (with_reducible exact Ah.out _ _)))
 refine wpQuiet_nil ?_
 intro w1 hw'
 obtain ⟨hk,hb⟩:=zQ hb hw'
 clear Aa Ab Ac Ad Ae Af
 replace a0:=zB hk a0
 replace a1:=zB hk a1
 obtain ⟨Aa,Ab,Ac⟩:=ce3 a0
 obtain ⟨Ad,Ae,Af⟩:=ce3 a1
 clear Ag Ah Ai Aj Ak Al Am An
 clear hk hw'
 go_wp2_with (first | ((first | (go_at_call 43;with_reducible refine (zL hb (C3.out _ (R.below hb))).mono ?_) | (go_at_call 50;with_reducible refine (chVB hb R C4).mono ?_) | (go_at_call 55;with_reducible refine (chVB hb R C5).mono ?_) | (go_at_call 54;with_reducible refine (chVB hb R C6).mono ?_));clear hb;rintro e w1 ⟨rfl,hk,hb⟩;clear Aa Ab Ac Ad Ae Af;replace a0:=zB hk a0;replace a1:=zB hk a1;obtain ⟨Aa,Ab,Ac⟩:=ce3 a0;obtain ⟨Ad,Ae,Af⟩:=ce3 a1;clear hk) | (go_at_call 36;with_reducible refine (chVB hb R C7).mono ?_;clear hb;rintro e w1 ⟨rfl,hk,hb⟩;clear hk))
 first | go_ret | go_ret2 | go_ret3
 exact ⟨rfl,hb⟩
theorem linter_2  (s0 s1 s2 t0 t1 t2:ByteArray) (q dt:ByteArray) (D M:Int) (cs:CV 15 #[.agg #[.string s0,.string s1,.string s2]] (.int .i64 0)) (ct:CV 15 #[.agg #[.string t0,.string t1,.string t2]] (.int .i64 0)) (kq:CV 50 #[.agg #[.string s0,.string s1,.string s2],.agg #[.string t0,.string t1,.string t2]] (.string q)) (kd:CV 55 #[.agg #[.string s0,.string s1,.string s2],.agg #[.string t0,.string t1,.string t2]] (.string dt)) (ks:CV 54 #[.string dt] (.int .i64 D)) (k4:CV 36 #[.string q,.string ⟨#[49,47,52]⟩] (.int .i64 M)) (WC0:decide (0 < D)=true) (WC1:decide (0 < M)=false) (w:World) (R:EnvV w) :
   Calls Tryz.prog 24 #[.agg #[.string s0,.string s1,.string s2],.agg #[.string t0,.string t1,.string t2]] w (Ret w (.tuple #[.int .i64 2,.int .i64 0])):=by
 have c1:=cs
 have c2:=ct
 have c3:=fun (w:World) (R:EnvV w)=>orErr2 0 0 0 (by decide) w R.toEnvR
 have c4:=kq
 have c5:=kd
 have c6:=ks
 have c7:=k4
 have gc0:decide (0 < D)=true:=WC0
 have gc1:decide (0 < M)=false:=WC1
 have C1:=Lib.hid c1
 have C2:=Lib.hid c2
 have C3:=Lib.hid c3
 have C4:=Lib.hid c4
 have C5:=Lib.hid c5
 have C6:=Lib.hid c6
 have C7:=Lib.hid c7
 clear c1 c2 c3 c4 c5 c6 c7 cs ct kq kd ks k4 WC0 WC1
 have hb:=Below.refl w.heap.size w
 go_enter Tryz.func24,Tryz.ntmps24
 go_upto_region 1 with fail
 refine wp_alloc2 (fun w1 a0 a1 hk=>?_)
 replace hb:=hb.trans (hk.mono hb.size)
 clear hk
 obtain ⟨Aa,Ab,Ac⟩:=ce3 a0
 obtain ⟨Ad,Ae,Af⟩:=ce3 a1
 go_upto_region 1 with fail
 obtain ⟨Ai,Aj,Ak⟩:=cy3 a0
 obtain ⟨Al,Am,An⟩:=cy3 a1
 have Ag:=rrV C1 R hb
 have Ah:=rrV C2 R hb
 refine wp_region_tail_below 4 (by first | assumption | kernel_rfl) (by kernel_rfl) ?_
 simp only [List.take_succ_cons,List.take_zero,List.drop_succ_cons,List.drop_zero]
 repeat (quiet_step (first | (with_reducible exact Ag.out _ _) | (with_reducible exact Ah.out _ _)))
 refine wpQuiet_nil ?_
 intro w1 hw'
 obtain ⟨hk,hb⟩:=zQ hb hw'
 clear Aa Ab Ac Ad Ae Af
 replace a0:=zB hk a0
 replace a1:=zB hk a1
 obtain ⟨Aa,Ab,Ac⟩:=ce3 a0
 obtain ⟨Ad,Ae,Af⟩:=ce3 a1
 clear Ag Ah Ai Aj Ak Al Am An
 clear hk hw'
 go_wp2_with (first | ((first | (go_at_call 43;with_reducible refine (zL hb (C3.out _ (R.below hb))).mono ?_) | (go_at_call 50;with_reducible refine (chVB hb R C4).mono ?_) | (go_at_call 55;with_reducible refine (chVB hb R C5).mono ?_) | (go_at_call 54;with_reducible refine (chVB hb R C6).mono ?_));clear hb;rintro e w1 ⟨rfl,hk,hb⟩;clear Aa Ab Ac Ad Ae Af;replace a0:=zB hk a0;replace a1:=zB hk a1;obtain ⟨Aa,Ab,Ac⟩:=ce3 a0;obtain ⟨Ad,Ae,Af⟩:=ce3 a1;clear hk) | (go_at_call 36;with_reducible refine (chVB hb R C7).mono ?_;clear hb;rintro e w1 ⟨rfl,hk,hb⟩;clear hk))
 first | go_ret | go_ret2 | go_ret3
 exact ⟨rfl,hb⟩
theorem linter_3  (s0 s1 s2 t0 t1 t2:ByteArray) (q dt:ByteArray) (D M:Int) (cs:CV 15 #[.agg #[.string s0,.string s1,.string s2]] (.int .i64 0)) (ct:CV 15 #[.agg #[.string t0,.string t1,.string t2]] (.int .i64 0)) (kq:CV 50 #[.agg #[.string s0,.string s1,.string s2],.agg #[.string t0,.string t1,.string t2]] (.string q)) (kd:CV 55 #[.agg #[.string s0,.string s1,.string s2],.agg #[.string t0,.string t1,.string t2]] (.string dt)) (ks:CV 54 #[.string dt] (.int .i64 D)) (k4:CV 36 #[.string q,.string ⟨#[49,47,52]⟩] (.int .i64 M)) (WC0:decide (0 < D)=false) (WC1:decide (M < 0)=true) (w:World) (R:EnvV w) :
   Calls Tryz.prog 24 #[.agg #[.string s0,.string s1,.string s2],.agg #[.string t0,.string t1,.string t2]] w (Ret w (.tuple #[.int .i64 3,.int .i64 0])):=by
 have c1:=cs
 have c2:=ct
 have c3:=fun (w:World) (R:EnvV w)=>orErr2 0 0 0 (by decide) w R.toEnvR
 have c4:=kq
 have c5:=kd
 have c6:=ks
 have c7:=k4
 have gc0:decide (0 < D)=false:=WC0
 have gc1:decide (M < 0)=true:=WC1
 have C1:=Lib.hid c1
 have C2:=Lib.hid c2
 have C3:=Lib.hid c3
 have C4:=Lib.hid c4
 have C5:=Lib.hid c5
 have C6:=Lib.hid c6
 have C7:=Lib.hid c7
 clear c1 c2 c3 c4 c5 c6 c7 cs ct kq kd ks k4 WC0 WC1
 have hb:=Below.refl w.heap.size w
 go_enter Tryz.func24,Tryz.ntmps24
 go_upto_region 1 with fail
 refine wp_alloc2 (fun w1 a0 a1 hk=>?_)
 replace hb:=hb.trans (hk.mono hb.size)
 clear hk
 obtain ⟨Aa,Ab,Ac⟩:=ce3 a0
 obtain ⟨Ad,Ae,Af⟩:=ce3 a1
 go_upto_region 1 with fail
 obtain ⟨Ai,Aj,Ak⟩:=cy3 a0
 obtain ⟨Al,Am,An⟩:=cy3 a1
 have Ag:=rrV C1 R hb
 have Ah:=rrV C2 R hb
 refine wp_region_tail_below 4 (by first | assumption | kernel_rfl) (by kernel_rfl) ?_
 simp only [List.take_succ_cons,List.take_zero,List.drop_succ_cons,List.drop_zero]
 repeat (quiet_step (first | (with_reducible exact Ag.out _ _) | (with_reducible exact Ah.out _ _)))
 refine wpQuiet_nil ?_
 intro w1 hw'
 obtain ⟨hk,hb⟩:=zQ hb hw'
 clear Aa Ab Ac Ad Ae Af
 replace a0:=zB hk a0
 replace a1:=zB hk a1
 obtain ⟨Aa,Ab,Ac⟩:=ce3 a0
 obtain ⟨Ad,Ae,Af⟩:=ce3 a1
 clear Ag Ah Ai Aj Ak Al Am An
 clear hk hw'
 go_wp2_with (first | ((first | (go_at_call 43;with_reducible refine (zL hb (C3.out _ (R.below hb))).mono ?_) | (go_at_call 50;with_reducible refine (chVB hb R C4).mono ?_) | (go_at_call 55;with_reducible refine (chVB hb R C5).mono ?_) | (go_at_call 54;with_reducible refine (chVB hb R C6).mono ?_));clear hb;rintro e w1 ⟨rfl,hk,hb⟩;clear Aa Ab Ac Ad Ae Af;replace a0:=zB hk a0;replace a1:=zB hk a1;obtain ⟨Aa,Ab,Ac⟩:=ce3 a0;obtain ⟨Ad,Ae,Af⟩:=ce3 a1;clear hk) | (go_at_call 36;with_reducible refine (chVB hb R C7).mono ?_;clear hb;rintro e w1 ⟨rfl,hk,hb⟩;clear hk))
 first | go_ret | go_ret2 | go_ret3
 exact ⟨rfl,hb⟩
theorem linter_4  (s0 s1 s2 t0 t1 t2:ByteArray) (q dt:ByteArray) (D M N:Int) (cs:CV 15 #[.agg #[.string s0,.string s1,.string s2]] (.int .i64 0)) (ct:CV 15 #[.agg #[.string t0,.string t1,.string t2]] (.int .i64 0)) (kq:CV 50 #[.agg #[.string s0,.string s1,.string s2],.agg #[.string t0,.string t1,.string t2]] (.string q)) (kd:CV 55 #[.agg #[.string s0,.string s1,.string s2],.agg #[.string t0,.string t1,.string t2]] (.string dt)) (ks:CV 54 #[.string dt] (.int .i64 D)) (k4:CV 36 #[.string q,.string ⟨#[49,47,52]⟩] (.int .i64 M)) (k3:CV 36 #[.string q,.string ⟨#[51,47,52]⟩] (.int .i64 N)) (WC0:decide (0 < D)=false) (WC1:decide (M < 0)=false) (WC2:decide (N < 0)=true) (w:World) (R:EnvV w) :
   Calls Tryz.prog 24 #[.agg #[.string s0,.string s1,.string s2],.agg #[.string t0,.string t1,.string t2]] w (Ret w (.tuple #[.int .i64 4,.int .i64 0])):=by
 have c1:=cs
 have c2:=ct
 have c3:=fun (w:World) (R:EnvV w)=>orErr2 0 0 0 (by decide) w R.toEnvR
 have c4:=kq
 have c5:=kd
 have c6:=ks
 have c7:=k4
 have c8:=k3
 have gc0:decide (0 < D)=false:=WC0
 have gc1:decide (M < 0)=false:=WC1
 have gc2:decide (N < 0)=true:=WC2
 have C1:=Lib.hid c1
 have C2:=Lib.hid c2
 have C3:=Lib.hid c3
 have C4:=Lib.hid c4
 have C5:=Lib.hid c5
 have C6:=Lib.hid c6
 have C7:=Lib.hid c7
 have C8:=Lib.hid c8
 clear c1 c2 c3 c4 c5 c6 c7 c8 cs ct kq kd ks k4 k3 WC0 WC1 WC2
 have hb:=Below.refl w.heap.size w
 go_enter Tryz.func24,Tryz.ntmps24
 go_upto_region 1 with fail
 refine wp_alloc2 (fun w1 a0 a1 hk=>?_)
 replace hb:=hb.trans (hk.mono hb.size)
 clear hk
 obtain ⟨Aa,Ab,Ac⟩:=ce3 a0
 obtain ⟨Ad,Ae,Af⟩:=ce3 a1
 go_upto_region 1 with fail
 obtain ⟨Ai,Aj,Ak⟩:=cy3 a0
 obtain ⟨Al,Am,An⟩:=cy3 a1
 have Ag:=rrV C1 R hb
 have Ah:=rrV C2 R hb
 refine wp_region_tail_below 4 (by first | assumption | kernel_rfl) (by kernel_rfl) ?_
 simp only [List.take_succ_cons,List.take_zero,List.drop_succ_cons,List.drop_zero]
 repeat (quiet_step (first | (with_reducible exact Ag.out _ _) | (with_reducible exact Ah.out _ _)))
 refine wpQuiet_nil ?_
 intro w1 hw'
 obtain ⟨hk,hb⟩:=zQ hb hw'
 clear Aa Ab Ac Ad Ae Af
 replace a0:=zB hk a0
 replace a1:=zB hk a1
 obtain ⟨Aa,Ab,Ac⟩:=ce3 a0
 obtain ⟨Ad,Ae,Af⟩:=ce3 a1
 clear Ag Ah Ai Aj Ak Al Am An
 clear hk hw'
 go_wp2_with (first | ((first | (go_at_call 43;with_reducible refine (zL hb (C3.out _ (R.below hb))).mono ?_) | (go_at_call 50;with_reducible refine (chVB hb R C4).mono ?_) | (go_at_call 55;with_reducible refine (chVB hb R C5).mono ?_) | (go_at_call 54;with_reducible refine (chVB hb R C6).mono ?_));clear hb;rintro e w1 ⟨rfl,hk,hb⟩;clear Aa Ab Ac Ad Ae Af;replace a0:=zB hk a0;replace a1:=zB hk a1;obtain ⟨Aa,Ab,Ac⟩:=ce3 a0;obtain ⟨Ad,Ae,Af⟩:=ce3 a1;clear hk) | ((go_at_call 36;first | with_reducible refine (chVB hb R C7).mono ?_ | with_reducible refine (chVB hb R C8).mono ?_);clear hb;rintro e w1 ⟨rfl,hk,hb⟩;clear hk))
 first | go_ret | go_ret2 | go_ret3
 exact ⟨rfl,hb⟩
theorem linter_5  (s0 s1 s2 t0 t1 t2:ByteArray) (q dt:ByteArray) (D M N:Int) (cs:CV 15 #[.agg #[.string s0,.string s1,.string s2]] (.int .i64 0)) (ct:CV 15 #[.agg #[.string t0,.string t1,.string t2]] (.int .i64 0)) (kq:CV 50 #[.agg #[.string s0,.string s1,.string s2],.agg #[.string t0,.string t1,.string t2]] (.string q)) (kd:CV 55 #[.agg #[.string s0,.string s1,.string s2],.agg #[.string t0,.string t1,.string t2]] (.string dt)) (ks:CV 54 #[.string dt] (.int .i64 D)) (k4:CV 36 #[.string q,.string ⟨#[49,47,52]⟩] (.int .i64 M)) (k3:CV 36 #[.string q,.string ⟨#[51,47,52]⟩] (.int .i64 N)) (WC0:decide (0 < D)=false) (WC1:decide (M < 0)=false) (WC2:decide (N < 0)=false) (w:World) (R:EnvV w) :
   Calls Tryz.prog 24 #[.agg #[.string s0,.string s1,.string s2],.agg #[.string t0,.string t1,.string t2]] w (Ret w (.tuple #[.int .i64 5,.int .i64 0])):=by
 have c1:=cs
 have c2:=ct
 have c3:=fun (w:World) (R:EnvV w)=>orErr2 0 0 0 (by decide) w R.toEnvR
 have c4:=kq
 have c5:=kd
 have c6:=ks
 have c7:=k4
 have c8:=k3
 have gc0:decide (0 < D)=false:=WC0
 have gc1:decide (M < 0)=false:=WC1
 have gc2:decide (N < 0)=false:=WC2
 have C1:=Lib.hid c1
 have C2:=Lib.hid c2
 have C3:=Lib.hid c3
 have C4:=Lib.hid c4
 have C5:=Lib.hid c5
 have C6:=Lib.hid c6
 have C7:=Lib.hid c7
 have C8:=Lib.hid c8
 clear c1 c2 c3 c4 c5 c6 c7 c8 cs ct kq kd ks k4 k3 WC0 WC1 WC2
 have hb:=Below.refl w.heap.size w
 go_enter Tryz.func24,Tryz.ntmps24
 go_upto_region 1 with fail
 refine wp_alloc2 (fun w1 a0 a1 hk=>?_)
 replace hb:=hb.trans (hk.mono hb.size)
 clear hk
 obtain ⟨Aa,Ab,Ac⟩:=ce3 a0
 obtain ⟨Ad,Ae,Af⟩:=ce3 a1
 go_upto_region 1 with fail
 obtain ⟨Ai,Aj,Ak⟩:=cy3 a0
 obtain ⟨Al,Am,An⟩:=cy3 a1
 have Ag:=rrV C1 R hb
 have Ah:=rrV C2 R hb
 refine wp_region_tail_below 4 (by first | assumption | kernel_rfl) (by kernel_rfl) ?_
 simp only [List.take_succ_cons,List.take_zero,List.drop_succ_cons,List.drop_zero]
 repeat (quiet_step (first | (with_reducible exact Ag.out _ _) | (with_reducible exact Ah.out _ _)))
 refine wpQuiet_nil ?_
 intro w1 hw'
 obtain ⟨hk,hb⟩:=zQ hb hw'
 clear Aa Ab Ac Ad Ae Af
 replace a0:=zB hk a0
 replace a1:=zB hk a1
 obtain ⟨Aa,Ab,Ac⟩:=ce3 a0
 obtain ⟨Ad,Ae,Af⟩:=ce3 a1
 clear Ag Ah Ai Aj Ak Al Am An
 clear hk hw'
 go_wp2_with (first | ((first | (go_at_call 43;with_reducible refine (zL hb (C3.out _ (R.below hb))).mono ?_) | (go_at_call 50;with_reducible refine (chVB hb R C4).mono ?_) | (go_at_call 55;with_reducible refine (chVB hb R C5).mono ?_) | (go_at_call 54;with_reducible refine (chVB hb R C6).mono ?_));clear hb;rintro e w1 ⟨rfl,hk,hb⟩;clear Aa Ab Ac Ad Ae Af;replace a0:=zB hk a0;replace a1:=zB hk a1;obtain ⟨Aa,Ab,Ac⟩:=ce3 a0;obtain ⟨Ad,Ae,Af⟩:=ce3 a1;clear hk) | ((go_at_call 36;first | with_reducible refine (chVB hb R C7).mono ?_ | with_reducible refine (chVB hb R C8).mono ?_);clear hb;rintro e w1 ⟨rfl,hk,hb⟩;clear hk))
 first | go_ret | go_ret2 | go_ret3
 exact ⟨rfl,hb⟩
theorem lTrend_t  (s0 s1 s2:ByteArray) (t0 t1:ByteArray) (n m:Int) (hbs:∀ (blk:Nat) (w:World),EnvV w→w.cell? ⟨blk,0,none⟩=some (.string ⟨#[48]⟩)→w.cell? ⟨blk,1,none⟩=some (.string ⟨#[49]⟩)→w.cell? ⟨blk,2,none⟩=some (.string ⟨#[49]⟩)→w.cell? ⟨blk,3,none⟩=some (.string ⟨#[48]⟩)→w.cell? ⟨blk,4,none⟩=some (.string ⟨#[48]⟩)→w.cell? ⟨blk,5,none⟩=some (.string ⟨#[45,49]⟩)→w.cell? ⟨blk,6,none⟩=some (.string ⟨#[45,49]⟩)→w.cell? ⟨blk,7,none⟩=some (.string ⟨#[48]⟩)→Calls Tryz.prog 57 #[.slice (some ⟨blk,0,none⟩) 4 4,.agg #[.string t0,.string t1],.func (Fn.func 46) #[] #[]] w (Ret w (.tuple #[.int .i64 n,.bool true]))) (ck:CV 15 #[.agg #[.string s0,.string s1,.string s2]] (.int .i64 0)) (iv:CV 45 #[.agg #[.string s0,.string s1,.string s2]] (.bool false)) (be:CV 47 #[.agg #[.string s0,.string s1,.string s2]] (.agg #[.string t0,.string t1])) (WM0:IntKind.i64.wrap (2*n)=m) (w:World) (R:EnvV w) :
   Calls Tryz.prog 26 #[.agg #[.string s0,.string s1,.string s2]] w (Ret w (.tuple #[.int .i64 m,.int .i64 0])):=by
 have c1:=ck
 have c2:=iv
 have c3:=vatL_0_1
 have c4:=vatL_1_0
 have c5:=vatL_0_m1
 have c6:=vatL_m1_0
 have c7:=be
 have c8:=hbs
 have gm0:IntKind.i64.wrap (2*n)=m:=WM0
 have C1:=Lib.hid c1
 have C2:=Lib.hid c2
 have C3:=Lib.hid c3
 have C4:=Lib.hid c4
 have C5:=Lib.hid c5
 have C6:=Lib.hid c6
 have C7:=Lib.hid c7
 have C8:=Lib.hid c8
 clear c1 c2 c3 c4 c5 c6 c7 c8 ck iv be WM0 hbs
 have hb:=Below.refl w.heap.size w
 go_enter Tryz.func26,Tryz.ntmps26
 go_upto_region 1 with fail
 refine wp_alloc1 (fun w1 a0 hk=>?_)
 replace hb:=hb.trans (hk.mono hb.size)
 clear hk
 obtain ⟨Aa,Ab,Ac⟩:=ce3 a0
 go_upto_region 7 with ((first | (go_at_call 15;with_reducible refine (chVB hb R C1).mono ?_) | (go_at_call 45;with_reducible refine (chVB hb R C2).mono ?_) | (go_at_call 56;first | with_reducible refine (chVB hb R C3).mono ?_ | with_reducible refine (chVB hb R C4).mono ?_ | with_reducible refine (chVB hb R C5).mono ?_ | with_reducible refine (chVB hb R C6).mono ?_));clear hb;rintro e w1 ⟨rfl,hk,hb⟩;clear Aa Ab Ac;replace a0:=zB hk a0;obtain ⟨Aa,Ab,Ac⟩:=ce3 a0;clear hk)
 refine wp_alloc1 (fun w1 Ad hk=>?_)
 clear Aa Ab Ac
 replace a0:=zB hk a0
 obtain ⟨Aa,Ab,Ac⟩:=ce3 a0
 replace hb:=hb.trans (hk.mono hb.size)
 clear hk
 obtain ⟨Ae,Af,Ag,Ah,Ai,Aj,Ak,Al⟩:=ce8 Ad
 go_wp2_with (first | (go_at_call 47;with_reducible refine (chVB hb R C7).mono ?_;clear hb;rintro e w1 ⟨rfl,hk,hb⟩;clear Aa Ab Ac Ae Af Ag Ah Ai Aj Ak Al;replace a0:=zB hk a0;replace Ad:=zB hk Ad;obtain ⟨Aa,Ab,Ac⟩:=ce3 a0;obtain ⟨Ae,Af,Ag,Ah,Ai,Aj,Ak,Al⟩:=ce8 Ad;clear hk) | (go_at_call 57;(with_reducible refine (zK hb (C8.out _ _ (R.below hb) Ae Af Ag Ah Ai Aj Ak Al)).mono ?_);clear hb;rintro e w1 ⟨rfl,hk,hb⟩;clear Aa Ab Ac Ae Af Ag Ah Ai Aj Ak Al;replace a0:=zB hk a0;replace Ad:=zB hk Ad;obtain ⟨Aa,Ab,Ac⟩:=ce3 a0;obtain ⟨Ae,Af,Ag,Ah,Ai,Aj,Ak,Al⟩:=ce8 Ad;clear hk))
 first | go_ret | go_ret2 | go_ret3
 exact ⟨rfl,hb⟩
theorem lTrend_f  (s0 s1 s2:ByteArray) (t0 t1:ByteArray) (n m l:Int) (hbs:∀ (blk:Nat) (w:World),EnvV w→w.cell? ⟨blk,0,none⟩=some (.string ⟨#[48]⟩)→w.cell? ⟨blk,1,none⟩=some (.string ⟨#[49]⟩)→w.cell? ⟨blk,2,none⟩=some (.string ⟨#[49]⟩)→w.cell? ⟨blk,3,none⟩=some (.string ⟨#[48]⟩)→w.cell? ⟨blk,4,none⟩=some (.string ⟨#[48]⟩)→w.cell? ⟨blk,5,none⟩=some (.string ⟨#[45,49]⟩)→w.cell? ⟨blk,6,none⟩=some (.string ⟨#[45,49]⟩)→w.cell? ⟨blk,7,none⟩=some (.string ⟨#[48]⟩)→Calls Tryz.prog 57 #[.slice (some ⟨blk,0,none⟩) 4 4,.agg #[.string t0,.string t1],.func (Fn.func 46) #[] #[]] w (Ret w (.tuple #[.int .i64 n,.bool false]))) (ck:CV 15 #[.agg #[.string s0,.string s1,.string s2]] (.int .i64 0)) (iv:CV 45 #[.agg #[.string s0,.string s1,.string s2]] (.bool false)) (be:CV 47 #[.agg #[.string s0,.string s1,.string s2]] (.agg #[.string t0,.string t1])) (WM0:IntKind.i64.wrap (2*n)=m) (WM1:IntKind.i64.wrap (m - 1)=l) (w:World) (R:EnvV w) :
   Calls Tryz.prog 26 #[.agg #[.string s0,.string s1,.string s2]] w (Ret w (.tuple #[.int .i64 l,.int .i64 0])):=by
 have c1:=ck
 have c2:=iv
 have c3:=vatL_0_1
 have c4:=vatL_1_0
 have c5:=vatL_0_m1
 have c6:=vatL_m1_0
 have c7:=be
 have c8:=hbs
 have gm0:IntKind.i64.wrap (2*n)=m:=WM0
 have gm1:IntKind.i64.wrap (m - 1)=l:=WM1
 have C1:=Lib.hid c1
 have C2:=Lib.hid c2
 have C3:=Lib.hid c3
 have C4:=Lib.hid c4
 have C5:=Lib.hid c5
 have C6:=Lib.hid c6
 have C7:=Lib.hid c7
 have C8:=Lib.hid c8
 clear c1 c2 c3 c4 c5 c6 c7 c8 ck iv be WM0 WM1 hbs
 have hb:=Below.refl w.heap.size w
 go_enter Tryz.func26,Tryz.ntmps26
 go_upto_region 1 with fail
 refine wp_alloc1 (fun w1 a0 hk=>?_)
 replace hb:=hb.trans (hk.mono hb.size)
 clear hk
 obtain ⟨Aa,Ab,Ac⟩:=ce3 a0
 go_upto_region 7 with ((first | (go_at_call 15;with_reducible refine (chVB hb R C1).mono ?_) | (go_at_call 45;with_reducible refine (chVB hb R C2).mono ?_) | (go_at_call 56;first | with_reducible refine (chVB hb R C3).mono ?_ | with_reducible refine (chVB hb R C4).mono ?_ | with_reducible refine (chVB hb R C5).mono ?_ | with_reducible refine (chVB hb R C6).mono ?_));clear hb;rintro e w1 ⟨rfl,hk,hb⟩;clear Aa Ab Ac;replace a0:=zB hk a0;obtain ⟨Aa,Ab,Ac⟩:=ce3 a0;clear hk)
 refine wp_alloc1 (fun w1 Ad hk=>?_)
 clear Aa Ab Ac
 replace a0:=zB hk a0
 obtain ⟨Aa,Ab,Ac⟩:=ce3 a0
 replace hb:=hb.trans (hk.mono hb.size)
 clear hk
 obtain ⟨Ae,Af,Ag,Ah,Ai,Aj,Ak,Al⟩:=ce8 Ad
 go_wp2_with (first | (go_at_call 47;with_reducible refine (chVB hb R C7).mono ?_;clear hb;rintro e w1 ⟨rfl,hk,hb⟩;clear Aa Ab Ac Ae Af Ag Ah Ai Aj Ak Al;replace a0:=zB hk a0;replace Ad:=zB hk Ad;obtain ⟨Aa,Ab,Ac⟩:=ce3 a0;obtain ⟨Ae,Af,Ag,Ah,Ai,Aj,Ak,Al⟩:=ce8 Ad;clear hk) | (go_at_call 57;(with_reducible refine (zK hb (C8.out _ _ (R.below hb) Ae Af Ag Ah Ai Aj Ak Al)).mono ?_);clear hb;rintro e w1 ⟨rfl,hk,hb⟩;clear Aa Ab Ac Ae Af Ag Ah Ai Aj Ak Al;replace a0:=zB hk a0;replace Ad:=zB hk Ad;obtain ⟨Aa,Ab,Ac⟩:=ce3 a0;obtain ⟨Ae,Af,Ag,Ah,Ai,Aj,Ak,Al⟩:=ce8 Ad;clear hk))
 first | go_ret | go_ret2 | go_ret3
 exact ⟨rfl,hb⟩
end Go.Proofs.YtpiiclmkbplkhaaGreatDoor.Kl
