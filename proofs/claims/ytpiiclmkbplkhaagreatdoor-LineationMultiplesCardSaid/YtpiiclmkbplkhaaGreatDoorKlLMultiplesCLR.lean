import Derived.Test.YtpiiclmkbplkhaaGreatDoorKlLMultiplesCLQZ
namespace Go.Proofs.YtpiiclmkbplkhaaGreatDoor.Kl
open Go Go.RowKit
set_option maxRecDepth 100000
set_option maxHeartbeats 8000000
theorem lSame_t (a b c x y z:Rat) (na:RN a 6 3) (nb:RN b 6 3) (nc:RN c 6 3) (nx:RN x 6 3) (ny:RN y 6 3) (nz:RN z 6 3) (hu:a≠0∨b≠0∨c≠0) (hv:x≠0∨y≠0∨z≠0) (hp:((b*z) - (c*y))=0∧((c*x) - (a*z))=0∧((a*y) - (b*x))=0) (w:World) (R:EnvV w) :
   Calls Tryz.prog 16 #[.agg #[.string (ratB a),.string (ratB b),.string (ratB c)],.agg #[.string (ratB x),.string (ratB y),.string (ratB z)]] w (Ret w (.tuple #[.bool true,.int .i64 0])):=by
 have Ag:=RN_mul nb nz
 have Ah:=RN_mul nc ny
 have Ai:=RN_mul nc nx
 have Aj:=RN_mul na nz
 have Ak:=RN_mul na ny
 have Al:=RN_mul nb nx
 have c1:=lcheck_ok a b c hu na.r2 nb.r2 nc.r2
 have c2:=lcheck_ok x y z hv nx.r2 ny.r2 nz.r2
 have c3:=fun (w:World) (R:EnvV w)=>orErr2 0 0 0 (by decide) w R.toEnvR
 have c4:CV 44 #[.agg #[.string (ratB a),.string (ratB b),.string (ratB c)],.agg #[.string (ratB x),.string (ratB y),.string (ratB z)]] (.tuple #[.bool true,.int .i64 0]):=fun w R=>(by have h':=parallel_any a b c x y z na.r2 nb.r2 nc.r2 nx.r2 ny.r2 nz.r2 nb.rm nz.rm nc.rm ny.rm Ag.rm Ah.rm nx.rm na.rm Ai.rm Aj.rm Ak.rm Al.rm w R;rw [decide_eq_true hp] at h';exact h')
 obtain ⟨A0,Am⟩:∃ vq,ratB a=vq:=⟨_,rfl⟩
 obtain ⟨A1,An⟩:∃ vq,ratB b=vq:=⟨_,rfl⟩
 obtain ⟨A2,Ao⟩:∃ vq,ratB c=vq:=⟨_,rfl⟩
 obtain ⟨A3,Ap⟩:∃ vq,ratB x=vq:=⟨_,rfl⟩
 obtain ⟨A4,Aq⟩:∃ vq,ratB y=vq:=⟨_,rfl⟩
 obtain ⟨A5,Ar⟩:∃ vq,ratB z=vq:=⟨_,rfl⟩
 try simp only [Am,An,Ao,Ap,Aq,Ar] at c1 c2 c3 c4 ⊢
 have C1:=Lib.hid c1
 have C2:=Lib.hid c2
 have C3:=Lib.hid c3
 have C4:=Lib.hid c4
 clear c1 c2 c3 c4 Am An Ao Ap Aq Ar Ag Ah Ai Aj Ak Al na nb nc nx ny nz hu hv hp
 have hb:=Below.refl w.heap.size w
 go_enter Tryz.func16,Tryz.ntmps16
 go_upto_region 1 with fail
 refine wp_alloc2 (fun w1 a0 a1 hk=>?_)
 replace hb:=hb.trans (hk.mono hb.size)
 clear hk
 obtain ⟨Aa,Ab,Ac⟩:=ce3 a0
 obtain ⟨Ad,Ae,Af⟩:=ce3 a1
 go_upto_region 1 with fail
 obtain ⟨Au,Av,Aw⟩:=cy3 a0
 obtain ⟨Ax,Ay,Az⟩:=cy3 a1
 have As:=rrV C1 R hb
 have At:=rrV C2 R hb
 refine wp_region_tail_below 4 (by first | assumption | kernel_rfl) (by kernel_rfl) ?_
 simp only [List.take_succ_cons,List.take_zero,List.drop_succ_cons,List.drop_zero]
 repeat (quiet_step (first | (with_reducible exact As.out _ _) | (with_reducible exact At.out _ _)))
 refine wpQuiet_nil ?_
 intro w1 hw'
 obtain ⟨hk,hb⟩:=zQ hb hw'
 clear Aa Ab Ac Ad Ae Af
 replace a0:=zB hk a0
 replace a1:=zB hk a1
 obtain ⟨Aa,Ab,Ac⟩:=ce3 a0
 obtain ⟨Ad,Ae,Af⟩:=ce3 a1
 clear As At Au Av Aw Ax Ay Az
 clear hk hw'
 go_wp2_with ((first | (go_at_call 43;with_reducible refine (zL hb (C3.out _ (R.below hb))).mono ?_) | (go_at_call 44;with_reducible refine (chVB hb R C4).mono ?_));clear hb;rintro e w1 ⟨rfl,hk,hb⟩;clear Aa Ab Ac Ad Ae Af;replace a0:=zB hk a0;replace a1:=zB hk a1;obtain ⟨Aa,Ab,Ac⟩:=ce3 a0;obtain ⟨Ad,Ae,Af⟩:=ce3 a1;clear hk)
 first | go_ret | go_ret2 | go_ret3
 exact ⟨rfl,hb⟩
theorem xrise (a b c:Rat) (r1:RL a 10000) (r2:RL b 10000) (r3:RL (a*a) 10000) (r4:RL (b*b) 10000) (r5:RL c 10000) (w:World) (R:EnvV w) :
   Calls Tryz.prog 48 #[.agg #[.string (ratB a),.string (ratB b),.string (ratB c)]] w (Ret w (.tuple #[.string (ratB ((a*a)+(b*b))),.string (ratB (c*c))])):=by
 have c1:=fun (w:World) (R:EnvV w)=>rmul_any a a r1 r1 w R.toEnvR
 have c2:=fun (w:World) (R:EnvV w)=>rmul_any b b r2 r2 w R.toEnvR
 have c3:=fun (w:World) (R:EnvV w)=>radd_any (a*a) (b*b) r3 r4 w R.toEnvR
 have c4:=fun (w:World) (R:EnvV w)=>rmul_any c c r5 r5 w R.toEnvR
 obtain ⟨Ar,Aa⟩:∃ vq,ratB ((a*a)+(b*b))=vq:=⟨_,rfl⟩
 obtain ⟨As,Ab⟩:∃ vq,ratB (a*a)=vq:=⟨_,rfl⟩
 obtain ⟨At,Ac⟩:∃ vq,ratB (b*b)=vq:=⟨_,rfl⟩
 obtain ⟨Au,Ad⟩:∃ vq,ratB (c*c)=vq:=⟨_,rfl⟩
 obtain ⟨Av,Ae⟩:∃ vq,ratB a=vq:=⟨_,rfl⟩
 obtain ⟨Aw,Af⟩:∃ vq,ratB b=vq:=⟨_,rfl⟩
 obtain ⟨Ax,Ag⟩:∃ vq,ratB c=vq:=⟨_,rfl⟩
 try simp only [Aa,Ab,Ac,Ad,Ae,Af,Ag] at c1 c2 c3 c4 ⊢
 have C1:=Lib.hid c1
 have C2:=Lib.hid c2
 have C3:=Lib.hid c3
 have C4:=Lib.hid c4
 clear c1 c2 c3 c4 Aa Ab Ac Ad Ae Af Ag r1 r2 r3 r4 r5
 have hb:=Below.refl w.heap.size w
 go_enter Tryz.func48,Tryz.ntmps48
 go_upto_region 1 with fail
 refine wp_alloc1 (fun w1 a0 hk=>?_)
 replace hb:=hb.trans (hk.mono hb.size)
 clear hk
 obtain ⟨Ah,Ai,Aj⟩:=ce3 a0
 go_upto_region 1 with fail
 obtain ⟨Ao,Ap,Aq⟩:=cy3 a0
 have Ak:=rrV C1 R hb
 have Al:=rrV C2 R hb
 have Am:=rrV C3 R hb
 have An:=rrV C4 R hb
 refine wp_region_quiet_below (by first | assumption | kernel_rfl) (by kernel_rfl) ?_
 repeat (quiet_step (first | (with_reducible exact Ak.out _ _) | (with_reducible exact Al.out _ _) | (with_reducible exact Am.out _ _) | (with_reducible exact An.out _ _)))
 refine wpQuiet_nil ?_
 intro w1 hw'
 obtain ⟨hk,hb⟩:=zQ hb hw'
 clear Ah Ai Aj
 replace a0:=zB hk a0
 obtain ⟨Ah,Ai,Aj⟩:=ce3 a0
 clear Ak Al Am An Ao Ap Aq
 clear hk hw'
 go_wp2
 first | go_ret | go_ret2 | go_ret3
 exact ⟨rfl,hb⟩
theorem nquot (x y:Rat) (r1:y≠0) (r2:RL x 10000) (r3:RL y 10000) (r4:RL (x / y) 200) (w:World) (R:EnvV w) :
   Calls Tryz.prog 58 #[.string (ratB x),.string (ratB y)] w (Ret w (.tuple #[.string (ratB (x / y)),.int .i64 0])):=by
 have c1:=fun (w:World) (R:EnvV w)=>rdiv_any x y r2 r3 r1 w R.toEnvR
 have c2:∀ w,EnvV w→Calls Tryz.prog 82 #[.string (ratB (x / y)),.slice (some ⟨w.heap.size,0,none⟩) 1 1] (w.alloc (Obj.cells #[Value.string (ratB (x / y))] 22)) (Ret w (.tuple #[.string (ratB (x / y)),.int .i64 0])):=fun w R=>resR (ratB (x / y)) (ratB (x / y)) (by intro t ht;simp only [List.mem_cons,List.not_mem_nil,or_false] at ht;subst ht;exact ⟨_,rfl,r4⟩) w R.toEnvR
 obtain ⟨Ad,Aa⟩:∃ vq,ratB (x / y)=vq:=⟨_,rfl⟩
 obtain ⟨Ae,Ab⟩:∃ vq,ratB x=vq:=⟨_,rfl⟩
 obtain ⟨Af,Ac⟩:∃ vq,ratB y=vq:=⟨_,rfl⟩
 try simp only [Aa,Ab,Ac] at c1 c2 ⊢
 have C1:=Lib.hid c1
 have C2:=Lib.hid c2
 clear c1 c2 Aa Ab Ac r1 r2 r3 r4
 have hb:=Below.refl w.heap.size w
 go_enter Tryz.func58,Tryz.ntmps58
 go_wp2_with ((first | (go_at_call 83;with_reducible refine (chVB hb R C1).mono ?_) | (go_at_call 82;with_reducible refine (zL hb (C2.out _ (R.below hb))).mono ?_));clear hb;rintro e w1 ⟨rfl,hk,hb⟩;clear hk)
 first | go_ret | go_ret2 | go_ret3
 exact ⟨rfl,hb⟩
theorem lPlunge_t (a b c:Rat) (na:RN a 6 3) (nb:RN b 6 3) (nc:RN c 6 3) (hu:a≠0∨b≠0∨c≠0) (g:a=0∧b=0) (w:World) (R:EnvV w) :
   Calls Tryz.prog 27 #[.agg #[.string (ratB a),.string (ratB b),.string (ratB c)]] w (Ret w (.tuple #[.string ⟨#[]⟩,.bool true,.int .i64 0])):=by
 have c1:=lcheck_ok a b c hu na.r2 nb.r2 nc.r2
 have c2:=lver_t a b c g.1 g.2
 obtain ⟨Ag,Aa⟩:∃ vq,ratB a=vq:=⟨_,rfl⟩
 obtain ⟨Ah,Ab⟩:∃ vq,ratB b=vq:=⟨_,rfl⟩
 obtain ⟨Ai,Ac⟩:∃ vq,ratB c=vq:=⟨_,rfl⟩
 try simp only [Aa,Ab,Ac] at c1 c2 ⊢
 have C1:=Lib.hid c1
 have C2:=Lib.hid c2
 clear c1 c2 Aa Ab Ac na nb nc hu g
 have hb:=Below.refl w.heap.size w
 go_enter Tryz.func27,Tryz.ntmps27
 go_upto_region 1 with fail
 refine wp_alloc1 (fun w1 a0 hk=>?_)
 replace hb:=hb.trans (hk.mono hb.size)
 clear hk
 obtain ⟨Ad,Ae,Af⟩:=ce3 a0
 go_wp2_with ((first | (go_at_call 15;with_reducible refine (chVB hb R C1).mono ?_) | (go_at_call 45;with_reducible refine (chVB hb R C2).mono ?_));clear hb;rintro e w1 ⟨rfl,hk,hb⟩;clear Ad Ae Af;replace a0:=zB hk a0;obtain ⟨Ad,Ae,Af⟩:=ce3 a0;clear hk)
 first | go_ret | go_ret2 | go_ret3
 exact ⟨rfl,hb⟩
theorem lPlunge_f (a b c:Rat) (na:RN a 6 3) (nb:RN b 6 3) (nc:RN c 6 3) (hu:a≠0∨b≠0∨c≠0) (g:a≠0∨b≠0) (w:World) (R:EnvV w) :
   Calls Tryz.prog 27 #[.agg #[.string (ratB a),.string (ratB b),.string (ratB c)]] w (Ret w (.tuple #[.string (ratB ((c*c) / ((a*a)+(b*b)))),.bool false,.int .i64 0])):=by
 have Aa:=RN_mul na na
 have Ab:=RN_mul nb nb
 have Ac:=RN_add (N:=18) Aa Ab
 have Ad:=RN_mul nc nc
 have Ae:=RN_div Ad Ac (sq2_ne g)
 have c1:=lcheck_ok a b c hu na.r2 nb.r2 nc.r2
 have c2:=lver_f a b c g
 have c3:=xrise a b c na.rm nb.rm Aa.rm Ab.rm nc.rm
 have c4:=nquot (c*c) ((a*a)+(b*b)) (sq2_ne g) Ad.rm Ac.rm Ae.r2
 obtain ⟨Ao,Af⟩:∃ vq,ratB ((c*c) / ((a*a)+(b*b)))=vq:=⟨_,rfl⟩
 obtain ⟨Ap,Ag⟩:∃ vq,ratB ((a*a)+(b*b))=vq:=⟨_,rfl⟩
 obtain ⟨Aq,Ah⟩:∃ vq,ratB (c*c)=vq:=⟨_,rfl⟩
 obtain ⟨Ar,Ai⟩:∃ vq,ratB a=vq:=⟨_,rfl⟩
 obtain ⟨As,Aj⟩:∃ vq,ratB b=vq:=⟨_,rfl⟩
 obtain ⟨At,Ak⟩:∃ vq,ratB c=vq:=⟨_,rfl⟩
 try simp only [Af,Ag,Ah,Ai,Aj,Ak] at c1 c2 c3 c4 ⊢
 have C1:=Lib.hid c1
 have C2:=Lib.hid c2
 have C3:=Lib.hid c3
 have C4:=Lib.hid c4
 clear c1 c2 c3 c4 Af Ag Ah Ai Aj Ak Aa Ab Ac Ad Ae na nb nc hu g
 have hb:=Below.refl w.heap.size w
 go_enter Tryz.func27,Tryz.ntmps27
 go_upto_region 1 with fail
 refine wp_alloc1 (fun w1 a0 hk=>?_)
 replace hb:=hb.trans (hk.mono hb.size)
 clear hk
 obtain ⟨Al,Am,An⟩:=ce3 a0
 go_wp2_with (first | ((first | (go_at_call 15;with_reducible refine (chVB hb R C1).mono ?_) | (go_at_call 45;with_reducible refine (chVB hb R C2).mono ?_) | (go_at_call 48;with_reducible refine (chVB hb R C3).mono ?_));clear hb;rintro e w1 ⟨rfl,hk,hb⟩;clear Al Am An;replace a0:=zB hk a0;obtain ⟨Al,Am,An⟩:=ce3 a0;clear hk) | (go_at_call 58;with_reducible refine (chVB hb R C4).mono ?_;clear hb;rintro e w1 ⟨rfl,hk,hb⟩;clear hk))
 first | go_ret | go_ret2 | go_ret3
 exact ⟨rfl,hb⟩
end Go.Proofs.YtpiiclmkbplkhaaGreatDoor.Kl
