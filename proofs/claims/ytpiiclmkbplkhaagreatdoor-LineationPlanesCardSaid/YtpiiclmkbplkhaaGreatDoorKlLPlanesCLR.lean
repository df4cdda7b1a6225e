import Derived.Test.YtpiiclmkbplkhaaGreatDoorKlLPlanesCLQ
import Derived.Test.YtpiiclmkbplkhaaGreatDoorKlBLRZ
namespace Go.Proofs.YtpiiclmkbplkhaaGreatDoor.Kl
open Go Go.RowKit
set_option maxRecDepth 100000
set_option maxHeartbeats 8000000
theorem lSame_t (a b c x y z:Rat) (na:RN a 6 3) (nb:RN b 6 3) (nc:RN c 6 3) (nx:RN x 6 3) (ny:RN y 6 3) (nz:RN z 6 3) (hu:a≠0∨b≠0∨c≠0) (hv:x≠0∨y≠0∨z≠0) (hp:((b*z) - (c*y))=0∧((c*x) - (a*z))=0∧((a*y) - (b*x))=0) (w:World) (R:EnvV w) :
   Calls Tryz.prog 16 #[.agg #[.string (ratB a),.string (ratB b),.string (ratB c)],.agg #[.string (ratB x),.string (ratB y),.string (ratB z)]] w (Ret w (.tuple #[.bool true,.int .i64 0])):=by
 have Ag:=RN_mul nb nz
 have Ah:=RN_mul nc ny
 have Ai:=RN_mul nc nx
 have Aj:=RN_mul na nz
 have Ak:=RN_mul na ny
 have Al:=RN_mul nb nx
 have c1:=lcheck_ok a b c hu na.r2 nb.r2 nc.r2
 have c2:=lcheck_ok x y z hv nx.r2 ny.r2 nz.r2
 have c3:=fun (w:World) (R:EnvV w)=>orErr2 0 0 0 (by decide) w R.toEnvR
 have c4:CV 44 #[.agg #[.string (ratB a),.string (ratB b),.string (ratB c)],.agg #[.string (ratB x),.string (ratB y),.string (ratB z)]] (.tuple #[.bool true,.int .i64 0]):=fun w R=>(by have h':=parallel_any a b c x y z na.r2 nb.r2 nc.r2 nx.r2 ny.r2 nz.r2 nb.rm nz.rm nc.rm ny.rm Ag.rm Ah.rm nx.rm na.rm Ai.rm Aj.rm Ak.rm Al.rm w R;rw [decide_eq_true hp] at h';exact h')
 obtain ⟨A0,Am⟩:∃ vq,ratB a=vq:=⟨_,rfl⟩
 obtain ⟨A1,An⟩:∃ vq,ratB b=vq:=⟨_,rfl⟩
 obtain ⟨A2,Ao⟩:∃ vq,ratB c=vq:=⟨_,rfl⟩
 obtain ⟨A3,Ap⟩:∃ vq,ratB x=vq:=⟨_,rfl⟩
 obtain ⟨A4,Aq⟩:∃ vq,ratB y=vq:=⟨_,rfl⟩
 obtain ⟨A5,Ar⟩:∃ vq,ratB z=vq:=⟨_,rfl⟩
 try simp only [Am,An,Ao,Ap,Aq,Ar] at c1 c2 c3 c4 ⊢
 have C1:=Lib.hid c1
 have C2:=Lib.hid c2
 have C3:=Lib.hid c3
 have C4:=Lib.hid c4
 clear c1 c2 c3 c4 Am An Ao Ap Aq Ar Ag Ah Ai Aj Ak Al na nb nc nx ny nz hu hv hp
 have hb:=Below.refl w.heap.size w
 go_enter Tryz.func16,Tryz.ntmps16
 go_upto_region 1 with fail
 refine wp_alloc2 (fun w1 a0 a1 hk=>?_)
 replace hb:=hb.trans (hk.mono hb.size)
 clear hk
 obtain ⟨Aa,Ab,Ac⟩:=ce3 a0
 obtain ⟨Ad,Ae,Af⟩:=ce3 a1
 go_upto_region 1 with fail
 obtain ⟨Au,Av,Aw⟩:=cy3 a0
 obtain ⟨Ax,Ay,Az⟩:=cy3 a1
 have As:=rrV C1 R hb
 have At:=rrV C2 R hb
 refine wp_region_tail_below 4 (by first | assumption | kernel_rfl) (by kernel_rfl) ?_
 simp only [List.take_succ_cons,List.take_zero,List.drop_succ_cons,List.drop_zero]
 repeat (quiet_step (first | (with_reducible exact As.out _ _) | (with_reducible exact At.out _ _)))
 refine wpQuiet_nil ?_
 intro w1 hw'
 obtain ⟨hk,hb⟩:=zQ hb hw'
 clear Aa Ab Ac Ad Ae Af
 replace a0:=zB hk a0
 replace a1:=zB hk a1
 obtain ⟨Aa,Ab,Ac⟩:=ce3 a0
 obtain ⟨Ad,Ae,Af⟩:=ce3 a1
 clear As At Au Av Aw Ax Ay Az
 clear hk hw'
 go_wp2_with ((first | (go_at_call 43;with_reducible refine (zL hb (C3.out _ (R.below hb))).mono ?_) | (go_at_call 44;with_reducible refine (chVB hb R C4).mono ?_));clear hb;rintro e w1 ⟨rfl,hk,hb⟩;clear Aa Ab Ac Ad Ae Af;replace a0:=zB hk a0;replace a1:=zB hk a1;obtain ⟨Aa,Ab,Ac⟩:=ce3 a0;obtain ⟨Ad,Ae,Af⟩:=ce3 a1;clear hk)
 first | go_ret | go_ret2 | go_ret3
 exact ⟨rfl,hb⟩
theorem lLies_t (a b c x y z:Rat) (na:RN a 6 3) (nb:RN b 6 3) (nc:RN c 6 3) (nx:RN x 6 3) (ny:RN y 6 3) (nz:RN z 6 3) (hu:a≠0∨b≠0∨c≠0) (hv:x≠0∨y≠0∨z≠0) (q0:((a*x)+(b*y))+(c*z)=0) (w:World) (R:EnvV w) :
   Calls Tryz.prog 21 #[.agg #[.string (ratB a),.string (ratB b),.string (ratB c)],.agg #[.string (ratB x),.string (ratB y),.string (ratB z)]] w (Ret w (.tuple #[.bool true,.int .i64 0])):=by
 have c1:=lcheck_ok a b c hu na.r2 nb.r2 nc.r2
 have c2:=lcheck_ok x y z hv nx.r2 ny.r2 nz.r2
 have c3:=fun (w:World) (R:EnvV w)=>orErr2 0 0 0 (by decide) w R.toEnvR
 have c4:=llies_t a b c x y z na nb nc nx ny nz q0
 obtain ⟨Au,Ag⟩:∃ vq,ratB a=vq:=⟨_,rfl⟩
 obtain ⟨Av,Ah⟩:∃ vq,ratB b=vq:=⟨_,rfl⟩
 obtain ⟨Aw,Ai⟩:∃ vq,ratB c=vq:=⟨_,rfl⟩
 obtain ⟨Ax,Aj⟩:∃ vq,ratB x=vq:=⟨_,rfl⟩
 obtain ⟨Ay,Ak⟩:∃ vq,ratB y=vq:=⟨_,rfl⟩
 obtain ⟨Az,Al⟩:∃ vq,ratB z=vq:=⟨_,rfl⟩
 try simp only [Ag,Ah,Ai,Aj,Ak,Al] at c1 c2 c3 c4 ⊢
 have C1:=Lib.hid c1
 have C2:=Lib.hid c2
 have C3:=Lib.hid c3
 have C4:=Lib.hid c4
 clear c1 c2 c3 c4 Ag Ah Ai Aj Ak Al na nb nc nx ny nz hu hv q0
 have hb:=Below.refl w.heap.size w
 go_enter Tryz.func21,Tryz.ntmps21
 go_upto_region 1 with fail
 refine wp_alloc2 (fun w1 a0 a1 hk=>?_)
 replace hb:=hb.trans (hk.mono hb.size)
 clear hk
 obtain ⟨Aa,Ab,Ac⟩:=ce3 a0
 obtain ⟨Ad,Ae,Af⟩:=ce3 a1
 go_upto_region 1 with fail
 obtain ⟨Ao,Ap,Aq⟩:=cy3 a0
 obtain ⟨Ar,As,At⟩:=cy3 a1
 have Am:=rrV C1 R hb
 have An:=rrV C2 R hb
 refine wp_region_tail_below 4 (by first | assumption | kernel_rfl) (by kernel_rfl) ?_
 simp only [List.take_succ_cons,List.take_zero,List.drop_succ_cons,List.drop_zero]
 repeat (quiet_step (first | (with_reducible exact Am.out _ _) | (with_reducible exact An.out _ _)))
 refine wpQuiet_nil ?_
 intro w1 hw'
 obtain ⟨hk,hb⟩:=zQ hb hw'
 clear Aa Ab Ac Ad Ae Af
 replace a0:=zB hk a0
 replace a1:=zB hk a1
 obtain ⟨Aa,Ab,Ac⟩:=ce3 a0
 obtain ⟨Ad,Ae,Af⟩:=ce3 a1
 clear Am An Ao Ap Aq Ar As At
 clear hk hw'
 go_wp2_with ((first | (go_at_call 43;with_reducible refine (zL hb (C3.out _ (R.below hb))).mono ?_) | (go_at_call 51;with_reducible refine (chVB hb R C4).mono ?_));clear hb;rintro e w1 ⟨rfl,hk,hb⟩;clear Aa Ab Ac Ad Ae Af;replace a0:=zB hk a0;replace a1:=zB hk a1;obtain ⟨Aa,Ab,Ac⟩:=ce3 a0;obtain ⟨Ad,Ae,Af⟩:=ce3 a1;clear hk)
 first | go_ret | go_ret2 | go_ret3
 exact ⟨rfl,hb⟩
theorem llies_f (a b c x y z:Rat) (na:RN a 6 3) (nb:RN b 6 3) (nc:RN c 6 3) (nx:RN x 6 3) (ny:RN y 6 3) (nz:RN z 6 3) (q0:(((a*x)+(b*y))+(c*z))≠0) (w:World) (R:EnvV w) :
   Calls Tryz.prog 51 #[.agg #[.string (ratB a),.string (ratB b),.string (ratB c)],.agg #[.string (ratB x),.string (ratB y),.string (ratB z)]] w (Ret w (.bool false)):=by
 have Aa:=RN_mul na nx
 have Ad:=Aa.rl (K:=80)
 have Ab:=RN_mul nb ny
 have Ae:=Ab.rl (K:=80)
 have Ac:=RN_mul nc nz
 have Af:=Ac.rl (K:=80)
 have Ag:=RN_add (N:=18) Aa Ab
 have Au:=RN_add (N:=25) Ag Ac
 have c1:=xdotL a b c x y z na.rm nx.rm nb.rm ny.rm nc.rm nz.rm Ad Ae Af
 have eq0:((ratB (((a*x)+(b*y))+(c*z))).toList == [48])=false:=by rw [ratB_eq_zero];exact decide_eq_false q0
 have pq0:¬ (ratB (((a*x)+(b*y))+(c*z))).toList=[48]:=fun h=>q0 ((zero_iff _).1 h)
 obtain ⟨Av,Ah⟩:∃ vq,ratB (((a*x)+(b*y))+(c*z))=vq:=⟨_,rfl⟩
 obtain ⟨Aw,Ai⟩:∃ vq,ratB a=vq:=⟨_,rfl⟩
 obtain ⟨Ax,Aj⟩:∃ vq,ratB b=vq:=⟨_,rfl⟩
 obtain ⟨Ay,Ak⟩:∃ vq,ratB c=vq:=⟨_,rfl⟩
 obtain ⟨Az,Al⟩:∃ vq,ratB x=vq:=⟨_,rfl⟩
 obtain ⟨A0,Am⟩:∃ vq,ratB y=vq:=⟨_,rfl⟩
 obtain ⟨A1,An⟩:∃ vq,ratB z=vq:=⟨_,rfl⟩
 try simp only [Ah,Ai,Aj,Ak,Al,Am,An] at c1 eq0 pq0 ⊢
 have C1:=Lib.hid c1
 clear c1 Ah Ai Aj Ak Al Am An Aa Ad Ab Ae Ac Af Ag Au q0 na nb nc nx ny nz
 have hb:=Below.refl w.heap.size w
 go_enter Tryz.func51,Tryz.ntmps51
 go_upto_region 1 with fail
 refine wp_alloc2 (fun w1 a0 a1 hk=>?_)
 replace hb:=hb.trans (hk.mono hb.size)
 clear hk
 obtain ⟨Ao,Ap,Aq⟩:=ce3 a0
 obtain ⟨Ar,As,At⟩:=ce3 a1
 go_wp2_with (go_at_call 55;with_reducible refine (chVB hb R C1).mono ?_;clear hb;rintro e w1 ⟨rfl,hk,hb⟩;clear Ao Ap Aq Ar As At;replace a0:=zB hk a0;replace a1:=zB hk a1;obtain ⟨Ao,Ap,Aq⟩:=ce3 a0;obtain ⟨Ar,As,At⟩:=ce3 a1;clear hk)
 first | go_ret | go_ret2 | go_ret3
 exact ⟨rfl,hb⟩
theorem lLies_f (a b c x y z:Rat) (na:RN a 6 3) (nb:RN b 6 3) (nc:RN c 6 3) (nx:RN x 6 3) (ny:RN y 6 3) (nz:RN z 6 3) (hu:a≠0∨b≠0∨c≠0) (hv:x≠0∨y≠0∨z≠0) (q0:((a*x)+(b*y))+(c*z)≠0) (w:World) (R:EnvV w) :
   Calls Tryz.prog 21 #[.agg #[.string (ratB a),.string (ratB b),.string (ratB c)],.agg #[.string (ratB x),.string (ratB y),.string (ratB z)]] w (Ret w (.tuple #[.bool false,.int .i64 0])):=by
 have c1:=lcheck_ok a b c hu na.r2 nb.r2 nc.r2
 have c2:=lcheck_ok x y z hv nx.r2 ny.r2 nz.r2
 have c3:=fun (w:World) (R:EnvV w)=>orErr2 0 0 0 (by decide) w R.toEnvR
 have c4:=llies_f a b c x y z na nb nc nx ny nz q0
 obtain ⟨Au,Ag⟩:∃ vq,ratB a=vq:=⟨_,rfl⟩
 obtain ⟨Av,Ah⟩:∃ vq,ratB b=vq:=⟨_,rfl⟩
 obtain ⟨Aw,Ai⟩:∃ vq,ratB c=vq:=⟨_,rfl⟩
 obtain ⟨Ax,Aj⟩:∃ vq,ratB x=vq:=⟨_,rfl⟩
 obtain ⟨Ay,Ak⟩:∃ vq,ratB y=vq:=⟨_,rfl⟩
 obtain ⟨Az,Al⟩:∃ vq,ratB z=vq:=⟨_,rfl⟩
 try simp only [Ag,Ah,Ai,Aj,Ak,Al] at c1 c2 c3 c4 ⊢
 have C1:=Lib.hid c1
 have C2:=Lib.hid c2
 have C3:=Lib.hid c3
 have C4:=Lib.hid c4
 clear c1 c2 c3 c4 Ag Ah Ai Aj Ak Al na nb nc nx ny nz hu hv q0
 have hb:=Below.refl w.heap.size w
 go_enter Tryz.func21,Tryz.ntmps21
 go_upto_region 1 with fail
 refine wp_alloc2 (fun w1 a0 a1 hk=>?_)
 replace hb:=hb.trans (hk.mono hb.size)
 clear hk
 obtain ⟨Aa,Ab,Ac⟩:=ce3 a0
 obtain ⟨Ad,Ae,Af⟩:=ce3 a1
 go_upto_region 1 with fail
 obtain ⟨Ao,Ap,Aq⟩:=cy3 a0
 obtain ⟨Ar,As,At⟩:=cy3 a1
 have Am:=rrV C1 R hb
 have An:=rrV C2 R hb
 refine wp_region_tail_below 4 (by first | assumption | kernel_rfl) (by kernel_rfl) ?_
 simp only [List.take_succ_cons,List.take_zero,List.drop_succ_cons,List.drop_zero]
 repeat (quiet_step (first | (with_reducible exact Am.out _ _) | (with_reducible exact An.out _ _)))
 refine wpQuiet_nil ?_
 intro w1 hw'
 obtain ⟨hk,hb⟩:=zQ hb hw'
 clear Aa Ab Ac Ad Ae Af
 replace a0:=zB hk a0
 replace a1:=zB hk a1
 obtain ⟨Aa,Ab,Ac⟩:=ce3 a0
 obtain ⟨Ad,Ae,Af⟩:=ce3 a1
 clear Am An Ao Ap Aq Ar As At
 clear hk hw'
 go_wp2_with ((first | (go_at_call 43;with_reducible refine (zL hb (C3.out _ (R.below hb))).mono ?_) | (go_at_call 51;with_reducible refine (chVB hb R C4).mono ?_));clear hb;rintro e w1 ⟨rfl,hk,hb⟩;clear Aa Ab Ac Ad Ae Af;replace a0:=zB hk a0;replace a1:=zB hk a1;obtain ⟨Aa,Ab,Ac⟩:=ce3 a0;obtain ⟨Ad,Ae,Af⟩:=ce3 a1;clear hk)
 first | go_ret | go_ret2 | go_ret3
 exact ⟨rfl,hb⟩
theorem lPitch_v (a b c x y z:Rat) (na:RN a 6 3) (nb:RN b 6 3) (nc:RN c 6 3) (nx:RN x 6 3) (ny:RN y 6 3) (nz:RN z 6 3) (hu:a≠0∨b≠0∨c≠0) (hv:x≠0∨y≠0∨z≠0) (g:a=0∧b=0) (w:World) (R:EnvV w) :
   Calls Tryz.prog 23 #[.agg #[.string (ratB a),.string (ratB b),.string (ratB c)],.agg #[.string (ratB x),.string (ratB y),.string (ratB z)]] w (Ret w (.tuple #[.string ⟨#[]⟩,.int .i64 19])):=by
 have c1:=lcheck_ok a b c hu na.r2 nb.r2 nc.r2
 have c2:=lcheck_ok x y z hv nx.r2 ny.r2 nz.r2
 have c3:=fun (w:World) (R:EnvV w)=>orErr2 0 0 0 (by decide) w R.toEnvR
 have c4:=lver_t a b c g.1 g.2
 obtain ⟨Au,Ag⟩:∃ vq,ratB a=vq:=⟨_,rfl⟩
 obtain ⟨Av,Ah⟩:∃ vq,ratB b=vq:=⟨_,rfl⟩
 obtain ⟨Aw,Ai⟩:∃ vq,ratB c=vq:=⟨_,rfl⟩
 obtain ⟨Ax,Aj⟩:∃ vq,ratB x=vq:=⟨_,rfl⟩
 obtain ⟨Ay,Ak⟩:∃ vq,ratB y=vq:=⟨_,rfl⟩
 obtain ⟨Az,Al⟩:∃ vq,ratB z=vq:=⟨_,rfl⟩
 try simp only [Ag,Ah,Ai,Aj,Ak,Al] at c1 c2 c3 c4 ⊢
 have C1:=Lib.hid c1
 have C2:=Lib.hid c2
 have C3:=Lib.hid c3
 have C4:=Lib.hid c4
 clear c1 c2 c3 c4 Ag Ah Ai Aj Ak Al na nb nc nx ny nz hu hv g
 have hb:=Below.refl w.heap.size w
 go_enter Tryz.func23,Tryz.ntmps23
 go_upto_region 1 with fail
 refine wp_alloc2 (fun w1 a0 a1 hk=>?_)
 replace hb:=hb.trans (hk.mono hb.size)
 clear hk
 obtain ⟨Aa,Ab,Ac⟩:=ce3 a0
 obtain ⟨Ad,Ae,Af⟩:=ce3 a1
 go_upto_region 1 with fail
 obtain ⟨Ao,Ap,Aq⟩:=cy3 a0
 obtain ⟨Ar,As,At⟩:=cy3 a1
 have Am:=rrV C1 R hb
 have An:=rrV C2 R hb
 refine wp_region_tail_below 4 (by first | assumption | kernel_rfl) (by kernel_rfl) ?_
 simp only [List.take_succ_cons,List.take_zero,List.drop_succ_cons,List.drop_zero]
 repeat (quiet_step (first | (with_reducible exact Am.out _ _) | (with_reducible exact An.out _ _)))
 refine wpQuiet_nil ?_
 intro w1 hw'
 obtain ⟨hk,hb⟩:=zQ hb hw'
 clear Aa Ab Ac Ad Ae Af
 replace a0:=zB hk a0
 replace a1:=zB hk a1
 obtain ⟨Aa,Ab,Ac⟩:=ce3 a0
 obtain ⟨Ad,Ae,Af⟩:=ce3 a1
 clear Am An Ao Ap Aq Ar As At
 clear hk hw'
 go_wp2_with ((first | (go_at_call 43;with_reducible refine (zL hb (C3.out _ (R.below hb))).mono ?_) | (go_at_call 45;with_reducible refine (chVB hb R C4).mono ?_));clear hb;rintro e w1 ⟨rfl,hk,hb⟩;clear Aa Ab Ac Ad Ae Af;replace a0:=zB hk a0;replace a1:=zB hk a1;obtain ⟨Aa,Ab,Ac⟩:=ce3 a0;obtain ⟨Ad,Ae,Af⟩:=ce3 a1;clear hk)
 first | go_ret | go_ret2 | go_ret3
 exact ⟨rfl,hb⟩
theorem lPitch_n (a b c x y z:Rat) (na:RN a 6 3) (nb:RN b 6 3) (nc:RN c 6 3) (nx:RN x 6 3) (ny:RN y 6 3) (nz:RN z 6 3) (hu:a≠0∨b≠0∨c≠0) (hv:x≠0∨y≠0∨z≠0) (g:a≠0∨b≠0) (q0:((a*x)+(b*y))+(c*z)≠0) (w:World) (R:EnvV w) :
   Calls Tryz.prog 23 #[.agg #[.string (ratB a),.string (ratB b),.string (ratB c)],.agg #[.string (ratB x),.string (ratB y),.string (ratB z)]] w (Ret w (.tuple #[.string ⟨#[]⟩,.int .i64 7])):=by
 have c1:=lcheck_ok a b c hu na.r2 nb.r2 nc.r2
 have c2:=lcheck_ok x y z hv nx.r2 ny.r2 nz.r2
 have c3:=fun (w:World) (R:EnvV w)=>orErr2 0 0 0 (by decide) w R.toEnvR
 have c4:=lver_f a b c g
 have c5:=llies_f a b c x y z na nb nc nx ny nz q0
 obtain ⟨Au,Ag⟩:∃ vq,ratB a=vq:=⟨_,rfl⟩
 obtain ⟨Av,Ah⟩:∃ vq,ratB b=vq:=⟨_,rfl⟩
 obtain ⟨Aw,Ai⟩:∃ vq,ratB c=vq:=⟨_,rfl⟩
 obtain ⟨Ax,Aj⟩:∃ vq,ratB x=vq:=⟨_,rfl⟩
 obtain ⟨Ay,Ak⟩:∃ vq,ratB y=vq:=⟨_,rfl⟩
 obtain ⟨Az,Al⟩:∃ vq,ratB z=vq:=⟨_,rfl⟩
 try simp only [Ag,Ah,Ai,Aj,Ak,Al] at c1 c2 c3 c4 c5 ⊢
 have C1:=Lib.hid c1
 have C2:=Lib.hid c2
 have C3:=Lib.hid c3
 have C4:=Lib.hid c4
 have C5:=Lib.hid c5
 clear c1 c2 c3 c4 c5 Ag Ah Ai Aj Ak Al na nb nc nx ny nz hu hv g q0
 have hb:=Below.refl w.heap.size w
 go_enter Tryz.func23,Tryz.ntmps23
 go_upto_region 1 with fail
 refine wp_alloc2 (fun w1 a0 a1 hk=>?_)
 replace hb:=hb.trans (hk.mono hb.size)
 clear hk
 obtain ⟨Aa,Ab,Ac⟩:=ce3 a0
 obtain ⟨Ad,Ae,Af⟩:=ce3 a1
 go_upto_region 1 with fail
 obtain ⟨Ao,Ap,Aq⟩:=cy3 a0
 obtain ⟨Ar,As,At⟩:=cy3 a1
 have Am:=rrV C1 R hb
 have An:=rrV C2 R hb
 refine wp_region_tail_below 4 (by first | assumption | kernel_rfl) (by kernel_rfl) ?_
 simp only [List.take_succ_cons,List.take_zero,List.drop_succ_cons,List.drop_zero]
 repeat (quiet_step (first | (with_reducible exact Am.out _ _) | (with_reducible exact An.out _ _)))
 refine wpQuiet_nil ?_
 intro w1 hw'
 obtain ⟨hk,hb⟩:=zQ hb hw'
 clear Aa Ab Ac Ad Ae Af
 replace a0:=zB hk a0
 replace a1:=zB hk a1
 obtain ⟨Aa,Ab,Ac⟩:=ce3 a0
 obtain ⟨Ad,Ae,Af⟩:=ce3 a1
 clear Am An Ao Ap Aq Ar As At
 clear hk hw'
 go_wp2_with ((first | (go_at_call 43;with_reducible refine (zL hb (C3.out _ (R.below hb))).mono ?_) | (go_at_call 45;with_reducible refine (chVB hb R C4).mono ?_) | (go_at_call 51;with_reducible refine (chVB hb R C5).mono ?_));clear hb;rintro e w1 ⟨rfl,hk,hb⟩;clear Aa Ab Ac Ad Ae Af;replace a0:=zB hk a0;replace a1:=zB hk a1;obtain ⟨Aa,Ab,Ac⟩:=ce3 a0;obtain ⟨Ad,Ae,Af⟩:=ce3 a1;clear hk)
 first | go_ret | go_ret2 | go_ret3
 exact ⟨rfl,hb⟩
theorem lIntersect_d (a b c x y z:Rat) (na:RN a 6 3) (nb:RN b 6 3) (nc:RN c 6 3) (nx:RN x 6 3) (ny:RN y 6 3) (nz:RN z 6 3) (hu:a≠0∨b≠0∨c≠0) (hv:x≠0∨y≠0∨z≠0) (hp:((b*z) - (c*y))=0∧((c*x) - (a*z))=0∧((a*y) - (b*x))=0) (w:World) (R:EnvV w) :
   Calls Tryz.prog 22 #[.agg #[.string (ratB a),.string (ratB b),.string (ratB c)],.agg #[.string (ratB x),.string (ratB y),.string (ratB z)]] w (Ret w (.tuple #[.agg #[.string ⟨#[]⟩,.string ⟨#[]⟩,.string ⟨#[]⟩],.int .i64 18])):=by
 have c1:=lSame_t a b c x y z na nb nc nx ny nz hu hv hp
 obtain ⟨As,Ad⟩:∃ vq,ratB a=vq:=⟨_,rfl⟩
 obtain ⟨At,Ae⟩:∃ vq,ratB b=vq:=⟨_,rfl⟩
 obtain ⟨Au,Af⟩:∃ vq,ratB c=vq:=⟨_,rfl⟩
 obtain ⟨Av,Ag⟩:∃ vq,ratB x=vq:=⟨_,rfl⟩
 obtain ⟨Aw,Ah⟩:∃ vq,ratB y=vq:=⟨_,rfl⟩
 obtain ⟨Ax,Ai⟩:∃ vq,ratB z=vq:=⟨_,rfl⟩
 try simp only [Ad,Ae,Af,Ag,Ah,Ai] at c1 ⊢
 have C1:=Lib.hid c1
 clear c1 Ad Ae Af Ag Ah Ai na nb nc nx ny nz hu hv hp
 have hb:=Below.refl w.heap.size w
 go_enter Tryz.func22,Tryz.ntmps22
 go_upto_region 1 with fail
 refine wp_alloc3 (fun w1 a0 a1 a2 hk=>?_)
 replace hb:=hb.trans (hk.mono hb.size)
 clear hk
 obtain ⟨Aj,Ak,Al⟩:=ce3 a0
 obtain ⟨Am,An,Ao⟩:=ce3 a1
 obtain ⟨Aa,Ap,Ab,Aq,Ac,Ar⟩:=cf3 a2
 go_wp2_with (go_at_call 16;with_reducible refine (chVB hb R C1).mono ?_;clear hb;rintro e w1 ⟨rfl,hk,hb⟩;clear Aj Ak Al Am An Ao Aa Ab Ac Ap Aq Ar;replace a0:=zB hk a0;replace a1:=zB hk a1;replace a2:=zB hk a2;obtain ⟨Aj,Ak,Al⟩:=ce3 a0;obtain ⟨Am,An,Ao⟩:=ce3 a1;obtain ⟨Aa,Ap,Ab,Aq,Ac,Ar⟩:=cf3 a2;clear hk)
 refine bodyPost_ret (v:=.tuple #[.agg #[.string ⟨#[]⟩,.string ⟨#[]⟩,.string ⟨#[]⟩],.int .i64 18]) (by simp [results,Tryz.results22,go_sem,Aa,Ab,Ac]) rfl ⟨rfl,?_⟩
 repeat' (first | exact hb | refine Below.setCell ?_ (by first | exact Nat.le_refl _ | (dsimp only;omega)) _)
end Go.Proofs.YtpiiclmkbplkhaaGreatDoor.Kl
