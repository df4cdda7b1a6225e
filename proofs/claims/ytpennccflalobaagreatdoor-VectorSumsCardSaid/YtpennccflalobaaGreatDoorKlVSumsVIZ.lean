import Derived.Test.YtpennccflalobaaGreatDoorKlVSumsVE
namespace Go.Proofs.YtpennccflalobaaGreatDoor.Kl
open Go Go.RowKit
set_option maxRecDepth 100000
set_option maxHeartbeats 8000000
theorem retBI {k:IntKind} {x y:Bool} {z:Int} (h:x=y):Ending.returned (.tuple #[.bool x,.int k z]) = .returned (.tuple #[.bool y,.int k z]):=by rw [h]
theorem isZero_any (a b c:Rat) (r1:RL a 200) (r2:RL b 200) (r3:RL c 200) (w:World) (R:EnvV w) :
   Calls Tryz.prog 32 #[.agg #[.string (ratB a),.string (ratB b),.string (ratB c)]] w (Ret w (.tuple #[.bool (decide (a=0∧b=0∧c=0)),.int .i64 0])):=by
 have c1:=fun (w:World) (R:EnvV w)=>vcheck_ok a b c r1 r2 r3 w R.toEnvR
 have C1:=Lib.hid c1
 clear c1 r1 r2 r3
 have hb:=Below.refl w.heap.size w
 have Aa:w.cell? ⟨0,0,none⟩=some (Value.string ⟨#[48]⟩):=R.z0
 have Ab:w.cell? ⟨0,1,none⟩=some (Value.string ⟨#[48]⟩):=R.z1
 have Ac:w.cell? ⟨0,2,none⟩=some (Value.string ⟨#[48]⟩):=R.z2
 go_enter Tryz.func32,Tryz.ntmps32
 go_upto_region 1 with fail
 refine wp_alloc1 (fun w1 a0 hk=>?_)
 replace Aa:=zC hk Aa
 replace Ab:=zC hk Ab
 replace Ac:=zC hk Ac
 replace hb:=hb.trans (hk.mono hb.size)
 clear hk
 obtain ⟨Ad,Ae,Af⟩:=ce3 a0
 go_wp2_with (go_at_call 15;with_reducible refine (chVB hb R C1).mono ?_;clear hb;rintro e w1 ⟨rfl,hk,hb⟩;replace Aa:=zC hk Aa;replace Ab:=zC hk Ab;replace Ac:=zC hk Ac;clear Ad Ae Af;replace a0:=zB hk a0;obtain ⟨Ad,Ae,Af⟩:=ce3 a0;clear hk)
 all_goals (go_ret2;refine ⟨retBI ?_,hb⟩;simp_all [zero_iff])
theorem parallel_0 (a b c x y z:Rat) (n0:((b*z) - (c*y))≠0) (r1:RL a 200) (r2:RL b 200) (r3:RL c 200) (r4:RL x 200) (r5:RL y 200) (r6:RL z 200) (r7:RL b 10000) (r8:RL z 10000) (r9:RL c 10000) (r10:RL y 10000) (r11:RL (b*z) 10000) (r12:RL (c*y) 10000) (r13:RL x 10000) (r14:RL a 10000) (r15:RL (c*x) 10000) (r16:RL (a*z) 10000) (r17:RL (a*y) 10000) (r18:RL (b*x) 10000) (w:World) (R:EnvV w) :
   Calls Tryz.prog 26 #[.agg #[.string (ratB a),.string (ratB b),.string (ratB c)],.agg #[.string (ratB x),.string (ratB y),.string (ratB z)]] w (Ret w (.tuple #[.bool false,.int .i64 0])):=by
 have c1:=fun (w:World) (R:EnvV w)=>vcheck_ok a b c r1 r2 r3 w R.toEnvR
 have c2:=fun (w:World) (R:EnvV w)=>vcheck_ok x y z r4 r5 r6 w R.toEnvR
 have c3:=fun (w:World) (R:EnvV w)=>orErr2 0 0 0 (by decide) w R.toEnvR
 have c4:=fun (w:World) (R:EnvV w)=>cross_any a b c x y z r7 r8 r9 r10 r11 r12 r13 r14 r15 r16 r17 r18 w R.toEnvR
 have e0:((ratB ((b*z) - (c*y))).toList == [48])=false:=by rw [ratB_eq_zero];exact decide_eq_false n0
 have p0:¬ (ratB ((b*z) - (c*y))).toList=[48]:=fun h=>n0 ((zero_iff _).1 h)
 obtain ⟨t0,et0⟩:∃ v,ratB ((b*z) - (c*y))=v:=⟨_,rfl⟩
 try simp only [et0] at c1 c2 c3 c4 e0 p0 ⊢
 obtain ⟨t1,et1⟩:∃ v,ratB ((c*x) - (a*z))=v:=⟨_,rfl⟩
 try simp only [et1] at c1 c2 c3 c4 e0 p0 ⊢
 obtain ⟨t2,et2⟩:∃ v,ratB ((a*y) - (b*x))=v:=⟨_,rfl⟩
 try simp only [et2] at c1 c2 c3 c4 e0 p0 ⊢
 have C1:=Lib.hid c1
 have C2:=Lib.hid c2
 have C3:=Lib.hid c3
 have C4:=Lib.hid c4
 clear c1 c2 c3 c4 et0 et1 et2 n0 r1 r2 r3 r4 r5 r6 r7 r8 r9 r10 r11 r12 r13 r14 r15 r16 r17 r18
 have hb:=Below.refl w.heap.size w
 have Aa:w.cell? ⟨0,0,none⟩=some (Value.string ⟨#[48]⟩):=R.z0
 have Ab:w.cell? ⟨0,1,none⟩=some (Value.string ⟨#[48]⟩):=R.z1
 have Ac:w.cell? ⟨0,2,none⟩=some (Value.string ⟨#[48]⟩):=R.z2
 go_enter Tryz.func26,Tryz.ntmps26
 go_upto_region 1 with fail
 refine wp_alloc2 (fun w1 a0 a1 hk=>?_)
 replace Aa:=zC hk Aa
 replace Ab:=zC hk Ab
 replace Ac:=zC hk Ac
 replace hb:=hb.trans (hk.mono hb.size)
 clear hk
 obtain ⟨Ad,Ae,Af⟩:=ce3 a0
 obtain ⟨Ag,Ah,Ai⟩:=ce3 a1
 go_upto_region 1 with fail
 have Aj:=zR Aa
 have Ak:=zR Ab
 have Al:=zR Ac
 obtain ⟨Am,An,Ao⟩:=cy3 a0
 obtain ⟨Ap,Aq,Ar⟩:=cy3 a1
 have As:=rrV C1 R hb
 have At:=rrV C2 R hb
 refine wp_region_tail_below 4 (by first | assumption | kernel_rfl) (by kernel_rfl) ?_
 simp only [List.take_succ_cons,List.take_zero,List.drop_succ_cons,List.drop_zero]
 repeat (quiet_step (first | (with_reducible exact As.out _ _) | (with_reducible exact At.out _ _)))
 refine wpQuiet_nil ?_
 intro w1 hw'
 obtain ⟨hk,hb⟩:=zQ hb hw'
 replace Aa:=zC hk Aa
 replace Ab:=zC hk Ab
 replace Ac:=zC hk Ac
 clear Ad Ae Af Ag Ah Ai
 replace a0:=zB hk a0
 replace a1:=zB hk a1
 obtain ⟨Ad,Ae,Af⟩:=ce3 a0
 obtain ⟨Ag,Ah,Ai⟩:=ce3 a1
 clear As At Aj Ak Al Am An Ao Ap Aq Ar
 clear hk hw'
 go_upto_region 4 with (go_at_call 69;with_reducible refine (zL hb (C3.out _ (R.below hb))).mono ?_;clear hb;rintro e w1 ⟨rfl,hk,hb⟩;replace Aa:=zC hk Aa;replace Ab:=zC hk Ab;replace Ac:=zC hk Ac;clear Ad Ae Af Ag Ah Ai;replace a0:=zB hk a0;replace a1:=zB hk a1;obtain ⟨Ad,Ae,Af⟩:=ce3 a0;obtain ⟨Ag,Ah,Ai⟩:=ce3 a1;clear hk)
 have Aj:=zR Aa
 have Ak:=zR Ab
 have Al:=zR Ac
 obtain ⟨Am,An,Ao⟩:=cy3 a0
 obtain ⟨Ap,Aq,Ar⟩:=cy3 a1
 have Au:=rrV C4 R hb
 refine wp_region_quiet_below (by first | assumption | kernel_rfl) (by kernel_rfl) ?_
 repeat (quiet_step (first | (with_reducible exact Au.out _ _)))
 refine wpQuiet_nil ?_
 intro w1 hw'
 obtain ⟨hk,hb⟩:=zQ hb hw'
 replace Aa:=zC hk Aa
 replace Ab:=zC hk Ab
 replace Ac:=zC hk Ac
 clear Ad Ae Af Ag Ah Ai
 replace a0:=zB hk a0
 replace a1:=zB hk a1
 obtain ⟨Ad,Ae,Af⟩:=ce3 a0
 obtain ⟨Ag,Ah,Ai⟩:=ce3 a1
 clear Au Aj Ak Al Am An Ao Ap Aq Ar
 clear hk hw'
 go_wp2
 first | go_ret | go_ret2 | go_ret3
 exact ⟨rfl,hb⟩
theorem parallel_1 (a b c x y z:Rat) (z0:((b*z) - (c*y))=0) (n1:((c*x) - (a*z))≠0) (r1:RL a 200) (r2:RL b 200) (r3:RL c 200) (r4:RL x 200) (r5:RL y 200) (r6:RL z 200) (r7:RL b 10000) (r8:RL z 10000) (r9:RL c 10000) (r10:RL y 10000) (r11:RL (b*z) 10000) (r12:RL (c*y) 10000) (r13:RL x 10000) (r14:RL a 10000) (r15:RL (c*x) 10000) (r16:RL (a*z) 10000) (r17:RL (a*y) 10000) (r18:RL (b*x) 10000) (w:World) (R:EnvV w) :
   Calls Tryz.prog 26 #[.agg #[.string (ratB a),.string (ratB b),.string (ratB c)],.agg #[.string (ratB x),.string (ratB y),.string (ratB z)]] w (Ret w (.tuple #[.bool false,.int .i64 0])):=by
 have c1:=fun (w:World) (R:EnvV w)=>vcheck_ok a b c r1 r2 r3 w R.toEnvR
 have c2:=fun (w:World) (R:EnvV w)=>vcheck_ok x y z r4 r5 r6 w R.toEnvR
 have c3:=fun (w:World) (R:EnvV w)=>orErr2 0 0 0 (by decide) w R.toEnvR
 have c4:=fun (w:World) (R:EnvV w)=>cross_any a b c x y z r7 r8 r9 r10 r11 r12 r13 r14 r15 r16 r17 r18 w R.toEnvR
 have e0:((ratB ((b*z) - (c*y))).toList == [48])=true:=by rw [ratB_eq_zero];exact decide_eq_true z0
 have p0:(ratB ((b*z) - (c*y))).toList=[48]:=(zero_iff _).2 z0
 have e1:((ratB ((c*x) - (a*z))).toList == [48])=false:=by rw [ratB_eq_zero];exact decide_eq_false n1
 have p1:¬ (ratB ((c*x) - (a*z))).toList=[48]:=fun h=>n1 ((zero_iff _).1 h)
 obtain ⟨t0,et0⟩:∃ v,ratB ((b*z) - (c*y))=v:=⟨_,rfl⟩
 try simp only [et0] at c1 c2 c3 c4 e0 p0 e1 p1 ⊢
 obtain ⟨t1,et1⟩:∃ v,ratB ((c*x) - (a*z))=v:=⟨_,rfl⟩
 try simp only [et1] at c1 c2 c3 c4 e0 p0 e1 p1 ⊢
 obtain ⟨t2,et2⟩:∃ v,ratB ((a*y) - (b*x))=v:=⟨_,rfl⟩
 try simp only [et2] at c1 c2 c3 c4 e0 p0 e1 p1 ⊢
 have C1:=Lib.hid c1
 have C2:=Lib.hid c2
 have C3:=Lib.hid c3
 have C4:=Lib.hid c4
 clear c1 c2 c3 c4 et0 et1 et2 z0 n1 r1 r2 r3 r4 r5 r6 r7 r8 r9 r10 r11 r12 r13 r14 r15 r16 r17 r18
 have hb:=Below.refl w.heap.size w
 have Aa:w.cell? ⟨0,0,none⟩=some (Value.string ⟨#[48]⟩):=R.z0
 have Ab:w.cell? ⟨0,1,none⟩=some (Value.string ⟨#[48]⟩):=R.z1
 have Ac:w.cell? ⟨0,2,none⟩=some (Value.string ⟨#[48]⟩):=R.z2
 go_enter Tryz.func26,Tryz.ntmps26
 go_upto_region 1 with fail
 refine wp_alloc2 (fun w1 a0 a1 hk=>?_)
 replace Aa:=zC hk Aa
 replace Ab:=zC hk Ab
 replace Ac:=zC hk Ac
 replace hb:=hb.trans (hk.mono hb.size)
 clear hk
 obtain ⟨Ad,Ae,Af⟩:=ce3 a0
 obtain ⟨Ag,Ah,Ai⟩:=ce3 a1
 go_upto_region 1 with fail
 have Aj:=zR Aa
 have Ak:=zR Ab
 have Al:=zR Ac
 obtain ⟨Am,An,Ao⟩:=cy3 a0
 obtain ⟨Ap,Aq,Ar⟩:=cy3 a1
 have As:=rrV C1 R hb
 have At:=rrV C2 R hb
 refine wp_region_tail_below 4 (by first | assumption | kernel_rfl) (by kernel_rfl) ?_
 simp only [List.take_succ_cons,List.take_zero,List.drop_succ_cons,List.drop_zero]
 repeat (quiet_step (first | (with_reducible exact As.out _ _) | (with_reducible exact At.out _ _)))
 refine wpQuiet_nil ?_
 intro w1 hw'
 obtain ⟨hk,hb⟩:=zQ hb hw'
 replace Aa:=zC hk Aa
 replace Ab:=zC hk Ab
 replace Ac:=zC hk Ac
 clear Ad Ae Af Ag Ah Ai
 replace a0:=zB hk a0
 replace a1:=zB hk a1
 obtain ⟨Ad,Ae,Af⟩:=ce3 a0
 obtain ⟨Ag,Ah,Ai⟩:=ce3 a1
 clear As At Aj Ak Al Am An Ao Ap Aq Ar
 clear hk hw'
 go_upto_region 4 with (go_at_call 69;with_reducible refine (zL hb (C3.out _ (R.below hb))).mono ?_;clear hb;rintro e w1 ⟨rfl,hk,hb⟩;replace Aa:=zC hk Aa;replace Ab:=zC hk Ab;replace Ac:=zC hk Ac;clear Ad Ae Af Ag Ah Ai;replace a0:=zB hk a0;replace a1:=zB hk a1;obtain ⟨Ad,Ae,Af⟩:=ce3 a0;obtain ⟨Ag,Ah,Ai⟩:=ce3 a1;clear hk)
 have Aj:=zR Aa
 have Ak:=zR Ab
 have Al:=zR Ac
 obtain ⟨Am,An,Ao⟩:=cy3 a0
 obtain ⟨Ap,Aq,Ar⟩:=cy3 a1
 have Au:=rrV C4 R hb
 refine wp_region_quiet_below (by first | assumption | kernel_rfl) (by kernel_rfl) ?_
 repeat (quiet_step (first | (with_reducible exact Au.out _ _)))
 refine wpQuiet_nil ?_
 intro w1 hw'
 obtain ⟨hk,hb⟩:=zQ hb hw'
 replace Aa:=zC hk Aa
 replace Ab:=zC hk Ab
 replace Ac:=zC hk Ac
 clear Ad Ae Af Ag Ah Ai
 replace a0:=zB hk a0
 replace a1:=zB hk a1
 obtain ⟨Ad,Ae,Af⟩:=ce3 a0
 obtain ⟨Ag,Ah,Ai⟩:=ce3 a1
 clear Au Aj Ak Al Am An Ao Ap Aq Ar
 clear hk hw'
 go_wp2
 first | go_ret | go_ret2 | go_ret3
 exact ⟨rfl,hb⟩
theorem parallel_2 (a b c x y z:Rat) (z0:((b*z) - (c*y))=0) (z1:((c*x) - (a*z))=0) (n2:((a*y) - (b*x))≠0) (r1:RL a 200) (r2:RL b 200) (r3:RL c 200) (r4:RL x 200) (r5:RL y 200) (r6:RL z 200) (r7:RL b 10000) (r8:RL z 10000) (r9:RL c 10000) (r10:RL y 10000) (r11:RL (b*z) 10000) (r12:RL (c*y) 10000) (r13:RL x 10000) (r14:RL a 10000) (r15:RL (c*x) 10000) (r16:RL (a*z) 10000) (r17:RL (a*y) 10000) (r18:RL (b*x) 10000) (w:World) (R:EnvV w) :
   Calls Tryz.prog 26 #[.agg #[.string (ratB a),.string (ratB b),.string (ratB c)],.agg #[.string (ratB x),.string (ratB y),.string (ratB z)]] w (Ret w (.tuple #[.bool false,.int .i64 0])):=by
 have c1:=fun (w:World) (R:EnvV w)=>vcheck_ok a b c r1 r2 r3 w R.toEnvR
 have c2:=fun (w:World) (R:EnvV w)=>vcheck_ok x y z r4 r5 r6 w R.toEnvR
 have c3:=fun (w:World) (R:EnvV w)=>orErr2 0 0 0 (by decide) w R.toEnvR
 have c4:=fun (w:World) (R:EnvV w)=>cross_any a b c x y z r7 r8 r9 r10 r11 r12 r13 r14 r15 r16 r17 r18 w R.toEnvR
 have e0:((ratB ((b*z) - (c*y))).toList == [48])=true:=by rw [ratB_eq_zero];exact decide_eq_true z0
 have p0:(ratB ((b*z) - (c*y))).toList=[48]:=(zero_iff _).2 z0
 have e1:((ratB ((c*x) - (a*z))).toList == [48])=true:=by rw [ratB_eq_zero];exact decide_eq_true z1
 have p1:(ratB ((c*x) - (a*z))).toList=[48]:=(zero_iff _).2 z1
 have e2:((ratB ((a*y) - (b*x))).toList == [48])=false:=by rw [ratB_eq_zero];exact decide_eq_false n2
 have p2:¬ (ratB ((a*y) - (b*x))).toList=[48]:=fun h=>n2 ((zero_iff _).1 h)
 obtain ⟨t0,et0⟩:∃ v,ratB ((b*z) - (c*y))=v:=⟨_,rfl⟩
 try simp only [et0] at c1 c2 c3 c4 e0 p0 e1 p1 e2 p2 ⊢
 obtain ⟨t1,et1⟩:∃ v,ratB ((c*x) - (a*z))=v:=⟨_,rfl⟩
 try simp only [et1] at c1 c2 c3 c4 e0 p0 e1 p1 e2 p2 ⊢
 obtain ⟨t2,et2⟩:∃ v,ratB ((a*y) - (b*x))=v:=⟨_,rfl⟩
 try simp only [et2] at c1 c2 c3 c4 e0 p0 e1 p1 e2 p2 ⊢
 have C1:=Lib.hid c1
 have C2:=Lib.hid c2
 have C3:=Lib.hid c3
 have C4:=Lib.hid c4
 clear c1 c2 c3 c4 et0 et1 et2 z0 z1 n2 r1 r2 r3 r4 r5 r6 r7 r8 r9 r10 r11 r12 r13 r14 r15 r16 r17 r18
 have hb:=Below.refl w.heap.size w
 have Aa:w.cell? ⟨0,0,none⟩=some (Value.string ⟨#[48]⟩):=R.z0
 have Ab:w.cell? ⟨0,1,none⟩=some (Value.string ⟨#[48]⟩):=R.z1
 have Ac:w.cell? ⟨0,2,none⟩=some (Value.string ⟨#[48]⟩):=R.z2
 go_enter Tryz.func26,Tryz.ntmps26
 go_upto_region 1 with fail
 refine wp_alloc2 (fun w1 a0 a1 hk=>?_)
 replace Aa:=zC hk Aa
 replace Ab:=zC hk Ab
 replace Ac:=zC hk Ac
 replace hb:=hb.trans (hk.mono hb.size)
 clear hk
 obtain ⟨Ad,Ae,Af⟩:=ce3 a0
 obtain ⟨Ag,Ah,Ai⟩:=ce3 a1
 go_upto_region 1 with fail
 have Aj:=zR Aa
 have Ak:=zR Ab
 have Al:=zR Ac
 obtain ⟨Am,An,Ao⟩:=cy3 a0
 obtain ⟨Ap,Aq,Ar⟩:=cy3 a1
 have As:=rrV C1 R hb
 have At:=rrV C2 R hb
 refine wp_region_tail_below 4 (by first | assumption | kernel_rfl) (by kernel_rfl) ?_
 simp only [List.take_succ_cons,List.take_zero,List.drop_succ_cons,List.drop_zero]
 repeat (quiet_step (first | (with_reducible exact As.out _ _) | (with_reducible exact At.out _ _)))
 refine wpQuiet_nil ?_
 intro w1 hw'
 obtain ⟨hk,hb⟩:=zQ hb hw'
 replace Aa:=zC hk Aa
 replace Ab:=zC hk Ab
 replace Ac:=zC hk Ac
 clear Ad Ae Af Ag Ah Ai
 replace a0:=zB hk a0
 replace a1:=zB hk a1
 obtain ⟨Ad,Ae,Af⟩:=ce3 a0
 obtain ⟨Ag,Ah,Ai⟩:=ce3 a1
 clear As At Aj Ak Al Am An Ao Ap Aq Ar
 clear hk hw'
 go_upto_region 4 with (go_at_call 69;with_reducible refine (zL hb (C3.out _ (R.below hb))).mono ?_;clear hb;rintro e w1 ⟨rfl,hk,hb⟩;replace Aa:=zC hk Aa;replace Ab:=zC hk Ab;replace Ac:=zC hk Ac;clear Ad Ae Af Ag Ah Ai;replace a0:=zB hk a0;replace a1:=zB hk a1;obtain ⟨Ad,Ae,Af⟩:=ce3 a0;obtain ⟨Ag,Ah,Ai⟩:=ce3 a1;clear hk)
 have Aj:=zR Aa
 have Ak:=zR Ab
 have Al:=zR Ac
 obtain ⟨Am,An,Ao⟩:=cy3 a0
 obtain ⟨Ap,Aq,Ar⟩:=cy3 a1
 have Au:=rrV C4 R hb
 refine wp_region_quiet_below (by first | assumption | kernel_rfl) (by kernel_rfl) ?_
 repeat (quiet_step (first | (with_reducible exact Au.out _ _)))
 refine wpQuiet_nil ?_
 intro w1 hw'
 obtain ⟨hk,hb⟩:=zQ hb hw'
 replace Aa:=zC hk Aa
 replace Ab:=zC hk Ab
 replace Ac:=zC hk Ac
 clear Ad Ae Af Ag Ah Ai
 replace a0:=zB hk a0
 replace a1:=zB hk a1
 obtain ⟨Ad,Ae,Af⟩:=ce3 a0
 obtain ⟨Ag,Ah,Ai⟩:=ce3 a1
 clear Au Aj Ak Al Am An Ao Ap Aq Ar
 clear hk hw'
 go_wp2
 first | go_ret | go_ret2 | go_ret3
 exact ⟨rfl,hb⟩
theorem parallel_3 (a b c x y z:Rat) (z0:((b*z) - (c*y))=0) (z1:((c*x) - (a*z))=0) (z2:((a*y) - (b*x))=0) (r1:RL a 200) (r2:RL b 200) (r3:RL c 200) (r4:RL x 200) (r5:RL y 200) (r6:RL z 200) (r7:RL b 10000) (r8:RL z 10000) (r9:RL c 10000) (r10:RL y 10000) (r11:RL (b*z) 10000) (r12:RL (c*y) 10000) (r13:RL x 10000) (r14:RL a 10000) (r15:RL (c*x) 10000) (r16:RL (a*z) 10000) (r17:RL (a*y) 10000) (r18:RL (b*x) 10000) (w:World) (R:EnvV w) :
   Calls Tryz.prog 26 #[.agg #[.string (ratB a),.string (ratB b),.string (ratB c)],.agg #[.string (ratB x),.string (ratB y),.string (ratB z)]] w (Ret w (.tuple #[.bool true,.int .i64 0])):=by
 have c1:=fun (w:World) (R:EnvV w)=>vcheck_ok a b c r1 r2 r3 w R.toEnvR
 have c2:=fun (w:World) (R:EnvV w)=>vcheck_ok x y z r4 r5 r6 w R.toEnvR
 have c3:=fun (w:World) (R:EnvV w)=>orErr2 0 0 0 (by decide) w R.toEnvR
 have c4:=fun (w:World) (R:EnvV w)=>cross_any a b c x y z r7 r8 r9 r10 r11 r12 r13 r14 r15 r16 r17 r18 w R.toEnvR
 have e0:((ratB ((b*z) - (c*y))).toList == [48])=true:=by rw [ratB_eq_zero];exact decide_eq_true z0
 have p0:(ratB ((b*z) - (c*y))).toList=[48]:=(zero_iff _).2 z0
 have e1:((ratB ((c*x) - (a*z))).toList == [48])=true:=by rw [ratB_eq_zero];exact decide_eq_true z1
 have p1:(ratB ((c*x) - (a*z))).toList=[48]:=(zero_iff _).2 z1
 have e2:((ratB ((a*y) - (b*x))).toList == [48])=true:=by rw [ratB_eq_zero];exact decide_eq_true z2
 have p2:(ratB ((a*y) - (b*x))).toList=[48]:=(zero_iff _).2 z2
 obtain ⟨t0,et0⟩:∃ v,ratB ((b*z) - (c*y))=v:=⟨_,rfl⟩
 try simp only [et0] at c1 c2 c3 c4 e0 p0 e1 p1 e2 p2 ⊢
 obtain ⟨t1,et1⟩:∃ v,ratB ((c*x) - (a*z))=v:=⟨_,rfl⟩
 try simp only [et1] at c1 c2 c3 c4 e0 p0 e1 p1 e2 p2 ⊢
 obtain ⟨t2,et2⟩:∃ v,ratB ((a*y) - (b*x))=v:=⟨_,rfl⟩
 try simp only [et2] at c1 c2 c3 c4 e0 p0 e1 p1 e2 p2 ⊢
 have C1:=Lib.hid c1
 have C2:=Lib.hid c2
 have C3:=Lib.hid c3
 have C4:=Lib.hid c4
 clear c1 c2 c3 c4 et0 et1 et2 z0 z1 z2 r1 r2 r3 r4 r5 r6 r7 r8 r9 r10 r11 r12 r13 r14 r15 r16 r17 r18
 have hb:=Below.refl w.heap.size w
 have Aa:w.cell? ⟨0,0,none⟩=some (Value.string ⟨#[48]⟩):=R.z0
 have Ab:w.cell? ⟨0,1,none⟩=some (Value.string ⟨#[48]⟩):=R.z1
 have Ac:w.cell? ⟨0,2,none⟩=some (Value.string ⟨#[48]⟩):=R.z2
 go_enter Tryz.func26,Tryz.ntmps26
 go_upto_region 1 with fail
 refine wp_alloc2 (fun w1 a0 a1 hk=>?_)
 replace Aa:=zC hk Aa
 replace Ab:=zC hk Ab
 replace Ac:=zC hk Ac
 replace hb:=hb.trans (hk.mono hb.size)
 clear hk
 obtain ⟨Ad,Ae,Af⟩:=ce3 a0
 obtain ⟨Ag,Ah,Ai⟩:=ce3 a1
 go_upto_region 1 with fail
 have Aj:=zR Aa
 have Ak:=zR Ab
 have Al:=zR Ac
 obtain ⟨Am,An,Ao⟩:=cy3 a0
 obtain ⟨Ap,Aq,Ar⟩:=cy3 a1
 have As:=rrV C1 R hb
 have At:=rrV C2 R hb
 refine wp_region_tail_below 4 (by first | assumption | kernel_rfl) (by kernel_rfl) ?_
 simp only [List.take_succ_cons,List.take_zero,List.drop_succ_cons,List.drop_zero]
 repeat (quiet_step (first | (with_reducible exact As.out _ _) | (with_reducible exact At.out _ _)))
 refine wpQuiet_nil ?_
 intro w1 hw'
 obtain ⟨hk,hb⟩:=zQ hb hw'
 replace Aa:=zC hk Aa
 replace Ab:=zC hk Ab
 replace Ac:=zC hk Ac
 clear Ad Ae Af Ag Ah Ai
 replace a0:=zB hk a0
 replace a1:=zB hk a1
 obtain ⟨Ad,Ae,Af⟩:=ce3 a0
 obtain ⟨Ag,Ah,Ai⟩:=ce3 a1
 clear As At Aj Ak Al Am An Ao Ap Aq Ar
 clear hk hw'
 go_upto_region 4 with (go_at_call 69;with_reducible refine (zL hb (C3.out _ (R.below hb))).mono ?_;clear hb;rintro e w1 ⟨rfl,hk,hb⟩;replace Aa:=zC hk Aa;replace Ab:=zC hk Ab;replace Ac:=zC hk Ac;clear Ad Ae Af Ag Ah Ai;replace a0:=zB hk a0;replace a1:=zB hk a1;obtain ⟨Ad,Ae,Af⟩:=ce3 a0;obtain ⟨Ag,Ah,Ai⟩:=ce3 a1;clear hk)
 have Aj:=zR Aa
 have Ak:=zR Ab
 have Al:=zR Ac
 obtain ⟨Am,An,Ao⟩:=cy3 a0
 obtain ⟨Ap,Aq,Ar⟩:=cy3 a1
 have Au:=rrV C4 R hb
 refine wp_region_quiet_below (by first | assumption | kernel_rfl) (by kernel_rfl) ?_
 repeat (quiet_step (first | (with_reducible exact Au.out _ _)))
 refine wpQuiet_nil ?_
 intro w1 hw'
 obtain ⟨hk,hb⟩:=zQ hb hw'
 replace Aa:=zC hk Aa
 replace Ab:=zC hk Ab
 replace Ac:=zC hk Ac
 clear Ad Ae Af Ag Ah Ai
 replace a0:=zB hk a0
 replace a1:=zB hk a1
 obtain ⟨Ad,Ae,Af⟩:=ce3 a0
 obtain ⟨Ag,Ah,Ai⟩:=ce3 a1
 clear Au Aj Ak Al Am An Ao Ap Aq Ar
 clear hk hw'
 go_wp2
 first | go_ret | go_ret2 | go_ret3
 exact ⟨rfl,hb⟩
theorem parallel_any (a b c x y z:Rat) (r1:RL a 200) (r2:RL b 200) (r3:RL c 200) (r4:RL x 200) (r5:RL y 200) (r6:RL z 200) (r7:RL b 10000) (r8:RL z 10000) (r9:RL c 10000) (r10:RL y 10000) (r11:RL (b*z) 10000) (r12:RL (c*y) 10000) (r13:RL x 10000) (r14:RL a 10000) (r15:RL (c*x) 10000) (r16:RL (a*z) 10000) (r17:RL (a*y) 10000) (r18:RL (b*x) 10000) (w:World) (R:EnvV w) :
   Calls Tryz.prog 26 #[.agg #[.string (ratB a),.string (ratB b),.string (ratB c)],.agg #[.string (ratB x),.string (ratB y),.string (ratB z)]] w (Ret w (.tuple #[.bool (decide (((b*z) - (c*y))=0∧((c*x) - (a*z))=0∧((a*y) - (b*x))=0)),.int .i64 0])):=by
 by_cases z0:((b*z) - (c*y))=0
 · skip
   by_cases z1:((c*x) - (a*z))=0
   · skip
     by_cases z2:((a*y) - (b*x))=0
     · skip
       rw [show decide (((b*z) - (c*y))=0∧((c*x) - (a*z))=0∧((a*y) - (b*x))=0)=true from decide_eq_true ⟨z0,z1,z2⟩]
       exact parallel_3 a b c x y z z0 z1 z2 r1 r2 r3 r4 r5 r6 r7 r8 r9 r10 r11 r12 r13 r14 r15 r16 r17 r18 w R
     · rw [show decide (((b*z) - (c*y))=0∧((c*x) - (a*z))=0∧((a*y) - (b*x))=0)=false from decide_eq_false (fun h=>z2 h.2.2)]
       exact parallel_2 a b c x y z z0 z1 z2 r1 r2 r3 r4 r5 r6 r7 r8 r9 r10 r11 r12 r13 r14 r15 r16 r17 r18 w R
   · rw [show decide (((b*z) - (c*y))=0∧((c*x) - (a*z))=0∧((a*y) - (b*x))=0)=false from decide_eq_false (fun h=>z1 h.2.1)]
     exact parallel_1 a b c x y z z0 z1 r1 r2 r3 r4 r5 r6 r7 r8 r9 r10 r11 r12 r13 r14 r15 r16 r17 r18 w R
 · rw [show decide (((b*z) - (c*y))=0∧((c*x) - (a*z))=0∧((a*y) - (b*x))=0)=false from decide_eq_false (fun h=>z0 h.1)]
   exact parallel_0 a b c x y z z0 r1 r2 r3 r4 r5 r6 r7 r8 r9 r10 r11 r12 r13 r14 r15 r16 r17 r18 w R
theorem refZero_0 (a b c:Rat) (n0:a≠0) (w:World) (R:EnvV w) :
   Calls Tryz.prog 38 #[.agg #[.string (ratB a),.string (ratB b),.string (ratB c)]] w (Ret w (.bool false)):=by
 have e0:((ratB a).toList == [48])=false:=by rw [ratB_eq_zero];exact decide_eq_false n0
 have p0:¬ (ratB a).toList=[48]:=fun h=>n0 ((zero_iff _).1 h)
 clear n0
 have hb:=Below.refl w.heap.size w
 have Aa:w.cell? ⟨0,0,none⟩=some (Value.string ⟨#[48]⟩):=R.z0
 have Ab:w.cell? ⟨0,1,none⟩=some (Value.string ⟨#[48]⟩):=R.z1
 have Ac:w.cell? ⟨0,2,none⟩=some (Value.string ⟨#[48]⟩):=R.z2
 go_enter Tryz.func38,Tryz.ntmps38
 go_upto_region 1 with fail
 refine wp_alloc1 (fun w1 a0 hk=>?_)
 replace Aa:=zC hk Aa
 replace Ab:=zC hk Ab
 replace Ac:=zC hk Ac
 replace hb:=hb.trans (hk.mono hb.size)
 clear hk
 obtain ⟨Ad,Ae,Af⟩:=ce3 a0
 go_wp2
 first | go_ret | go_ret2 | go_ret3
 exact ⟨rfl,hb⟩
theorem refZero_1 (a b c:Rat) (z0:a=0) (n1:b≠0) (w:World) (R:EnvV w) :
   Calls Tryz.prog 38 #[.agg #[.string (ratB a),.string (ratB b),.string (ratB c)]] w (Ret w (.bool false)):=by
 have e0:((ratB a).toList == [48])=true:=by rw [ratB_eq_zero];exact decide_eq_true z0
 have p0:(ratB a).toList=[48]:=(zero_iff _).2 z0
 have e1:((ratB b).toList == [48])=false:=by rw [ratB_eq_zero];exact decide_eq_false n1
 have p1:¬ (ratB b).toList=[48]:=fun h=>n1 ((zero_iff _).1 h)
 clear z0 n1
 have hb:=Below.refl w.heap.size w
 have Aa:w.cell? ⟨0,0,none⟩=some (Value.string ⟨#[48]⟩):=R.z0
 have Ab:w.cell? ⟨0,1,none⟩=some (Value.string ⟨#[48]⟩):=R.z1
 have Ac:w.cell? ⟨0,2,none⟩=some (Value.string ⟨#[48]⟩):=R.z2
 go_enter Tryz.func38,Tryz.ntmps38
 go_upto_region 1 with fail
 refine wp_alloc1 (fun w1 a0 hk=>?_)
 replace Aa:=zC hk Aa
 replace Ab:=zC hk Ab
 replace Ac:=zC hk Ac
 replace hb:=hb.trans (hk.mono hb.size)
 clear hk
 obtain ⟨Ad,Ae,Af⟩:=ce3 a0
 go_wp2
 first | go_ret | go_ret2 | go_ret3
 exact ⟨rfl,hb⟩
theorem refZero_2 (a b c:Rat) (z0:a=0) (z1:b=0) (n2:c≠0) (w:World) (R:EnvV w) :
   Calls Tryz.prog 38 #[.agg #[.string (ratB a),.string (ratB b),.string (ratB c)]] w (Ret w (.bool false)):=by
 have e0:((ratB a).toList == [48])=true:=by rw [ratB_eq_zero];exact decide_eq_true z0
 have p0:(ratB a).toList=[48]:=(zero_iff _).2 z0
 have e1:((ratB b).toList == [48])=true:=by rw [ratB_eq_zero];exact decide_eq_true z1
 have p1:(ratB b).toList=[48]:=(zero_iff _).2 z1
 have e2:((ratB c).toList == [48])=false:=by rw [ratB_eq_zero];exact decide_eq_false n2
 have p2:¬ (ratB c).toList=[48]:=fun h=>n2 ((zero_iff _).1 h)
 clear z0 z1 n2
 have hb:=Below.refl w.heap.size w
 have Aa:w.cell? ⟨0,0,none⟩=some (Value.string ⟨#[48]⟩):=R.z0
 have Ab:w.cell? ⟨0,1,none⟩=some (Value.string ⟨#[48]⟩):=R.z1
 have Ac:w.cell? ⟨0,2,none⟩=some (Value.string ⟨#[48]⟩):=R.z2
 go_enter Tryz.func38,Tryz.ntmps38
 go_upto_region 1 with fail
 refine wp_alloc1 (fun w1 a0 hk=>?_)
 replace Aa:=zC hk Aa
 replace Ab:=zC hk Ab
 replace Ac:=zC hk Ac
 replace hb:=hb.trans (hk.mono hb.size)
 clear hk
 obtain ⟨Ad,Ae,Af⟩:=ce3 a0
 go_wp2
 first | go_ret | go_ret2 | go_ret3
 exact ⟨rfl,hb⟩
theorem refZero_3 (a b c:Rat) (z0:a=0) (z1:b=0) (z2:c=0) (w:World) (R:EnvV w) :
   Calls Tryz.prog 38 #[.agg #[.string (ratB a),.string (ratB b),.string (ratB c)]] w (Ret w (.bool true)):=by
 have e0:((ratB a).toList == [48])=true:=by rw [ratB_eq_zero];exact decide_eq_true z0
 have p0:(ratB a).toList=[48]:=(zero_iff _).2 z0
 have e1:((ratB b).toList == [48])=true:=by rw [ratB_eq_zero];exact decide_eq_true z1
 have p1:(ratB b).toList=[48]:=(zero_iff _).2 z1
 have e2:((ratB c).toList == [48])=true:=by rw [ratB_eq_zero];exact decide_eq_true z2
 have p2:(ratB c).toList=[48]:=(zero_iff _).2 z2
 clear z0 z1 z2
 have hb:=Below.refl w.heap.size w
 have Aa:w.cell? ⟨0,0,none⟩=some (Value.string ⟨#[48]⟩):=R.z0
 have Ab:w.cell? ⟨0,1,none⟩=some (Value.string ⟨#[48]⟩):=R.z1
 have Ac:w.cell? ⟨0,2,none⟩=some (Value.string ⟨#[48]⟩):=R.z2
 go_enter Tryz.func38,Tryz.ntmps38
 go_upto_region 1 with fail
 refine wp_alloc1 (fun w1 a0 hk=>?_)
 replace Aa:=zC hk Aa
 replace Ab:=zC hk Ab
 replace Ac:=zC hk Ac
 replace hb:=hb.trans (hk.mono hb.size)
 clear hk
 obtain ⟨Ad,Ae,Af⟩:=ce3 a0
 go_wp2
 first | go_ret | go_ret2 | go_ret3
 exact ⟨rfl,hb⟩
theorem refZero_any (a b c:Rat) (w:World) (R:EnvV w) :
   Calls Tryz.prog 38 #[.agg #[.string (ratB a),.string (ratB b),.string (ratB c)]] w (Ret w (.bool (decide (a=0∧b=0∧c=0)))):=by
 by_cases z0:a=0
 · by_cases z1:b=0
   · by_cases z2:c=0
     · rw [show decide (a=0∧b=0∧c=0)=true from decide_eq_true ⟨z0,z1,z2⟩]
       exact refZero_3 a b c z0 z1 z2  w R
     · rw [show decide (a=0∧b=0∧c=0)=false from decide_eq_false (fun h=>z2 h.2.2)]
       exact refZero_2 a b c z0 z1 z2  w R
   · rw [show decide (a=0∧b=0∧c=0)=false from decide_eq_false (fun h=>z1 h.2.1)]
     exact refZero_1 a b c z0 z1  w R
 · rw [show decide (a=0∧b=0∧c=0)=false from decide_eq_false (fun h=>z0 h.1)]
   exact refZero_0 a b c z0  w R
end Go.Proofs.YtpennccflalobaaGreatDoor.Kl
