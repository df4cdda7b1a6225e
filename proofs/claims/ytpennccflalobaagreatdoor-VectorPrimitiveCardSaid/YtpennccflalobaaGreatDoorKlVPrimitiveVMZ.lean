import Derived.Test.YtpennccflalobaaGreatDoorKlVPrimitiveRatCZ
import Derived.Test.YtpennccflalobaaGreatDoorKlBVEZ
namespace Go.Proofs.YtpennccflalobaaGreatDoor.Kl
open Go Go.RowKit
set_option maxRecDepth 100000
set_option maxHeartbeats 8000000
theorem RN_field (a b:Int) (_ha : -32768≤a∧a≤32767) (_hb:0≤b∧b≤255):RN (fieldQ a b) 5 3:=
 RN_mk _ _ 5 3 (by decide) (by decide) (by omega) (dlen_le _ 5 (by decide) (by omega)) (dlen_le _ 3 (by decide) (by omega))
theorem refVScale (a b c k:Rat) (r1:RL a 400) (r2:RL k 400) (r3:RL b 400) (r4:RL c 400) (w:World) (R:EnvR w) :
   Calls Tryz.prog 35 #[.agg #[.string (ratB a),.string (ratB b),.string (ratB c)],.string (ratB k)] w (Ret w (.agg #[.string (ratB (a*k)),.string (ratB (b*k)),.string (ratB (c*k))])):=by
 have c1:=fun (w:World) (R:EnvR w)=>refRMul_any a k w R r1 r2
 have c2:=fun (w:World) (R:EnvR w)=>refRMul_any b k w R r3 r2
 have c3:=fun (w:World) (R:EnvR w)=>refRMul_any c k w R r4 r2
 have C1:=Lib.hid c1
 have C2:=Lib.hid c2
 have C3:=Lib.hid c3
 clear c1 c2 c3 r1 r2 r3 r4
 have hb:=Below.refl w.heap.size w
 go_enter Tryz.func35,Tryz.ntmps35
 go_upto_region 1 with fail
 refine wp_alloc2 (fun w1 a0 a1 hk=>?_)
 replace hb:=hb.trans (hk.mono hb.size)
 clear hk
 obtain ⟨Ad,Ae,Af⟩:=ce3 a0
 obtain ⟨Aa,Ag,Ab,Ah,Ac,Ai⟩:=cf3 a1
 go_upto_region 1 with fail
 obtain ⟨Am,An,Ao⟩:=cy3 a0
 obtain ⟨Ap,Aq,Ar⟩:=cy3 a1
 have Aj:=rrR C1 R hb
 have Ak:=rrR C2 R hb
 have Al:=rrR C3 R hb
 refine wp_region_tail_below 13 (by first | assumption | kernel_rfl) (by kernel_rfl) ?_
 simp only [List.take_succ_cons,List.take_zero,List.drop_succ_cons,List.drop_zero]
 repeat (quiet_step (first | (with_reducible exact Aj.out _ _) | (with_reducible exact Ak.out _ _) | (with_reducible exact Al.out _ _)))
 refine wpQuiet_nil ?_
 intro w1 hw'
 obtain ⟨hk,hb⟩:=zQ hb hw'
 clear Ad Ae Af Aa Ab Ac Ag Ah Ai
 replace a0:=zB hk a0
 replace a1:=zB hk a1
 obtain ⟨Ad,Ae,Af⟩:=ce3 a0
 obtain ⟨Aa,Ag,Ab,Ah,Ac,Ai⟩:=cf3 a1
 clear Aj Ak Al Am An Ao Ap Aq Ar
 clear hk hw'
 go_wp2
 refine bodyPost_ret (v:=.agg #[.string (ratB (a*k)),.string (ratB (b*k)),.string (ratB (c*k))]) (by simp [results,Tryz.results35,go_sem,Aa,Ab,Ac]) rfl ⟨rfl,?_⟩
 repeat' (first | exact hb | refine Below.setCell ?_ (by first | exact Nat.le_refl _ | (dsimp only;omega)) _)
theorem refVDot (a b c x y z:Rat) (r1:RL a 400) (r2:RL x 400) (r3:RL b 400) (r4:RL y 400) (r5:RL c 400) (r6:RL z 400) (r7:RL (b*y) 400) (r8:RL (c*z) 400) (r9:RL (a*x) 400) (r10:RL ((b*y)+(c*z)) 400) (w:World) (R:EnvR w) :
   Calls Tryz.prog 36 #[.agg #[.string (ratB a),.string (ratB b),.string (ratB c)],.agg #[.string (ratB x),.string (ratB y),.string (ratB z)]] w (Ret w (.string (ratB ((a*x)+((b*y)+(c*z)))))):=by
 have c1:=fun (w:World) (R:EnvR w)=>refRMul_any a x w R r1 r2
 have c2:=fun (w:World) (R:EnvR w)=>refRMul_any b y w R r3 r4
 have c3:=fun (w:World) (R:EnvR w)=>refRMul_any c z w R r5 r6
 have c4:=fun (w:World) (R:EnvR w)=>refRAdd_any (b*y) (c*z) w R r7 r8
 have c5:=fun (w:World) (R:EnvR w)=>refRAdd_any (a*x) ((b*y)+(c*z)) w R r9 r10
 have C1:=Lib.hid c1
 have C2:=Lib.hid c2
 have C3:=Lib.hid c3
 have C4:=Lib.hid c4
 have C5:=Lib.hid c5
 clear c1 c2 c3 c4 c5 r1 r2 r3 r4 r5 r6 r7 r8 r9 r10
 have hb:=Below.refl w.heap.size w
 go_enter Tryz.func36,Tryz.ntmps36
 go_upto_region 1 with fail
 refine wp_alloc2 (fun w1 a0 a1 hk=>?_)
 replace hb:=hb.trans (hk.mono hb.size)
 clear hk
 obtain ⟨Aa,Ab,Ac⟩:=ce3 a0
 obtain ⟨Ad,Ae,Af⟩:=ce3 a1
 go_upto_region 1 with fail
 obtain ⟨Al,Am,An⟩:=cy3 a0
 obtain ⟨Ao,Ap,Aq⟩:=cy3 a1
 have Ag:=rrR C1 R hb
 have Ah:=rrR C2 R hb
 have Ai:=rrR C3 R hb
 have Aj:=rrR C4 R hb
 have Ak:=rrR C5 R hb
 refine wp_region_quiet_below (by first | assumption | kernel_rfl) (by kernel_rfl) ?_
 repeat (quiet_step (first | (with_reducible exact Ag.out _ _) | (with_reducible exact Ah.out _ _) | (with_reducible exact Ai.out _ _) | (with_reducible exact Aj.out _ _) | (with_reducible exact Ak.out _ _)))
 refine wpQuiet_nil ?_
 intro w1 hw'
 obtain ⟨hk,hb⟩:=zQ hb hw'
 clear Aa Ab Ac Ad Ae Af
 replace a0:=zB hk a0
 replace a1:=zB hk a1
 obtain ⟨Aa,Ab,Ac⟩:=ce3 a0
 obtain ⟨Ad,Ae,Af⟩:=ce3 a1
 clear Ag Ah Ai Aj Ak Al Am An Ao Ap Aq
 clear hk hw'
 go_wp2
 first | go_ret | go_ret2 | go_ret3
 exact ⟨rfl,hb⟩
theorem refMinor (a b c k:Rat) (r1:RL a 400) (r2:RL b 400) (r3:RL c 400) (r4:RL k 400) (r5:RL (a*b) 400) (r6:RL (c*k) 400) (w:World) (R:EnvR w) :
   Calls Tryz.prog 86 #[.string (ratB a),.string (ratB b),.string (ratB c),.string (ratB k)] w (Ret w (.string (ratB ((a*b) - (c*k))))):=by
 have c1:=fun (w:World) (R:EnvR w)=>refRMul_any a b w R r1 r2
 have c2:=fun (w:World) (R:EnvR w)=>refRMul_any c k w R r3 r4
 have c3:=refRSub_any (a*b) (c*k) r5 r6
 have C1:=Lib.hid c1
 have C2:=Lib.hid c2
 have C3:=Lib.hid c3
 clear c1 c2 c3 r1 r2 r3 r4 r5 r6
 have hb:=Below.refl w.heap.size w
 go_enter Tryz.func86,Tryz.ntmps86
 go_wp2_with ((first | (go_at_call 58;first | with_reducible refine (chRB hb R C1).mono ?_ | with_reducible refine (chRB hb R C2).mono ?_) | (go_at_call 55;with_reducible refine (chRB hb R C3).mono ?_));clear hb;rintro e w1 ⟨rfl,hk,hb⟩;clear hk)
 first | go_ret | go_ret2 | go_ret3
 exact ⟨rfl,hb⟩
theorem refVCross (a b c x y z:Rat) (r1:RL b 400) (r2:RL z 400) (r3:RL c 400) (r4:RL y 400) (r5:RL (b*z) 400) (r6:RL (c*y) 400) (r7:RL x 400) (r8:RL a 400) (r9:RL (c*x) 400) (r10:RL (a*z) 400) (r11:RL (a*y) 400) (r12:RL (b*x) 400) (w:World) (R:EnvR w) :
   Calls Tryz.prog 37 #[.agg #[.string (ratB a),.string (ratB b),.string (ratB c)],.agg #[.string (ratB x),.string (ratB y),.string (ratB z)]] w (Ret w (.agg #[.string (ratB ((b*z) - (c*y))),.string (ratB ((c*x) - (a*z))),.string (ratB ((a*y) - (b*x)))])):=by
 have c1:=refMinor b z c y r1 r2 r3 r4 r5 r6
 have c2:=refMinor c x a z r3 r7 r8 r2 r9 r10
 have c3:=refMinor a y b x r8 r4 r1 r7 r11 r12
 have C1:=Lib.hid c1
 have C2:=Lib.hid c2
 have C3:=Lib.hid c3
 clear c1 c2 c3 r1 r2 r3 r4 r5 r6 r7 r8 r9 r10 r11 r12
 have hb:=Below.refl w.heap.size w
 go_enter Tryz.func37,Tryz.ntmps37
 go_upto_region 1 with fail
 refine wp_alloc3 (fun w1 a0 a1 a2 hk=>?_)
 replace hb:=hb.trans (hk.mono hb.size)
 clear hk
 obtain ⟨Ad,Ae,Af⟩:=ce3 a0
 obtain ⟨Ag,Ah,Ai⟩:=ce3 a1
 obtain ⟨Aa,Aj,Ab,Ak,Ac,Al⟩:=cf3 a2
 go_upto_region 1 with fail
 obtain ⟨Ap,Aq,Ar⟩:=cy3 a0
 obtain ⟨As,At,Au⟩:=cy3 a1
 obtain ⟨Av,Aw,Ax⟩:=cy3 a2
 have Am:=rrR C1 R hb
 have An:=rrR C2 R hb
 have Ao:=rrR C3 R hb
 refine wp_region_tail_below 28 (by first | assumption | kernel_rfl) (by kernel_rfl) ?_
 simp only [List.take_succ_cons,List.take_zero,List.drop_succ_cons,List.drop_zero]
 repeat (quiet_step (first | (with_reducible exact Am.out _ _) | (with_reducible exact An.out _ _) | (with_reducible exact Ao.out _ _)))
 refine wpQuiet_nil ?_
 intro w1 hw'
 obtain ⟨hk,hb⟩:=zQ hb hw'
 clear Ad Ae Af Ag Ah Ai Aa Ab Ac Aj Ak Al
 replace a0:=zB hk a0
 replace a1:=zB hk a1
 replace a2:=zB hk a2
 obtain ⟨Ad,Ae,Af⟩:=ce3 a0
 obtain ⟨Ag,Ah,Ai⟩:=ce3 a1
 obtain ⟨Aa,Aj,Ab,Ak,Ac,Al⟩:=cf3 a2
 clear Am An Ao Ap Aq Ar As At Au Av Aw Ax
 clear hk hw'
 go_wp2
 refine bodyPost_ret (v:=.agg #[.string (ratB ((b*z) - (c*y))),.string (ratB ((c*x) - (a*z))),.string (ratB ((a*y) - (b*x)))]) (by simp [results,Tryz.results37,go_sem,Aa,Ab,Ac]) rfl ⟨rfl,?_⟩
 repeat' (first | exact hb | refine Below.setCell ?_ (by first | exact Nat.le_refl _ | (dsimp only;omega)) _)
theorem refZero_0 (a b c:Rat) (n0:a≠0) (w:World) (R:EnvV w) :
   Calls Tryz.prog 38 #[.agg #[.string (ratB a),.string (ratB b),.string (ratB c)]] w (Ret w (.bool false)):=by
 have e0:((ratB a).toList == [48])=false:=by rw [ratB_eq_zero];exact decide_eq_false n0
 have p0:¬ (ratB a).toList=[48]:=fun h=>n0 ((zero_iff _).1 h)
 clear n0
 have hb:=Below.refl w.heap.size w
 have Aa:w.cell? ⟨0,0,none⟩=some (Value.string ⟨#[48]⟩):=R.z0
 have Ab:w.cell? ⟨0,1,none⟩=some (Value.string ⟨#[48]⟩):=R.z1
 have Ac:w.cell? ⟨0,2,none⟩=some (Value.string ⟨#[48]⟩):=R.z2
 go_enter Tryz.func38,Tryz.ntmps38
 go_upto_region 1 with fail
 refine wp_alloc1 (fun w1 a0 hk=>?_)
 replace Aa:=zC hk Aa
 replace Ab:=zC hk Ab
 replace Ac:=zC hk Ac
 replace hb:=hb.trans (hk.mono hb.size)
 clear hk
 obtain ⟨Ad,Ae,Af⟩:=ce3 a0
 go_wp2
 first | go_ret | go_ret2 | go_ret3
 exact ⟨rfl,hb⟩
theorem refZero_1 (a b c:Rat) (z0:a=0) (n1:b≠0) (w:World) (R:EnvV w) :
   Calls Tryz.prog 38 #[.agg #[.string (ratB a),.string (ratB b),.string (ratB c)]] w (Ret w (.bool false)):=by
 have e0:((ratB a).toList == [48])=true:=by rw [ratB_eq_zero];exact decide_eq_true z0
 have p0:(ratB a).toList=[48]:=(zero_iff _).2 z0
 have e1:((ratB b).toList == [48])=false:=by rw [ratB_eq_zero];exact decide_eq_false n1
 have p1:¬ (ratB b).toList=[48]:=fun h=>n1 ((zero_iff _).1 h)
 clear z0 n1
 have hb:=Below.refl w.heap.size w
 have Aa:w.cell? ⟨0,0,none⟩=some (Value.string ⟨#[48]⟩):=R.z0
 have Ab:w.cell? ⟨0,1,none⟩=some (Value.string ⟨#[48]⟩):=R.z1
 have Ac:w.cell? ⟨0,2,none⟩=some (Value.string ⟨#[48]⟩):=R.z2
 go_enter Tryz.func38,Tryz.ntmps38
 go_upto_region 1 with fail
 refine wp_alloc1 (fun w1 a0 hk=>?_)
 replace Aa:=zC hk Aa
 replace Ab:=zC hk Ab
 replace Ac:=zC hk Ac
 replace hb:=hb.trans (hk.mono hb.size)
 clear hk
 obtain ⟨Ad,Ae,Af⟩:=ce3 a0
 go_wp2
 first | go_ret | go_ret2 | go_ret3
 exact ⟨rfl,hb⟩
theorem refZero_2 (a b c:Rat) (z0:a=0) (z1:b=0) (n2:c≠0) (w:World) (R:EnvV w) :
   Calls Tryz.prog 38 #[.agg #[.string (ratB a),.string (ratB b),.string (ratB c)]] w (Ret w (.bool false)):=by
 have e0:((ratB a).toList == [48])=true:=by rw [ratB_eq_zero];exact decide_eq_true z0
 have p0:(ratB a).toList=[48]:=(zero_iff _).2 z0
 have e1:((ratB b).toList == [48])=true:=by rw [ratB_eq_zero];exact decide_eq_true z1
 have p1:(ratB b).toList=[48]:=(zero_iff _).2 z1
 have e2:((ratB c).toList == [48])=false:=by rw [ratB_eq_zero];exact decide_eq_false n2
 have p2:¬ (ratB c).toList=[48]:=fun h=>n2 ((zero_iff _).1 h)
 clear z0 z1 n2
 have hb:=Below.refl w.heap.size w
 have Aa:w.cell? ⟨0,0,none⟩=some (Value.string ⟨#[48]⟩):=R.z0
 have Ab:w.cell? ⟨0,1,none⟩=some (Value.string ⟨#[48]⟩):=R.z1
 have Ac:w.cell? ⟨0,2,none⟩=some (Value.string ⟨#[48]⟩):=R.z2
 go_enter Tryz.func38,Tryz.ntmps38
 go_upto_region 1 with fail
 refine wp_alloc1 (fun w1 a0 hk=>?_)
 replace Aa:=zC hk Aa
 replace Ab:=zC hk Ab
 replace Ac:=zC hk Ac
 replace hb:=hb.trans (hk.mono hb.size)
 clear hk
 obtain ⟨Ad,Ae,Af⟩:=ce3 a0
 go_wp2
 first | go_ret | go_ret2 | go_ret3
 exact ⟨rfl,hb⟩
theorem refZero_3 (a b c:Rat) (z0:a=0) (z1:b=0) (z2:c=0) (w:World) (R:EnvV w) :
   Calls Tryz.prog 38 #[.agg #[.string (ratB a),.string (ratB b),.string (ratB c)]] w (Ret w (.bool true)):=by
 have e0:((ratB a).toList == [48])=true:=by rw [ratB_eq_zero];exact decide_eq_true z0
 have p0:(ratB a).toList=[48]:=(zero_iff _).2 z0
 have e1:((ratB b).toList == [48])=true:=by rw [ratB_eq_zero];exact decide_eq_true z1
 have p1:(ratB b).toList=[48]:=(zero_iff _).2 z1
 have e2:((ratB c).toList == [48])=true:=by rw [ratB_eq_zero];exact decide_eq_true z2
 have p2:(ratB c).toList=[48]:=(zero_iff _).2 z2
 clear z0 z1 z2
 have hb:=Below.refl w.heap.size w
 have Aa:w.cell? ⟨0,0,none⟩=some (Value.string ⟨#[48]⟩):=R.z0
 have Ab:w.cell? ⟨0,1,none⟩=some (Value.string ⟨#[48]⟩):=R.z1
 have Ac:w.cell? ⟨0,2,none⟩=some (Value.string ⟨#[48]⟩):=R.z2
 go_enter Tryz.func38,Tryz.ntmps38
 go_upto_region 1 with fail
 refine wp_alloc1 (fun w1 a0 hk=>?_)
 replace Aa:=zC hk Aa
 replace Ab:=zC hk Ab
 replace Ac:=zC hk Ac
 replace hb:=hb.trans (hk.mono hb.size)
 clear hk
 obtain ⟨Ad,Ae,Af⟩:=ce3 a0
 go_wp2
 first | go_ret | go_ret2 | go_ret3
 exact ⟨rfl,hb⟩
theorem refZero_any (a b c:Rat) (w:World) (R:EnvV w) :
   Calls Tryz.prog 38 #[.agg #[.string (ratB a),.string (ratB b),.string (ratB c)]] w (Ret w (.bool (decide (a=0∧b=0∧c=0)))):=by
 by_cases z0:a=0
 · by_cases z1:b=0
   · by_cases z2:c=0
     · rw [show decide (a=0∧b=0∧c=0)=true from decide_eq_true ⟨z0,z1,z2⟩]
       exact refZero_3 a b c z0 z1 z2  w R
     · rw [show decide (a=0∧b=0∧c=0)=false from decide_eq_false (fun h=>z2 h.2.2)]
       exact refZero_2 a b c z0 z1 z2  w R
   · rw [show decide (a=0∧b=0∧c=0)=false from decide_eq_false (fun h=>z1 h.2.1)]
     exact refZero_1 a b c z0 z1  w R
 · rw [show decide (a=0∧b=0∧c=0)=false from decide_eq_false (fun h=>z0 h.1)]
   exact refZero_0 a b c z0  w R
theorem refRight3_any (a b c:Rat) (r1:RL a 200) (r2:RL b 200) (r3:RL c 200) (w:World) (R:EnvV w) :
   Calls Tryz.prog 40 #[.agg #[.string (ratB a),.string (ratB b),.string (ratB c)]] w (Ret w (.bool true)):=by
 have c1:CV 28 #[.string (ratB a)] (.bool true):=fun w R=>refRRight_any _ true ⟨fun _=>isRat_of r1,fun _=>rfl⟩ (Nat.le_trans (size_of_RL r1) (by decide)) w R.toEnvR
 have c2:CV 28 #[.string (ratB b)] (.bool true):=fun w R=>refRRight_any _ true ⟨fun _=>isRat_of r2,fun _=>rfl⟩ (Nat.le_trans (size_of_RL r2) (by decide)) w R.toEnvR
 have c3:CV 28 #[.string (ratB c)] (.bool true):=fun w R=>refRRight_any _ true ⟨fun _=>isRat_of r3,fun _=>rfl⟩ (Nat.le_trans (size_of_RL r3) (by decide)) w R.toEnvR
 have C1:=Lib.hid c1
 have C2:=Lib.hid c2
 have C3:=Lib.hid c3
 clear c1 c2 c3 r1 r2 r3
 have hb:=Below.refl w.heap.size w
 have Aa:w.cell? ⟨0,0,none⟩=some (Value.string ⟨#[48]⟩):=R.z0
 have Ab:w.cell? ⟨0,1,none⟩=some (Value.string ⟨#[48]⟩):=R.z1
 have Ac:w.cell? ⟨0,2,none⟩=some (Value.string ⟨#[48]⟩):=R.z2
 go_enter Tryz.func40,Tryz.ntmps40
 go_upto_region 1 with fail
 refine wp_alloc1 (fun w1 a0 hk=>?_)
 replace Aa:=zC hk Aa
 replace Ab:=zC hk Ab
 replace Ac:=zC hk Ac
 replace hb:=hb.trans (hk.mono hb.size)
 clear hk
 obtain ⟨Ad,Ae,Af⟩:=ce3 a0
 go_wp2_with ((go_at_call 28;first | with_reducible refine (chVB hb R C1).mono ?_ | with_reducible refine (chVB hb R C2).mono ?_ | with_reducible refine (chVB hb R C3).mono ?_);clear hb;rintro e w1 ⟨rfl,hk,hb⟩;replace Aa:=zC hk Aa;replace Ab:=zC hk Ab;replace Ac:=zC hk Ac;clear Ad Ae Af;replace a0:=zB hk a0;obtain ⟨Ad,Ae,Af⟩:=ce3 a0;clear hk)
 first | go_ret | go_ret2 | go_ret3
 exact ⟨rfl,hb⟩
theorem refZero_no (a b c:Rat) (nz:a≠0∨b≠0∨c≠0) (w:World) (R:EnvV w) :
   Calls Tryz.prog 38 #[.agg #[.string (ratB a),.string (ratB b),.string (ratB c)]] w (Ret w (.bool false)):=by
 have h:=refZero_any a b c  w R
 rwa [show decide (a=0∧b=0∧c=0)=false from decide_eq_false (fun h=>by simp [h.1,h.2.1,h.2.2] at nz)] at h
end Go.Proofs.YtpennccflalobaaGreatDoor.Kl
