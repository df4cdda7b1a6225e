import Derived.Test.YtpennccflalobaaGreatDoorKlVLawsVB
import Derived.Test.YtpennccflalobaaGreatDoorKlBVEZ
namespace Go.Proofs.YtpennccflalobaaGreatDoor.Kl
open Go Go.RowKit
set_option maxRecDepth 100000
set_option maxHeartbeats 8000000
theorem each_Add (a b c x y z:Rat) (r1:RL a 10000) (r2:RL x 10000) (r3:RL b 10000) (r4:RL y 10000) (r5:RL c 10000) (r6:RL z 10000) (w:World) (R:EnvR w) :
   Calls Tryz.prog 92 #[.agg #[.string (ratB a),.string (ratB b),.string (ratB c)],.agg #[.string (ratB x),.string (ratB y),.string (ratB z)],.func (Fn.func 72) #[] #[]] w (Ret w (.agg #[.string (ratB (a+x)),.string (ratB (b+y)),.string (ratB (c+z))])):=by
 have c1:=radd_any a x r1 r2
 have c2:=radd_any b y r3 r4
 have c3:=radd_any c z r5 r6
 have C1:=Lib.hid c1
 have C2:=Lib.hid c2
 have C3:=Lib.hid c3
 clear c1 c2 c3 r1 r2 r3 r4 r5 r6
 have hb:=Below.refl w.heap.size w
 go_enter Tryz.func92,Tryz.ntmps92
 go_upto_region 1 with fail
 refine wp_alloc3 (fun w1 a0 a1 a2 hk=>?_)
 replace hb:=hb.trans (hk.mono hb.size)
 clear hk
 obtain ⟨Ad,Ae,Af⟩:=ce3 a0
 obtain ⟨Ag,Ah,Ai⟩:=ce3 a1
 obtain ⟨Aa,Aj,Ab,Ak,Ac,Al⟩:=cf3 a2
 go_upto_region 1 with fail
 obtain ⟨Ap,Aq,Ar⟩:=cy3 a0
 obtain ⟨As,At,Au⟩:=cy3 a1
 obtain ⟨Av,Aw,Ax⟩:=cy3 a2
 have Am:=rrR C1 R hb
 have An:=rrR C2 R hb
 have Ao:=rrR C3 R hb
 refine wp_region_tail_below 19 (by first | assumption | kernel_rfl) (by kernel_rfl) ?_
 simp only [List.take_succ_cons,List.take_zero,List.drop_succ_cons,List.drop_zero]
 repeat (quiet_step (first | (with_reducible exact Am.out _ _) | (with_reducible exact An.out _ _) | (with_reducible exact Ao.out _ _)))
 refine wpQuiet_nil ?_
 intro w1 hw'
 obtain ⟨hk,hb⟩:=zQ hb hw'
 clear Ad Ae Af Ag Ah Ai Aa Ab Ac Aj Ak Al
 replace a0:=zB hk a0
 replace a1:=zB hk a1
 replace a2:=zB hk a2
 obtain ⟨Ad,Ae,Af⟩:=ce3 a0
 obtain ⟨Ag,Ah,Ai⟩:=ce3 a1
 obtain ⟨Aa,Aj,Ab,Ak,Ac,Al⟩:=cf3 a2
 clear Am An Ao Ap Aq Ar As At Au Av Aw Ax
 clear hk hw'
 go_wp2
 refine bodyPost_ret (v:=.agg #[.string (ratB (a+x)),.string (ratB (b+y)),.string (ratB (c+z))]) (by simp [results,Tryz.results92,go_sem,Aa,Ab,Ac]) rfl ⟨rfl,?_⟩
 repeat' (first | exact hb | refine Below.setCell ?_ (by first | exact Nat.le_refl _ | (dsimp only;omega)) _)
theorem handle_Add (a b c x y z:Rat) (r1:RL a 200) (r2:RL b 200) (r3:RL c 200) (r4:RL x 200) (r5:RL y 200) (r6:RL z 200) (r7:RL a 10000) (r8:RL x 10000) (r9:RL b 10000) (r10:RL y 10000) (r11:RL c 10000) (r12:RL z 10000) (r13:RL (a+x) 200) (r14:RL (b+y) 200) (r15:RL (c+z) 200) (w:World) (R:EnvR w) :
   Calls Tryz.prog 71 #[.agg #[.string (ratB a),.string (ratB b),.string (ratB c)],.agg #[.string (ratB x),.string (ratB y),.string (ratB z)],.func (Fn.func 72) #[] #[]] w (Ret w (.tuple #[.agg #[.string (ratB (a+x)),.string (ratB (b+y)),.string (ratB (c+z))],.int .i64 0])):=by
 have c1:=vcheck_ok a b c r1 r2 r3
 have c2:=vcheck_ok x y z r4 r5 r6
 have c3:=orErr2 0 0 0 (by decide)
 have c4:=each_Add a b c x y z r7 r8 r9 r10 r11 r12
 have c5:=result_V (a+x) (b+y) (c+z) r13 r14 r15
 have C1:=Lib.hid c1
 have C2:=Lib.hid c2
 have C3:=Lib.hid c3
 have C4:=Lib.hid c4
 have C5:=Lib.hid c5
 clear c1 c2 c3 c4 c5 r1 r2 r3 r4 r5 r6 r7 r8 r9 r10 r11 r12 r13 r14 r15
 have hb:=Below.refl w.heap.size w
 go_enter Tryz.func71,Tryz.ntmps71
 go_upto_region 1 with fail
 refine wp_alloc3 (fun w1 a0 a1 a2 hk=>?_)
 replace hb:=hb.trans (hk.mono hb.size)
 clear hk
 obtain ⟨Ad,Ae,Af⟩:=ce3 a0
 obtain ⟨Ag,Ah,Ai⟩:=ce3 a1
 obtain ⟨Aa,Aj,Ab,Ak,Ac,Al⟩:=cf3 a2
 go_upto_region 1 with fail
 obtain ⟨Ao,Ap,Aq⟩:=cy3 a0
 obtain ⟨Ar,As,At⟩:=cy3 a1
 obtain ⟨Au,Av,Aw⟩:=cy3 a2
 have Am:=rrR C1 R hb
 have An:=rrR C2 R hb
 refine wp_region_tail_below 4 (by first | assumption | kernel_rfl) (by kernel_rfl) ?_
 simp only [List.take_succ_cons,List.take_zero,List.drop_succ_cons,List.drop_zero]
 repeat (quiet_step (first | (with_reducible exact Am.out _ _) | (with_reducible exact An.out _ _)))
 refine wpQuiet_nil ?_
 intro w1 hw'
 obtain ⟨hk,hb⟩:=zQ hb hw'
 clear Ad Ae Af Ag Ah Ai Aa Ab Ac Aj Ak Al
 replace a0:=zB hk a0
 replace a1:=zB hk a1
 replace a2:=zB hk a2
 obtain ⟨Ad,Ae,Af⟩:=ce3 a0
 obtain ⟨Ag,Ah,Ai⟩:=ce3 a1
 obtain ⟨Aa,Aj,Ab,Ak,Ac,Al⟩:=cf3 a2
 clear Am An Ao Ap Aq Ar As At Au Av Aw
 clear hk hw'
 go_wp2_with ((first | (go_at_call 69;with_reducible refine (zL hb (C3.out _ (R.below hb))).mono ?_) | (go_at_call 92;with_reducible refine (chRB hb R C4).mono ?_) | (go_at_call 76;with_reducible refine (chRB hb R C5).mono ?_));clear hb;rintro e w1 ⟨rfl,hk,hb⟩;clear Ad Ae Af Ag Ah Ai Aa Ab Ac Aj Ak Al;replace a0:=zB hk a0;replace a1:=zB hk a1;replace a2:=zB hk a2;obtain ⟨Ad,Ae,Af⟩:=ce3 a0;obtain ⟨Ag,Ah,Ai⟩:=ce3 a1;obtain ⟨Aa,Aj,Ab,Ak,Ac,Al⟩:=cf3 a2;clear hk)
 refine bodyPost_ret (v:=.tuple #[.agg #[.string (ratB (a+x)),.string (ratB (b+y)),.string (ratB (c+z))],.int .i64 0]) (by simp [results,Tryz.results71,go_sem,Aa,Ab,Ac]) rfl ⟨rfl,?_⟩
 repeat' (first | exact hb | refine Below.setCell ?_ (by first | exact Nat.le_refl _ | (dsimp only;omega)) _)
theorem vadd_any (a b c x y z:Rat) (r1:RL a 200) (r2:RL b 200) (r3:RL c 200) (r4:RL x 200) (r5:RL y 200) (r6:RL z 200) (r7:RL a 10000) (r8:RL x 10000) (r9:RL b 10000) (r10:RL y 10000) (r11:RL c 10000) (r12:RL z 10000) (r13:RL (a+x) 200) (r14:RL (b+y) 200) (r15:RL (c+z) 200) (w:World) (R:EnvR w) :
   Calls Tryz.prog 22 #[.agg #[.string (ratB a),.string (ratB b),.string (ratB c)],.agg #[.string (ratB x),.string (ratB y),.string (ratB z)]] w (Ret w (.tuple #[.agg #[.string (ratB (a+x)),.string (ratB (b+y)),.string (ratB (c+z))],.int .i64 0])):=by
 have c1:=handle_Add a b c x y z r1 r2 r3 r4 r5 r6 r7 r8 r9 r10 r11 r12 r13 r14 r15
 have C1:=Lib.hid c1
 clear c1 r1 r2 r3 r4 r5 r6 r7 r8 r9 r10 r11 r12 r13 r14 r15
 have hb:=Below.refl w.heap.size w
 go_enter Tryz.func22,Tryz.ntmps22
 go_upto_region 1 with fail
 refine wp_alloc3 (fun w1 a0 a1 a2 hk=>?_)
 replace hb:=hb.trans (hk.mono hb.size)
 clear hk
 obtain ⟨Ad,Ae,Af⟩:=ce3 a0
 obtain ⟨Ag,Ah,Ai⟩:=ce3 a1
 obtain ⟨Aa,Aj,Ab,Ak,Ac,Al⟩:=cf3 a2
 go_wp2_with (go_at_call 71;with_reducible refine (chRB hb R C1).mono ?_;clear hb;rintro e w1 ⟨rfl,hk,hb⟩;clear Ad Ae Af Ag Ah Ai Aa Ab Ac Aj Ak Al;replace a0:=zB hk a0;replace a1:=zB hk a1;replace a2:=zB hk a2;obtain ⟨Ad,Ae,Af⟩:=ce3 a0;obtain ⟨Ag,Ah,Ai⟩:=ce3 a1;obtain ⟨Aa,Aj,Ab,Ak,Ac,Al⟩:=cf3 a2;clear hk)
 refine bodyPost_ret (v:=.tuple #[.agg #[.string (ratB (a+x)),.string (ratB (b+y)),.string (ratB (c+z))],.int .i64 0]) (by simp [results,Tryz.results22,go_sem,Aa,Ab,Ac]) rfl ⟨rfl,?_⟩
 repeat' (first | exact hb | refine Below.setCell ?_ (by first | exact Nat.le_refl _ | (dsimp only;omega)) _)
theorem vdot_any (a b c x y z:Rat) (r1:RL a 200) (r2:RL b 200) (r3:RL c 200) (r4:RL x 200) (r5:RL y 200) (r6:RL z 200) (r7:RL a 10000) (r8:RL x 10000) (r9:RL (a*x) 10000) (r10:RL b 10000) (r11:RL y 10000) (r12:RL ((0:Rat)+(a*x)) 10000) (r13:RL (b*y) 10000) (r14:RL c 10000) (r15:RL z 10000) (r16:RL (((0:Rat)+(a*x))+(b*y)) 10000) (r17:RL (c*z) 10000) (r18:RL (((a*x)+(b*y))+(c*z)) 200) (w:World) (R:EnvR w) :
   Calls Tryz.prog 24 #[.agg #[.string (ratB a),.string (ratB b),.string (ratB c)],.agg #[.string (ratB x),.string (ratB y),.string (ratB z)]] w (Ret w (.tuple #[.string (ratB (((a*x)+(b*y))+(c*z))),.int .i64 0])):=by
 have c1:=vcheck_ok a b c r1 r2 r3
 have c2:=vcheck_ok x y z r4 r5 r6
 have c3:=orErr2 0 0 0 (by decide)
 have c4:=dot_any a b c x y z r7 r8 r9 r10 r11 r12 r13 r14 r15 r16 r17
 have c5:∀ w,EnvR w→Calls Tryz.prog 75 #[.string (ratB (((a*x)+(b*y))+(c*z))),.slice (some ⟨w.heap.size,0,none⟩) 1 1] (w.alloc (Obj.cells #[Value.string (ratB (((a*x)+(b*y))+(c*z)))] 22)) (Ret w (.tuple #[.string (ratB (((a*x)+(b*y))+(c*z))),.int .i64 0])):=fun w R=>resR (ratB (((a*x)+(b*y))+(c*z))) (ratB (((a*x)+(b*y))+(c*z))) (by intro t ht;simp only [List.mem_cons,List.not_mem_nil,or_false] at ht;subst ht;exact ⟨_,rfl,r18⟩) w R
 have C1:=Lib.hid c1
 have C2:=Lib.hid c2
 have C3:=Lib.hid c3
 have C4:=Lib.hid c4
 have C5:=Lib.hid c5
 clear c1 c2 c3 c4 c5 r1 r2 r3 r4 r5 r6 r7 r8 r9 r10 r11 r12 r13 r14 r15 r16 r17 r18
 have hb:=Below.refl w.heap.size w
 go_enter Tryz.func24,Tryz.ntmps24
 go_upto_region 1 with fail
 refine wp_alloc2 (fun w1 a0 a1 hk=>?_)
 replace hb:=hb.trans (hk.mono hb.size)
 clear hk
 obtain ⟨Aa,Ab,Ac⟩:=ce3 a0
 obtain ⟨Ad,Ae,Af⟩:=ce3 a1
 go_upto_region 1 with fail
 obtain ⟨Ai,Aj,Ak⟩:=cy3 a0
 obtain ⟨Al,Am,An⟩:=cy3 a1
 have Ag:=rrR C1 R hb
 have Ah:=rrR C2 R hb
 refine wp_region_tail_below 4 (by first | assumption | kernel_rfl) (by kernel_rfl) ?_
 simp only [List.take_succ_cons,List.take_zero,List.drop_succ_cons,List.drop_zero]
 repeat (quiet_step (first | (with_reducible exact Ag.out _ _) | (with_reducible exact Ah.out _ _)))
 refine wpQuiet_nil ?_
 intro w1 hw'
 obtain ⟨hk,hb⟩:=zQ hb hw'
 clear Aa Ab Ac Ad Ae Af
 replace a0:=zB hk a0
 replace a1:=zB hk a1
 obtain ⟨Aa,Ab,Ac⟩:=ce3 a0
 obtain ⟨Ad,Ae,Af⟩:=ce3 a1
 clear Ag Ah Ai Aj Ak Al Am An
 clear hk hw'
 go_wp2_with (first | ((first | (go_at_call 69;with_reducible refine (zL hb (C3.out _ (R.below hb))).mono ?_) | (go_at_call 74;with_reducible refine (chRB hb R C4).mono ?_));clear hb;rintro e w1 ⟨rfl,hk,hb⟩;clear Aa Ab Ac Ad Ae Af;replace a0:=zB hk a0;replace a1:=zB hk a1;obtain ⟨Aa,Ab,Ac⟩:=ce3 a0;obtain ⟨Ad,Ae,Af⟩:=ce3 a1;clear hk) | (go_at_call 75;with_reducible refine (zL hb (C5.out _ (R.below hb))).mono ?_;clear hb;rintro e w1 ⟨rfl,hk,hb⟩;clear hk))
 first | go_ret | go_ret2 | go_ret3
 exact ⟨rfl,hb⟩
end Go.Proofs.YtpennccflalobaaGreatDoor.Kl
