import Derived.Test.YtejfiegmdllfbaaGreatDoorKlATurnsAtC
namespace Go.Proofs.YtejfiegmdllfbaaGreatDoor.Kl
open Go Go.RowKit
set_option maxRecDepth 100000
set_option maxHeartbeats 8000000
theorem q_negdiv (a c:Rat):(-a) / c = -(a / c):=by rw [Rat.div_def,Rat.div_def,Rat.neg_mul]
theorem rise_any (a b c:Rat) (r1:RL a 10000) (r2:RL b 10000) (r3:RL (a*a) 10000) (r4:RL (b*b) 10000) (r5:RL c 10000) (w:World) (R:EnvV w) :
   Calls Tryz.prog 84 #[.agg #[.string (ratB a),.string (ratB b),.string (ratB c)]] w (Ret w (.tuple #[.string (ratB ((a*a)+(b*b))),.string (ratB (c*c))])):=by
 have c1:=fun (w:World) (R:EnvV w)=>rmul_any a a r1 r1 w R.toEnvR
 have c2:=fun (w:World) (R:EnvV w)=>rmul_any b b r2 r2 w R.toEnvR
 have c3:=fun (w:World) (R:EnvV w)=>radd_any (a*a) (b*b) r3 r4 w R.toEnvR
 have c4:=fun (w:World) (R:EnvV w)=>rmul_any c c r5 r5 w R.toEnvR
 have C1:=Lib.hid c1
 have C2:=Lib.hid c2
 have C3:=Lib.hid c3
 have C4:=Lib.hid c4
 clear c1 c2 c3 c4 r1 r2 r3 r4 r5
 have hb:=Below.refl w.heap.size w
 go_enter Tryz.func84,Tryz.ntmps84
 go_upto_region 1 with fail
 refine wp_alloc1 (fun w1 a0 hk=>?_)
 replace hb:=hb.trans (hk.mono hb.size)
 clear hk
 obtain ⟨Aa,Ab,Ac⟩:=ce3 a0
 go_upto_region 1 with fail
 obtain ⟨Ah,Ai,Aj⟩:=cy3 a0
 have Ad:=rrV C1 R hb
 have Ae:=rrV C2 R hb
 have Af:=rrV C3 R hb
 have Ag:=rrV C4 R hb
 refine wp_region_quiet_below (by first | assumption | kernel_rfl) (by kernel_rfl) ?_
 repeat (quiet_step (first | (with_reducible exact Ad.out _ _) | (with_reducible exact Ae.out _ _) | (with_reducible exact Af.out _ _) | (with_reducible exact Ag.out _ _)))
 refine wpQuiet_nil ?_
 intro w1 hw'
 obtain ⟨hk,hb⟩:=zQ hb hw'
 clear Aa Ab Ac
 replace a0:=zB hk a0
 obtain ⟨Aa,Ab,Ac⟩:=ce3 a0
 clear Ad Ae Af Ag Ah Ai Aj
 clear hk hw'
 go_wp2
 first | go_ret | go_ret2 | go_ret3
 exact ⟨rfl,hb⟩
theorem grad_ok (a b c:Rat) (r1:RL a 200) (r2:RL b 200) (r3:RL c 200) (r4:c≠0) (r5:RL a 40000) (r6:RL (-a) 10000) (r7:RL c 10000) (r8:RL ((-a) / c) 200) (r9:RL b 40000) (r10:RL (-b) 10000) (r11:RL ((-b) / c) 200) (w:World) (R:EnvV w) :
   Calls Tryz.prog 32 #[.agg #[.string (ratB a),.string (ratB b),.string (ratB c)]] w (Ret w (.tuple #[.agg #[.string (ratB (-(a / c))),.string (ratB (-(b / c)))],.int .i64 0])):=by
 have c1:=slope_ok a b c r1 r2 r3 r4
 have c2:=fun (w:World) (R:EnvV w)=>rneg_any a r5 w R.toEnvR
 have c3:CV 76 #[.string (ratB (-a)),.string (ratB c)] (.tuple #[.string (ratB (-(a / c))),.int .i64 0]):=fun w R=>(by have h:=quot_any (-a) c r4 r6 r7 r8 w R;rw [q_negdiv] at h;exact h)
 have c4:=fun (w:World) (R:EnvV w)=>rneg_any b r9 w R.toEnvR
 have c5:CV 76 #[.string (ratB (-b)),.string (ratB c)] (.tuple #[.string (ratB (-(b / c))),.int .i64 0]):=fun w R=>(by have h:=quot_any (-b) c r4 r10 r7 r11 w R;rw [q_negdiv] at h;exact h)
 have c6:=fun (w:World) (R:EnvV w)=>orErr2 0 0 0 (by decide) w R.toEnvR
 have C1:=Lib.hid c1
 have C2:=Lib.hid c2
 have C3:=Lib.hid c3
 have C4:=Lib.hid c4
 have C5:=Lib.hid c5
 have C6:=Lib.hid c6
 clear c1 c2 c3 c4 c5 c6 r1 r2 r3 r4 r5 r6 r7 r8 r9 r10 r11
 have hb:=Below.refl w.heap.size w
 go_enter Tryz.func32,Tryz.ntmps32
 go_upto_region 1 with fail
 refine wp_alloc2 (fun w1 a0 a1 hk=>?_)
 replace hb:=hb.trans (hk.mono hb.size)
 clear hk
 obtain ⟨Ae,Af,Ag⟩:=ce3 a0
 obtain ⟨Aa,Ac,Ab,Ad⟩:=cf2 a1
 go_upto_region 4 with (go_at_call 75;with_reducible refine (chVB hb R C1).mono ?_;clear hb;rintro e w1 ⟨rfl,hk,hb⟩;clear Ae Af Ag Aa Ab Ac Ad;replace a0:=zB hk a0;replace a1:=zB hk a1;obtain ⟨Ae,Af,Ag⟩:=ce3 a0;obtain ⟨Aa,Ac,Ab,Ad⟩:=cf2 a1;clear hk)
 obtain ⟨Ah,Ai,Aj⟩:=cy3 a0
 obtain ⟨Ak,Al⟩:=cy2 a1
 have Am:=rrV C2 R hb
 have An:=rrV C3 R hb
 refine wp_region_quiet_below (by first | assumption | kernel_rfl) (by kernel_rfl) ?_
 repeat (quiet_step (first | (with_reducible exact Am.out _ _) | (with_reducible exact An.out _ _)))
 refine wpQuiet_nil ?_
 intro w1 hw'
 obtain ⟨hk,hb⟩:=zQ hb hw'
 clear Ae Af Ag Aa Ab Ac Ad
 replace a0:=zB hk a0
 replace a1:=zB hk a1
 obtain ⟨Ae,Af,Ag⟩:=ce3 a0
 obtain ⟨Aa,Ac,Ab,Ad⟩:=cf2 a1
 clear Am An Ah Ai Aj Ak Al
 clear hk hw'
 go_upto_region 5 with fail
 obtain ⟨Ah,Ai,Aj⟩:=cy3 a0
 obtain ⟨Ak,Al⟩:=cy2 a1
 have Ao:=rrV C4 R hb
 have Ap:=rrV C5 R hb
 refine wp_region_quiet_below (by first | assumption | kernel_rfl) (by kernel_rfl) ?_
 repeat (quiet_step (first | (with_reducible exact Ao.out _ _) | (with_reducible exact Ap.out _ _)))
 refine wpQuiet_nil ?_
 intro w1 hw'
 obtain ⟨hk,hb⟩:=zQ hb hw'
 clear Ae Af Ag Aa Ab Ac Ad
 replace a0:=zB hk a0
 replace a1:=zB hk a1
 obtain ⟨Ae,Af,Ag⟩:=ce3 a0
 obtain ⟨Aa,Ac,Ab,Ad⟩:=cf2 a1
 clear Ao Ap Ah Ai Aj Ak Al
 clear hk hw'
 go_wp2_with (go_at_call 68;with_reducible refine (zL hb (C6.out _ (R.below hb))).mono ?_;clear hb;rintro e w1 ⟨rfl,hk,hb⟩;clear Aa Ab Ac Ad;replace a1:=zB hk a1;obtain ⟨Aa,Ac,Ab,Ad⟩:=cf2 a1;clear hk)
 refine bodyPost_ret (v:=.tuple #[.agg #[.string (ratB (-(a / c))),.string (ratB (-(b / c)))],.int .i64 0]) (by simp [results,Tryz.results32,go_sem,Aa,Ab]) rfl ⟨rfl,?_⟩
 repeat' (first | exact hb | refine Below.setCell ?_ (by first | exact Nat.le_refl _ | (dsimp only;omega)) _)
end Go.Proofs.YtejfiegmdllfbaaGreatDoor.Kl
