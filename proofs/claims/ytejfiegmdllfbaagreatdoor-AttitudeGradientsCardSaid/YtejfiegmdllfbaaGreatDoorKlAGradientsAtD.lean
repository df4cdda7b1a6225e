import Derived.Test.YtejfiegmdllfbaaGreatDoorKlAGradientsAtB
namespace Go.Proofs.YtejfiegmdllfbaaGreatDoor.Kl
open Go Go.RowKit
set_option maxRecDepth 100000
set_option maxHeartbeats 8000000
theorem q_negdiv (a c:Rat):(-a) / c = -(a / c):=by rw [Rat.div_def,Rat.div_def,Rat.neg_mul]
theorem slope_err  (ta tb tc:ByteArray) (ea eb v:Int) (ca:CV 83 #[.agg #[.string ta,.string tb,.string tc]] (.int .i64 ea)) (hv:firstNZ [ea,eb]=v) (q0:v≠0) (w:World) (R:EnvV w) :
   Calls Tryz.prog 75 #[.agg #[.string ta,.string tb,.string tc],.int .i64 eb] w (Ret w (.int .i64 v)):=by
 have c1:=ca
 have c2:=fun (w:World) (R:EnvV w)=>orErr2 ea eb v hv w R.toEnvR
 have eq0:(v == 0)=false:=beq_eq_false_iff_ne.2 q0
 have pq0:¬ v=0:=q0
 have C1:=Lib.hid c1
 have C2:=Lib.hid c2
 clear c1 c2 q0 ca hv
 have hb:=Below.refl w.heap.size w
 go_enter Tryz.func75,Tryz.ntmps75
 go_upto_region 1 with fail
 refine wp_alloc1 (fun w1 a0 hk=>?_)
 replace hb:=hb.trans (hk.mono hb.size)
 clear hk
 obtain ⟨Aa,Ab,Ac⟩:=ce3 a0
 go_wp2_with ((first | (go_at_call 83;with_reducible refine (chVB hb R C1).mono ?_) | (go_at_call 68;with_reducible refine (zL hb (C2.out _ (R.below hb))).mono ?_));clear hb;rintro e w1 ⟨rfl,hk,hb⟩;clear Aa Ab Ac;replace a0:=zB hk a0;obtain ⟨Aa,Ab,Ac⟩:=ce3 a0;clear hk)
 first | go_ret | go_ret2 | go_ret3
 exact ⟨rfl,hb⟩
theorem slope_v (a b c:Rat) (h:a≠0∨b≠0∨c≠0) (ra:RL a 200) (rb:RL b 200) (rc:RL c 200) (g:c=0) (w:World) (R:EnvV w) :
   Calls Tryz.prog 75 #[.agg #[.string (ratB a),.string (ratB b),.string (ratB c)],.int .i64 0] w (Ret w (.int .i64 21)):=by
 have c1:=acheck_ok a b c h ra rb rc
 have c2:=fun (w:World) (R:EnvV w)=>orErr2 0 0 0 (by decide) w R.toEnvR
 have c3:=ver_t a b c g
 obtain ⟨Ag,Aa⟩:∃ vq,ratB a=vq:=⟨_,rfl⟩
 obtain ⟨Ah,Ab⟩:∃ vq,ratB b=vq:=⟨_,rfl⟩
 obtain ⟨Ai,Ac⟩:∃ vq,ratB c=vq:=⟨_,rfl⟩
 try simp only [Aa,Ab,Ac] at c1 c2 c3 ⊢
 have C1:=Lib.hid c1
 have C2:=Lib.hid c2
 have C3:=Lib.hid c3
 clear c1 c2 c3 Aa Ab Ac h ra rb rc g
 have hb:=Below.refl w.heap.size w
 go_enter Tryz.func75,Tryz.ntmps75
 go_upto_region 1 with fail
 refine wp_alloc1 (fun w1 a0 hk=>?_)
 replace hb:=hb.trans (hk.mono hb.size)
 clear hk
 obtain ⟨Ad,Ae,Af⟩:=ce3 a0
 go_wp2_with ((first | (go_at_call 83;with_reducible refine (chVB hb R C1).mono ?_) | (go_at_call 68;with_reducible refine (zL hb (C2.out _ (R.below hb))).mono ?_) | (go_at_call 47;with_reducible refine (chVB hb R C3).mono ?_));clear hb;rintro e w1 ⟨rfl,hk,hb⟩;clear Ad Ae Af;replace a0:=zB hk a0;obtain ⟨Ad,Ae,Af⟩:=ce3 a0;clear hk)
 first | go_ret | go_ret2 | go_ret3
 exact ⟨rfl,hb⟩
theorem grad_err  (ta tb tc:ByteArray) (v:Int) (cs:CV 75 #[.agg #[.string ta,.string tb,.string tc],.int .i64 0] (.int .i64 v)) (q0:v≠0) (w:World) (R:EnvV w) :
   Calls Tryz.prog 32 #[.agg #[.string ta,.string tb,.string tc]] w (Ret w (.tuple #[.agg #[.string ⟨#[]⟩,.string ⟨#[]⟩],.int .i64 v])):=by
 have c1:=cs
 have eq0:(v == 0)=false:=beq_eq_false_iff_ne.2 q0
 have pq0:¬ v=0:=q0
 have C1:=Lib.hid c1
 clear c1 q0 cs
 have hb:=Below.refl w.heap.size w
 go_enter Tryz.func32,Tryz.ntmps32
 go_upto_region 1 with fail
 refine wp_alloc2 (fun w1 a0 a1 hk=>?_)
 replace hb:=hb.trans (hk.mono hb.size)
 clear hk
 obtain ⟨Ac,Ad,Ae⟩:=ce3 a0
 obtain ⟨Aa,Af,Ab,Ag⟩:=cf2 a1
 go_wp2_with (go_at_call 75;with_reducible refine (chVB hb R C1).mono ?_;clear hb;rintro e w1 ⟨rfl,hk,hb⟩;clear Ac Ad Ae Aa Ab Af Ag;replace a0:=zB hk a0;replace a1:=zB hk a1;obtain ⟨Ac,Ad,Ae⟩:=ce3 a0;obtain ⟨Aa,Af,Ab,Ag⟩:=cf2 a1;clear hk)
 refine bodyPost_ret (v:=.tuple #[.agg #[.string ⟨#[]⟩,.string ⟨#[]⟩],.int .i64 v]) (by simp [results,Tryz.results32,go_sem,Aa,Ab]) rfl ⟨rfl,?_⟩
 repeat' (first | exact hb | refine Below.setCell ?_ (by first | exact Nat.le_refl _ | (dsimp only;omega)) _)
theorem grad_ok (a b c:Rat) (r1:RL a 200) (r2:RL b 200) (r3:RL c 200) (r4:c≠0) (r5:RL a 40000) (r6:RL (-a) 10000) (r7:RL c 10000) (r8:RL ((-a) / c) 200) (r9:RL b 40000) (r10:RL (-b) 10000) (r11:RL ((-b) / c) 200) (w:World) (R:EnvV w) :
   Calls Tryz.prog 32 #[.agg #[.string (ratB a),.string (ratB b),.string (ratB c)]] w (Ret w (.tuple #[.agg #[.string (ratB (-(a / c))),.string (ratB (-(b / c)))],.int .i64 0])):=by
 have c1:=slope_ok a b c r1 r2 r3 r4
 have c2:=fun (w:World) (R:EnvV w)=>rneg_any a r5 w R.toEnvR
 have c3:CV 76 #[.string (ratB (-a)),.string (ratB c)] (.tuple #[.string (ratB (-(a / c))),.int .i64 0]):=fun w R=>(by have h:=quot_any (-a) c r4 r6 r7 r8 w R;rw [q_negdiv] at h;exact h)
 have c4:=fun (w:World) (R:EnvV w)=>rneg_any b r9 w R.toEnvR
 have c5:CV 76 #[.string (ratB (-b)),.string (ratB c)] (.tuple #[.string (ratB (-(b / c))),.int .i64 0]):=fun w R=>(by have h:=quot_any (-b) c r4 r10 r7 r11 w R;rw [q_negdiv] at h;exact h)
 have c6:=fun (w:World) (R:EnvV w)=>orErr2 0 0 0 (by decide) w R.toEnvR
 have C1:=Lib.hid c1
 have C2:=Lib.hid c2
 have C3:=Lib.hid c3
 have C4:=Lib.hid c4
 have C5:=Lib.hid c5
 have C6:=Lib.hid c6
 clear c1 c2 c3 c4 c5 c6 r1 r2 r3 r4 r5 r6 r7 r8 r9 r10 r11
 have hb:=Below.refl w.heap.size w
 go_enter Tryz.func32,Tryz.ntmps32
 go_upto_region 1 with fail
 refine wp_alloc2 (fun w1 a0 a1 hk=>?_)
 replace hb:=hb.trans (hk.mono hb.size)
 clear hk
 obtain ⟨Ae,Af,Ag⟩:=ce3 a0
 obtain ⟨Aa,Ac,Ab,Ad⟩:=cf2 a1
 go_upto_region 4 with (go_at_call 75;with_reducible refine (chVB hb R C1).mono ?_;clear hb;rintro e w1 ⟨rfl,hk,hb⟩;clear Ae Af Ag Aa Ab Ac Ad;replace a0:=zB hk a0;replace a1:=zB hk a1;obtain ⟨Ae,Af,Ag⟩:=ce3 a0;obtain ⟨Aa,Ac,Ab,Ad⟩:=cf2 a1;clear hk)
 obtain ⟨Ah,Ai,Aj⟩:=cy3 a0
 obtain ⟨Ak,Al⟩:=cy2 a1
 have Am:=rrV C2 R hb
 have An:=rrV C3 R hb
 refine wp_region_quiet_below (by first | assumption | kernel_rfl) (by kernel_rfl) ?_
 repeat (quiet_step (first | (with_reducible exact Am.out _ _) | (with_reducible exact An.out _ _)))
 refine wpQuiet_nil ?_
 intro w1 hw'
 obtain ⟨hk,hb⟩:=zQ hb hw'
 clear Ae Af Ag Aa Ab Ac Ad
 replace a0:=zB hk a0
 replace a1:=zB hk a1
 obtain ⟨Ae,Af,Ag⟩:=ce3 a0
 obtain ⟨Aa,Ac,Ab,Ad⟩:=cf2 a1
 clear Am An Ah Ai Aj Ak Al
 clear hk hw'
 go_upto_region 5 with fail
 obtain ⟨Ah,Ai,Aj⟩:=cy3 a0
 obtain ⟨Ak,Al⟩:=cy2 a1
 have Ao:=rrV C4 R hb
 have Ap:=rrV C5 R hb
 refine wp_region_quiet_below (by first | assumption | kernel_rfl) (by kernel_rfl) ?_
 repeat (quiet_step (first | (with_reducible exact Ao.out _ _) | (with_reducible exact Ap.out _ _)))
 refine wpQuiet_nil ?_
 intro w1 hw'
 obtain ⟨hk,hb⟩:=zQ hb hw'
 clear Ae Af Ag Aa Ab Ac Ad
 replace a0:=zB hk a0
 replace a1:=zB hk a1
 obtain ⟨Ae,Af,Ag⟩:=ce3 a0
 obtain ⟨Aa,Ac,Ab,Ad⟩:=cf2 a1
 clear Ao Ap Ah Ai Aj Ak Al
 clear hk hw'
 go_wp2_with (go_at_call 68;with_reducible refine (zL hb (C6.out _ (R.below hb))).mono ?_;clear hb;rintro e w1 ⟨rfl,hk,hb⟩;clear Aa Ab Ac Ad;replace a1:=zB hk a1;obtain ⟨Aa,Ac,Ab,Ad⟩:=cf2 a1;clear hk)
 refine bodyPost_ret (v:=.tuple #[.agg #[.string (ratB (-(a / c))),.string (ratB (-(b / c)))],.int .i64 0]) (by simp [results,Tryz.results32,go_sem,Aa,Ab]) rfl ⟨rfl,?_⟩
 repeat' (first | exact hb | refine Below.setCell ?_ (by first | exact Nat.le_refl _ | (dsimp only;omega)) _)
theorem anorm_err  (ta tb:ByteArray) (v:Int) (cp:CV 77 #[.agg #[.string ta,.string tb]] (.int .i64 v)) (q0:v≠0) (w:World) (R:EnvV w) :
   Calls Tryz.prog 33 #[.agg #[.string ta,.string tb]] w (Ret w (.tuple #[.agg #[.string ⟨#[]⟩,.string ⟨#[]⟩,.string ⟨#[]⟩],.int .i64 v])):=by
 have c1:=cp
 have eq0:(v == 0)=false:=beq_eq_false_iff_ne.2 q0
 have pq0:¬ v=0:=q0
 have C1:=Lib.hid c1
 clear c1 q0 cp
 have hb:=Below.refl w.heap.size w
 go_enter Tryz.func33,Tryz.ntmps33
 go_upto_region 1 with fail
 refine wp_alloc2 (fun w1 a0 a1 hk=>?_)
 replace hb:=hb.trans (hk.mono hb.size)
 clear hk
 obtain ⟨Ad,Ae⟩:=ce2 a0
 obtain ⟨Aa,Af,Ab,Ag,Ac,Ah⟩:=cf3 a1
 go_wp2_with (go_at_call 77;with_reducible refine (chVB hb R C1).mono ?_;clear hb;rintro e w1 ⟨rfl,hk,hb⟩;clear Ad Ae Aa Ab Ac Af Ag Ah;replace a0:=zB hk a0;replace a1:=zB hk a1;obtain ⟨Ad,Ae⟩:=ce2 a0;obtain ⟨Aa,Af,Ab,Ag,Ac,Ah⟩:=cf3 a1;clear hk)
 refine bodyPost_ret (v:=.tuple #[.agg #[.string ⟨#[]⟩,.string ⟨#[]⟩,.string ⟨#[]⟩],.int .i64 v]) (by simp [results,Tryz.results33,go_sem,Aa,Ab,Ac]) rfl ⟨rfl,?_⟩
 repeat' (first | exact hb | refine Below.setCell ?_ (by first | exact Nat.le_refl _ | (dsimp only;omega)) _)
theorem anorm_ok (x y:Rat) (r1:RL x 200) (r2:RL y 200) (r3:RL x 40000) (r4:RL y 40000) (w:World) (R:EnvV w) :
   Calls Tryz.prog 33 #[.agg #[.string (ratB x),.string (ratB y)]] w (Ret w (.tuple #[.agg #[.string (ratB (-x)),.string (ratB (-y)),.string ⟨#[49]⟩],.int .i64 0])):=by
 have c1:=fun (w:World) (R:EnvV w)=>pcheck_ok x y r1 r2 w R.toEnvR
 have c2:=fun (w:World) (R:EnvV w)=>rneg_any x r3 w R.toEnvR
 have c3:=fun (w:World) (R:EnvV w)=>rneg_any y r4 w R.toEnvR
 have C1:=Lib.hid c1
 have C2:=Lib.hid c2
 have C3:=Lib.hid c3
 clear c1 c2 c3 r1 r2 r3 r4
 have hb:=Below.refl w.heap.size w
 go_enter Tryz.func33,Tryz.ntmps33
 go_upto_region 1 with fail
 refine wp_alloc2 (fun w1 a0 a1 hk=>?_)
 replace hb:=hb.trans (hk.mono hb.size)
 clear hk
 obtain ⟨Ad,Ae⟩:=ce2 a0
 obtain ⟨Aa,Af,Ab,Ag,Ac,Ah⟩:=cf3 a1
 go_upto_region 4 with (go_at_call 77;with_reducible refine (chVB hb R C1).mono ?_;clear hb;rintro e w1 ⟨rfl,hk,hb⟩;clear Ad Ae Aa Ab Ac Af Ag Ah;replace a0:=zB hk a0;replace a1:=zB hk a1;obtain ⟨Ad,Ae⟩:=ce2 a0;obtain ⟨Aa,Af,Ab,Ag,Ac,Ah⟩:=cf3 a1;clear hk)
 obtain ⟨Ak,Al⟩:=cy2 a0
 obtain ⟨Am,An,Ao⟩:=cy3 a1
 have Ai:=rrV C2 R hb
 have Aj:=rrV C3 R hb
 refine wp_region_tail_below 7 (by first | assumption | kernel_rfl) (by kernel_rfl) ?_
 simp only [List.take_succ_cons,List.take_zero,List.drop_succ_cons,List.drop_zero]
 repeat (quiet_step (first | (with_reducible exact Ai.out _ _) | (with_reducible exact Aj.out _ _)))
 refine wpQuiet_nil ?_
 intro w1 hw'
 obtain ⟨hk,hb⟩:=zQ hb hw'
 clear Ad Ae Aa Ab Ac Af Ag Ah
 replace a0:=zB hk a0
 replace a1:=zB hk a1
 obtain ⟨Ad,Ae⟩:=ce2 a0
 obtain ⟨Aa,Af,Ab,Ag,Ac,Ah⟩:=cf3 a1
 clear Ai Aj Ak Al Am An Ao
 clear hk hw'
 go_wp2
 refine bodyPost_ret (v:=.tuple #[.agg #[.string (ratB (-x)),.string (ratB (-y)),.string ⟨#[49]⟩],.int .i64 0]) (by simp [results,Tryz.results33,go_sem,Aa,Ab,Ac]) rfl ⟨rfl,?_⟩
 repeat' (first | exact hb | refine Below.setCell ?_ (by first | exact Nat.le_refl _ | (dsimp only;omega)) _)
theorem ldiv_any (a c:Rat) (r1:c≠0) (r2:RL a 10000) (r3:RL c 10000) (w:World) (R:EnvV w) :
   Calls Tryz.prog 34 #[.string (ratB a),.string (ratB c)] w (Ret w (.string (ratB (a / c)))):=by
 have c1:=fun (w:World) (R:EnvV w)=>rdiv_any a c r2 r3 r1 w R.toEnvR
 have C1:=Lib.hid c1
 clear c1 r1 r2 r3
 have hb:=Below.refl w.heap.size w
 go_enter Tryz.func34,Tryz.ntmps34
 go_wp2_with (go_at_call 66;with_reducible refine (chVB hb R C1).mono ?_;clear hb;rintro e w1 ⟨rfl,hk,hb⟩;clear hk)
 first | go_ret | go_ret2 | go_ret3
 exact ⟨rfl,hb⟩
end Go.Proofs.YtejfiegmdllfbaaGreatDoor.Kl
