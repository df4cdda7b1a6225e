import Derived.Test.YtejfiegmdllfbaaGreatDoorKlBVYZ
namespace Go.Proofs.YtejfiegmdllfbaaGreatDoor.Kl
open Go Go.RowKit
set_option maxRecDepth 100000
set_option maxHeartbeats 8000000
theorem vof_1_0_1  (w:World) (R:EnvV w) :
   Calls Tryz.prog 41 #[.int .i64 1,.int .i64 0,.int .i64 1] w (Ret w (.agg #[.string ⟨#[49]⟩,.string ⟨#[48]⟩,.string ⟨#[49]⟩])):=by
 have c1:CV 85 #[.int .i64 1] (.string ⟨#[49]⟩):=fun w R=>(by have h:=rwhole_any (1) (by decide) (by decide) w R.toEnvR;rw [show itoaB (1)=⟨#[49]⟩ from by decide +kernel] at h;exact h)
 have c2:CV 85 #[.int .i64 0] (.string ⟨#[48]⟩):=fun w R=>(by have h:=rwhole_any (0) (by decide) (by decide) w R.toEnvR;rw [show itoaB (0)=⟨#[48]⟩ from by decide +kernel] at h;exact h)
 have C1:=Lib.hid c1
 have C2:=Lib.hid c2
 clear c1 c2
 have hb:=Below.refl w.heap.size w
 go_enter Tryz.func41,Tryz.ntmps41
 go_upto_region 1 with fail
 refine wp_alloc1 (fun w1 a0 hk=>?_)
 replace hb:=hb.trans (hk.mono hb.size)
 clear hk
 obtain ⟨Aa,Ad,Ab,Ae,Ac,Af⟩:=cf3 a0
 go_wp2_with ((go_at_call 85;first | with_reducible refine (chVB hb R C1).mono ?_ | with_reducible refine (chVB hb R C2).mono ?_ | with_reducible refine (chVB hb R C1).mono ?_);clear hb;rintro e w1 ⟨rfl,hk,hb⟩;clear Aa Ab Ac Ad Ae Af;replace a0:=zB hk a0;obtain ⟨Aa,Ad,Ab,Ae,Ac,Af⟩:=cf3 a0;clear hk)
 refine bodyPost_ret (v:=.agg #[.string ⟨#[49]⟩,.string ⟨#[48]⟩,.string ⟨#[49]⟩]) (by simp [results,Tryz.results41,go_sem,Aa,Ab,Ac]) rfl ⟨rfl,?_⟩
 repeat' (first | exact hb | refine Below.setCell ?_ (by first | exact Nat.le_refl _ | (dsimp only;omega)) _)
theorem vof_0_0_0  (w:World) (R:EnvV w) :
   Calls Tryz.prog 41 #[.int .i64 0,.int .i64 0,.int .i64 0] w (Ret w (.agg #[.string ⟨#[48]⟩,.string ⟨#[48]⟩,.string ⟨#[48]⟩])):=by
 have c1:CV 85 #[.int .i64 0] (.string ⟨#[48]⟩):=fun w R=>(by have h:=rwhole_any (0) (by decide) (by decide) w R.toEnvR;rw [show itoaB (0)=⟨#[48]⟩ from by decide +kernel] at h;exact h)
 have C1:=Lib.hid c1
 clear c1
 have hb:=Below.refl w.heap.size w
 go_enter Tryz.func41,Tryz.ntmps41
 go_upto_region 1 with fail
 refine wp_alloc1 (fun w1 a0 hk=>?_)
 replace hb:=hb.trans (hk.mono hb.size)
 clear hk
 obtain ⟨Aa,Ad,Ab,Ae,Ac,Af⟩:=cf3 a0
 go_wp2_with ((go_at_call 85;first | with_reducible refine (chVB hb R C1).mono ?_ | with_reducible refine (chVB hb R C1).mono ?_ | with_reducible refine (chVB hb R C1).mono ?_);clear hb;rintro e w1 ⟨rfl,hk,hb⟩;clear Aa Ab Ac Ad Ae Af;replace a0:=zB hk a0;obtain ⟨Aa,Ad,Ab,Ae,Ac,Af⟩:=cf3 a0;clear hk)
 refine bodyPost_ret (v:=.agg #[.string ⟨#[48]⟩,.string ⟨#[48]⟩,.string ⟨#[48]⟩]) (by simp [results,Tryz.results41,go_sem,Aa,Ab,Ac]) rfl ⟨rfl,?_⟩
 repeat' (first | exact hb | refine Below.setCell ?_ (by first | exact Nat.le_refl _ | (dsimp only;omega)) _)
theorem vof_0_1_2  (w:World) (R:EnvV w) :
   Calls Tryz.prog 41 #[.int .i64 0,.int .i64 1,.int .i64 2] w (Ret w (.agg #[.string ⟨#[48]⟩,.string ⟨#[49]⟩,.string ⟨#[50]⟩])):=by
 have c1:CV 85 #[.int .i64 0] (.string ⟨#[48]⟩):=fun w R=>(by have h:=rwhole_any (0) (by decide) (by decide) w R.toEnvR;rw [show itoaB (0)=⟨#[48]⟩ from by decide +kernel] at h;exact h)
 have c2:CV 85 #[.int .i64 1] (.string ⟨#[49]⟩):=fun w R=>(by have h:=rwhole_any (1) (by decide) (by decide) w R.toEnvR;rw [show itoaB (1)=⟨#[49]⟩ from by decide +kernel] at h;exact h)
 have c3:CV 85 #[.int .i64 2] (.string ⟨#[50]⟩):=fun w R=>(by have h:=rwhole_any (2) (by decide) (by decide) w R.toEnvR;rw [show itoaB (2)=⟨#[50]⟩ from by decide +kernel] at h;exact h)
 have C1:=Lib.hid c1
 have C2:=Lib.hid c2
 have C3:=Lib.hid c3
 clear c1 c2 c3
 have hb:=Below.refl w.heap.size w
 go_enter Tryz.func41,Tryz.ntmps41
 go_upto_region 1 with fail
 refine wp_alloc1 (fun w1 a0 hk=>?_)
 replace hb:=hb.trans (hk.mono hb.size)
 clear hk
 obtain ⟨Aa,Ad,Ab,Ae,Ac,Af⟩:=cf3 a0
 go_wp2_with ((go_at_call 85;first | with_reducible refine (chVB hb R C1).mono ?_ | with_reducible refine (chVB hb R C2).mono ?_ | with_reducible refine (chVB hb R C3).mono ?_);clear hb;rintro e w1 ⟨rfl,hk,hb⟩;clear Aa Ab Ac Ad Ae Af;replace a0:=zB hk a0;obtain ⟨Aa,Ad,Ab,Ae,Ac,Af⟩:=cf3 a0;clear hk)
 refine bodyPost_ret (v:=.agg #[.string ⟨#[48]⟩,.string ⟨#[49]⟩,.string ⟨#[50]⟩]) (by simp [results,Tryz.results41,go_sem,Aa,Ab,Ac]) rfl ⟨rfl,?_⟩
 repeat' (first | exact hb | refine Below.setCell ?_ (by first | exact Nat.le_refl _ | (dsimp only;omega)) _)
theorem vof_m1_m2_1  (w:World) (R:EnvV w) :
   Calls Tryz.prog 41 #[.int .i64 (-1),.int .i64 (-2),.int .i64 1] w (Ret w (.agg #[.string ⟨#[45,49]⟩,.string ⟨#[45,50]⟩,.string ⟨#[49]⟩])):=by
 have c1:CV 85 #[.int .i64 (-1)] (.string ⟨#[45,49]⟩):=fun w R=>(by have h:=rwhole_any (-1) (by decide) (by decide) w R.toEnvR;rw [show itoaB (-1)=⟨#[45,49]⟩ from by decide +kernel] at h;exact h)
 have c2:CV 85 #[.int .i64 (-2)] (.string ⟨#[45,50]⟩):=fun w R=>(by have h:=rwhole_any (-2) (by decide) (by decide) w R.toEnvR;rw [show itoaB (-2)=⟨#[45,50]⟩ from by decide +kernel] at h;exact h)
 have c3:CV 85 #[.int .i64 1] (.string ⟨#[49]⟩):=fun w R=>(by have h:=rwhole_any (1) (by decide) (by decide) w R.toEnvR;rw [show itoaB (1)=⟨#[49]⟩ from by decide +kernel] at h;exact h)
 have C1:=Lib.hid c1
 have C2:=Lib.hid c2
 have C3:=Lib.hid c3
 clear c1 c2 c3
 have hb:=Below.refl w.heap.size w
 go_enter Tryz.func41,Tryz.ntmps41
 go_upto_region 1 with fail
 refine wp_alloc1 (fun w1 a0 hk=>?_)
 replace hb:=hb.trans (hk.mono hb.size)
 clear hk
 obtain ⟨Aa,Ad,Ab,Ae,Ac,Af⟩:=cf3 a0
 go_wp2_with ((go_at_call 85;first | with_reducible refine (chVB hb R C1).mono ?_ | with_reducible refine (chVB hb R C2).mono ?_ | with_reducible refine (chVB hb R C3).mono ?_);clear hb;rintro e w1 ⟨rfl,hk,hb⟩;clear Aa Ab Ac Ad Ae Af;replace a0:=zB hk a0;obtain ⟨Aa,Ad,Ab,Ae,Ac,Af⟩:=cf3 a0;clear hk)
 refine bodyPost_ret (v:=.agg #[.string ⟨#[45,49]⟩,.string ⟨#[45,50]⟩,.string ⟨#[49]⟩]) (by simp [results,Tryz.results41,go_sem,Aa,Ab,Ac]) rfl ⟨rfl,?_⟩
 repeat' (first | exact hb | refine Below.setCell ?_ (by first | exact Nat.le_refl _ | (dsimp only;omega)) _)
theorem vat_1_2  (w:World) (R:EnvV w) :
   Calls Tryz.prog 42 #[.int .i64 1,.int .i64 2] w (Ret w (.agg #[.string ⟨#[49]⟩,.string ⟨#[50]⟩])):=by
 have c1:CV 85 #[.int .i64 1] (.string ⟨#[49]⟩):=fun w R=>(by have h:=rwhole_any (1) (by decide) (by decide) w R.toEnvR;rw [show itoaB (1)=⟨#[49]⟩ from by decide +kernel] at h;exact h)
 have c2:CV 85 #[.int .i64 2] (.string ⟨#[50]⟩):=fun w R=>(by have h:=rwhole_any (2) (by decide) (by decide) w R.toEnvR;rw [show itoaB (2)=⟨#[50]⟩ from by decide +kernel] at h;exact h)
 have C1:=Lib.hid c1
 have C2:=Lib.hid c2
 clear c1 c2
 have hb:=Below.refl w.heap.size w
 go_enter Tryz.func42,Tryz.ntmps42
 go_upto_region 1 with fail
 refine wp_alloc1 (fun w1 a0 hk=>?_)
 replace hb:=hb.trans (hk.mono hb.size)
 clear hk
 obtain ⟨Aa,Ac,Ab,Ad⟩:=cf2 a0
 go_wp2_with ((go_at_call 85;first | with_reducible refine (chVB hb R C1).mono ?_ | with_reducible refine (chVB hb R C2).mono ?_);clear hb;rintro e w1 ⟨rfl,hk,hb⟩;clear Aa Ab Ac Ad;replace a0:=zB hk a0;obtain ⟨Aa,Ac,Ab,Ad⟩:=cf2 a0;clear hk)
 refine bodyPost_ret (v:=.agg #[.string ⟨#[49]⟩,.string ⟨#[50]⟩]) (by simp [results,Tryz.results42,go_sem,Aa,Ab]) rfl ⟨rfl,?_⟩
 repeat' (first | exact hb | refine Below.setCell ?_ (by first | exact Nat.le_refl _ | (dsimp only;omega)) _)
theorem vat_1_1  (w:World) (R:EnvV w) :
   Calls Tryz.prog 42 #[.int .i64 1,.int .i64 1] w (Ret w (.agg #[.string ⟨#[49]⟩,.string ⟨#[49]⟩])):=by
 have c1:CV 85 #[.int .i64 1] (.string ⟨#[49]⟩):=fun w R=>(by have h:=rwhole_any (1) (by decide) (by decide) w R.toEnvR;rw [show itoaB (1)=⟨#[49]⟩ from by decide +kernel] at h;exact h)
 have C1:=Lib.hid c1
 clear c1
 have hb:=Below.refl w.heap.size w
 go_enter Tryz.func42,Tryz.ntmps42
 go_upto_region 1 with fail
 refine wp_alloc1 (fun w1 a0 hk=>?_)
 replace hb:=hb.trans (hk.mono hb.size)
 clear hk
 obtain ⟨Aa,Ac,Ab,Ad⟩:=cf2 a0
 go_wp2_with ((go_at_call 85;first | with_reducible refine (chVB hb R C1).mono ?_ | with_reducible refine (chVB hb R C1).mono ?_);clear hb;rintro e w1 ⟨rfl,hk,hb⟩;clear Aa Ab Ac Ad;replace a0:=zB hk a0;obtain ⟨Aa,Ac,Ab,Ad⟩:=cf2 a0;clear hk)
 refine bodyPost_ret (v:=.agg #[.string ⟨#[49]⟩,.string ⟨#[49]⟩]) (by simp [results,Tryz.results42,go_sem,Aa,Ab]) rfl ⟨rfl,?_⟩
 repeat' (first | exact hb | refine Below.setCell ?_ (by first | exact Nat.le_refl _ | (dsimp only;omega)) _)
theorem xminus (a b c x y z:Rat) (r1:RL a 10000) (r2:RL x 10000) (r3:RL b 10000) (r4:RL y 10000) (r5:RL c 10000) (r6:RL z 10000) (w:World) (R:EnvV w) :
   Calls Tryz.prog 88 #[.agg #[.string (ratB a),.string (ratB b),.string (ratB c)],.agg #[.string (ratB x),.string (ratB y),.string (ratB z)]] w (Ret w (.agg #[.string (ratB (a - x)),.string (ratB (b - y)),.string (ratB (c - z))])):=by
 have c1:=xeach_Sub a b c x y z r1 r2 r3 r4 r5 r6
 have C1:=Lib.hid c1
 clear c1 r1 r2 r3 r4 r5 r6
 have hb:=Below.refl w.heap.size w
 go_enter Tryz.func88,Tryz.ntmps88
 go_upto_region 1 with fail
 refine wp_alloc3 (fun w1 a0 a1 a2 hk=>?_)
 replace hb:=hb.trans (hk.mono hb.size)
 clear hk
 obtain ⟨Ad,Ae,Af⟩:=ce3 a0
 obtain ⟨Ag,Ah,Ai⟩:=ce3 a1
 obtain ⟨Aa,Aj,Ab,Ak,Ac,Al⟩:=cf3 a2
 go_wp2_with (go_at_call 118;with_reducible refine (chVB hb R C1).mono ?_;clear hb;rintro e w1 ⟨rfl,hk,hb⟩;clear Ad Ae Af Ag Ah Ai Aa Ab Ac Aj Ak Al;replace a0:=zB hk a0;replace a1:=zB hk a1;replace a2:=zB hk a2;obtain ⟨Ad,Ae,Af⟩:=ce3 a0;obtain ⟨Ag,Ah,Ai⟩:=ce3 a1;obtain ⟨Aa,Aj,Ab,Ak,Ac,Al⟩:=cf3 a2;clear hk)
 refine bodyPost_ret (v:=.agg #[.string (ratB (a - x)),.string (ratB (b - y)),.string (ratB (c - z))]) (by simp [results,Tryz.results88,go_sem,Aa,Ab,Ac]) rfl ⟨rfl,?_⟩
 repeat' (first | exact hb | refine Below.setCell ?_ (by first | exact Nat.le_refl _ | (dsimp only;omega)) _)
theorem xcross (a b c x y z:Rat) (r1:RL b 10000) (r2:RL z 10000) (r3:RL c 10000) (r4:RL y 10000) (r5:RL (b*z) 10000) (r6:RL (c*y) 10000) (r7:RL x 10000) (r8:RL a 10000) (r9:RL (c*x) 10000) (r10:RL (a*z) 10000) (r11:RL (a*y) 10000) (r12:RL (b*x) 10000) (w:World) (R:EnvV w) :
   Calls Tryz.prog 87 #[.agg #[.string (ratB a),.string (ratB b),.string (ratB c)],.agg #[.string (ratB x),.string (ratB y),.string (ratB z)]] w (Ret w (.agg #[.string (ratB ((b*z) - (c*y))),.string (ratB ((c*x) - (a*z))),.string (ratB ((a*y) - (b*x)))])):=by
 have c1:=xdet_any b c y z r1 r2 r3 r4 r5 r6
 have c2:=xdet_any c a z x r3 r7 r8 r2 r9 r10
 have c3:=xdet_any a b x y r8 r4 r1 r7 r11 r12
 obtain ⟨Ay,Ad⟩:∃ vq,ratB ((a*y) - (b*x))=vq:=⟨_,rfl⟩
 obtain ⟨Az,Ae⟩:∃ vq,ratB ((b*z) - (c*y))=vq:=⟨_,rfl⟩
 obtain ⟨A0,Af⟩:∃ vq,ratB ((c*x) - (a*z))=vq:=⟨_,rfl⟩
 obtain ⟨Ba,Ag⟩:∃ vq,ratB a=vq:=⟨_,rfl⟩
 obtain ⟨Bb,Ah⟩:∃ vq,ratB b=vq:=⟨_,rfl⟩
 obtain ⟨Bc,Ai⟩:∃ vq,ratB c=vq:=⟨_,rfl⟩
 obtain ⟨Bd,Aj⟩:∃ vq,ratB x=vq:=⟨_,rfl⟩
 obtain ⟨Be,Ak⟩:∃ vq,ratB y=vq:=⟨_,rfl⟩
 obtain ⟨Bf,Al⟩:∃ vq,ratB z=vq:=⟨_,rfl⟩
 try simp only [Ad,Ae,Af,Ag,Ah,Ai,Aj,Ak,Al] at c1 c2 c3 ⊢
 have C1:=Lib.hid c1
 have C2:=Lib.hid c2
 have C3:=Lib.hid c3
 clear c1 c2 c3 Ad Ae Af Ag Ah Ai Aj Ak Al r1 r2 r3 r4 r5 r6 r7 r8 r9 r10 r11 r12
 have hb:=Below.refl w.heap.size w
 go_enter Tryz.func87,Tryz.ntmps87
 go_upto_region 1 with fail
 refine wp_alloc3 (fun w1 a0 a1 a2 hk=>?_)
 replace hb:=hb.trans (hk.mono hb.size)
 clear hk
 obtain ⟨Am,An,Ao⟩:=ce3 a0
 obtain ⟨Ap,Aq,Ar⟩:=ce3 a1
 obtain ⟨Aa,As,Ab,At,Ac,Au⟩:=cf3 a2
 go_upto_region 1 with fail
 obtain ⟨A1,A2,A3⟩:=cy3 a0
 obtain ⟨A4,A5,A6⟩:=cy3 a1
 obtain ⟨A7,A8,A9⟩:=cy3 a2
 have Av:=rrV C1 R hb
 have Aw:=rrV C2 R hb
 have Ax:=rrV C3 R hb
 refine wp_region_tail_below 28 (by first | assumption | kernel_rfl) (by kernel_rfl) ?_
 simp only [List.take_succ_cons,List.take_zero,List.drop_succ_cons,List.drop_zero]
 repeat (quiet_step (first | (with_reducible exact Av.out _ _) | (with_reducible exact Aw.out _ _) | (with_reducible exact Ax.out _ _)))
 refine wpQuiet_nil ?_
 intro w1 hw'
 obtain ⟨hk,hb⟩:=zQ hb hw'
 clear Am An Ao Ap Aq Ar Aa Ab Ac As At Au
 replace a0:=zB hk a0
 replace a1:=zB hk a1
 replace a2:=zB hk a2
 obtain ⟨Am,An,Ao⟩:=ce3 a0
 obtain ⟨Ap,Aq,Ar⟩:=ce3 a1
 obtain ⟨Aa,As,Ab,At,Ac,Au⟩:=cf3 a2
 clear Av Aw Ax A1 A2 A3 A4 A5 A6 A7 A8 A9
 clear hk hw'
 go_wp2
 refine bodyPost_ret (v:=.agg #[.string Az,.string A0,.string Ay]) (by simp [results,Tryz.results87,go_sem,Aa,Ab,Ac]) rfl ⟨rfl,?_⟩
 repeat' (first | exact hb | refine Below.setCell ?_ (by first | exact Nat.le_refl _ | (dsimp only;omega)) _)
theorem rsum3_w (blk:Nat) (s0 s1 s2 t1 t2 t3:ByteArray) (h0:CV 24 #[.string ⟨#[48]⟩,.string s0] (.string t1)) (h1:CV 24 #[.string t1,.string s1] (.string t2)) (h2:CV 24 #[.string t2,.string s2] (.string t3)) (w:World) (R:EnvV w)
   (x0:w.cell? ⟨blk,0,none⟩=some (.string s0)) (x1:w.cell? ⟨blk,1,none⟩=some (.string s1)) (x2:w.cell? ⟨blk,2,none⟩=some (.string s2)) :
   Calls Tryz.prog 123 #[.slice (some ⟨blk,0,none⟩) 3 3] w (Ret w (.string t3)):=by
 have H0:=Lib.hid h0
 have H1:=Lib.hid h1
 have H2:=Lib.hid h2
 have X:=Lib.hid (And.intro x0 (And.intro x1 x2))
 clear h0 h1 h2 x0 x1 x2
 go_enter Tryz.func123,Tryz.ntmps123
 go_wp2
 go_loopw [8,3] (fun i s wr=>((i = .int .i64 0∧s = .string ⟨#[48]⟩)∨(i = .int .i64 1∧s = .string t1)∨(i = .int .i64 2∧s = .string t2)∨(i = .int .i64 3∧s = .string t3))∧Below w.heap.size w wr) (fun i _ _=>3 - (intOf i).toNat)
 case atStart=>exact ⟨Or.inl ⟨rfl,rfl⟩,Below.refl _ _⟩
 case round =>
   obtain ⟨⟨rfl,rfl⟩ | ⟨rfl,rfl⟩ | ⟨rfl,rfl⟩ | ⟨rfl,rfl⟩,hb⟩:=hrel
   all_goals have x0:=zC hb X.out.1
   all_goals have x1:=zC hb X.out.2.1
   all_goals have x2:=zC hb X.out.2.2
   · go_wp2_with (go_at_call 24;((with_reducible refine (zK hb (H0.out _ (R.below hb))).mono ?_);clear hb;rintro e w1 ⟨rfl,hk,hb⟩;clear hk))
     go_roundw
     case rel=>exact ⟨Or.inr (Or.inl ⟨rfl,rfl⟩),hb⟩
     case measure=>simp [intOf]
   · go_wp2_with (go_at_call 24;((with_reducible refine (zK hb (H1.out _ (R.below hb))).mono ?_);clear hb;rintro e w1 ⟨rfl,hk,hb⟩;clear hk))
     go_roundw
     case rel=>exact ⟨Or.inr (Or.inr (Or.inl ⟨rfl,rfl⟩)),hb⟩
     case measure=>simp [intOf]
   · go_wp2_with (go_at_call 24;((with_reducible refine (zK hb (H2.out _ (R.below hb))).mono ?_);clear hb;rintro e w1 ⟨rfl,hk,hb⟩;clear hk))
     go_roundw
     case rel=>exact ⟨Or.inr (Or.inr (Or.inr (⟨rfl,rfl⟩))),hb⟩
     case measure=>simp [intOf]
   · go_wp2
     go_ret
     exact ⟨rfl,hb⟩
theorem isSmall_k  (k:Int) (w:World) (_R:EnvV w) :
   Calls Tryz.prog 151 #[.agg #[.int .i64 k,.bool false,.slice none 0 0]] w (Ret w (.bool true)):=by
 have hb:=Below.refl w.heap.size w
 go_enter Tryz.func151,Tryz.ntmps151
 go_upto_region 1 with fail
 refine wp_alloc1 (fun w1 a0 hk=>?_)
 replace hb:=hb.trans (hk.mono hb.size)
 clear hk
 obtain ⟨Aa,Ab,Ac⟩:=ce3 a0
 go_wp2
 first | go_ret | go_ret2 | go_ret3
 exact ⟨rfl,hb⟩
theorem wtext_k  (k:Int) (hk : -9223372036854775808≤k∧k≤9223372036854775807) (w:World) (R:EnvV w) :
   Calls Tryz.prog 121 #[.agg #[.int .i64 k,.bool false,.slice none 0 0]] w (Ret w (.string (itoaB k))):=by
 have c1:=isSmall_k k
 have c2:=fun (w:World) (R:EnvV w)=>of_any k hk.1 hk.2 w R.toEnvR.env
 have C1:=Lib.hid c1
 have C2:=Lib.hid c2
 clear c1 c2 hk
 have hb:=Below.refl w.heap.size w
 go_enter Tryz.func121,Tryz.ntmps121
 go_upto_region 1 with fail
 refine wp_alloc1 (fun w1 a0 hk=>?_)
 replace hb:=hb.trans (hk.mono hb.size)
 clear hk
 obtain ⟨Aa,Ab,Ac⟩:=ce3 a0
 go_wp2_with ((first | (go_at_call 151;with_reducible refine (chVB hb R C1).mono ?_) | (go_at_call 117;with_reducible refine (chVB hb R C2).mono ?_));clear hb;rintro e w1 ⟨rfl,hk,hb⟩;clear Aa Ab Ac;replace a0:=zB hk a0;obtain ⟨Aa,Ab,Ac⟩:=ce3 a0;clear hk)
 first | go_ret | go_ret2 | go_ret3
 exact ⟨rfl,hb⟩
theorem wfrom_m1  (w:World) (_R:EnvV w) :
   Calls Tryz.prog 181 #[.int .i64 (-1)] w (Ret w (.agg #[.int .i64 (-1),.bool false,.slice none 0 0])):=by
 have hb:=Below.refl w.heap.size w
 go_enter Tryz.func181,Tryz.ntmps181
 go_upto_region 1 with fail
 refine wp_alloc1 (fun w1 a0 hk=>?_)
 replace hb:=hb.trans (hk.mono hb.size)
 clear hk
 obtain ⟨Aa,Ad,Ab,Ae,Ac,Af⟩:=cf3 a0
 go_wp2
 refine bodyPost_ret (v:=.agg #[.int .i64 (-1),.bool false,.slice none 0 0]) (by simp [results,Tryz.results181,go_sem,Aa,Ab,Ac]) rfl ⟨rfl,?_⟩
 repeat' (first | exact hb | refine Below.setCell ?_ (by first | exact Nat.le_refl _ | (dsimp only;omega)) _)
theorem wof_m1  (w:World) (R:EnvV w) :
   Calls Tryz.prog 150 #[.string ⟨#[45,49]⟩] w (Ret w (.agg #[.int .i64 (-1),.bool false,.slice none 0 0])):=by
 have c1:CV 104 #[.string ⟨#[45,49]⟩] (.tuple #[.int .i64 (-1),.bool true]):=fun w R=>(by have h:=ismall_in (-1) (by decide) (by decide) w R.toEnvR;rw [show itoaB (-1)=⟨#[45,49]⟩ from by decide +kernel] at h;exact h)
 have c2:=wfrom_m1
 have C1:=Lib.hid c1
 have C2:=Lib.hid c2
 clear c1 c2
 have hb:=Below.refl w.heap.size w
 go_enter Tryz.func150,Tryz.ntmps150
 go_upto_region 1 with fail
 refine wp_alloc1 (fun w1 a0 hk=>?_)
 replace hb:=hb.trans (hk.mono hb.size)
 clear hk
 obtain ⟨Aa,Ad,Ab,Ae,Ac,Af⟩:=cf3 a0
 go_wp2_with ((first | (go_at_call 104;with_reducible refine (chVB hb R C1).mono ?_) | (go_at_call 181;with_reducible refine (chVB hb R C2).mono ?_));clear hb;rintro e w1 ⟨rfl,hk,hb⟩;clear Aa Ab Ac Ad Ae Af;replace a0:=zB hk a0;obtain ⟨Aa,Ad,Ab,Ae,Ac,Af⟩:=cf3 a0;clear hk)
 refine bodyPost_ret (v:=.agg #[.int .i64 (-1),.bool false,.slice none 0 0]) (by simp [results,Tryz.results150,go_sem,Aa,Ab,Ac]) rfl ⟨rfl,?_⟩
 repeat' (first | exact hb | refine Below.setCell ?_ (by first | exact Nat.le_refl _ | (dsimp only;omega)) _)
theorem wfrom_m2  (w:World) (_R:EnvV w) :
   Calls Tryz.prog 181 #[.int .i64 (-2)] w (Ret w (.agg #[.int .i64 (-2),.bool false,.slice none 0 0])):=by
 have hb:=Below.refl w.heap.size w
 go_enter Tryz.func181,Tryz.ntmps181
 go_upto_region 1 with fail
 refine wp_alloc1 (fun w1 a0 hk=>?_)
 replace hb:=hb.trans (hk.mono hb.size)
 clear hk
 obtain ⟨Aa,Ad,Ab,Ae,Ac,Af⟩:=cf3 a0
 go_wp2
 refine bodyPost_ret (v:=.agg #[.int .i64 (-2),.bool false,.slice none 0 0]) (by simp [results,Tryz.results181,go_sem,Aa,Ab,Ac]) rfl ⟨rfl,?_⟩
 repeat' (first | exact hb | refine Below.setCell ?_ (by first | exact Nat.le_refl _ | (dsimp only;omega)) _)
theorem wof_m2  (w:World) (R:EnvV w) :
   Calls Tryz.prog 150 #[.string ⟨#[45,50]⟩] w (Ret w (.agg #[.int .i64 (-2),.bool false,.slice none 0 0])):=by
 have c1:CV 104 #[.string ⟨#[45,50]⟩] (.tuple #[.int .i64 (-2),.bool true]):=fun w R=>(by have h:=ismall_in (-2) (by decide) (by decide) w R.toEnvR;rw [show itoaB (-2)=⟨#[45,50]⟩ from by decide +kernel] at h;exact h)
 have c2:=wfrom_m2
 have C1:=Lib.hid c1
 have C2:=Lib.hid c2
 clear c1 c2
 have hb:=Below.refl w.heap.size w
 go_enter Tryz.func150,Tryz.ntmps150
 go_upto_region 1 with fail
 refine wp_alloc1 (fun w1 a0 hk=>?_)
 replace hb:=hb.trans (hk.mono hb.size)
 clear hk
 obtain ⟨Aa,Ad,Ab,Ae,Ac,Af⟩:=cf3 a0
 go_wp2_with ((first | (go_at_call 104;with_reducible refine (chVB hb R C1).mono ?_) | (go_at_call 181;with_reducible refine (chVB hb R C2).mono ?_));clear hb;rintro e w1 ⟨rfl,hk,hb⟩;clear Aa Ab Ac Ad Ae Af;replace a0:=zB hk a0;obtain ⟨Aa,Ad,Ab,Ae,Ac,Af⟩:=cf3 a0;clear hk)
 refine bodyPost_ret (v:=.agg #[.int .i64 (-2),.bool false,.slice none 0 0]) (by simp [results,Tryz.results150,go_sem,Aa,Ab,Ac]) rfl ⟨rfl,?_⟩
 repeat' (first | exact hb | refine Below.setCell ?_ (by first | exact Nat.le_refl _ | (dsimp only;omega)) _)
theorem wfrom_1  (w:World) (_R:EnvV w) :
   Calls Tryz.prog 181 #[.int .i64 1] w (Ret w (.agg #[.int .i64 1,.bool false,.slice none 0 0])):=by
 have hb:=Below.refl w.heap.size w
 go_enter Tryz.func181,Tryz.ntmps181
 go_upto_region 1 with fail
 refine wp_alloc1 (fun w1 a0 hk=>?_)
 replace hb:=hb.trans (hk.mono hb.size)
 clear hk
 obtain ⟨Aa,Ad,Ab,Ae,Ac,Af⟩:=cf3 a0
 go_wp2
 refine bodyPost_ret (v:=.agg #[.int .i64 1,.bool false,.slice none 0 0]) (by simp [results,Tryz.results181,go_sem,Aa,Ab,Ac]) rfl ⟨rfl,?_⟩
 repeat' (first | exact hb | refine Below.setCell ?_ (by first | exact Nat.le_refl _ | (dsimp only;omega)) _)
theorem wof_1  (w:World) (R:EnvV w) :
   Calls Tryz.prog 150 #[.string ⟨#[49]⟩] w (Ret w (.agg #[.int .i64 1,.bool false,.slice none 0 0])):=by
 have c1:CV 104 #[.string ⟨#[49]⟩] (.tuple #[.int .i64 1,.bool true]):=fun w R=>(by have h:=ismall_in 1 (by decide) (by decide) w R.toEnvR;rw [show itoaB 1=⟨#[49]⟩ from by decide +kernel] at h;exact h)
 have c2:=wfrom_1
 have C1:=Lib.hid c1
 have C2:=Lib.hid c2
 clear c1 c2
 have hb:=Below.refl w.heap.size w
 go_enter Tryz.func150,Tryz.ntmps150
 go_upto_region 1 with fail
 refine wp_alloc1 (fun w1 a0 hk=>?_)
 replace hb:=hb.trans (hk.mono hb.size)
 clear hk
 obtain ⟨Aa,Ad,Ab,Ae,Ac,Af⟩:=cf3 a0
 go_wp2_with ((first | (go_at_call 104;with_reducible refine (chVB hb R C1).mono ?_) | (go_at_call 181;with_reducible refine (chVB hb R C2).mono ?_));clear hb;rintro e w1 ⟨rfl,hk,hb⟩;clear Aa Ab Ac Ad Ae Af;replace a0:=zB hk a0;obtain ⟨Aa,Ad,Ab,Ae,Ac,Af⟩:=cf3 a0;clear hk)
 refine bodyPost_ret (v:=.agg #[.int .i64 1,.bool false,.slice none 0 0]) (by simp [results,Tryz.results150,go_sem,Aa,Ab,Ac]) rfl ⟨rfl,?_⟩
 repeat' (first | exact hb | refine Below.setCell ?_ (by first | exact Nat.le_refl _ | (dsimp only;omega)) _)
theorem it_m1 : itoaB (-1)=⟨#[45,49]⟩:=by decide +kernel
theorem it_m2 : itoaB (-2)=⟨#[45,50]⟩:=by decide +kernel
theorem it_p1 : itoaB 1=⟨#[49]⟩:=by decide +kernel
def PrimP (w:World):Ending→World→Prop:=fun e w' => ∃ B,w.heap.size≤B∧e = .returned (.tuple #[.slice (some ⟨B,0,none⟩) 3 3,.string ⟨#[49]⟩])∧w'.heap[B]? = some (Obj.cells #[Value.int .i64 (-1),Value.bool false,Value.slice none 0 0,Value.int .i64 (-2),Value.bool false,Value.slice none 0 0,Value.int .i64 1,Value.bool false,Value.slice none 0 0] 149)∧Below w.heap.size w w'
theorem wprim (blk:Nat) (w:World) (R:EnvV w) (x0:w.cell? ⟨blk,0,none⟩=some (.string ⟨#[45,49]⟩)) (x1:w.cell? ⟨blk,1,none⟩=some (.string ⟨#[45,50]⟩)) (x2:w.cell? ⟨blk,2,none⟩=some (.string ⟨#[49]⟩)) :
   Calls Tryz.prog 119 #[.slice (some ⟨blk,0,none⟩) 3 3] w (PrimP w):=by
 have X:=Lib.hid (And.intro x0 (And.intro x1 x2))
 clear x0 x1 x2
 have HPm1:=Lib.hid (show CV 48 #[.string ⟨#[45,49]⟩] (.tuple #[.string ⟨#[45,49]⟩,.string ⟨#[49]⟩]) from fun w R=>by have h:=rparts_any (-1:Rat) w R.toEnvR (rn_m1.rl);rw [rb_m1,show itoaB ((-1:Rat)).num=⟨#[45,49]⟩ from by decide +kernel,show itoaB (((-1:Rat)).den:Int)=⟨#[49]⟩ from by decide +kernel] at h;exact h)
 have HMm1:=Lib.hid (show CV 23 #[.string ⟨#[45,49]⟩,.string ⟨#[49]⟩] (.string ⟨#[45,49]⟩) from fun w R=>by have h:=rmul_any (-1:Rat) (1:Rat) (rn_m1.rl) (rn_1.rl) w R.toEnvR;rw [Rat.mul_one,rb_m1] at h;first | exact h | (rw [rb_1] at h;exact h))
 have HOm1:=Lib.hid (show CV 150 #[.string ⟨#[45,49]⟩] (.agg #[.int .i64 (-1),.bool false,.slice none 0 0]) from fun w R=>wof_m1 w R)
 have HPm2:=Lib.hid (show CV 48 #[.string ⟨#[45,50]⟩] (.tuple #[.string ⟨#[45,50]⟩,.string ⟨#[49]⟩]) from fun w R=>by have h:=rparts_any (-2:Rat) w R.toEnvR (rn_m2.rl);rw [rb_m2,show itoaB ((-2:Rat)).num=⟨#[45,50]⟩ from by decide +kernel,show itoaB (((-2:Rat)).den:Int)=⟨#[49]⟩ from by decide +kernel] at h;exact h)
 have HMm2:=Lib.hid (show CV 23 #[.string ⟨#[45,50]⟩,.string ⟨#[49]⟩] (.string ⟨#[45,50]⟩) from fun w R=>by have h:=rmul_any (-2:Rat) (1:Rat) (rn_m2.rl) (rn_1.rl) w R.toEnvR;rw [Rat.mul_one,rb_m2] at h;first | exact h | (rw [rb_1] at h;exact h))
 have HOm2:=Lib.hid (show CV 150 #[.string ⟨#[45,50]⟩] (.agg #[.int .i64 (-2),.bool false,.slice none 0 0]) from fun w R=>wof_m2 w R)
 have HP1:=Lib.hid (show CV 48 #[.string ⟨#[49]⟩] (.tuple #[.string ⟨#[49]⟩,.string ⟨#[49]⟩]) from fun w R=>by have h:=rparts_any (1:Rat) w R.toEnvR (rn_1.rl);rw [rb_1,show itoaB ((1:Rat)).num=⟨#[49]⟩ from by decide +kernel,show itoaB (((1:Rat)).den:Int)=⟨#[49]⟩ from by decide +kernel] at h;exact h)
 have HM1:=Lib.hid (show CV 23 #[.string ⟨#[49]⟩,.string ⟨#[49]⟩] (.string ⟨#[49]⟩) from fun w R=>by have h:=rmul_any (1:Rat) (1:Rat) (rn_1.rl) (rn_1.rl) w R.toEnvR;rw [Rat.mul_one,rb_1] at h;first | exact h | (rw [rb_1] at h;exact h))
 have HO1:=Lib.hid (show CV 150 #[.string ⟨#[49]⟩] (.agg #[.int .i64 1,.bool false,.slice none 0 0]) from fun w R=>wof_1 w R)
 have HG0:=Lib.hid (show CV 100 #[.string ⟨#[48]⟩,.string ⟨#[45,49]⟩] (.string ⟨#[49]⟩) from fun w R=>by have h:=i_gcdn 0 (-1) (by decide +kernel) (by decide +kernel) w R.toEnvR.env;(try rw [show itoaB ((Nat.gcd 0 ((-1):Int).natAbs:Nat):Int)=⟨#[49]⟩ from by decide +kernel] at h);(try rw [show itoaB ((0:Nat):Int)=⟨#[48]⟩ from by decide +kernel] at h);(try rw [show itoaB (-1)=⟨#[45,49]⟩ from by decide +kernel] at h);exact h)
 have HG1:=Lib.hid (show CV 100 #[.string ⟨#[49]⟩,.string ⟨#[45,50]⟩] (.string ⟨#[49]⟩) from fun w R=>by have h:=i_gcdn 1 (-2) (by decide +kernel) (by decide +kernel) w R.toEnvR.env;(try rw [show itoaB ((Nat.gcd 1 ((-2):Int).natAbs:Nat):Int)=⟨#[49]⟩ from by decide +kernel] at h);(try rw [show itoaB ((1:Nat):Int)=⟨#[49]⟩ from by decide +kernel] at h);(try rw [show itoaB (-2)=⟨#[45,50]⟩ from by decide +kernel] at h);exact h)
 have HG2:=Lib.hid (show CV 100 #[.string ⟨#[49]⟩,.string ⟨#[49]⟩] (.string ⟨#[49]⟩) from fun w R=>by have h:=i_gcdn 1 1 (by decide +kernel) (by decide +kernel) w R.toEnvR.env;(try rw [show itoaB ((Nat.gcd 1 (1:Int).natAbs:Nat):Int)=⟨#[49]⟩ from by decide +kernel] at h);(try rw [show itoaB ((1:Nat):Int)=⟨#[49]⟩ from by decide +kernel] at h);(try rw [show itoaB 1=⟨#[49]⟩ from by decide +kernel] at h);exact h)
 have HD:=Lib.hid (show CV 125 #[.string ⟨#[49]⟩,.string ⟨#[49]⟩] (.tuple #[.string ⟨#[49]⟩,.string ⟨#[48]⟩,.int .i64 0]) from fun w R=>by have h:=i_div 1 1 (by decide) (by decide +kernel) (by decide +kernel) w R.toEnvR.env;rw [show itoaB ((1 / 1:Nat):Int)=⟨#[49]⟩ from by decide +kernel,show itoaB (((1:Nat):Int) % ((1:Nat):Int))=⟨#[48]⟩ from by decide +kernel] at h;exact h)
 have HU:=Lib.hid (show CV 101 #[.string ⟨#[49]⟩,.string ⟨#[49]⟩] (.string ⟨#[49]⟩) from fun w R=>by have h:=mul_any 1 1 w R.toEnvR.env (by decide +kernel) (by decide +kernel);rw [show (1:Int)*1=1 from by decide,it_p1] at h;exact h)
 have HN:=Lib.hid (show CV 126 #[.string ⟨#[49]⟩,.string ⟨#[49]⟩] (.tuple #[.string ⟨#[49]⟩,.int .i64 0]) from fun w R=>by have h:=rnew_any 1 1 w R.toEnvR (by decide +kernel) (by decide +kernel) (by decide);rw [it_p1,show ratB (Rat.divInt 1 1)=⟨#[49]⟩ from by decide +kernel] at h;exact h)
 have hmk:∀ w:World,(Instr.makeSlice 143 (.int .i64 3) (.int .i64 3)).run Tryz.prog w = .ok (.slice (some ⟨w.heap.size,0,none⟩) 3 3) (w.alloc (Obj.cells #[Value.int .i64 0,Value.bool false,Value.slice none 0 0,Value.int .i64 0,Value.bool false,Value.slice none 0 0,Value.int .i64 0,Value.bool false,Value.slice none 0 0] 149)):=fun w=>by kernel_rfl
 go_enter Tryz.func119,Tryz.ntmps119
 go_wp2
 go_loopw [18,4,5] (fun i m d wr=>((i = .int .i64 0∧m = .string ⟨#[49]⟩∧d = .string ⟨#[48]⟩)∨(i = .int .i64 1∧m = .string ⟨#[49]⟩∧d = .string ⟨#[49]⟩)∨(i = .int .i64 2∧m = .string ⟨#[49]⟩∧d = .string ⟨#[49]⟩)∨(i = .int .i64 3∧m = .string ⟨#[49]⟩∧d = .string ⟨#[49]⟩))∧Below w.heap.size w wr) (fun i _ _ _=>3 - (intOf i).toNat)
 case atStart=>exact ⟨Or.inl ⟨rfl,rfl,rfl⟩,Below.refl _ _⟩
 case round =>
   obtain ⟨⟨rfl,rfl,rfl⟩ | ⟨rfl,rfl,rfl⟩ | ⟨rfl,rfl,rfl⟩ | ⟨rfl,rfl,rfl⟩,hb⟩:=hrel
   all_goals have x0:=zC hb X.out.1
   all_goals have x1:=zC hb X.out.2.1
   all_goals have x2:=zC hb X.out.2.2
   · go_wp2_with (first | (go_at_call 48;((with_reducible refine (zK hb (HPm1.out _ (R.below hb))).mono ?_);clear hb;rintro e w1 ⟨rfl,hk,hb⟩;clear hk)) | (go_at_call 100;first | ((with_reducible refine (zK hb (HG0.out _ (R.below hb))).mono ?_);clear hb;rintro e w1 ⟨rfl,hk,hb⟩;clear hk) | ((with_reducible refine (zK hb (HG2.out _ (R.below hb))).mono ?_);clear hb;rintro e w1 ⟨rfl,hk,hb⟩;clear hk)) | (go_at_call 125;((with_reducible refine (zK hb (HD.out _ (R.below hb))).mono ?_);clear hb;rintro e w1 ⟨rfl,hk,hb⟩;clear hk)) | (go_at_call 101;((with_reducible refine (zK hb (HU.out _ (R.below hb))).mono ?_);clear hb;rintro e w1 ⟨rfl,hk,hb⟩;clear hk)))
     go_roundw
     case rel=>exact ⟨Or.inr (Or.inl ⟨rfl,rfl,rfl⟩),hb⟩
     case measure=>simp [intOf]
   · go_wp2_with (first | (go_at_call 48;((with_reducible refine (zK hb (HPm2.out _ (R.below hb))).mono ?_);clear hb;rintro e w1 ⟨rfl,hk,hb⟩;clear hk)) | (go_at_call 100;first | ((with_reducible refine (zK hb (HG1.out _ (R.below hb))).mono ?_);clear hb;rintro e w1 ⟨rfl,hk,hb⟩;clear hk) | ((with_reducible refine (zK hb (HG2.out _ (R.below hb))).mono ?_);clear hb;rintro e w1 ⟨rfl,hk,hb⟩;clear hk)) | (go_at_call 125;((with_reducible refine (zK hb (HD.out _ (R.below hb))).mono ?_);clear hb;rintro e w1 ⟨rfl,hk,hb⟩;clear hk)) | (go_at_call 101;((with_reducible refine (zK hb (HU.out _ (R.below hb))).mono ?_);clear hb;rintro e w1 ⟨rfl,hk,hb⟩;clear hk)))
     go_roundw
     case rel=>exact ⟨Or.inr (Or.inr (Or.inl ⟨rfl,rfl,rfl⟩)),hb⟩
     case measure=>simp [intOf]
   · go_wp2_with (first | (go_at_call 48;((with_reducible refine (zK hb (HP1.out _ (R.below hb))).mono ?_);clear hb;rintro e w1 ⟨rfl,hk,hb⟩;clear hk)) | (go_at_call 100;((with_reducible refine (zK hb (HG2.out _ (R.below hb))).mono ?_);clear hb;rintro e w1 ⟨rfl,hk,hb⟩;clear hk)) | (go_at_call 125;((with_reducible refine (zK hb (HD.out _ (R.below hb))).mono ?_);clear hb;rintro e w1 ⟨rfl,hk,hb⟩;clear hk)) | (go_at_call 101;((with_reducible refine (zK hb (HU.out _ (R.below hb))).mono ?_);clear hb;rintro e w1 ⟨rfl,hk,hb⟩;clear hk)))
     go_roundw
     case rel=>exact ⟨Or.inr (Or.inr (Or.inr (⟨rfl,rfl,rfl⟩))),hb⟩
     case measure=>simp [intOf]
   · clear x0 x1 x2
     go_upto_region 14 with (first | (go_at_call 126;((with_reducible refine (zK hb (HN.out _ (R.below hb))).mono ?_);clear hb;rintro e w1 ⟨rfl,hk,hb⟩;clear hk)))
     obtain ⟨B,eB⟩:∃ B,w1.heap.size=B:=⟨_,rfl⟩
     have hB:w.heap.size≤B:=by rw [← eB];exact hb.size
     refine wp_alloc1 (fun w1 aB hk=>?_)
     rw [eB] at aB ⊢
     clear eB
     replace hb:=hb.trans (hk.mono hb.size)
     clear hk
     have HA:=Lib.hid aB
     have HB:=Lib.hid hb
     clear aB hb
     go_wp2
     go_loopw [56] (fun i wr=>((i = .int .i64 0∧wr.heap[B]? = some (Obj.cells #[Value.int .i64 0,Value.bool false,Value.slice none 0 0,Value.int .i64 0,Value.bool false,Value.slice none 0 0,Value.int .i64 0,Value.bool false,Value.slice none 0 0] 149))∨(i = .int .i64 1∧wr.heap[B]? = some (Obj.cells #[Value.int .i64 (-1),Value.bool false,Value.slice none 0 0,Value.int .i64 0,Value.bool false,Value.slice none 0 0,Value.int .i64 0,Value.bool false,Value.slice none 0 0] 149))∨(i = .int .i64 2∧wr.heap[B]? = some (Obj.cells #[Value.int .i64 (-1),Value.bool false,Value.slice none 0 0,Value.int .i64 (-2),Value.bool false,Value.slice none 0 0,Value.int .i64 0,Value.bool false,Value.slice none 0 0] 149))∨(i = .int .i64 3∧wr.heap[B]? = some (Obj.cells #[Value.int .i64 (-1),Value.bool false,Value.slice none 0 0,Value.int .i64 (-2),Value.bool false,Value.slice none 0 0,Value.int .i64 1,Value.bool false,Value.slice none 0 0] 149)))∧Below w.heap.size w wr) (fun i _=>3 - (intOf i).toNat)
     case atStart=>exact ⟨Or.inl ⟨rfl,HA.out⟩,HB.out⟩
     case round =>
       obtain ⟨⟨rfl,aB⟩ | ⟨rfl,aB⟩ | ⟨rfl,aB⟩ | ⟨rfl,aB⟩,hb⟩:=hrel
       all_goals have x0:=zC hb X.out.1
       all_goals have x1:=zC hb X.out.2.1
       all_goals have x2:=zC hb X.out.2.2
       · obtain ⟨w1,ew⟩:∃ w1,w1=wr:=⟨_,rfl⟩
         subst ew
         go_upto_region 17 with fail
         have f0:w1.frozen? ⟨B,0,none⟩=false:=zD aB
         have y0:w1.cell? ⟨B,0,none⟩=some (Value.int .i64 0):=zA aB
         have f1:w1.frozen? ⟨B,1,none⟩=false:=zD aB
         have y1:w1.cell? ⟨B,1,none⟩=some (Value.bool false):=zA aB
         have f2:w1.frozen? ⟨B,2,none⟩=false:=zD aB
         have y2:w1.cell? ⟨B,2,none⟩=some (Value.slice none 0 0):=zA aB
         go_wp2_with (first | (go_at_call 23;((with_reducible refine (zK hb (HMm1.out _ (R.below hb))).mono ?_);clear hb;rintro e w1 ⟨rfl,hk,hb⟩;replace f0:=zF hk aB f0;replace y0:=zC hk y0;replace f1:=zF hk aB f1;replace y1:=zC hk y1;replace f2:=zF hk aB f2;replace y2:=zC hk y2;replace x0:=zC hk x0;replace x1:=zC hk x1;replace x2:=zC hk x2;replace aB:=zB hk aB;clear hk)) | (go_at_call 150;((with_reducible refine (zK hb (HOm1.out _ (R.below hb))).mono ?_);clear hb;rintro e w1 ⟨rfl,hk,hb⟩;replace f0:=zF hk aB f0;replace y0:=zC hk y0;replace f1:=zF hk aB f1;replace y1:=zC hk y1;replace f2:=zF hk aB f2;replace y2:=zC hk y2;replace x0:=zC hk x0;replace x1:=zC hk x1;replace x2:=zC hk x2;replace aB:=zB hk aB;clear hk)))
         go_roundw
         case rel =>
           refine ⟨Or.inr (Or.inl ⟨rfl,?_⟩),?_⟩
           · exact setCell_here (setCell_here (setCell_here aB _) _) _
           · exact Below.setCell (Below.setCell (Below.setCell hb hB _) hB _) hB _
         case measure=>simp [intOf]
       · obtain ⟨w1,ew⟩:∃ w1,w1=wr:=⟨_,rfl⟩
         subst ew
         go_upto_region 17 with fail
         have f0:w1.frozen? ⟨B,3,none⟩=false:=zD aB
         have y0:w1.cell? ⟨B,3,none⟩=some (Value.int .i64 0):=zA aB
         have f1:w1.frozen? ⟨B,4,none⟩=false:=zD aB
         have y1:w1.cell? ⟨B,4,none⟩=some (Value.bool false):=zA aB
         have f2:w1.frozen? ⟨B,5,none⟩=false:=zD aB
         have y2:w1.cell? ⟨B,5,none⟩=some (Value.slice none 0 0):=zA aB
         go_wp2_with (first | (go_at_call 23;((with_reducible refine (zK hb (HMm2.out _ (R.below hb))).mono ?_);clear hb;rintro e w1 ⟨rfl,hk,hb⟩;replace f0:=zF hk aB f0;replace y0:=zC hk y0;replace f1:=zF hk aB f1;replace y1:=zC hk y1;replace f2:=zF hk aB f2;replace y2:=zC hk y2;replace x0:=zC hk x0;replace x1:=zC hk x1;replace x2:=zC hk x2;replace aB:=zB hk aB;clear hk)) | (go_at_call 150;((with_reducible refine (zK hb (HOm2.out _ (R.below hb))).mono ?_);clear hb;rintro e w1 ⟨rfl,hk,hb⟩;replace f0:=zF hk aB f0;replace y0:=zC hk y0;replace f1:=zF hk aB f1;replace y1:=zC hk y1;replace f2:=zF hk aB f2;replace y2:=zC hk y2;replace x0:=zC hk x0;replace x1:=zC hk x1;replace x2:=zC hk x2;replace aB:=zB hk aB;clear hk)))
         go_roundw
         case rel =>
           refine ⟨Or.inr (Or.inr (Or.inl ⟨rfl,?_⟩)),?_⟩
           · exact setCell_here (setCell_here (setCell_here aB _) _) _
           · exact Below.setCell (Below.setCell (Below.setCell hb hB _) hB _) hB _
         case measure=>simp [intOf]
       · obtain ⟨w1,ew⟩:∃ w1,w1=wr:=⟨_,rfl⟩
         subst ew
         go_upto_region 17 with fail
         have f0:w1.frozen? ⟨B,6,none⟩=false:=zD aB
         have y0:w1.cell? ⟨B,6,none⟩=some (Value.int .i64 0):=zA aB
         have f1:w1.frozen? ⟨B,7,none⟩=false:=zD aB
         have y1:w1.cell? ⟨B,7,none⟩=some (Value.bool false):=zA aB
         have f2:w1.frozen? ⟨B,8,none⟩=false:=zD aB
         have y2:w1.cell? ⟨B,8,none⟩=some (Value.slice none 0 0):=zA aB
         go_wp2_with (first | (go_at_call 23;((with_reducible refine (zK hb (HM1.out _ (R.below hb))).mono ?_);clear hb;rintro e w1 ⟨rfl,hk,hb⟩;replace f0:=zF hk aB f0;replace y0:=zC hk y0;replace f1:=zF hk aB f1;replace y1:=zC hk y1;replace f2:=zF hk aB f2;replace y2:=zC hk y2;replace x0:=zC hk x0;replace x1:=zC hk x1;replace x2:=zC hk x2;replace aB:=zB hk aB;clear hk)) | (go_at_call 150;((with_reducible refine (zK hb (HO1.out _ (R.below hb))).mono ?_);clear hb;rintro e w1 ⟨rfl,hk,hb⟩;replace f0:=zF hk aB f0;replace y0:=zC hk y0;replace f1:=zF hk aB f1;replace y1:=zC hk y1;replace f2:=zF hk aB f2;replace y2:=zC hk y2;replace x0:=zC hk x0;replace x1:=zC hk x1;replace x2:=zC hk x2;replace aB:=zB hk aB;clear hk)))
         go_roundw
         case rel =>
           refine ⟨Or.inr (Or.inr (Or.inr (⟨rfl,?_⟩))),?_⟩
           · exact setCell_here (setCell_here (setCell_here aB _) _) _
           · exact Below.setCell (Below.setCell (Below.setCell hb hB _) hB _) hB _
         case measure=>simp [intOf]
       · go_wp2
         first | go_ret | go_ret2 | go_ret3
         exact ⟨B,hB,rfl,aB,hb⟩
theorem ptext_0 (A B:Nat) (w:World) (R:EnvV w) (xA:w.cell? ⟨A,0,none⟩=some (.slice (some ⟨B,0,none⟩) 3 3)) (c0:w.cell? ⟨B,0,none⟩=some (.int .i64 (-1))) (c1:w.cell? ⟨B,1,none⟩=some (.bool false)) (c2:w.cell? ⟨B,2,none⟩=some (.slice none 0 0)) :
   Calls Tryz.prog 120 #[.int .i64 0,.pointer (some ⟨A,0,none⟩)] w (Ret w (.string ⟨#[45,49]⟩)):=by
 have HT:=Lib.hid (show CV 121 #[.agg #[.int .i64 (-1),.bool false,.slice none 0 0]] (.string ⟨#[45,49]⟩) from fun w R=>(by have h:=wtext_k (-1) (by decide) w R;rw [it_m1] at h;exact h))
 have hb:=Below.refl w.heap.size w
 go_enter Tryz.func120,Tryz.ntmps120
 go_wp2_with (go_at_call 121;((with_reducible refine (zK hb (HT.out _ (R.below hb))).mono ?_);clear hb;rintro e w1 ⟨rfl,hk,hb⟩;clear hk))
 first | go_ret | go_ret2 | go_ret3
 exact ⟨rfl,hb⟩
theorem ptext_1 (A B:Nat) (w:World) (R:EnvV w) (xA:w.cell? ⟨A,0,none⟩=some (.slice (some ⟨B,0,none⟩) 3 3)) (c0:w.cell? ⟨B,3,none⟩=some (.int .i64 (-2))) (c1:w.cell? ⟨B,4,none⟩=some (.bool false)) (c2:w.cell? ⟨B,5,none⟩=some (.slice none 0 0)) :
   Calls Tryz.prog 120 #[.int .i64 1,.pointer (some ⟨A,0,none⟩)] w (Ret w (.string ⟨#[45,50]⟩)):=by
 have HT:=Lib.hid (show CV 121 #[.agg #[.int .i64 (-2),.bool false,.slice none 0 0]] (.string ⟨#[45,50]⟩) from fun w R=>(by have h:=wtext_k (-2) (by decide) w R;rw [it_m2] at h;exact h))
 have hb:=Below.refl w.heap.size w
 go_enter Tryz.func120,Tryz.ntmps120
 go_wp2_with (go_at_call 121;((with_reducible refine (zK hb (HT.out _ (R.below hb))).mono ?_);clear hb;rintro e w1 ⟨rfl,hk,hb⟩;clear hk))
 first | go_ret | go_ret2 | go_ret3
 exact ⟨rfl,hb⟩
theorem ptext_2 (A B:Nat) (w:World) (R:EnvV w) (xA:w.cell? ⟨A,0,none⟩=some (.slice (some ⟨B,0,none⟩) 3 3)) (c0:w.cell? ⟨B,6,none⟩=some (.int .i64 1)) (c1:w.cell? ⟨B,7,none⟩=some (.bool false)) (c2:w.cell? ⟨B,8,none⟩=some (.slice none 0 0)) :
   Calls Tryz.prog 120 #[.int .i64 2,.pointer (some ⟨A,0,none⟩)] w (Ret w (.string ⟨#[49]⟩)):=by
 have HT:=Lib.hid (show CV 121 #[.agg #[.int .i64 1,.bool false,.slice none 0 0]] (.string ⟨#[49]⟩) from fun w R=>(by have h:=wtext_k 1 (by decide) w R;rw [it_p1] at h;exact h))
 have hb:=Below.refl w.heap.size w
 go_enter Tryz.func120,Tryz.ntmps120
 go_wp2_with (go_at_call 121;((with_reducible refine (zK hb (HT.out _ (R.below hb))).mono ?_);clear hb;rintro e w1 ⟨rfl,hk,hb⟩;clear hk))
 first | go_ret | go_ret2 | go_ret3
 exact ⟨rfl,hb⟩
theorem xprim (w:World) (R:EnvV w) :
   Calls Tryz.prog 90 #[.agg #[.string ⟨#[45,49]⟩,.string ⟨#[45,50]⟩,.string ⟨#[49]⟩]] w (Ret w (.tuple #[.agg #[.string ⟨#[45,49]⟩,.string ⟨#[45,50]⟩,.string ⟨#[49]⟩],.string ⟨#[49]⟩])):=by
 have hb:=Below.refl w.heap.size w
 go_enter Tryz.func90,Tryz.ntmps90
 go_upto_region 1 with fail
 refine wp_alloc2 (fun w1 a0 a1 hk=>?_)
 replace hb:=hb.trans (hk.mono hb.size)
 clear hk
 obtain ⟨Ag,Ah,Ai⟩:=ce3 a0
 obtain ⟨Aa,Ad,Ab,Ae,Ac,Af⟩:=cf3 a1
 go_upto_region 2 with (go_at_call 119;(refine calls_alloc1 (fun w1 aS hk=>?_));clear Aa Ab Ac Ad Ae Af;replace a1:=zB hk a1;obtain ⟨Aa,Ad,Ab,Ae,Ac,Af⟩:=cf3 a1;replace hb:=hb.trans (hk.mono hb.size);clear hk;(refine (wprim _ _ (R.below hb) (zA aS) (zA aS) (zA aS)).mono ?_);clear aS;rintro e w1 ⟨B,hB,rfl,aB,hk⟩;clear Aa Ab Ac Ad Ae Af;replace a1:=zB hk a1;obtain ⟨Aa,Ad,Ab,Ae,Ac,Af⟩:=cf3 a1;replace hb:=hb.trans (hk.mono hb.size);clear hk hB)
 refine wp_alloc1 (fun w1 aA hk=>?_)
 clear Aa Ab Ac Ad Ae Af
 replace a1:=zB hk a1
 replace aB:=zB hk aB
 obtain ⟨Aa,Ad,Ab,Ae,Ac,Af⟩:=cf3 a1
 replace hb:=hb.trans (hk.mono hb.size)
 clear hk
 have xA:w1.cell? ⟨_,0,none⟩=some (Value.slice (some ⟨B,0,none⟩) 3 3):=zA aA
 go_wp2_with (go_at_call 120;first | ((with_reducible refine (zK hb (ptext_0 _ _ _ (R.below hb) xA (zA aB) (zA aB) (zA aB))).mono ?_);clear hb;rintro e w1 ⟨rfl,hk,hb⟩;replace xA:=zC hk xA;clear Aa Ab Ac Ad Ae Af;replace a1:=zB hk a1;replace aB:=zB hk aB;replace aA:=zB hk aA;obtain ⟨Aa,Ad,Ab,Ae,Ac,Af⟩:=cf3 a1;clear hk) | ((with_reducible refine (zK hb (ptext_1 _ _ _ (R.below hb) xA (zA aB) (zA aB) (zA aB))).mono ?_);clear hb;rintro e w1 ⟨rfl,hk,hb⟩;replace xA:=zC hk xA;clear Aa Ab Ac Ad Ae Af;replace a1:=zB hk a1;replace aB:=zB hk aB;replace aA:=zB hk aA;obtain ⟨Aa,Ad,Ab,Ae,Ac,Af⟩:=cf3 a1;clear hk) | ((with_reducible refine (zK hb (ptext_2 _ _ _ (R.below hb) xA (zA aB) (zA aB) (zA aB))).mono ?_);clear hb;rintro e w1 ⟨rfl,hk,hb⟩;replace xA:=zC hk xA;clear Aa Ab Ac Ad Ae Af;replace a1:=zB hk a1;replace aB:=zB hk aB;replace aA:=zB hk aA;obtain ⟨Aa,Ad,Ab,Ae,Ac,Af⟩:=cf3 a1;clear hk))
 refine bodyPost_ret (v:=.tuple #[.agg #[.string ⟨#[45,49]⟩,.string ⟨#[45,50]⟩,.string ⟨#[49]⟩],.string ⟨#[49]⟩]) (by simp [results,Tryz.results90,go_sem,Aa,Ab,Ac]) rfl ⟨rfl,?_⟩
 repeat' (first | exact hb | refine Below.setCell ?_ (by first | exact Nat.le_refl _ | (dsimp only;omega)) _)
set_option maxRecDepth 512 in
theorem rsum_0 (w:World) (R:EnvV w) :
   Calls Tryz.prog 123 #[.slice (some ⟨w.heap.size,0,none⟩) 3 3] (w.alloc (Obj.cells #[Value.string ⟨#[48]⟩,Value.string ⟨#[48]⟩,Value.string ⟨#[48]⟩] 22)) (Ret w (.string ⟨#[48]⟩)):=by
 have hba:Below w.heap.size w (w.alloc (Obj.cells #[Value.string ⟨#[48]⟩,Value.string ⟨#[48]⟩,Value.string ⟨#[48]⟩] 22)):=(Below.refl _ _).alloc (Nat.le_refl _) _
 have ad:CV 24 #[.string ⟨#[48]⟩,.string ⟨#[48]⟩] (.string ⟨#[48]⟩):=fun w R=>by
   have h:=radd_any 0 0 (rn_0.rl) (rn_0.rl) w R.toEnvR
   rw [Rat.add_zero,rb_0] at h;exact h
 exact (rsum3_w w.heap.size _ _ _ _ _ _ ad ad ad _ (R.below hba) (by simp [go_sem]) (by simp [go_sem]) (by simp [go_sem])).mono fun e w' h=>⟨h.1,hba.trans (h.2.mono hba.size)⟩
theorem xdot_k  (w:World) (R:EnvV w) :
   Calls Tryz.prog 92 #[.agg #[.string ⟨#[45,49]⟩,.string ⟨#[45,50]⟩,.string ⟨#[49]⟩],.agg #[.string ⟨#[48]⟩,.string ⟨#[48]⟩,.string ⟨#[48]⟩]] w (Ret w (.string ⟨#[48]⟩)):=by
 have Aj:=RN_mul rn_m1 rn_0
 have Ak:=RN_mul rn_m2 rn_0
 have Al:=RN_mul rn_1 rn_0
 have c1:CV 23 #[.string ⟨#[45,49]⟩,.string ⟨#[48]⟩] (.string ⟨#[48]⟩):=fun w R=>(by have h:=(by have h:=rmul_any (-1:Rat) (0:Rat) (RN.rl (K:=10000) rn_m1) (RN.rl (K:=10000) rn_0) w R.toEnvR;simp only [rb_m1,rb_0] at h;exact h);simp only [show ratB ((-1:Rat)*(0:Rat))=⟨#[48]⟩ from by decide +kernel] at h;exact h)
 have c2:CV 23 #[.string ⟨#[45,50]⟩,.string ⟨#[48]⟩] (.string ⟨#[48]⟩):=fun w R=>(by have h:=(by have h:=rmul_any (-2:Rat) (0:Rat) (RN.rl (K:=10000) rn_m2) (RN.rl (K:=10000) rn_0) w R.toEnvR;simp only [rb_m2,rb_0] at h;exact h);simp only [show ratB ((-2:Rat)*(0:Rat))=⟨#[48]⟩ from by decide +kernel] at h;exact h)
 have c3:CV 23 #[.string ⟨#[49]⟩,.string ⟨#[48]⟩] (.string ⟨#[48]⟩):=fun w R=>(by have h:=(by have h:=rmul_any (1:Rat) (0:Rat) (RN.rl (K:=10000) rn_1) (RN.rl (K:=10000) rn_0) w R.toEnvR;simp only [rb_0,rb_1] at h;exact h);simp only [show ratB ((1:Rat)*(0:Rat))=⟨#[48]⟩ from by decide +kernel] at h;exact h)
 have c4:=rsum_0
 have C1:=Lib.hid c1
 have C2:=Lib.hid c2
 have C3:=Lib.hid c3
 have C4:=Lib.hid c4
 clear c1 c2 c3 c4 Aj Ak Al
 have hb:=Below.refl w.heap.size w
 go_enter Tryz.func92,Tryz.ntmps92
 go_upto_region 1 with fail
 refine wp_alloc2 (fun w1 a0 a1 hk=>?_)
 replace hb:=hb.trans (hk.mono hb.size)
 clear hk
 obtain ⟨Aa,Ab,Ac⟩:=ce3 a0
 obtain ⟨Ad,Ae,Af⟩:=ce3 a1
 go_upto_region 1 with fail
 obtain ⟨Am,An,Ao⟩:=cy3 a0
 obtain ⟨Ap,Aq,Ar⟩:=cy3 a1
 have Ag:=rrV C1 R hb
 have Ah:=rrV C2 R hb
 have Ai:=rrV C3 R hb
 refine wp_region_tail_below 15 (by first | assumption | kernel_rfl) (by kernel_rfl) ?_
 simp only [List.take_succ_cons,List.take_zero,List.drop_succ_cons,List.drop_zero]
 repeat (quiet_step (first | (with_reducible exact Ag.out _ _) | (with_reducible exact Ah.out _ _) | (with_reducible exact Ai.out _ _)))
 refine wpQuiet_nil ?_
 intro w1 hw'
 obtain ⟨hk,hb⟩:=zQ hb hw'
 clear Aa Ab Ac Ad Ae Af
 replace a0:=zB hk a0
 replace a1:=zB hk a1
 obtain ⟨Aa,Ab,Ac⟩:=ce3 a0
 obtain ⟨Ad,Ae,Af⟩:=ce3 a1
 clear Ag Ah Ai Am An Ao Ap Aq Ar
 clear hk hw'
 go_wp2_with (go_at_call 123;with_reducible refine (zL hb (C4.out _ (R.below hb))).mono ?_;clear hb;rintro e w1 ⟨rfl,hk,hb⟩;clear Aa Ab Ac Ad Ae Af;replace a0:=zB hk a0;replace a1:=zB hk a1;obtain ⟨Aa,Ab,Ac⟩:=ce3 a0;obtain ⟨Ad,Ae,Af⟩:=ce3 a1;clear hk)
 first | go_ret | go_ret2 | go_ret3
 exact ⟨rfl,hb⟩
theorem three_k  (w:World) (R:EnvV w) :
   Calls Tryz.prog 43 #[.agg #[.string ⟨#[48]⟩,.string ⟨#[48]⟩,.string ⟨#[48]⟩],.agg #[.string ⟨#[49]⟩,.string ⟨#[48]⟩,.string ⟨#[49]⟩],.agg #[.string ⟨#[48]⟩,.string ⟨#[49]⟩,.string ⟨#[50]⟩]] w (Ret w (.tuple #[.agg #[.string ⟨#[45,49]⟩,.string ⟨#[45,50]⟩,.string ⟨#[49]⟩,.string ⟨#[48]⟩],.int .i64 0])):=by
 have Br:=RN_sub (N:=2) rn_1 rn_0
 have Bs:=RN_sub (N:=2) rn_0 rn_0
 have Bt:=RN_sub (N:=2) rn_2 rn_0
 have A6:=RN_mul rn_0 rn_2
 have Ay:=RN_mul rn_1 rn_1
 have A7:=RN_mul rn_1 rn_0
 have A8:=RN_mul rn_1 rn_2
 have A9:=RN_mul rn_0 rn_0
 have Bu:=RN_sub (N:=4) A6 Ay
 have Bv:=RN_sub (N:=4) A7 A8
 have Bw:=RN_sub (N:=4) Ay A9
 have c1:CV 86 #[.agg #[.string ⟨#[48]⟩,.string ⟨#[48]⟩,.string ⟨#[48]⟩]] (.int .i64 0):=fun w R=>(by have h:=vcheck_ok (0:Rat) (0:Rat) (0:Rat) (RN.rl (K:=200) rn_0) (RN.rl (K:=200) rn_0) (RN.rl (K:=200) rn_0) w R.toEnvR;simp only [rb_0] at h;exact h)
 have c2:CV 86 #[.agg #[.string ⟨#[49]⟩,.string ⟨#[48]⟩,.string ⟨#[49]⟩]] (.int .i64 0):=fun w R=>(by have h:=vcheck_ok (1:Rat) (0:Rat) (1:Rat) (RN.rl (K:=200) rn_1) (RN.rl (K:=200) rn_0) (RN.rl (K:=200) rn_1) w R.toEnvR;simp only [rb_0,rb_1] at h;exact h)
 have c3:CV 86 #[.agg #[.string ⟨#[48]⟩,.string ⟨#[49]⟩,.string ⟨#[50]⟩]] (.int .i64 0):=fun w R=>(by have h:=vcheck_ok (0:Rat) (1:Rat) (2:Rat) (RN.rl (K:=200) rn_0) (RN.rl (K:=200) rn_1) (RN.rl (K:=200) rn_2) w R.toEnvR;simp only [rb_0,rb_1,rb_2] at h;exact h)
 have c4:=fun (w:World) (R:EnvV w)=>orErr3 0 0 0 0 (by decide) w R.toEnvR
 have c5:CV 88 #[.agg #[.string ⟨#[49]⟩,.string ⟨#[48]⟩,.string ⟨#[49]⟩],.agg #[.string ⟨#[48]⟩,.string ⟨#[48]⟩,.string ⟨#[48]⟩]] (.agg #[.string ⟨#[49]⟩,.string ⟨#[48]⟩,.string ⟨#[49]⟩]):=fun w R=>(by have h:=(by have h:=xminus (1:Rat) (0:Rat) (1:Rat) (0:Rat) (0:Rat) (0:Rat) (RN.rl (K:=10000) rn_1) (RN.rl (K:=10000) rn_0) (RN.rl (K:=10000) rn_0) (RN.rl (K:=10000) rn_0) (RN.rl (K:=10000) rn_1) (RN.rl (K:=10000) rn_0) w R;simp only [rb_0,rb_1] at h;exact h);simp only [show ratB ((1:Rat) - (0:Rat))=⟨#[49]⟩ from by decide +kernel,show ratB ((0:Rat) - (0:Rat))=⟨#[48]⟩ from by decide +kernel] at h;exact h)
 have c6:CV 88 #[.agg #[.string ⟨#[48]⟩,.string ⟨#[49]⟩,.string ⟨#[50]⟩],.agg #[.string ⟨#[48]⟩,.string ⟨#[48]⟩,.string ⟨#[48]⟩]] (.agg #[.string ⟨#[48]⟩,.string ⟨#[49]⟩,.string ⟨#[50]⟩]):=fun w R=>(by have h:=(by have h:=xminus (0:Rat) (1:Rat) (2:Rat) (0:Rat) (0:Rat) (0:Rat) (RN.rl (K:=10000) rn_0) (RN.rl (K:=10000) rn_0) (RN.rl (K:=10000) rn_1) (RN.rl (K:=10000) rn_0) (RN.rl (K:=10000) rn_2) (RN.rl (K:=10000) rn_0) w R;simp only [rb_0,rb_1,rb_2] at h;exact h);simp only [show ratB ((0:Rat) - (0:Rat))=⟨#[48]⟩ from by decide +kernel,show ratB ((1:Rat) - (0:Rat))=⟨#[49]⟩ from by decide +kernel,show ratB ((2:Rat) - (0:Rat))=⟨#[50]⟩ from by decide +kernel] at h;exact h)
 have c7:CV 87 #[.agg #[.string ⟨#[49]⟩,.string ⟨#[48]⟩,.string ⟨#[49]⟩],.agg #[.string ⟨#[48]⟩,.string ⟨#[49]⟩,.string ⟨#[50]⟩]] (.agg #[.string ⟨#[45,49]⟩,.string ⟨#[45,50]⟩,.string ⟨#[49]⟩]):=fun w R=>(by have h:=(by have h:=xcross (1:Rat) (0:Rat) (1:Rat) (0:Rat) (1:Rat) (2:Rat) (RN.rl (K:=10000) rn_0) (RN.rl (K:=10000) rn_2) (RN.rl (K:=10000) rn_1) (RN.rl (K:=10000) rn_1) A6.rm Ay.rm (RN.rl (K:=10000) rn_0) (RN.rl (K:=10000) rn_1) A7.rm A8.rm Ay.rm A9.rm w R;simp only [rb_0,rb_1,rb_2] at h;exact h);simp only [show ratB (((0:Rat)*(2:Rat)) - ((1:Rat)*(1:Rat)))=⟨#[45,49]⟩ from by decide +kernel,show ratB (((1:Rat)*(0:Rat)) - ((1:Rat)*(2:Rat)))=⟨#[45,50]⟩ from by decide +kernel,show ratB (((1:Rat)*(1:Rat)) - ((0:Rat)*(0:Rat)))=⟨#[49]⟩ from by decide +kernel] at h;exact h)
 have c8:CV 89 #[.agg #[.string ⟨#[45,49]⟩,.string ⟨#[45,50]⟩,.string ⟨#[49]⟩]] (.bool false):=fun w R=>(by have h:=zero_f (-1:Rat) (-2:Rat) (1:Rat) (by decide +kernel) w R;simp only [rb_m1,rb_m2,rb_1] at h;exact h)
 have c9:CV 47 #[.agg #[.string ⟨#[45,49]⟩,.string ⟨#[45,50]⟩,.string ⟨#[49]⟩]] (.bool false):=fun w R=>(by have h:=ver_f (-1:Rat) (-2:Rat) (1:Rat) (by decide +kernel) w R;simp only [rb_m1,rb_m2,rb_1] at h;exact h)
 have c10:CV 91 #[.agg #[.string ⟨#[45,49]⟩,.string ⟨#[45,50]⟩,.string ⟨#[49]⟩]] (.agg #[.string ⟨#[45,49]⟩,.string ⟨#[45,50]⟩,.string ⟨#[49]⟩]):=fun w R=>(by have h:=up_f (-1:Rat) (-2:Rat) (1:Rat) (RN.rl (K:=200) rn_1) (by decide +kernel) w R;simp only [rb_m1,rb_m2,rb_1] at h;exact h)
 have c11:=xprim
 have c12:=xdot_k
 have c13:∀ w,EnvV w→Calls Tryz.prog 93 #[.agg #[.string ⟨#[45,49]⟩,.string ⟨#[45,50]⟩,.string ⟨#[49]⟩,.string ⟨#[48]⟩],.slice (some ⟨w.heap.size,0,none⟩) 4 4] (w.alloc (Obj.cells #[Value.string ⟨#[45,49]⟩,Value.string ⟨#[45,50]⟩,Value.string ⟨#[49]⟩,Value.string ⟨#[48]⟩] 22)) (Ret w (.tuple #[.agg #[.string ⟨#[45,49]⟩,.string ⟨#[45,50]⟩,.string ⟨#[49]⟩,.string ⟨#[48]⟩],.int .i64 0])):=fun w R=>(by have h:=resPl (ratB (-1:Rat)) (ratB (-2:Rat)) (ratB (1:Rat)) (ratB (0:Rat)) (ratB (-1:Rat)) (ratB (-2:Rat)) (ratB (1:Rat)) (ratB (0:Rat)) (by intro t ht;simp only [List.mem_cons,List.not_mem_nil,or_false] at ht;rcases ht with rfl | rfl | rfl | rfl;exact ⟨_,rfl,(RN.rl (K:=200) rn_m1)⟩;exact ⟨_,rfl,(RN.rl (K:=200) rn_m2)⟩;exact ⟨_,rfl,(RN.rl (K:=200) rn_1)⟩;exact ⟨_,rfl,(RN.rl (K:=200) rn_0)⟩) w R.toEnvR;simp only [rb_m1,rb_m2,rb_0,rb_1] at h;exact h)
 have C1:=Lib.hid c1
 have C2:=Lib.hid c2
 have C3:=Lib.hid c3
 have C4:=Lib.hid c4
 have C5:=Lib.hid c5
 have C6:=Lib.hid c6
 have C7:=Lib.hid c7
 have C8:=Lib.hid c8
 have C9:=Lib.hid c9
 have C10:=Lib.hid c10
 have C11:=Lib.hid c11
 have C12:=Lib.hid c12
 have C13:=Lib.hid c13
 clear c1 c2 c3 c4 c5 c6 c7 c8 c9 c10 c11 c12 c13 Br Bs Bt A6 Ay A7 A8 A9 Bu Bv Bw
 have hb:=Below.refl w.heap.size w
 go_enter Tryz.func43,Tryz.ntmps43
 go_upto_region 1 with fail
 refine wp_alloc4 (fun w1 a0 a1 a2 a3 hk=>?_)
 replace hb:=hb.trans (hk.mono hb.size)
 clear hk
 obtain ⟨Al,Am,An⟩:=ce3 a0
 obtain ⟨As,At,Au⟩:=ce3 a1
 obtain ⟨Av,Aw,Ax⟩:=ce3 a2
 obtain ⟨Ac,Ag,Ad,Ah,Ae,Ai,Af,Aj⟩:=cf4 a3
 go_upto_region 1 with fail
 obtain ⟨Az,A0,A1⟩:=cy3 a0
 obtain ⟨Ba,Bb,Bc⟩:=cy3 a1
 obtain ⟨Bd,Be,Bf⟩:=cy3 a2
 obtain ⟨A2,A3,A4,A5⟩:=cy4 a3
 have Bg:=rrV C1 R hb
 have Bh:=rrV C2 R hb
 have Bi:=rrV C3 R hb
 refine wp_region_tail_below 6 (by first | assumption | kernel_rfl) (by kernel_rfl) ?_
 simp only [List.take_succ_cons,List.take_zero,List.drop_succ_cons,List.drop_zero]
 repeat (quiet_step (first | (with_reducible exact Bg.out _ _) | (with_reducible exact Bh.out _ _) | (with_reducible exact Bi.out _ _)))
 refine wpQuiet_nil ?_
 intro w1 hw'
 obtain ⟨hk,hb⟩:=zQ hb hw'
 clear Al Am An As At Au Av Aw Ax Ac Ad Ae Af Ag Ah Ai Aj
 replace a0:=zB hk a0
 replace a1:=zB hk a1
 replace a2:=zB hk a2
 replace a3:=zB hk a3
 obtain ⟨Al,Am,An⟩:=ce3 a0
 obtain ⟨As,At,Au⟩:=ce3 a1
 obtain ⟨Av,Aw,Ax⟩:=ce3 a2
 obtain ⟨Ac,Ag,Ad,Ah,Ae,Ai,Af,Aj⟩:=cf4 a3
 clear Bg Bh Bi Az A0 A1 Ba Bb Bc Bd Be Bf A2 A3 A4 A5
 clear hk hw'
 go_upto_region 4 with (go_at_call 68;with_reducible refine (zL hb (C4.out _ (R.below hb))).mono ?_;clear hb;rintro e w1 ⟨rfl,hk,hb⟩;clear Al Am An As At Au Av Aw Ax Ac Ad Ae Af Ag Ah Ai Aj;replace a0:=zB hk a0;replace a1:=zB hk a1;replace a2:=zB hk a2;replace a3:=zB hk a3;obtain ⟨Al,Am,An⟩:=ce3 a0;obtain ⟨As,At,Au⟩:=ce3 a1;obtain ⟨Av,Aw,Ax⟩:=ce3 a2;obtain ⟨Ac,Ag,Ad,Ah,Ae,Ai,Af,Aj⟩:=cf4 a3;clear hk)
 obtain ⟨Az,A0,A1⟩:=cy3 a0
 obtain ⟨Ba,Bb,Bc⟩:=cy3 a1
 obtain ⟨Bd,Be,Bf⟩:=cy3 a2
 obtain ⟨A2,A3,A4,A5⟩:=cy4 a3
 have Bx:=rrV C5 R hb
 have By:=rrV C6 R hb
 have Bz:=rrV C7 R hb
 have Bj:=qqV C5 R hb
 have Bk:=qqV C6 R hb
 have Bl:=qqV C7 R hb
 refine wp_free1 7 0 (fun i=>if i=7 then Obj.cells #[Value.string ⟨#[]⟩,Value.string ⟨#[]⟩,Value.string ⟨#[]⟩] 24 else Obj.cells #[] 0) (fun i=>if i=7 then Obj.cells #[Value.string ⟨#[45,49]⟩,Value.string ⟨#[45,50]⟩,Value.string ⟨#[49]⟩] 24 else Obj.cells #[] 0) (some 9) (by first | assumption | kernel_rfl) (by kernel_rfl) ?lay rfl ?_
 case lay =>
   intro i h1 h2
   obtain rfl:i=7:=by omega
   all_goals exact ⟨_,rfl,rfl,fun a w=>(by first | (go_simp;done) | (go_simp;rfl))⟩
 simp only [List.take_succ_cons,List.take_zero]
 repeat (refine wpB_step (fun K hK=>?_);go_simp;first | (refine hK _ ?_;clear hK K) | (apply Exists.intro;refine ⟨fun _=>?_,hK _ ?_⟩;(first | (with_reducible exact Bj.out _ _) | (with_reducible exact Bk.out _ _) | (with_reducible exact Bl.out _ _));clear hK K))
 refine wpB_nil ?_
 intro Ab
 refine ⟨?_,?_⟩
 · refine ⟨_,rfl,rfl,rfl,fun cs b h=>(by cases h),fun w hw=>?_⟩
   replace hw:w.heap[Ab]? = some (Obj.cells #[Value.string ⟨#[]⟩,Value.string ⟨#[]⟩,Value.string ⟨#[]⟩] 24):=hw
   have z0:w.cell? ⟨Ab,0,none⟩=some (Value.string ⟨#[]⟩):=zA hw
   have y0:w.frozen? ⟨Ab,0,none⟩=false:=zD hw
   have z1:w.cell? ⟨Ab,1,none⟩=some (Value.string ⟨#[]⟩):=zA hw
   have y1:w.frozen? ⟨Ab,1,none⟩=false:=zD hw
   have z2:w.cell? ⟨Ab,2,none⟩=some (Value.string ⟨#[]⟩):=zA hw
   have y2:w.frozen? ⟨Ab,2,none⟩=false:=zD hw
   refine ⟨_,?_,(Wrote.set (i:=2) (Wrote.set (i:=1) (Wrote.set (i:=0) (Wrote.refl hw) (Value.string ⟨#[45,49]⟩)) (Value.string ⟨#[45,50]⟩)) (Value.string ⟨#[49]⟩))⟩
   go_simp
 intro w1 hk m0 Aa
 have mb4_0:w.heap.size≤Ab:=Nat.le_trans hb.size m0
 have mc4_0_0:=Nat.lt_of_lt_of_le (Array.getElem?_eq_some_iff.1 a0).1 m0
 have mc4_0_1:=Nat.lt_of_lt_of_le (Array.getElem?_eq_some_iff.1 a1).1 m0
 have mc4_0_2:=Nat.lt_of_lt_of_le (Array.getElem?_eq_some_iff.1 a2).1 m0
 have mc4_0_3:=Nat.lt_of_lt_of_le (Array.getElem?_eq_some_iff.1 a3).1 m0
 clear Al Am An As At Au Av Aw Ax Ac Ad Ae Af Ag Ah Ai Aj
 replace a0:=zB hk a0
 replace a1:=zB hk a1
 replace a2:=zB hk a2
 replace a3:=zB hk a3
 obtain ⟨Al,Am,An⟩:=ce3 a0
 obtain ⟨As,At,Au⟩:=ce3 a1
 obtain ⟨Av,Aw,Ax⟩:=ce3 a2
 obtain ⟨Ac,Ag,Ad,Ah,Ae,Ai,Af,Aj⟩:=cf4 a3
 replace hb:=hb.trans (hk.mono hb.size)
 clear hk
 replace Aa:w1.heap[Ab]? = some (Obj.cells #[Value.string ⟨#[45,49]⟩,Value.string ⟨#[45,50]⟩,Value.string ⟨#[49]⟩] 24):=Aa
 have Ap:w1.cell? ⟨Ab,0,none⟩=some (Value.string ⟨#[45,49]⟩):=zA Aa
 have Aq:w1.cell? ⟨Ab,1,none⟩=some (Value.string ⟨#[45,50]⟩):=zA Aa
 have Ar:w1.cell? ⟨Ab,2,none⟩=some (Value.string ⟨#[49]⟩):=zA Aa
 have fv4_0_0:w1.frozen? ⟨Ab,0,none⟩=false:=zD Aa
 have fv4_0_1:w1.frozen? ⟨Ab,1,none⟩=false:=zD Aa
 have fv4_0_2:w1.frozen? ⟨Ab,2,none⟩=false:=zD Aa
 clear Bj Bk Bl Bx By Bz Az A0 A1 Ba Bb Bc Bd Be Bf A2 A3 A4 A5 m0
 go_upto_region 10 with ((first | (go_at_call 89;with_reducible refine (chVB hb R C8).mono ?_) | (go_at_call 47;with_reducible refine (chVB hb R C9).mono ?_) | (go_at_call 91;with_reducible refine (chVB hb R C10).mono ?_) | (go_at_call 90;with_reducible refine (chVB hb R C11).mono ?_));clear hb;rintro e w1 ⟨rfl,hk,hb⟩;clear Al Am An Ac Ad Ae Af Ag Ah Ai Aj Ap Aq Ar fv4_0_0 fv4_0_1 fv4_0_2;replace a0:=zB hk a0;replace a3:=zB hk a3;replace Aa:=zB hk Aa;obtain ⟨Al,Am,An⟩:=ce3 a0;obtain ⟨Ac,Ag,Ad,Ah,Ae,Ai,Af,Aj⟩:=cf4 a3;obtain ⟨Ap,fv4_0_0,Aq,fv4_0_1,Ar,fv4_0_2⟩:=cf3 Aa;clear hk)
 clear As At Au a1 Av Aw Ax a2
 refine wp_settled3 hb mb4_0 Aa (fun w1 hb Aa hj=>?_)
 replace a0:=(hj _ (by omega)).trans a0
 replace a3:=(hj _ (by omega)).trans a3
 clear hj Al Am An Ac Ag Ad Ah Ae Ai Af Aj Ap fv4_0_0 Aq fv4_0_1 Ar fv4_0_2
 obtain ⟨Al,Am,An⟩:=ce3 a0
 obtain ⟨Ac,Ag,Ad,Ah,Ae,Ai,Af,Aj⟩:=cf4 a3
 have Ap:w1.cell? ⟨Ab,0,none⟩=some (Value.string ⟨#[45,49]⟩):=zA Aa
 have Aq:w1.cell? ⟨Ab,1,none⟩=some (Value.string ⟨#[45,50]⟩):=zA Aa
 have Ar:w1.cell? ⟨Ab,2,none⟩=some (Value.string ⟨#[49]⟩):=zA Aa
 have fv4_0_0:w1.frozen? ⟨Ab,0,none⟩=false:=zD Aa
 have fv4_0_1:w1.frozen? ⟨Ab,1,none⟩=false:=zD Aa
 have fv4_0_2:w1.frozen? ⟨Ab,2,none⟩=false:=zD Aa
 obtain ⟨Az,A0,A1⟩:=cy3 a0
 obtain ⟨A2,A3,A4,A5⟩:=cy4 a3
 obtain ⟨B0,B1,B2⟩:=cy3 Aa
 have B3:=rrV C12 R hb
 have Bm:=qqV C12 R hb
 refine wp_free1 5 0 (fun i=>if i=5 then Obj.cells #[Value.string ⟨#[]⟩,Value.string ⟨#[]⟩,Value.string ⟨#[]⟩,Value.string ⟨#[]⟩] 55 else Obj.cells #[] 0) (fun i=>if i=5 then Obj.cells #[Value.string ⟨#[45,49]⟩,Value.string ⟨#[45,50]⟩,Value.string ⟨#[49]⟩,Value.string ⟨#[48]⟩] 55 else Obj.cells #[] 0) (some 10) (by first | assumption | kernel_rfl) (by kernel_rfl) ?lay rfl ?_
 case lay =>
   intro i h1 h2
   obtain rfl:i=5:=by omega
   all_goals exact ⟨_,rfl,rfl,fun a w=>(by first | (go_simp;done) | (go_simp;rfl))⟩
 simp only [List.take_succ_cons,List.take_zero]
 repeat (refine wpB_step (fun K hK=>?_);go_simp;first | (refine hK _ ?_;clear hK K) | (apply Exists.intro;refine ⟨fun _=>?_,hK _ ?_⟩;(first | (with_reducible exact Bm.out _ _));clear hK K))
 refine wpB_nil ?_
 intro Ak
 refine ⟨?_,?_⟩
 · refine ⟨_,rfl,rfl,rfl,fun cs b h=>(by cases h),fun w hw=>?_⟩
   replace hw:w.heap[Ak]? = some (Obj.cells #[Value.string ⟨#[]⟩,Value.string ⟨#[]⟩,Value.string ⟨#[]⟩,Value.string ⟨#[]⟩] 55):=hw
   have z0:w.cell? ⟨Ak,0,none⟩=some (Value.string ⟨#[]⟩):=zA hw
   have y0:w.frozen? ⟨Ak,0,none⟩=false:=zD hw
   have z1:w.cell? ⟨Ak,1,none⟩=some (Value.string ⟨#[]⟩):=zA hw
   have y1:w.frozen? ⟨Ak,1,none⟩=false:=zD hw
   have z2:w.cell? ⟨Ak,2,none⟩=some (Value.string ⟨#[]⟩):=zA hw
   have y2:w.frozen? ⟨Ak,2,none⟩=false:=zD hw
   have z3:w.cell? ⟨Ak,3,none⟩=some (Value.string ⟨#[]⟩):=zA hw
   have y3:w.frozen? ⟨Ak,3,none⟩=false:=zD hw
   refine ⟨_,?_,(Wrote.set (i:=3) (Wrote.set (i:=2) (Wrote.set (i:=1) (Wrote.set (i:=0) (Wrote.refl hw) (Value.string ⟨#[45,49]⟩)) (Value.string ⟨#[45,50]⟩)) (Value.string ⟨#[49]⟩)) (Value.string ⟨#[48]⟩))⟩
   go_simp
 intro w1 hk m0 Ao
 clear Al Am An Ac Ad Ae Af Ag Ah Ai Aj Ap Aq Ar fv4_0_0 fv4_0_1 fv4_0_2
 replace a0:=zB hk a0
 replace a3:=zB hk a3
 replace Aa:=zB hk Aa
 obtain ⟨Al,Am,An⟩:=ce3 a0
 obtain ⟨Ac,Ag,Ad,Ah,Ae,Ai,Af,Aj⟩:=cf4 a3
 obtain ⟨Ap,fv4_0_0,Aq,fv4_0_1,Ar,fv4_0_2⟩:=cf3 Aa
 replace hb:=hb.trans (hk.mono hb.size)
 clear hk
 replace Ao:w1.heap[Ak]? = some (Obj.cells #[Value.string ⟨#[45,49]⟩,Value.string ⟨#[45,50]⟩,Value.string ⟨#[49]⟩,Value.string ⟨#[48]⟩] 55):=Ao
 have Bn:w1.cell? ⟨Ak,0,none⟩=some (Value.string ⟨#[45,49]⟩):=zA Ao
 have Bo:w1.cell? ⟨Ak,1,none⟩=some (Value.string ⟨#[45,50]⟩):=zA Ao
 have Bp:w1.cell? ⟨Ak,2,none⟩=some (Value.string ⟨#[49]⟩):=zA Ao
 have Bq:w1.cell? ⟨Ak,3,none⟩=some (Value.string ⟨#[48]⟩):=zA Ao
 clear Bm B3 Az A0 A1 A2 A3 A4 A5 B0 B1 B2 m0
 go_wp2_with (go_at_call 93;with_reducible refine (zL hb (C13.out _ (R.below hb))).mono ?_;clear hb;rintro e w1 ⟨rfl,hk,hb⟩;clear Ac Ad Ae Af Ag Ah Ai Aj Ap Aq Ar fv4_0_0 fv4_0_1 fv4_0_2 Bn Bo Bp Bq;replace a3:=zB hk a3;replace Aa:=zB hk Aa;replace Ao:=zB hk Ao;obtain ⟨Ac,Ag,Ad,Ah,Ae,Ai,Af,Aj⟩:=cf4 a3;obtain ⟨Ap,fv4_0_0,Aq,fv4_0_1,Ar,fv4_0_2⟩:=cf3 Aa;obtain ⟨Bn,Bo,Bp,Bq⟩:=ce4 Ao;clear hk)
 refine bodyPost_ret (v:=.tuple #[.agg #[.string ⟨#[45,49]⟩,.string ⟨#[45,50]⟩,.string ⟨#[49]⟩,.string ⟨#[48]⟩],.int .i64 0]) (by simp [results,Tryz.results43,go_sem,Ac,Ad,Ae,Af]) rfl ⟨rfl,?_⟩
 repeat' (first | exact hb | refine Below.setCell ?_ (by first | exact Nat.le_refl _ | (dsimp only;omega)) _)
theorem rn1_24 : RN (1:Rat) 24 24:=RN.up rn_1 (by decide) (by decide)
theorem rn0_24 : RN (0:Rat) 24 24:=RN.up rn_0 (by decide) (by decide)
theorem rn1_30 : RN (1:Rat) 30 30:=RN.up rn_1 (by decide) (by decide)
theorem rn2_30 : RN (2:Rat) 30 30:=RN.up rn_2 (by decide) (by decide)
theorem strike_k (w:World) (R:EnvV w):Calls Tryz.prog 19 #[.agg #[.string ⟨#[49]⟩,.string ⟨#[48]⟩,.string ⟨#[49]⟩]] w (Ret w (.tuple #[.agg #[.string ⟨#[48]⟩,.string ⟨#[49]⟩],.int .i64 0])):=by
 have h:=strike_f (1:Rat) (0:Rat) (1:Rat) (Or.inl (by decide)) rn1_24 rn0_24 rn1_24 (by decide) w R
 rw [show ratB (-((0:Rat)*(primF (1:Rat) (0:Rat) (0:Rat))))=⟨#[48]⟩ from by decide +kernel,show ratB ((1:Rat)*(primF (1:Rat) (0:Rat) (0:Rat)))=⟨#[49]⟩ from by decide +kernel,rb_1,rb_0] at h
 exact h
theorem of_k (w:World) (R:EnvV w):Calls Tryz.prog 26 #[.agg #[.string ⟨#[49]⟩,.string ⟨#[50]⟩]] w (Ret w (.tuple #[.agg #[.int .i64 0,.string ⟨#[49,47,50]⟩],.int .i64 0])):=by
 have h:=of_lt (1:Rat) (2:Rat) (2:Rat) (1:Rat) 0 (fun w R=>quad_A (1:Rat) (2:Rat) rn1_30 rn2_30 (by decide +kernel) (by decide +kernel) w R) (Or.inl (by decide)) rn1_30 rn2_30 rn2_30 rn1_30 (by decide) (by decide) (by decide +kernel) w R
 rw [show ratB ((1:Rat) / (2:Rat))=⟨#[49,47,50]⟩ from by decide +kernel,rb_1,rb_2] at h
 exact h
theorem known15_any  (w:World) (R:EnvV w) :
   Calls Tryz.prog 11 #[] w (Ret w (.bool true)):=by
 have Ah:=RN_mul rn_m1 rn_1
 have Ai:=RN_mul rn_m2 rn_1
 have Aj:=RN_add (N:=4) Ah Ai
 have Ak:=RN_div Aj rn_1 (by decide +kernel)
 have c1:=vof_1_0_1
 have c2:=strike_k
 have c3:=vat_1_2
 have c4:=of_k
 have c5:=vof_0_0_0
 have c7:=vof_0_1_2
 have c8:=three_k
 have c9:=vof_m1_m2_1
 have c10:=vat_1_1
 have c11:CV 36 #[.agg #[.string ⟨#[45,49]⟩,.string ⟨#[45,50]⟩,.string ⟨#[49]⟩],.agg #[.string ⟨#[49]⟩,.string ⟨#[49]⟩]] (.tuple #[.string ⟨#[45,51]⟩,.int .i64 0]):=fun w R=>(by have h:=(by have h:=appar_ok (-1:Rat) (-2:Rat) (1:Rat) (1:Rat) (1:Rat) (RN.rl (K:=200) rn_1) (RN.rl (K:=200) rn_1) (by decide +kernel) (RN.rl (K:=200) rn_m1) (RN.rl (K:=200) rn_m2) (RN.rl (K:=200) rn_1) (by decide +kernel) (RN.rl (K:=10000) rn_m1) (RN.rl (K:=10000) rn_1) (RN.rl (K:=10000) rn_m2) (RN.rl (K:=10000) rn_1) Ah.rm Ai.rm Aj.rm (RN.rl (K:=10000) rn_1) Ak.r2 w R;simp only [rb_m1,rb_m2,rb_1] at h;exact h);simp only [show ratB ((((-1:Rat)*(1:Rat))+((-2:Rat)*(1:Rat))) / (1:Rat))=⟨#[45,51]⟩ from by decide +kernel] at h;exact h)
 have C1:=Lib.hid c1
 have C2:=Lib.hid c2
 have C3:=Lib.hid c3
 have C4:=Lib.hid c4
 have C5:=Lib.hid c5
 have C7:=Lib.hid c7
 have C8:=Lib.hid c8
 have C9:=Lib.hid c9
 have C10:=Lib.hid c10
 have C11:=Lib.hid c11
 clear c1 c2 c3 c4 c5 c7 c8 c9 c10 c11 Ah Ai Aj Ak
 have hb:=Below.refl w.heap.size w
 go_enter Tryz.func11,Tryz.ntmps11
 go_upto_region 2 with ((first | (go_at_call 41;with_reducible refine (chVB hb R C1).mono ?_) | (go_at_call 19;with_reducible refine (chVB hb R C2).mono ?_));clear hb;rintro e w1 ⟨rfl,hk,hb⟩;clear hk)
 refine wp_alloc1 (fun w1 Aa hk=>?_)
 replace hb:=hb.trans (hk.mono hb.size)
 clear hk
 obtain ⟨Ab,Ac⟩:=ce2 Aa
 go_upto_region 3 with ((first | (go_at_call 42;with_reducible refine (chVB hb R C3).mono ?_) | (go_at_call 26;with_reducible refine (chVB hb R C4).mono ?_));clear hb;rintro e w1 ⟨rfl,hk,hb⟩;clear Ab Ac;replace Aa:=zB hk Aa;obtain ⟨Ab,Ac⟩:=ce2 Aa;clear hk)
 refine wp_alloc1 (fun w1 Ad hk=>?_)
 clear Ab Ac
 replace Aa:=zB hk Aa
 obtain ⟨Ab,Ac⟩:=ce2 Aa
 replace hb:=hb.trans (hk.mono hb.size)
 clear hk
 obtain ⟨Ae,Af⟩:=ce2 Ad
 go_upto_region 4 with ((first | (go_at_call 41;first | with_reducible refine (chVB hb R C5).mono ?_ | with_reducible refine (chVB hb R C1).mono ?_ | with_reducible refine (chVB hb R C7).mono ?_) | (go_at_call 43;with_reducible refine (chVB hb R C8).mono ?_));clear hb;rintro e w1 ⟨rfl,hk,hb⟩;clear Ab Ac Ae Af;replace Aa:=zB hk Aa;replace Ad:=zB hk Ad;obtain ⟨Ab,Ac⟩:=ce2 Aa;obtain ⟨Ae,Af⟩:=ce2 Ad;clear hk)
 refine wp_alloc1 (fun w1 Ag hk=>?_)
 clear Ab Ac Ae Af
 replace Aa:=zB hk Aa
 replace Ad:=zB hk Ad
 obtain ⟨Ab,Ac⟩:=ce2 Aa
 obtain ⟨Ae,Af⟩:=ce2 Ad
 replace hb:=hb.trans (hk.mono hb.size)
 clear hk
 obtain ⟨Al,Am,An,Ao⟩:=ce4 Ag
 go_wp2_with ((first | (go_at_call 41;with_reducible refine (chVB hb R C9).mono ?_) | (go_at_call 42;with_reducible refine (chVB hb R C10).mono ?_) | (go_at_call 36;with_reducible refine (chVB hb R C11).mono ?_));clear hb;rintro e w1 ⟨rfl,hk,hb⟩;clear Ab Ac Ae Af Al Am An Ao;replace Aa:=zB hk Aa;replace Ad:=zB hk Ad;replace Ag:=zB hk Ag;obtain ⟨Ab,Ac⟩:=ce2 Aa;obtain ⟨Ae,Af⟩:=ce2 Ad;obtain ⟨Al,Am,An,Ao⟩:=ce4 Ag;clear hk)
 first | go_ret | go_ret2 | go_ret3
 exact ⟨rfl,hb⟩
end Go.Proofs.YtejfiegmdllfbaaGreatDoor.Kl
