import Derived.Test.YtejfiegmdllfbaaGreatDoorKlATurnsAtB
namespace Go.Proofs.YtejfiegmdllfbaaGreatDoor.Kl
open Go Go.RowKit
set_option maxRecDepth 100000
set_option maxHeartbeats 8000000
theorem xeach_Mul (a b c x y z:Rat) (r1:RL a 10000) (r2:RL x 10000) (r3:RL b 10000) (r4:RL y 10000) (r5:RL c 10000) (r6:RL z 10000) (w:World) (R:EnvV w) :
   Calls Tryz.prog 118 #[.agg #[.string (ratB a),.string (ratB b),.string (ratB c)],.agg #[.string (ratB x),.string (ratB y),.string (ratB z)],.func (Fn.func 23) #[] #[]] w (Ret w (.agg #[.string (ratB (a*x)),.string (ratB (b*y)),.string (ratB (c*z))])):=by
 have c1:=fun (w:World) (R:EnvV w)=>rmul_any a x r1 r2 w R.toEnvR
 have c2:=fun (w:World) (R:EnvV w)=>rmul_any b y r3 r4 w R.toEnvR
 have c3:=fun (w:World) (R:EnvV w)=>rmul_any c z r5 r6 w R.toEnvR
 have C1:=Lib.hid c1
 have C2:=Lib.hid c2
 have C3:=Lib.hid c3
 clear c1 c2 c3 r1 r2 r3 r4 r5 r6
 have hb:=Below.refl w.heap.size w
 go_enter Tryz.func118,Tryz.ntmps118
 go_upto_region 1 with fail
 refine wp_alloc3 (fun w1 a0 a1 a2 hk=>?_)
 replace hb:=hb.trans (hk.mono hb.size)
 clear hk
 obtain ⟨Ad,Ae,Af⟩:=ce3 a0
 obtain ⟨Ag,Ah,Ai⟩:=ce3 a1
 obtain ⟨Aa,Aj,Ab,Ak,Ac,Al⟩:=cf3 a2
 go_upto_region 1 with fail
 obtain ⟨Ap,Aq,Ar⟩:=cy3 a0
 obtain ⟨As,At,Au⟩:=cy3 a1
 obtain ⟨Av,Aw,Ax⟩:=cy3 a2
 have Am:=rrV C1 R hb
 have An:=rrV C2 R hb
 have Ao:=rrV C3 R hb
 refine wp_region_tail_below 19 (by first | assumption | kernel_rfl) (by kernel_rfl) ?_
 simp only [List.take_succ_cons,List.take_zero,List.drop_succ_cons,List.drop_zero]
 repeat (quiet_step (first | (with_reducible exact Am.out _ _) | (with_reducible exact An.out _ _) | (with_reducible exact Ao.out _ _)))
 refine wpQuiet_nil ?_
 intro w1 hw'
 obtain ⟨hk,hb⟩:=zQ hb hw'
 clear Ad Ae Af Ag Ah Ai Aa Ab Ac Aj Ak Al
 replace a0:=zB hk a0
 replace a1:=zB hk a1
 replace a2:=zB hk a2
 obtain ⟨Ad,Ae,Af⟩:=ce3 a0
 obtain ⟨Ag,Ah,Ai⟩:=ce3 a1
 obtain ⟨Aa,Aj,Ab,Ak,Ac,Al⟩:=cf3 a2
 clear Am An Ao Ap Aq Ar As At Au Av Aw Ax
 clear hk hw'
 go_wp2
 refine bodyPost_ret (v:=.agg #[.string (ratB (a*x)),.string (ratB (b*y)),.string (ratB (c*z))]) (by simp [results,Tryz.results118,go_sem,Aa,Ab,Ac]) rfl ⟨rfl,?_⟩
 repeat' (first | exact hb | refine Below.setCell ?_ (by first | exact Nat.le_refl _ | (dsimp only;omega)) _)
theorem opposite_t (a b c:Rat) (r1:RL a 10000) (r2:RL b 10000) (r3:RL c 10000) (w:World) (R:EnvV w) :
   Calls Tryz.prog 122 #[.string ⟨#[45,49]⟩,.agg #[.string (ratB a),.string (ratB b),.string (ratB c)]] w (Ret w (.agg #[.string (ratB (-a)),.string (ratB (-b)),.string (ratB (-c))])):=by
 have c1:CV 118 #[.agg #[.string (ratB a),.string (ratB b),.string (ratB c)],.agg #[.string ⟨#[45,49]⟩,.string ⟨#[45,49]⟩,.string ⟨#[45,49]⟩],.func (Fn.func 23) #[] #[]] (.agg #[.string (ratB (-a)),.string (ratB (-b)),.string (ratB (-c))]):=fun w R=>(by have h:=(by have h:=xeach_Mul a b c (-1:Rat) (-1:Rat) (-1:Rat) r1 (RN.rl (K:=10000) rn_m1) r2 (RN.rl (K:=10000) rn_m1) r3 (RN.rl (K:=10000) rn_m1) w R;simp only [rb_m1] at h;exact h);rwa [q_m1,q_m1,q_m1] at h)
 have C1:=Lib.hid c1
 clear c1 r1 r2 r3
 have hb:=Below.refl w.heap.size w
 go_enter Tryz.func122,Tryz.ntmps122
 go_upto_region 1 with fail
 refine wp_alloc2 (fun w1 a0 a1 hk=>?_)
 replace hb:=hb.trans (hk.mono hb.size)
 clear hk
 obtain ⟨Ad,Ae,Af⟩:=ce3 a0
 obtain ⟨Aa,Ag,Ab,Ah,Ac,Ai⟩:=cf3 a1
 go_wp2_with (go_at_call 118;with_reducible refine (chVB hb R C1).mono ?_;clear hb;rintro e w1 ⟨rfl,hk,hb⟩;clear Ad Ae Af Aa Ab Ac Ag Ah Ai;replace a0:=zB hk a0;replace a1:=zB hk a1;obtain ⟨Ad,Ae,Af⟩:=ce3 a0;obtain ⟨Aa,Ag,Ab,Ah,Ac,Ai⟩:=cf3 a1;clear hk)
 refine bodyPost_ret (v:=.agg #[.string (ratB (-a)),.string (ratB (-b)),.string (ratB (-c))]) (by simp [results,Tryz.results122,go_sem,Aa,Ab,Ac]) rfl ⟨rfl,?_⟩
 repeat' (first | exact hb | refine Below.setCell ?_ (by first | exact Nat.le_refl _ | (dsimp only;omega)) _)
theorem up_t (a b c:Rat) (na:RN a 200 200) (nb:RN b 200 200) (nc:RN c 200 200) (rc:RL c 200) (g:c.num.sign < 0) (w:World) (R:EnvV w) :
   Calls Tryz.prog 91 #[.agg #[.string (ratB a),.string (ratB b),.string (ratB c)]] w (Ret w (.agg #[.string (ratB (-a)),.string (ratB (-b)),.string (ratB (-c))])):=by
 have Ap:RN (-a) 200 200:=(RN_neg na)
 have Aq:RN (-b) 200 200:=(RN_neg nb)
 have Ar:RN (-c) 200 200:=(RN_neg nc)
 have c1:=ov_t a b c rc g
 have c2:=opposite_t a b c na.rm nb.rm nc.rm
 obtain ⟨As,Ad⟩:∃ vq,ratB (-a)=vq:=⟨_,rfl⟩
 obtain ⟨At,Ae⟩:∃ vq,ratB (-b)=vq:=⟨_,rfl⟩
 obtain ⟨Au,Af⟩:∃ vq,ratB (-c)=vq:=⟨_,rfl⟩
 obtain ⟨Av,Ag⟩:∃ vq,ratB a=vq:=⟨_,rfl⟩
 obtain ⟨Aw,Ah⟩:∃ vq,ratB b=vq:=⟨_,rfl⟩
 obtain ⟨Ax,Ai⟩:∃ vq,ratB c=vq:=⟨_,rfl⟩
 try simp only [Ad,Ae,Af,Ag,Ah,Ai] at c1 c2 ⊢
 have C1:=Lib.hid c1
 have C2:=Lib.hid c2
 clear c1 c2 Ad Ae Af Ag Ah Ai Ap Aq Ar na nb nc rc g
 have hb:=Below.refl w.heap.size w
 go_enter Tryz.func91,Tryz.ntmps91
 go_upto_region 1 with fail
 refine wp_alloc2 (fun w1 a0 a1 hk=>?_)
 replace hb:=hb.trans (hk.mono hb.size)
 clear hk
 obtain ⟨Aj,Ak,Al⟩:=ce3 a0
 obtain ⟨Aa,Am,Ab,An,Ac,Ao⟩:=cf3 a1
 go_wp2_with ((first | (go_at_call 45;with_reducible refine (chVB hb R C1).mono ?_) | (go_at_call 122;with_reducible refine (chVB hb R C2).mono ?_));clear hb;rintro e w1 ⟨rfl,hk,hb⟩;clear Aj Ak Al Aa Ab Ac Am An Ao;replace a0:=zB hk a0;replace a1:=zB hk a1;obtain ⟨Aj,Ak,Al⟩:=ce3 a0;obtain ⟨Aa,Am,Ab,An,Ac,Ao⟩:=cf3 a1;clear hk)
 refine bodyPost_ret (v:=.agg #[.string As,.string At,.string Au]) (by simp [results,Tryz.results91,go_sem,Aa,Ab,Ac]) rfl ⟨rfl,?_⟩
 repeat' (first | exact hb | refine Below.setCell ?_ (by first | exact Nat.le_refl _ | (dsimp only;omega)) _)
theorem toward1 (x y:Rat) (w:World) (_R:EnvV w) :
   Calls Tryz.prog 51 #[.agg #[.string (ratB x),.string (ratB y)]] w (Ret w (.agg #[.string (ratB x),.string (ratB y)])):=by
 have hb:=Below.refl w.heap.size w
 go_enter Tryz.func51,Tryz.ntmps51
 go_upto_region 1 with fail
 refine wp_alloc2 (fun w1 a0 a1 hk=>?_)
 replace hb:=hb.trans (hk.mono hb.size)
 clear hk
 obtain ⟨Ac,Ad⟩:=ce2 a0
 obtain ⟨Aa,Ae,Ab,Af⟩:=cf2 a1
 go_wp2
 refine bodyPost_ret (v:=.agg #[.string (ratB x),.string (ratB y)]) (by simp [results,Tryz.results51,go_sem,Aa,Ab]) rfl ⟨rfl,?_⟩
 repeat' (first | exact hb | refine Below.setCell ?_ (by first | exact Nat.le_refl _ | (dsimp only;omega)) _)
theorem neg_ne {q:Rat} (h:q≠0) : -q≠0:=fun k=>h (by grind)
theorem dir_toward_t (a b c:Rat) (g:a≠0∨b≠0) (na:RN a 24 24) (nb:RN b 24 24) (nc:RN c 24 24) (q0:c.num.sign < 0) (w:World) (R:EnvV w) :
   Calls Tryz.prog 50 #[.agg #[.string (ratB a),.string (ratB b),.string (ratB c)],.func (Fn.func 51) #[] #[]] w (Ret w (.tuple #[.agg #[.string (ratB ((-a)*(primF (-a) (-b) (0:Rat)))),.string (ratB ((-b)*(primF (-a) (-b) (0:Rat))))],.int .i64 0])):=by
 have Af:RN (-a) 24 24:=(RN_neg na)
 have Ag:RN (-b) 24 24:=(RN_neg nb)
 have A3:RN (-c) 24 24:=(RN_neg nc)
 have Ao:=RN_mul Af (RN_prim (n:=24) (d:=24) (g.elim (fun k=>Or.inl (neg_ne k)) (fun k=>Or.inr (Or.inl (neg_ne k)))) (by decide) (by decide) (RN.up Af (by decide) (by decide)) (RN.up Ag (by decide) (by decide)) (RN.up rn_0 (by decide) (by decide)))
 have Ap:=RN_mul Ag (RN_prim (n:=24) (d:=24) (g.elim (fun k=>Or.inl (neg_ne k)) (fun k=>Or.inr (Or.inl (neg_ne k)))) (by decide) (by decide) (RN.up Af (by decide) (by decide)) (RN.up Ag (by decide) (by decide)) (RN.up rn_0 (by decide) (by decide)))
 have Aq:=RN_mul rn_0 (RN_prim (n:=24) (d:=24) (g.elim (fun k=>Or.inl (neg_ne k)) (fun k=>Or.inr (Or.inl (neg_ne k)))) (by decide) (by decide) (RN.up Af (by decide) (by decide)) (RN.up Ag (by decide) (by decide)) (RN.up rn_0 (by decide) (by decide)))
 have c1:=acheck_ok a b c (g.elim Or.inl (fun k=>Or.inr (Or.inl k))) (na.rl) (nb.rl) (nc.rl)
 have c2:=hor_f a b c g
 have c3:=up_t a b c (RN.up na (by decide) (by decide)) (RN.up nb (by decide) (by decide)) (RN.up nc (by decide) (by decide)) (nc.rl) q0
 have c4:CV 95 #[.agg #[.string (ratB (-a)),.string (ratB (-b)),.string ⟨#[48]⟩]] (.tuple #[.agg #[.string (ratB ((-a)*(primF (-a) (-b) (0:Rat)))),.string (ratB ((-b)*(primF (-a) (-b) (0:Rat)))),.string (ratB ((0:Rat)*(primF (-a) (-b) (0:Rat))))],.int .i64 0]):=fun w R=>(by have h:=prim_any (-a) (-b) (0:Rat) (g.elim (fun k=>Or.inl (neg_ne k)) (fun k=>Or.inr (Or.inl (neg_ne k)))) Af.r2 Ag.r2 (RN.rl (K:=200) rn_0) Ao.r2 Ap.r2 Aq.r2 w R;simp only [rb_0] at h;exact h)
 have c5:=toward1 ((-a)*(primF (-a) (-b) (0:Rat))) ((-b)*(primF (-a) (-b) (0:Rat)))
 obtain ⟨A6,Ar⟩:∃ vq,ratB ((0:Rat)*(primF (-a) (-b) (0:Rat)))=vq:=⟨_,rfl⟩
 obtain ⟨A4,As⟩:∃ vq,ratB ((-a)*(primF (-a) (-b) (0:Rat)))=vq:=⟨_,rfl⟩
 obtain ⟨A5,At⟩:∃ vq,ratB ((-b)*(primF (-a) (-b) (0:Rat)))=vq:=⟨_,rfl⟩
 obtain ⟨A7,Au⟩:∃ vq,ratB (-a)=vq:=⟨_,rfl⟩
 obtain ⟨A8,Av⟩:∃ vq,ratB (-b)=vq:=⟨_,rfl⟩
 obtain ⟨A9,Aw⟩:∃ vq,ratB (-c)=vq:=⟨_,rfl⟩
 obtain ⟨Ba,Ax⟩:∃ vq,ratB a=vq:=⟨_,rfl⟩
 obtain ⟨Bb,Ay⟩:∃ vq,ratB b=vq:=⟨_,rfl⟩
 obtain ⟨Bc,Az⟩:∃ vq,ratB c=vq:=⟨_,rfl⟩
 try simp only [Ar,As,At,Au,Av,Aw,Ax,Ay,Az] at c1 c2 c3 c4 c5 ⊢
 have C1:=Lib.hid c1
 have C2:=Lib.hid c2
 have C3:=Lib.hid c3
 have C4:=Lib.hid c4
 have C5:=Lib.hid c5
 clear c1 c2 c3 c4 c5 Ar As At Au Av Aw Ax Ay Az Af Ag A3 Ao Ap Aq g na nb nc q0
 have hb:=Below.refl w.heap.size w
 go_enter Tryz.func50,Tryz.ntmps50
 go_upto_region 1 with fail
 refine wp_alloc2 (fun w1 a0 a1 hk=>?_)
 replace hb:=hb.trans (hk.mono hb.size)
 clear hk
 obtain ⟨Al,Am,An⟩:=ce3 a0
 obtain ⟨Aa,Ac,Ab,Ad⟩:=cf2 a1
 go_upto_region 7 with ((first | (go_at_call 83;with_reducible refine (chVB hb R C1).mono ?_) | (go_at_call 46;with_reducible refine (chVB hb R C2).mono ?_) | (go_at_call 91;with_reducible refine (chVB hb R C3).mono ?_));clear hb;rintro e w1 ⟨rfl,hk,hb⟩;clear Al Am An Aa Ab Ac Ad;replace a0:=zB hk a0;replace a1:=zB hk a1;obtain ⟨Al,Am,An⟩:=ce3 a0;obtain ⟨Aa,Ac,Ab,Ad⟩:=cf2 a1;clear hk)
 clear Al Am An a0
 refine wp_alloc1 (fun w1 Ae hk=>?_)
 clear Aa Ab Ac Ad
 replace a1:=zB hk a1
 obtain ⟨Aa,Ac,Ab,Ad⟩:=cf2 a1
 replace hb:=hb.trans (hk.mono hb.size)
 clear hk
 obtain ⟨Ah,Ai,Aj⟩:=ce3 Ae
 go_upto_region 8 with (go_at_call 95;with_reducible refine (chVB hb R C4).mono ?_;clear hb;rintro e w1 ⟨rfl,hk,hb⟩;clear Aa Ab Ac Ad Ah Ai Aj;replace a1:=zB hk a1;replace Ae:=zB hk Ae;obtain ⟨Aa,Ac,Ab,Ad⟩:=cf2 a1;obtain ⟨Ah,Ai,Aj⟩:=ce3 Ae;clear hk)
 refine wp_alloc1 (fun w1 Ak hk=>?_)
 clear Aa Ab Ac Ad Ah Ai Aj
 replace a1:=zB hk a1
 replace Ae:=zB hk Ae
 obtain ⟨Aa,Ac,Ab,Ad⟩:=cf2 a1
 obtain ⟨Ah,Ai,Aj⟩:=ce3 Ae
 replace hb:=hb.trans (hk.mono hb.size)
 clear hk
 obtain ⟨A0,A1,A2⟩:=ce3 Ak
 go_wp2_with (go_at_call 51;with_reducible refine (chVB hb R C5).mono ?_;clear hb;rintro e w1 ⟨rfl,hk,hb⟩;clear Aa Ab Ac Ad Ah Ai Aj A0 A1 A2;replace a1:=zB hk a1;replace Ae:=zB hk Ae;replace Ak:=zB hk Ak;obtain ⟨Aa,Ac,Ab,Ad⟩:=cf2 a1;obtain ⟨Ah,Ai,Aj⟩:=ce3 Ae;obtain ⟨A0,A1,A2⟩:=ce3 Ak;clear hk)
 refine bodyPost_ret (v:=.tuple #[.agg #[.string A4,.string A5],.int .i64 0]) (by simp [results,Tryz.results50,go_sem,Aa,Ab]) rfl ⟨rfl,?_⟩
 repeat' (first | exact hb | refine Below.setCell ?_ (by first | exact Nat.le_refl _ | (dsimp only;omega)) _)
theorem toward_t (a b c:Rat) (g:a≠0∨b≠0) (na:RN a 24 24) (nb:RN b 24 24) (nc:RN c 24 24) (q0:c.num.sign < 0) (w:World) (R:EnvV w) :
   Calls Tryz.prog 18 #[.agg #[.string (ratB a),.string (ratB b),.string (ratB c)]] w (Ret w (.tuple #[.agg #[.string (ratB ((-a)*(primF (-a) (-b) (0:Rat)))),.string (ratB ((-b)*(primF (-a) (-b) (0:Rat))))],.int .i64 0])):=by
 have c1:=dir_toward_t a b c g na nb nc q0
 obtain ⟨Am,Ac⟩:∃ vq,ratB ((-a)*(primF (-a) (-b) (0:Rat)))=vq:=⟨_,rfl⟩
 obtain ⟨An,Ad⟩:∃ vq,ratB ((-b)*(primF (-a) (-b) (0:Rat)))=vq:=⟨_,rfl⟩
 obtain ⟨Ao,Ae⟩:∃ vq,ratB a=vq:=⟨_,rfl⟩
 obtain ⟨Ap,Af⟩:∃ vq,ratB b=vq:=⟨_,rfl⟩
 obtain ⟨Aq,Ag⟩:∃ vq,ratB c=vq:=⟨_,rfl⟩
 try simp only [Ac,Ad,Ae,Af,Ag] at c1 ⊢
 have C1:=Lib.hid c1
 clear c1 Ac Ad Ae Af Ag g na nb nc q0
 have hb:=Below.refl w.heap.size w
 go_enter Tryz.func18,Tryz.ntmps18
 go_upto_region 1 with fail
 refine wp_alloc2 (fun w1 a0 a1 hk=>?_)
 replace hb:=hb.trans (hk.mono hb.size)
 clear hk
 obtain ⟨Ah,Ai,Aj⟩:=ce3 a0
 obtain ⟨Aa,Ak,Ab,Al⟩:=cf2 a1
 go_wp2_with (go_at_call 50;with_reducible refine (chVB hb R C1).mono ?_;clear hb;rintro e w1 ⟨rfl,hk,hb⟩;clear Ah Ai Aj Aa Ab Ak Al;replace a0:=zB hk a0;replace a1:=zB hk a1;obtain ⟨Ah,Ai,Aj⟩:=ce3 a0;obtain ⟨Aa,Ak,Ab,Al⟩:=cf2 a1;clear hk)
 refine bodyPost_ret (v:=.tuple #[.agg #[.string Am,.string An],.int .i64 0]) (by simp [results,Tryz.results18,go_sem,Aa,Ab]) rfl ⟨rfl,?_⟩
 repeat' (first | exact hb | refine Below.setCell ?_ (by first | exact Nat.le_refl _ | (dsimp only;omega)) _)
theorem dir_toward_f (a b c:Rat) (g:a≠0∨b≠0) (na:RN a 24 24) (nb:RN b 24 24) (nc:RN c 24 24) (q0:¬ c.num.sign < 0) (w:World) (R:EnvV w) :
   Calls Tryz.prog 50 #[.agg #[.string (ratB a),.string (ratB b),.string (ratB c)],.func (Fn.func 51) #[] #[]] w (Ret w (.tuple #[.agg #[.string (ratB (a*(primF a b (0:Rat)))),.string (ratB (b*(primF a b (0:Rat))))],.int .i64 0])):=by
 have Am:=RN_mul na (RN_prim (n:=24) (d:=24) (g.elim Or.inl (fun k=>Or.inr (Or.inl k))) (by decide) (by decide) (RN.up na (by decide) (by decide)) (RN.up nb (by decide) (by decide)) (RN.up rn_0 (by decide) (by decide)))
 have An:=RN_mul nb (RN_prim (n:=24) (d:=24) (g.elim Or.inl (fun k=>Or.inr (Or.inl k))) (by decide) (by decide) (RN.up na (by decide) (by decide)) (RN.up nb (by decide) (by decide)) (RN.up rn_0 (by decide) (by decide)))
 have Ao:=RN_mul rn_0 (RN_prim (n:=24) (d:=24) (g.elim Or.inl (fun k=>Or.inr (Or.inl k))) (by decide) (by decide) (RN.up na (by decide) (by decide)) (RN.up nb (by decide) (by decide)) (RN.up rn_0 (by decide) (by decide)))
 have c1:=acheck_ok a b c (g.elim Or.inl (fun k=>Or.inr (Or.inl k))) (na.rl) (nb.rl) (nc.rl)
 have c2:=hor_f a b c g
 have c3:=up_f a b c (nc.rl) q0
 have c4:CV 95 #[.agg #[.string (ratB a),.string (ratB b),.string ⟨#[48]⟩]] (.tuple #[.agg #[.string (ratB (a*(primF a b (0:Rat)))),.string (ratB (b*(primF a b (0:Rat)))),.string (ratB ((0:Rat)*(primF a b (0:Rat))))],.int .i64 0]):=fun w R=>(by have h:=prim_any a b (0:Rat) (g.elim Or.inl (fun k=>Or.inr (Or.inl k))) na.r2 nb.r2 (RN.rl (K:=200) rn_0) Am.r2 An.r2 Ao.r2 w R;simp only [rb_0] at h;exact h)
 have c5:=toward1 (a*(primF a b (0:Rat))) (b*(primF a b (0:Rat)))
 obtain ⟨A0,Ap⟩:∃ vq,ratB ((0:Rat)*(primF a b (0:Rat)))=vq:=⟨_,rfl⟩
 obtain ⟨Ay,Aq⟩:∃ vq,ratB (a*(primF a b (0:Rat)))=vq:=⟨_,rfl⟩
 obtain ⟨Az,Ar⟩:∃ vq,ratB (b*(primF a b (0:Rat)))=vq:=⟨_,rfl⟩
 obtain ⟨A1,As⟩:∃ vq,ratB a=vq:=⟨_,rfl⟩
 obtain ⟨A2,At⟩:∃ vq,ratB b=vq:=⟨_,rfl⟩
 obtain ⟨A3,Au⟩:∃ vq,ratB c=vq:=⟨_,rfl⟩
 try simp only [Ap,Aq,Ar,As,At,Au] at c1 c2 c3 c4 c5 ⊢
 have C1:=Lib.hid c1
 have C2:=Lib.hid c2
 have C3:=Lib.hid c3
 have C4:=Lib.hid c4
 have C5:=Lib.hid c5
 clear c1 c2 c3 c4 c5 Ap Aq Ar As At Au Am An Ao g na nb nc q0
 have hb:=Below.refl w.heap.size w
 go_enter Tryz.func50,Tryz.ntmps50
 go_upto_region 1 with fail
 refine wp_alloc2 (fun w1 a0 a1 hk=>?_)
 replace hb:=hb.trans (hk.mono hb.size)
 clear hk
 obtain ⟨Aj,Ak,Al⟩:=ce3 a0
 obtain ⟨Aa,Ac,Ab,Ad⟩:=cf2 a1
 go_upto_region 7 with ((first | (go_at_call 83;with_reducible refine (chVB hb R C1).mono ?_) | (go_at_call 46;with_reducible refine (chVB hb R C2).mono ?_) | (go_at_call 91;with_reducible refine (chVB hb R C3).mono ?_));clear hb;rintro e w1 ⟨rfl,hk,hb⟩;clear Aj Ak Al Aa Ab Ac Ad;replace a0:=zB hk a0;replace a1:=zB hk a1;obtain ⟨Aj,Ak,Al⟩:=ce3 a0;obtain ⟨Aa,Ac,Ab,Ad⟩:=cf2 a1;clear hk)
 clear Aj Ak Al a0
 refine wp_alloc1 (fun w1 Ae hk=>?_)
 clear Aa Ab Ac Ad
 replace a1:=zB hk a1
 obtain ⟨Aa,Ac,Ab,Ad⟩:=cf2 a1
 replace hb:=hb.trans (hk.mono hb.size)
 clear hk
 obtain ⟨Af,Ag,Ah⟩:=ce3 Ae
 go_upto_region 8 with (go_at_call 95;with_reducible refine (chVB hb R C4).mono ?_;clear hb;rintro e w1 ⟨rfl,hk,hb⟩;clear Aa Ab Ac Ad Af Ag Ah;replace a1:=zB hk a1;replace Ae:=zB hk Ae;obtain ⟨Aa,Ac,Ab,Ad⟩:=cf2 a1;obtain ⟨Af,Ag,Ah⟩:=ce3 Ae;clear hk)
 refine wp_alloc1 (fun w1 Ai hk=>?_)
 clear Aa Ab Ac Ad Af Ag Ah
 replace a1:=zB hk a1
 replace Ae:=zB hk Ae
 obtain ⟨Aa,Ac,Ab,Ad⟩:=cf2 a1
 obtain ⟨Af,Ag,Ah⟩:=ce3 Ae
 replace hb:=hb.trans (hk.mono hb.size)
 clear hk
 obtain ⟨Av,Aw,Ax⟩:=ce3 Ai
 go_wp2_with (go_at_call 51;with_reducible refine (chVB hb R C5).mono ?_;clear hb;rintro e w1 ⟨rfl,hk,hb⟩;clear Aa Ab Ac Ad Af Ag Ah Av Aw Ax;replace a1:=zB hk a1;replace Ae:=zB hk Ae;replace Ai:=zB hk Ai;obtain ⟨Aa,Ac,Ab,Ad⟩:=cf2 a1;obtain ⟨Af,Ag,Ah⟩:=ce3 Ae;obtain ⟨Av,Aw,Ax⟩:=ce3 Ai;clear hk)
 refine bodyPost_ret (v:=.tuple #[.agg #[.string Ay,.string Az],.int .i64 0]) (by simp [results,Tryz.results50,go_sem,Aa,Ab]) rfl ⟨rfl,?_⟩
 repeat' (first | exact hb | refine Below.setCell ?_ (by first | exact Nat.le_refl _ | (dsimp only;omega)) _)
theorem toward_f (a b c:Rat) (g:a≠0∨b≠0) (na:RN a 24 24) (nb:RN b 24 24) (nc:RN c 24 24) (q0:¬ c.num.sign < 0) (w:World) (R:EnvV w) :
   Calls Tryz.prog 18 #[.agg #[.string (ratB a),.string (ratB b),.string (ratB c)]] w (Ret w (.tuple #[.agg #[.string (ratB (a*(primF a b (0:Rat)))),.string (ratB (b*(primF a b (0:Rat))))],.int .i64 0])):=by
 have c1:=dir_toward_f a b c g na nb nc q0
 obtain ⟨Am,Ac⟩:∃ vq,ratB (a*(primF a b (0:Rat)))=vq:=⟨_,rfl⟩
 obtain ⟨An,Ad⟩:∃ vq,ratB (b*(primF a b (0:Rat)))=vq:=⟨_,rfl⟩
 obtain ⟨Ao,Ae⟩:∃ vq,ratB a=vq:=⟨_,rfl⟩
 obtain ⟨Ap,Af⟩:∃ vq,ratB b=vq:=⟨_,rfl⟩
 obtain ⟨Aq,Ag⟩:∃ vq,ratB c=vq:=⟨_,rfl⟩
 try simp only [Ac,Ad,Ae,Af,Ag] at c1 ⊢
 have C1:=Lib.hid c1
 clear c1 Ac Ad Ae Af Ag g na nb nc q0
 have hb:=Below.refl w.heap.size w
 go_enter Tryz.func18,Tryz.ntmps18
 go_upto_region 1 with fail
 refine wp_alloc2 (fun w1 a0 a1 hk=>?_)
 replace hb:=hb.trans (hk.mono hb.size)
 clear hk
 obtain ⟨Ah,Ai,Aj⟩:=ce3 a0
 obtain ⟨Aa,Ak,Ab,Al⟩:=cf2 a1
 go_wp2_with (go_at_call 50;with_reducible refine (chVB hb R C1).mono ?_;clear hb;rintro e w1 ⟨rfl,hk,hb⟩;clear Ah Ai Aj Aa Ab Ak Al;replace a0:=zB hk a0;replace a1:=zB hk a1;obtain ⟨Ah,Ai,Aj⟩:=ce3 a0;obtain ⟨Aa,Ak,Ab,Al⟩:=cf2 a1;clear hk)
 refine bodyPost_ret (v:=.tuple #[.agg #[.string Am,.string An],.int .i64 0]) (by simp [results,Tryz.results18,go_sem,Aa,Ab]) rfl ⟨rfl,?_⟩
 repeat' (first | exact hb | refine Below.setCell ?_ (by first | exact Nat.le_refl _ | (dsimp only;omega)) _)
theorem dir_strike_t (a b c:Rat) (g:a≠0∨b≠0) (na:RN a 24 24) (nb:RN b 24 24) (nc:RN c 24 24) (q0:c.num.sign < 0) (w:World) (R:EnvV w) :
   Calls Tryz.prog 50 #[.agg #[.string (ratB a),.string (ratB b),.string (ratB c)],.func (Fn.func 52) #[] #[]] w (Ret w (.tuple #[.agg #[.string (ratB (-((-b)*(primF (-a) (-b) (0:Rat))))),.string (ratB ((-a)*(primF (-a) (-b) (0:Rat))))],.int .i64 0])):=by
 have Af:RN (-a) 24 24:=(RN_neg na)
 have Ag:RN (-b) 24 24:=(RN_neg nb)
 have A5:RN (-c) 24 24:=(RN_neg nc)
 have Ap:=RN_mul Af (RN_prim (n:=24) (d:=24) (g.elim (fun k=>Or.inl (neg_ne k)) (fun k=>Or.inr (Or.inl (neg_ne k)))) (by decide) (by decide) (RN.up Af (by decide) (by decide)) (RN.up Ag (by decide) (by decide)) (RN.up rn_0 (by decide) (by decide)))
 have Ak:=RN_mul Ag (RN_prim (n:=24) (d:=24) (g.elim (fun k=>Or.inl (neg_ne k)) (fun k=>Or.inr (Or.inl (neg_ne k)))) (by decide) (by decide) (RN.up Af (by decide) (by decide)) (RN.up Ag (by decide) (by decide)) (RN.up rn_0 (by decide) (by decide)))
 have Aq:=RN_mul rn_0 (RN_prim (n:=24) (d:=24) (g.elim (fun k=>Or.inl (neg_ne k)) (fun k=>Or.inr (Or.inl (neg_ne k)))) (by decide) (by decide) (RN.up Af (by decide) (by decide)) (RN.up Ag (by decide) (by decide)) (RN.up rn_0 (by decide) (by decide)))
 have Ar:=Ak.rl (K:=40000)
 have A6:RN (-((-b)*(primF (-a) (-b) (0:Rat)))) 96 48:=(RN_neg Ak)
 have c1:=acheck_ok a b c (g.elim Or.inl (fun k=>Or.inr (Or.inl k))) (na.rl) (nb.rl) (nc.rl)
 have c2:=hor_f a b c g
 have c3:=up_t a b c (RN.up na (by decide) (by decide)) (RN.up nb (by decide) (by decide)) (RN.up nc (by decide) (by decide)) (nc.rl) q0
 have c4:CV 95 #[.agg #[.string (ratB (-a)),.string (ratB (-b)),.string ⟨#[48]⟩]] (.tuple #[.agg #[.string (ratB ((-a)*(primF (-a) (-b) (0:Rat)))),.string (ratB ((-b)*(primF (-a) (-b) (0:Rat)))),.string (ratB ((0:Rat)*(primF (-a) (-b) (0:Rat))))],.int .i64 0]):=fun w R=>(by have h:=prim_any (-a) (-b) (0:Rat) (g.elim (fun k=>Or.inl (neg_ne k)) (fun k=>Or.inr (Or.inl (neg_ne k)))) Af.r2 Ag.r2 (RN.rl (K:=200) rn_0) Ap.r2 Ak.r2 Aq.r2 w R;simp only [rb_0] at h;exact h)
 have c5:=strike1 ((-a)*(primF (-a) (-b) (0:Rat))) ((-b)*(primF (-a) (-b) (0:Rat))) Ar
 obtain ⟨A9,As⟩:∃ vq,ratB ((0:Rat)*(primF (-a) (-b) (0:Rat)))=vq:=⟨_,rfl⟩
 obtain ⟨A7,At⟩:∃ vq,ratB (-((-b)*(primF (-a) (-b) (0:Rat))))=vq:=⟨_,rfl⟩
 obtain ⟨A8,Au⟩:∃ vq,ratB ((-a)*(primF (-a) (-b) (0:Rat)))=vq:=⟨_,rfl⟩
 obtain ⟨Ba,Av⟩:∃ vq,ratB ((-b)*(primF (-a) (-b) (0:Rat)))=vq:=⟨_,rfl⟩
 obtain ⟨Bb,Aw⟩:∃ vq,ratB (-a)=vq:=⟨_,rfl⟩
 obtain ⟨Bc,Ax⟩:∃ vq,ratB (-b)=vq:=⟨_,rfl⟩
 obtain ⟨Bd,Ay⟩:∃ vq,ratB (-c)=vq:=⟨_,rfl⟩
 obtain ⟨Be,Az⟩:∃ vq,ratB a=vq:=⟨_,rfl⟩
 obtain ⟨Bf,A0⟩:∃ vq,ratB b=vq:=⟨_,rfl⟩
 obtain ⟨Bg,A1⟩:∃ vq,ratB c=vq:=⟨_,rfl⟩
 try simp only [As,At,Au,Av,Aw,Ax,Ay,Az,A0,A1] at c1 c2 c3 c4 c5 ⊢
 have C1:=Lib.hid c1
 have C2:=Lib.hid c2
 have C3:=Lib.hid c3
 have C4:=Lib.hid c4
 have C5:=Lib.hid c5
 clear c1 c2 c3 c4 c5 As At Au Av Aw Ax Ay Az A0 A1 Af Ag A5 Ap Ak Aq Ar A6 g na nb nc q0
 have hb:=Below.refl w.heap.size w
 go_enter Tryz.func50,Tryz.ntmps50
 go_upto_region 1 with fail
 refine wp_alloc2 (fun w1 a0 a1 hk=>?_)
 replace hb:=hb.trans (hk.mono hb.size)
 clear hk
 obtain ⟨Am,An,Ao⟩:=ce3 a0
 obtain ⟨Aa,Ac,Ab,Ad⟩:=cf2 a1
 go_upto_region 7 with ((first | (go_at_call 83;with_reducible refine (chVB hb R C1).mono ?_) | (go_at_call 46;with_reducible refine (chVB hb R C2).mono ?_) | (go_at_call 91;with_reducible refine (chVB hb R C3).mono ?_));clear hb;rintro e w1 ⟨rfl,hk,hb⟩;clear Am An Ao Aa Ab Ac Ad;replace a0:=zB hk a0;replace a1:=zB hk a1;obtain ⟨Am,An,Ao⟩:=ce3 a0;obtain ⟨Aa,Ac,Ab,Ad⟩:=cf2 a1;clear hk)
 clear Am An Ao a0
 refine wp_alloc1 (fun w1 Ae hk=>?_)
 clear Aa Ab Ac Ad
 replace a1:=zB hk a1
 obtain ⟨Aa,Ac,Ab,Ad⟩:=cf2 a1
 replace hb:=hb.trans (hk.mono hb.size)
 clear hk
 obtain ⟨Ah,Ai,Aj⟩:=ce3 Ae
 go_upto_region 8 with (go_at_call 95;with_reducible refine (chVB hb R C4).mono ?_;clear hb;rintro e w1 ⟨rfl,hk,hb⟩;clear Aa Ab Ac Ad Ah Ai Aj;replace a1:=zB hk a1;replace Ae:=zB hk Ae;obtain ⟨Aa,Ac,Ab,Ad⟩:=cf2 a1;obtain ⟨Ah,Ai,Aj⟩:=ce3 Ae;clear hk)
 refine wp_alloc1 (fun w1 Al hk=>?_)
 clear Aa Ab Ac Ad Ah Ai Aj
 replace a1:=zB hk a1
 replace Ae:=zB hk Ae
 obtain ⟨Aa,Ac,Ab,Ad⟩:=cf2 a1
 obtain ⟨Ah,Ai,Aj⟩:=ce3 Ae
 replace hb:=hb.trans (hk.mono hb.size)
 clear hk
 obtain ⟨A2,A3,A4⟩:=ce3 Al
 go_wp2_with (go_at_call 52;with_reducible refine (chVB hb R C5).mono ?_;clear hb;rintro e w1 ⟨rfl,hk,hb⟩;clear Aa Ab Ac Ad Ah Ai Aj A2 A3 A4;replace a1:=zB hk a1;replace Ae:=zB hk Ae;replace Al:=zB hk Al;obtain ⟨Aa,Ac,Ab,Ad⟩:=cf2 a1;obtain ⟨Ah,Ai,Aj⟩:=ce3 Ae;obtain ⟨A2,A3,A4⟩:=ce3 Al;clear hk)
 refine bodyPost_ret (v:=.tuple #[.agg #[.string A7,.string A8],.int .i64 0]) (by simp [results,Tryz.results50,go_sem,Aa,Ab]) rfl ⟨rfl,?_⟩
 repeat' (first | exact hb | refine Below.setCell ?_ (by first | exact Nat.le_refl _ | (dsimp only;omega)) _)
theorem strike_t (a b c:Rat) (g:a≠0∨b≠0) (na:RN a 24 24) (nb:RN b 24 24) (nc:RN c 24 24) (q0:c.num.sign < 0) (w:World) (R:EnvV w) :
   Calls Tryz.prog 19 #[.agg #[.string (ratB a),.string (ratB b),.string (ratB c)]] w (Ret w (.tuple #[.agg #[.string (ratB (-((-b)*(primF (-a) (-b) (0:Rat))))),.string (ratB ((-a)*(primF (-a) (-b) (0:Rat))))],.int .i64 0])):=by
 have c1:=dir_strike_t a b c g na nb nc q0
 obtain ⟨Am,Ac⟩:∃ vq,ratB (-((-b)*(primF (-a) (-b) (0:Rat))))=vq:=⟨_,rfl⟩
 obtain ⟨An,Ad⟩:∃ vq,ratB ((-a)*(primF (-a) (-b) (0:Rat)))=vq:=⟨_,rfl⟩
 obtain ⟨Ao,Ae⟩:∃ vq,ratB a=vq:=⟨_,rfl⟩
 obtain ⟨Ap,Af⟩:∃ vq,ratB b=vq:=⟨_,rfl⟩
 obtain ⟨Aq,Ag⟩:∃ vq,ratB c=vq:=⟨_,rfl⟩
 try simp only [Ac,Ad,Ae,Af,Ag] at c1 ⊢
 have C1:=Lib.hid c1
 clear c1 Ac Ad Ae Af Ag g na nb nc q0
 have hb:=Below.refl w.heap.size w
 go_enter Tryz.func19,Tryz.ntmps19
 go_upto_region 1 with fail
 refine wp_alloc2 (fun w1 a0 a1 hk=>?_)
 replace hb:=hb.trans (hk.mono hb.size)
 clear hk
 obtain ⟨Ah,Ai,Aj⟩:=ce3 a0
 obtain ⟨Aa,Ak,Ab,Al⟩:=cf2 a1
 go_wp2_with (go_at_call 50;with_reducible refine (chVB hb R C1).mono ?_;clear hb;rintro e w1 ⟨rfl,hk,hb⟩;clear Ah Ai Aj Aa Ab Ak Al;replace a0:=zB hk a0;replace a1:=zB hk a1;obtain ⟨Ah,Ai,Aj⟩:=ce3 a0;obtain ⟨Aa,Ak,Ab,Al⟩:=cf2 a1;clear hk)
 refine bodyPost_ret (v:=.tuple #[.agg #[.string Am,.string An],.int .i64 0]) (by simp [results,Tryz.results19,go_sem,Aa,Ab]) rfl ⟨rfl,?_⟩
 repeat' (first | exact hb | refine Below.setCell ?_ (by first | exact Nat.le_refl _ | (dsimp only;omega)) _)
end Go.Proofs.YtejfiegmdllfbaaGreatDoor.Kl
