import Derived.Test.YtejfiegmdllfbaaGreatDoorKlAGradientsAtG
namespace Go.Proofs.YtejfiegmdllfbaaGreatDoor.Kl
open Go Go.RowKit
set_option maxRecDepth 100000
set_option maxHeartbeats 8000000
theorem gback (x:Rat) : -((-x) / 1)=x:=by rw [Rat.div_def,show (1:Rat)⁻¹=1 by decide +kernel];grind
theorem grads_long  (s0 s1 s2 s3 s4:ByteArray) (hl:¬ (s0.size≤24∧s1.size≤24∧s2.size≤24∧s3.size≤24∧s4.size≤24)) (ms0:s0.size≤9223372036854775807) (ms1:s1.size≤9223372036854775807) (ms2:s2.size≤9223372036854775807) (ms3:s3.size≤9223372036854775807) (ms4:s4.size≤9223372036854775807) (w:World) (R:EnvV w) :
   Calls Tryz.prog 7 #[.agg #[.string s0,.string s1,.string s2],.agg #[.string s3,.string s4]] w (Ret w (.bool true)):=by
 have c1:=known15_any
 have c2:=short5 s0 s1 s2 s3 s4 false ⟨(fun h=>by cases h),fun k=>absurd k hl⟩ ms0 ms1 ms2 ms3 ms4
 have C1:=Lib.hid c1
 have C2:=Lib.hid c2
 clear c1 c2 hl ms0 ms1 ms2 ms3 ms4
 have hb:=Below.refl w.heap.size w
 go_enter Tryz.func7,Tryz.ntmps7
 go_upto_region 1 with fail
 refine wp_alloc2 (fun w1 a0 a1 hk=>?_)
 replace hb:=hb.trans (hk.mono hb.size)
 clear hk
 obtain ⟨Aa,Ab,Ac⟩:=ce3 a0
 obtain ⟨Ad,Ae⟩:=ce2 a1
 go_wp2_with ((first | (go_at_call 11;first | with_reducible refine (chVB hb R C1).mono ?_ | with_reducible refine (chVB hb R C1).mono ?_) | (go_at_call 12;with_reducible refine (zL hb (C2.out _ (R.below hb))).mono ?_));clear hb;rintro e w1 ⟨rfl,hk,hb⟩;clear Aa Ab Ac Ad Ae;replace a0:=zB hk a0;replace a1:=zB hk a1;obtain ⟨Aa,Ab,Ac⟩:=ce3 a0;obtain ⟨Ad,Ae⟩:=ce2 a1;clear hk)
 first | go_ret | go_ret2 | go_ret3
 exact ⟨rfl,hb⟩
theorem grads_Ew  (s0 s1 s2:ByteArray) (v:Int) (hv:NErr s0 s1 s2 v) (zs0:s0.size≤100000) (zs1:s1.size≤100000) (zs2:s2.size≤100000) (s3 s4:ByteArray) (hr:¬ (IsRat s3.data.toList∧IsRat s4.data.toList)) (zs3:s3.size≤100000) (zs4:s4.size≤100000) (hs:s0.size≤24∧s1.size≤24∧s2.size≤24∧s3.size≤24∧s4.size≤24) (w:World) (R:EnvV w) :
   Calls Tryz.prog 7 #[.agg #[.string s0,.string s1,.string s2],.agg #[.string s3,.string s4]] w (Ret w (.bool true)):=by
 have c1:=known15_any
 have c2:∀ w,EnvV w→Calls Tryz.prog 12 #[.slice (some ⟨w.heap.size,0,none⟩) 5 5] (w.alloc (Obj.cells #[Value.string s0,Value.string s1,Value.string s2,Value.string s3,Value.string s4] 22)) (Ret w (.bool true)):=fun w R=>short5 s0 s1 s2 s3 s4 true ⟨fun _=>hs,fun _=>rfl⟩ (Nat.le_trans hs.1 (by decide)) (Nat.le_trans hs.2.1 (by decide)) (Nat.le_trans hs.2.2.1 (by decide)) (Nat.le_trans hs.2.2.2.1 (by decide)) (Nat.le_trans hs.2.2.2.2 (by decide)) w R
 have c3:=fun (w:World) (R:EnvV w)=>grad_err s0 s1 s2 v (fun w R=>slope_err s0 s1 s2 v 0 v (fun w R=>acheck_err s0 s1 s2 v hv zs0 zs1 zs2 w R) (fnz_r v) hv.ne w R) hv.ne w R
 have c4:CV 33 #[.agg #[.string s3,.string s4]] (.tuple #[.agg #[.string ⟨#[]⟩,.string ⟨#[]⟩,.string ⟨#[]⟩],.int .i64 2]):=fun w R=>anorm_err s3 s4 2 (fun w R=>check2_raw s3 s4 2 (fun k=>absurd k hr) (fun _=>rfl) zs3 zs4 w R) (by decide) w R
 have c5:=normal_err s0 s1 s2 v hv zs0 zs1 zs2
 have c6:=right2 s3 s4 false ⟨(fun h=>by cases h),fun k=>absurd k hr⟩ zs3 zs4
 have eqv:(v == 0)=false:=beq_eq_false_iff_ne.2 hv.ne
 have pqv:¬ v=0:=hv.ne
 have C1:=Lib.hid c1
 have C2:=Lib.hid c2
 have C3:=Lib.hid c3
 have C4:=Lib.hid c4
 have C5:=Lib.hid c5
 have C6:=Lib.hid c6
 clear c1 c2 c3 c4 c5 c6 hv zs0 zs1 zs2 hr zs3 zs4 hs
 have hb:=Below.refl w.heap.size w
 go_enter Tryz.func7,Tryz.ntmps7
 go_upto_region 1 with fail
 refine wp_alloc2 (fun w1 a0 a1 hk=>?_)
 replace hb:=hb.trans (hk.mono hb.size)
 clear hk
 obtain ⟨Ad,Ae,Af⟩:=ce3 a0
 obtain ⟨Ab,Ac⟩:=ce2 a1
 go_upto_region 4 with ((first | (go_at_call 11;with_reducible refine (chVB hb R C1).mono ?_) | (go_at_call 12;with_reducible refine (zL hb (C2.out _ (R.below hb))).mono ?_) | (go_at_call 32;with_reducible refine (chVB hb R C3).mono ?_));clear hb;rintro e w1 ⟨rfl,hk,hb⟩;clear Ad Ae Af Ab Ac;replace a0:=zB hk a0;replace a1:=zB hk a1;obtain ⟨Ad,Ae,Af⟩:=ce3 a0;obtain ⟨Ab,Ac⟩:=ce2 a1;clear hk)
 refine wp_alloc1 (fun w1 Aa hk=>?_)
 clear Ad Ae Af Ab Ac
 replace a0:=zB hk a0
 replace a1:=zB hk a1
 obtain ⟨Ad,Ae,Af⟩:=ce3 a0
 obtain ⟨Ab,Ac⟩:=ce2 a1
 replace hb:=hb.trans (hk.mono hb.size)
 clear hk
 obtain ⟨Ag,Ah⟩:=ce2 Aa
 go_upto_region 5 with (go_at_call 33;with_reducible refine (chVB hb R C4).mono ?_;clear hb;rintro e w1 ⟨rfl,hk,hb⟩;clear Ad Ae Af Ab Ac Ag Ah;replace a0:=zB hk a0;replace a1:=zB hk a1;replace Aa:=zB hk Aa;obtain ⟨Ad,Ae,Af⟩:=ce3 a0;obtain ⟨Ab,Ac⟩:=ce2 a1;obtain ⟨Ag,Ah⟩:=ce2 Aa;clear hk)
 refine wp_alloc1 (fun w1 Ai hk=>?_)
 clear Ad Ae Af Ab Ac Ag Ah
 replace a0:=zB hk a0
 replace a1:=zB hk a1
 replace Aa:=zB hk Aa
 obtain ⟨Ad,Ae,Af⟩:=ce3 a0
 obtain ⟨Ab,Ac⟩:=ce2 a1
 obtain ⟨Ag,Ah⟩:=ce2 Aa
 replace hb:=hb.trans (hk.mono hb.size)
 clear hk
 obtain ⟨Aj,Ak,Al⟩:=ce3 Ai
 go_upto_region 10 with (go_at_call 16;with_reducible refine (chVB hb R C5).mono ?_;clear hb;rintro e w1 ⟨rfl,hk,hb⟩;clear Ad Ae Af Ab Ac Ag Ah Aj Ak Al;replace a0:=zB hk a0;replace a1:=zB hk a1;replace Aa:=zB hk Aa;replace Ai:=zB hk Ai;obtain ⟨Ad,Ae,Af⟩:=ce3 a0;obtain ⟨Ab,Ac⟩:=ce2 a1;obtain ⟨Ag,Ah⟩:=ce2 Aa;obtain ⟨Aj,Ak,Al⟩:=ce3 Ai;clear hk)
 go_quiet (fail)
 replace hb:=hb.trans ((below_drewN w1 nq).mono hb.size)
 replace Ad:=(show (w1.drewN nq).cell? _=_ from Ad)
 replace Ae:=(show (w1.drewN nq).cell? _=_ from Ae)
 replace Af:=(show (w1.drewN nq).cell? _=_ from Af)
 replace a0:=(show (w1.drewN nq).heap[_]? = _ from a0)
 replace Ab:=(show (w1.drewN nq).cell? _=_ from Ab)
 replace Ac:=(show (w1.drewN nq).cell? _=_ from Ac)
 replace a1:=(show (w1.drewN nq).heap[_]? = _ from a1)
 replace Ag:=(show (w1.drewN nq).cell? _=_ from Ag)
 replace Ah:=(show (w1.drewN nq).cell? _=_ from Ah)
 replace Aa:=(show (w1.drewN nq).heap[_]? = _ from Aa)
 replace Aj:=(show (w1.drewN nq).cell? _=_ from Aj)
 replace Ak:=(show (w1.drewN nq).cell? _=_ from Ak)
 replace Al:=(show (w1.drewN nq).cell? _=_ from Al)
 replace Ai:=(show (w1.drewN nq).heap[_]? = _ from Ai)
 obtain ⟨w1,hw2⟩:∃ w2,w1.drewN nq=w2:=⟨_,rfl⟩
 rw [hw2] at hb Ad Ae Af a0 Ab Ac a1 Ag Ah Aa Aj Ak Al Ai ⊢
 clear hw2
 go_wp2_with (go_at_call 21;with_reducible refine (zL hb (C6.out _ (R.below hb))).mono ?_;clear hb;rintro e w1 ⟨rfl,hk,hb⟩;clear Ab Ac Ag Ah Aj Ak Al;replace a1:=zB hk a1;replace Aa:=zB hk Aa;replace Ai:=zB hk Ai;obtain ⟨Ab,Ac⟩:=ce2 a1;obtain ⟨Ag,Ah⟩:=ce2 Aa;obtain ⟨Aj,Ak,Al⟩:=ce3 Ai;clear hk)
 first | go_ret | go_ret2 | go_ret3
 exact ⟨rfl,hb⟩
theorem grads_Er  (s0 s1 s2:ByteArray) (v:Int) (hv:NErr s0 s1 s2 v) (zs0:s0.size≤100000) (zs1:s1.size≤100000) (zs2:s2.size≤100000) (x y:Rat) (nx:RN x 24 24) (ny:RN y 24 24) (hs:s0.size≤24∧s1.size≤24∧s2.size≤24∧(ratB x).size≤24∧(ratB y).size≤24) (w:World) (R:EnvV w) :
   Calls Tryz.prog 7 #[.agg #[.string s0,.string s1,.string s2],.agg #[.string (ratB x),.string (ratB y)]] w (Ret w (.bool true)):=by
 have Ap:=nx.rl (K:=40000)
 have Aq:=ny.rl (K:=40000)
 have Am:RN (-x) 24 24:=(RN_neg nx)
 have An:RN (-y) 24 24:=(RN_neg ny)
 have Au:=Am.rl (K:=40000)
 have Ar:RN (-(-x)) 24 24:=(RN_neg Am)
 have Av:=RN_div Ar rn_1 (by decide)
 have Aw:=An.rl (K:=40000)
 have As:RN (-(-y)) 24 24:=(RN_neg An)
 have Ax:=RN_div As rn_1 (by decide)
 have Ay:=RN_div Am rn_1 (by decide)
 have A8:RN (-((-x) / (1:Rat))) 25 25:=(RN_neg Ay)
 have Az:=RN_div An rn_1 (by decide)
 have A9:RN (-((-y) / (1:Rat))) 25 25:=(RN_neg Az)
 have c1:=known15_any
 have c2:∀ w,EnvV w→Calls Tryz.prog 12 #[.slice (some ⟨w.heap.size,0,none⟩) 5 5] (w.alloc (Obj.cells #[Value.string s0,Value.string s1,Value.string s2,Value.string (ratB x),Value.string (ratB y)] 22)) (Ret w (.bool true)):=fun w R=>short5 s0 s1 s2 (ratB x) (ratB y) true ⟨fun _=>hs,fun _=>rfl⟩ (Nat.le_trans hs.1 (by decide)) (Nat.le_trans hs.2.1 (by decide)) (Nat.le_trans hs.2.2.1 (by decide)) (Nat.le_trans hs.2.2.2.1 (by decide)) (Nat.le_trans hs.2.2.2.2 (by decide)) w R
 have c3:=fun (w:World) (R:EnvV w)=>grad_err s0 s1 s2 v (fun w R=>slope_err s0 s1 s2 v 0 v (fun w R=>acheck_err s0 s1 s2 v hv zs0 zs1 zs2 w R) (fnz_r v) hv.ne w R) hv.ne w R
 have c4:=anorm_ok x y nx.r2 ny.r2 Ap Aq
 have c5:=normal_err s0 s1 s2 v hv zs0 zs1 zs2
 have c6:∀ w,EnvV w→Calls Tryz.prog 21 #[.slice (some ⟨w.heap.size,0,none⟩) 2 2] (w.alloc (Obj.cells #[Value.string (ratB x),Value.string (ratB y)] 22)) (Ret w (.bool true)):=fun w R=>right2 (ratB x) (ratB y) true ⟨fun _=>⟨isRat_of (nx.rl (K:=200)),isRat_of (ny.rl (K:=200))⟩,fun _=>rfl⟩ (Nat.le_trans (size_of_RL (nx.rl (K:=200))) (by decide)) (Nat.le_trans (size_of_RL (ny.rl (K:=200))) (by decide)) w R
 have c7:CV 32 #[.agg #[.string (ratB (-x)),.string (ratB (-y)),.string ⟨#[49]⟩]] (.tuple #[.agg #[.string (ratB x),.string (ratB y)],.int .i64 0]):=fun w R=>(by have h:=(by have h:=grad_ok (-x) (-y) (1:Rat) Am.r2 An.r2 (RN.rl (K:=200) rn_1) (by decide) Au Ar.rm (RN.rl (K:=10000) rn_1) Av.r2 Aw As.rm Ax.r2 w R;simp only [rb_1] at h;exact h);rw [show ratB (-((-x) / (1:Rat)))=ratB x from by rw [gback],show ratB (-((-y) / (1:Rat)))=ratB y from by rw [gback]] at h;exact h)
 have c8:=fun (w:World) (R:EnvV w)=>rneg_any x Ap w R.toEnvR
 have c9:=fun (w:World) (R:EnvV w)=>rneg_any y Aq w R.toEnvR
 have eqv:(v == 0)=false:=beq_eq_false_iff_ne.2 hv.ne
 have pqv:¬ v=0:=hv.ne
 obtain ⟨Bj,A0⟩:∃ vq,ratB (-x)=vq:=⟨_,rfl⟩
 obtain ⟨Bk,A1⟩:∃ vq,ratB (-y)=vq:=⟨_,rfl⟩
 obtain ⟨Bl,A2⟩:∃ vq,ratB x=vq:=⟨_,rfl⟩
 obtain ⟨Bm,A3⟩:∃ vq,ratB y=vq:=⟨_,rfl⟩
 try simp only [A0,A1,A2,A3] at c1 c2 c3 c4 c5 c6 c7 c8 c9 eqv pqv ⊢
 have C1:=Lib.hid c1
 have C2:=Lib.hid c2
 have C3:=Lib.hid c3
 have C4:=Lib.hid c4
 have C5:=Lib.hid c5
 have C6:=Lib.hid c6
 have C7:=Lib.hid c7
 have C8:=Lib.hid c8
 have C9:=Lib.hid c9
 clear c1 c2 c3 c4 c5 c6 c7 c8 c9 A0 A1 A2 A3 Ap Aq Am An Au Ar Av Aw As Ax Ay A8 Az A9 hv zs0 zs1 zs2 nx ny hs
 have hb:=Below.refl w.heap.size w
 go_enter Tryz.func7,Tryz.ntmps7
 go_upto_region 1 with fail
 refine wp_alloc2 (fun w1 a0 a1 hk=>?_)
 replace hb:=hb.trans (hk.mono hb.size)
 clear hk
 obtain ⟨Ag,Ah,Ai⟩:=ce3 a0
 obtain ⟨Ab,Ac⟩:=ce2 a1
 go_upto_region 4 with ((first | (go_at_call 11;with_reducible refine (chVB hb R C1).mono ?_) | (go_at_call 12;with_reducible refine (zL hb (C2.out _ (R.below hb))).mono ?_) | (go_at_call 32;with_reducible refine (chVB hb R C3).mono ?_));clear hb;rintro e w1 ⟨rfl,hk,hb⟩;clear Ag Ah Ai Ab Ac;replace a0:=zB hk a0;replace a1:=zB hk a1;obtain ⟨Ag,Ah,Ai⟩:=ce3 a0;obtain ⟨Ab,Ac⟩:=ce2 a1;clear hk)
 refine wp_alloc1 (fun w1 Aa hk=>?_)
 clear Ag Ah Ai Ab Ac
 replace a0:=zB hk a0
 replace a1:=zB hk a1
 obtain ⟨Ag,Ah,Ai⟩:=ce3 a0
 obtain ⟨Ab,Ac⟩:=ce2 a1
 replace hb:=hb.trans (hk.mono hb.size)
 clear hk
 obtain ⟨Ae,Af⟩:=ce2 Aa
 go_upto_region 5 with (go_at_call 33;with_reducible refine (chVB hb R C4).mono ?_;clear hb;rintro e w1 ⟨rfl,hk,hb⟩;clear Ag Ah Ai Ab Ac Ae Af;replace a0:=zB hk a0;replace a1:=zB hk a1;replace Aa:=zB hk Aa;obtain ⟨Ag,Ah,Ai⟩:=ce3 a0;obtain ⟨Ab,Ac⟩:=ce2 a1;obtain ⟨Ae,Af⟩:=ce2 Aa;clear hk)
 refine wp_alloc1 (fun w1 Ad hk=>?_)
 clear Ag Ah Ai Ab Ac Ae Af
 replace a0:=zB hk a0
 replace a1:=zB hk a1
 replace Aa:=zB hk Aa
 obtain ⟨Ag,Ah,Ai⟩:=ce3 a0
 obtain ⟨Ab,Ac⟩:=ce2 a1
 obtain ⟨Ae,Af⟩:=ce2 Aa
 replace hb:=hb.trans (hk.mono hb.size)
 clear hk
 obtain ⟨Aj,Ak,Al⟩:=ce3 Ad
 go_upto_region 10 with (go_at_call 16;with_reducible refine (chVB hb R C5).mono ?_;clear hb;rintro e w1 ⟨rfl,hk,hb⟩;clear Ag Ah Ai Ab Ac Ae Af Aj Ak Al;replace a0:=zB hk a0;replace a1:=zB hk a1;replace Aa:=zB hk Aa;replace Ad:=zB hk Ad;obtain ⟨Ag,Ah,Ai⟩:=ce3 a0;obtain ⟨Ab,Ac⟩:=ce2 a1;obtain ⟨Ae,Af⟩:=ce2 Aa;obtain ⟨Aj,Ak,Al⟩:=ce3 Ad;clear hk)
 go_quiet (fail)
 replace hb:=hb.trans ((below_drewN w1 nq).mono hb.size)
 replace Ag:=(show (w1.drewN nq).cell? _=_ from Ag)
 replace Ah:=(show (w1.drewN nq).cell? _=_ from Ah)
 replace Ai:=(show (w1.drewN nq).cell? _=_ from Ai)
 replace a0:=(show (w1.drewN nq).heap[_]? = _ from a0)
 replace Ab:=(show (w1.drewN nq).cell? _=_ from Ab)
 replace Ac:=(show (w1.drewN nq).cell? _=_ from Ac)
 replace a1:=(show (w1.drewN nq).heap[_]? = _ from a1)
 replace Ae:=(show (w1.drewN nq).cell? _=_ from Ae)
 replace Af:=(show (w1.drewN nq).cell? _=_ from Af)
 replace Aa:=(show (w1.drewN nq).heap[_]? = _ from Aa)
 replace Aj:=(show (w1.drewN nq).cell? _=_ from Aj)
 replace Ak:=(show (w1.drewN nq).cell? _=_ from Ak)
 replace Al:=(show (w1.drewN nq).cell? _=_ from Al)
 replace Ad:=(show (w1.drewN nq).heap[_]? = _ from Ad)
 obtain ⟨w1,hw2⟩:∃ w2,w1.drewN nq=w2:=⟨_,rfl⟩
 rw [hw2] at hb Ag Ah Ai a0 Ab Ac a1 Ae Af Aa Aj Ak Al Ad ⊢
 clear hw2
 go_upto_region 15 with ((first | (go_at_call 21;with_reducible refine (zL hb (C6.out _ (R.below hb))).mono ?_) | (go_at_call 32;with_reducible refine (chVB hb R C7).mono ?_));clear hb;rintro e w1 ⟨rfl,hk,hb⟩;clear Ab Ac Ae Af Aj Ak Al;replace a1:=zB hk a1;replace Aa:=zB hk Aa;replace Ad:=zB hk Ad;obtain ⟨Ab,Ac⟩:=ce2 a1;obtain ⟨Ae,Af⟩:=ce2 Aa;obtain ⟨Aj,Ak,Al⟩:=ce3 Ad;clear hk)
 clear Ag Ah Ai a0
 refine wp_alloc1 (fun w1 Ao hk=>?_)
 clear Ab Ac Ae Af Aj Ak Al
 replace a1:=zB hk a1
 replace Aa:=zB hk Aa
 replace Ad:=zB hk Ad
 obtain ⟨Ab,Ac⟩:=ce2 a1
 obtain ⟨Ae,Af⟩:=ce2 Aa
 obtain ⟨Aj,Ak,Al⟩:=ce3 Ad
 replace hb:=hb.trans (hk.mono hb.size)
 clear hk
 obtain ⟨A4,A5⟩:=ce2 Ao
 obtain ⟨Ba,Bb⟩:=cy2 a1
 obtain ⟨Bc,Bd⟩:=cy2 Aa
 obtain ⟨Be,Bf,Bg⟩:=cy3 Ad
 obtain ⟨Bh,Bi⟩:=cy2 Ao
 have A6:=rrV C8 R hb
 have A7:=rrV C9 R hb
 refine wp_region_quiet_below (by first | assumption | kernel_rfl) (by kernel_rfl) ?_
 repeat (quiet_step (first | (with_reducible exact A6.out _ _) | (with_reducible exact A7.out _ _)))
 refine wpQuiet_nil ?_
 intro w1 hw'
 obtain ⟨hk,hb⟩:=zQ hb hw'
 clear Ab Ac Ae Af Aj Ak Al A4 A5
 replace a1:=zB hk a1
 replace Aa:=zB hk Aa
 replace Ad:=zB hk Ad
 replace Ao:=zB hk Ao
 obtain ⟨Ab,Ac⟩:=ce2 a1
 obtain ⟨Ae,Af⟩:=ce2 Aa
 obtain ⟨Aj,Ak,Al⟩:=ce3 Ad
 obtain ⟨A4,A5⟩:=ce2 Ao
 clear A6 A7 Ba Bb Bc Bd Be Bf Bg Bh Bi
 clear hk hw'
 go_wp2
 first | go_ret | go_ret2 | go_ret3
 exact ⟨rfl,hb⟩
theorem grads_Vw  (a b c:Rat) (h:a≠0∨b≠0∨c≠0) (na:RN a 24 24) (nb:RN b 24 24) (nc:RN c 24 24) (s3 s4:ByteArray) (hr:¬ (IsRat s3.data.toList∧IsRat s4.data.toList)) (zs3:s3.size≤100000) (zs4:s4.size≤100000) (hs:(ratB a).size≤24∧(ratB b).size≤24∧(ratB c).size≤24∧s3.size≤24∧s4.size≤24) (q0:c=0) (w:World) (R:EnvV w) :
   Calls Tryz.prog 7 #[.agg #[.string (ratB a),.string (ratB b),.string (ratB c)],.agg #[.string s3,.string s4]] w (Ret w (.bool true)):=by
 have c1:=known15_any
 have c2:∀ w,EnvV w→Calls Tryz.prog 12 #[.slice (some ⟨w.heap.size,0,none⟩) 5 5] (w.alloc (Obj.cells #[Value.string (ratB a),Value.string (ratB b),Value.string (ratB c),Value.string s3,Value.string s4] 22)) (Ret w (.bool true)):=fun w R=>short5 (ratB a) (ratB b) (ratB c) s3 s4 true ⟨fun _=>hs,fun _=>rfl⟩ (Nat.le_trans hs.1 (by decide)) (Nat.le_trans hs.2.1 (by decide)) (Nat.le_trans hs.2.2.1 (by decide)) (Nat.le_trans hs.2.2.2.1 (by decide)) (Nat.le_trans hs.2.2.2.2 (by decide)) w R
 have c3:=fun (w:World) (R:EnvV w)=>grad_err (ratB a) (ratB b) (ratB c) 21 (fun w R=>slope_v a b c h (na.rl (K:=200)) (nb.rl (K:=200)) (nc.rl (K:=200)) q0 w R) (by decide) w R
 have c4:CV 33 #[.agg #[.string s3,.string s4]] (.tuple #[.agg #[.string ⟨#[]⟩,.string ⟨#[]⟩,.string ⟨#[]⟩],.int .i64 2]):=fun w R=>anorm_err s3 s4 2 (fun w R=>check2_raw s3 s4 2 (fun k=>absurd k hr) (fun _=>rfl) zs3 zs4 w R) (by decide) w R
 have c5:=normal_ok a b c (na.rl (K:=200)) (nb.rl (K:=200)) (nc.rl (K:=200)) h
 have c6:=right2 s3 s4 false ⟨(fun h=>by cases h),fun k=>absurd k hr⟩ zs3 zs4
 have eq0:((ratB c).toList == [48])=true:=by rw [ratB_eq_zero];exact decide_eq_true q0
 have pq0:(ratB c).toList=[48]:=(zero_iff _).2 q0
 obtain ⟨Ap,Am⟩:∃ vq,ratB a=vq:=⟨_,rfl⟩
 obtain ⟨Aq,An⟩:∃ vq,ratB b=vq:=⟨_,rfl⟩
 obtain ⟨Ar,Ao⟩:∃ vq,ratB c=vq:=⟨_,rfl⟩
 try simp only [Am,An,Ao] at c1 c2 c3 c4 c5 c6 eq0 pq0 ⊢
 have C1:=Lib.hid c1
 have C2:=Lib.hid c2
 have C3:=Lib.hid c3
 have C4:=Lib.hid c4
 have C5:=Lib.hid c5
 have C6:=Lib.hid c6
 clear c1 c2 c3 c4 c5 c6 Am An Ao q0 h na nb nc hr zs3 zs4 hs
 have hb:=Below.refl w.heap.size w
 go_enter Tryz.func7,Tryz.ntmps7
 go_upto_region 1 with fail
 refine wp_alloc2 (fun w1 a0 a1 hk=>?_)
 replace hb:=hb.trans (hk.mono hb.size)
 clear hk
 obtain ⟨Ad,Ae,Af⟩:=ce3 a0
 obtain ⟨Ab,Ac⟩:=ce2 a1
 go_upto_region 4 with ((first | (go_at_call 11;with_reducible refine (chVB hb R C1).mono ?_) | (go_at_call 12;with_reducible refine (zL hb (C2.out _ (R.below hb))).mono ?_) | (go_at_call 32;with_reducible refine (chVB hb R C3).mono ?_));clear hb;rintro e w1 ⟨rfl,hk,hb⟩;clear Ad Ae Af Ab Ac;replace a0:=zB hk a0;replace a1:=zB hk a1;obtain ⟨Ad,Ae,Af⟩:=ce3 a0;obtain ⟨Ab,Ac⟩:=ce2 a1;clear hk)
 refine wp_alloc1 (fun w1 Aa hk=>?_)
 clear Ad Ae Af Ab Ac
 replace a0:=zB hk a0
 replace a1:=zB hk a1
 obtain ⟨Ad,Ae,Af⟩:=ce3 a0
 obtain ⟨Ab,Ac⟩:=ce2 a1
 replace hb:=hb.trans (hk.mono hb.size)
 clear hk
 obtain ⟨Ag,Ah⟩:=ce2 Aa
 go_upto_region 5 with (go_at_call 33;with_reducible refine (chVB hb R C4).mono ?_;clear hb;rintro e w1 ⟨rfl,hk,hb⟩;clear Ad Ae Af Ab Ac Ag Ah;replace a0:=zB hk a0;replace a1:=zB hk a1;replace Aa:=zB hk Aa;obtain ⟨Ad,Ae,Af⟩:=ce3 a0;obtain ⟨Ab,Ac⟩:=ce2 a1;obtain ⟨Ag,Ah⟩:=ce2 Aa;clear hk)
 refine wp_alloc1 (fun w1 Ai hk=>?_)
 clear Ad Ae Af Ab Ac Ag Ah
 replace a0:=zB hk a0
 replace a1:=zB hk a1
 replace Aa:=zB hk Aa
 obtain ⟨Ad,Ae,Af⟩:=ce3 a0
 obtain ⟨Ab,Ac⟩:=ce2 a1
 obtain ⟨Ag,Ah⟩:=ce2 Aa
 replace hb:=hb.trans (hk.mono hb.size)
 clear hk
 obtain ⟨Aj,Ak,Al⟩:=ce3 Ai
 go_upto_region 10 with (go_at_call 16;with_reducible refine (chVB hb R C5).mono ?_;clear hb;rintro e w1 ⟨rfl,hk,hb⟩;clear Ad Ae Af Ab Ac Ag Ah Aj Ak Al;replace a0:=zB hk a0;replace a1:=zB hk a1;replace Aa:=zB hk Aa;replace Ai:=zB hk Ai;obtain ⟨Ad,Ae,Af⟩:=ce3 a0;obtain ⟨Ab,Ac⟩:=ce2 a1;obtain ⟨Ag,Ah⟩:=ce2 Aa;obtain ⟨Aj,Ak,Al⟩:=ce3 Ai;clear hk)
 go_quiet (fail)
 replace hb:=hb.trans ((below_drewN w1 nq).mono hb.size)
 replace Ad:=(show (w1.drewN nq).cell? _=_ from Ad)
 replace Ae:=(show (w1.drewN nq).cell? _=_ from Ae)
 replace Af:=(show (w1.drewN nq).cell? _=_ from Af)
 replace a0:=(show (w1.drewN nq).heap[_]? = _ from a0)
 replace Ab:=(show (w1.drewN nq).cell? _=_ from Ab)
 replace Ac:=(show (w1.drewN nq).cell? _=_ from Ac)
 replace a1:=(show (w1.drewN nq).heap[_]? = _ from a1)
 replace Ag:=(show (w1.drewN nq).cell? _=_ from Ag)
 replace Ah:=(show (w1.drewN nq).cell? _=_ from Ah)
 replace Aa:=(show (w1.drewN nq).heap[_]? = _ from Aa)
 replace Aj:=(show (w1.drewN nq).cell? _=_ from Aj)
 replace Ak:=(show (w1.drewN nq).cell? _=_ from Ak)
 replace Al:=(show (w1.drewN nq).cell? _=_ from Al)
 replace Ai:=(show (w1.drewN nq).heap[_]? = _ from Ai)
 obtain ⟨w1,hw2⟩:∃ w2,w1.drewN nq=w2:=⟨_,rfl⟩
 rw [hw2] at hb Ad Ae Af a0 Ab Ac a1 Ag Ah Aa Aj Ak Al Ai ⊢
 clear hw2
 go_wp2_with (go_at_call 21;with_reducible refine (zL hb (C6.out _ (R.below hb))).mono ?_;clear hb;rintro e w1 ⟨rfl,hk,hb⟩;clear Ab Ac Ag Ah Aj Ak Al;replace a1:=zB hk a1;replace Aa:=zB hk Aa;replace Ai:=zB hk Ai;obtain ⟨Ab,Ac⟩:=ce2 a1;obtain ⟨Ag,Ah⟩:=ce2 Aa;obtain ⟨Aj,Ak,Al⟩:=ce3 Ai;clear hk)
 first | go_ret | go_ret2 | go_ret3
 exact ⟨rfl,hb⟩
theorem grads_Vr  (a b c:Rat) (h:a≠0∨b≠0∨c≠0) (na:RN a 24 24) (nb:RN b 24 24) (nc:RN c 24 24) (x y:Rat) (nx:RN x 24 24) (ny:RN y 24 24) (hs:(ratB a).size≤24∧(ratB b).size≤24∧(ratB c).size≤24∧(ratB x).size≤24∧(ratB y).size≤24) (q0:c=0) (w:World) (R:EnvV w) :
   Calls Tryz.prog 7 #[.agg #[.string (ratB a),.string (ratB b),.string (ratB c)],.agg #[.string (ratB x),.string (ratB y)]] w (Ret w (.bool true)):=by
 have Ap:=nx.rl (K:=40000)
 have Aq:=ny.rl (K:=40000)
 have Am:RN (-x) 24 24:=(RN_neg nx)
 have An:RN (-y) 24 24:=(RN_neg ny)
 have Au:=Am.rl (K:=40000)
 have Ar:RN (-(-x)) 24 24:=(RN_neg Am)
 have Av:=RN_div Ar rn_1 (by decide)
 have Aw:=An.rl (K:=40000)
 have As:RN (-(-y)) 24 24:=(RN_neg An)
 have Ax:=RN_div As rn_1 (by decide)
 have Ay:=RN_div Am rn_1 (by decide)
 have Bb:RN (-((-x) / (1:Rat))) 25 25:=(RN_neg Ay)
 have Az:=RN_div An rn_1 (by decide)
 have Bc:RN (-((-y) / (1:Rat))) 25 25:=(RN_neg Az)
 have c1:=known15_any
 have c2:∀ w,EnvV w→Calls Tryz.prog 12 #[.slice (some ⟨w.heap.size,0,none⟩) 5 5] (w.alloc (Obj.cells #[Value.string (ratB a),Value.string (ratB b),Value.string (ratB c),Value.string (ratB x),Value.string (ratB y)] 22)) (Ret w (.bool true)):=fun w R=>short5 (ratB a) (ratB b) (ratB c) (ratB x) (ratB y) true ⟨fun _=>hs,fun _=>rfl⟩ (Nat.le_trans hs.1 (by decide)) (Nat.le_trans hs.2.1 (by decide)) (Nat.le_trans hs.2.2.1 (by decide)) (Nat.le_trans hs.2.2.2.1 (by decide)) (Nat.le_trans hs.2.2.2.2 (by decide)) w R
 have c3:=fun (w:World) (R:EnvV w)=>grad_err (ratB a) (ratB b) (ratB c) 21 (fun w R=>slope_v a b c h (na.rl (K:=200)) (nb.rl (K:=200)) (nc.rl (K:=200)) q0 w R) (by decide) w R
 have c4:=anorm_ok x y nx.r2 ny.r2 Ap Aq
 have c5:=normal_ok a b c (na.rl (K:=200)) (nb.rl (K:=200)) (nc.rl (K:=200)) h
 have c6:∀ w,EnvV w→Calls Tryz.prog 21 #[.slice (some ⟨w.heap.size,0,none⟩) 2 2] (w.alloc (Obj.cells #[Value.string (ratB x),Value.string (ratB y)] 22)) (Ret w (.bool true)):=fun w R=>right2 (ratB x) (ratB y) true ⟨fun _=>⟨isRat_of (nx.rl (K:=200)),isRat_of (ny.rl (K:=200))⟩,fun _=>rfl⟩ (Nat.le_trans (size_of_RL (nx.rl (K:=200))) (by decide)) (Nat.le_trans (size_of_RL (ny.rl (K:=200))) (by decide)) w R
 have c7:CV 32 #[.agg #[.string (ratB (-x)),.string (ratB (-y)),.string ⟨#[49]⟩]] (.tuple #[.agg #[.string (ratB x),.string (ratB y)],.int .i64 0]):=fun w R=>(by have h:=(by have h:=grad_ok (-x) (-y) (1:Rat) Am.r2 An.r2 (RN.rl (K:=200) rn_1) (by decide) Au Ar.rm (RN.rl (K:=10000) rn_1) Av.r2 Aw As.rm Ax.r2 w R;simp only [rb_1] at h;exact h);rw [show ratB (-((-x) / (1:Rat)))=ratB x from by rw [gback],show ratB (-((-y) / (1:Rat)))=ratB y from by rw [gback]] at h;exact h)
 have c8:=fun (w:World) (R:EnvV w)=>rneg_any x Ap w R.toEnvR
 have c9:=fun (w:World) (R:EnvV w)=>rneg_any y Aq w R.toEnvR
 have eq0:((ratB c).toList == [48])=true:=by rw [ratB_eq_zero];exact decide_eq_true q0
 have pq0:(ratB c).toList=[48]:=(zero_iff _).2 q0
 obtain ⟨Bm,A0⟩:∃ vq,ratB (-x)=vq:=⟨_,rfl⟩
 obtain ⟨Bn,A1⟩:∃ vq,ratB (-y)=vq:=⟨_,rfl⟩
 obtain ⟨Bo,A2⟩:∃ vq,ratB a=vq:=⟨_,rfl⟩
 obtain ⟨Bp,A3⟩:∃ vq,ratB b=vq:=⟨_,rfl⟩
 obtain ⟨Bq,A4⟩:∃ vq,ratB c=vq:=⟨_,rfl⟩
 obtain ⟨Br,A5⟩:∃ vq,ratB x=vq:=⟨_,rfl⟩
 obtain ⟨Bs,A6⟩:∃ vq,ratB y=vq:=⟨_,rfl⟩
 try simp only [A0,A1,A2,A3,A4,A5,A6] at c1 c2 c3 c4 c5 c6 c7 c8 c9 eq0 pq0 ⊢
 have C1:=Lib.hid c1
 have C2:=Lib.hid c2
 have C3:=Lib.hid c3
 have C4:=Lib.hid c4
 have C5:=Lib.hid c5
 have C6:=Lib.hid c6
 have C7:=Lib.hid c7
 have C8:=Lib.hid c8
 have C9:=Lib.hid c9
 clear c1 c2 c3 c4 c5 c6 c7 c8 c9 A0 A1 A2 A3 A4 A5 A6 Ap Aq Am An Au Ar Av Aw As Ax Ay Bb Az Bc q0 h na nb nc nx ny hs
 have hb:=Below.refl w.heap.size w
 go_enter Tryz.func7,Tryz.ntmps7
 go_upto_region 1 with fail
 refine wp_alloc2 (fun w1 a0 a1 hk=>?_)
 replace hb:=hb.trans (hk.mono hb.size)
 clear hk
 obtain ⟨Ag,Ah,Ai⟩:=ce3 a0
 obtain ⟨Ab,Ac⟩:=ce2 a1
 go_upto_region 4 with ((first | (go_at_call 11;with_reducible refine (chVB hb R C1).mono ?_) | (go_at_call 12;with_reducible refine (zL hb (C2.out _ (R.below hb))).mono ?_) | (go_at_call 32;with_reducible refine (chVB hb R C3).mono ?_));clear hb;rintro e w1 ⟨rfl,hk,hb⟩;clear Ag Ah Ai Ab Ac;replace a0:=zB hk a0;replace a1:=zB hk a1;obtain ⟨Ag,Ah,Ai⟩:=ce3 a0;obtain ⟨Ab,Ac⟩:=ce2 a1;clear hk)
 refine wp_alloc1 (fun w1 Aa hk=>?_)
 clear Ag Ah Ai Ab Ac
 replace a0:=zB hk a0
 replace a1:=zB hk a1
 obtain ⟨Ag,Ah,Ai⟩:=ce3 a0
 obtain ⟨Ab,Ac⟩:=ce2 a1
 replace hb:=hb.trans (hk.mono hb.size)
 clear hk
 obtain ⟨Ae,Af⟩:=ce2 Aa
 go_upto_region 5 with (go_at_call 33;with_reducible refine (chVB hb R C4).mono ?_;clear hb;rintro e w1 ⟨rfl,hk,hb⟩;clear Ag Ah Ai Ab Ac Ae Af;replace a0:=zB hk a0;replace a1:=zB hk a1;replace Aa:=zB hk Aa;obtain ⟨Ag,Ah,Ai⟩:=ce3 a0;obtain ⟨Ab,Ac⟩:=ce2 a1;obtain ⟨Ae,Af⟩:=ce2 Aa;clear hk)
 refine wp_alloc1 (fun w1 Ad hk=>?_)
 clear Ag Ah Ai Ab Ac Ae Af
 replace a0:=zB hk a0
 replace a1:=zB hk a1
 replace Aa:=zB hk Aa
 obtain ⟨Ag,Ah,Ai⟩:=ce3 a0
 obtain ⟨Ab,Ac⟩:=ce2 a1
 obtain ⟨Ae,Af⟩:=ce2 Aa
 replace hb:=hb.trans (hk.mono hb.size)
 clear hk
 obtain ⟨Aj,Ak,Al⟩:=ce3 Ad
 go_upto_region 10 with (go_at_call 16;with_reducible refine (chVB hb R C5).mono ?_;clear hb;rintro e w1 ⟨rfl,hk,hb⟩;clear Ag Ah Ai Ab Ac Ae Af Aj Ak Al;replace a0:=zB hk a0;replace a1:=zB hk a1;replace Aa:=zB hk Aa;replace Ad:=zB hk Ad;obtain ⟨Ag,Ah,Ai⟩:=ce3 a0;obtain ⟨Ab,Ac⟩:=ce2 a1;obtain ⟨Ae,Af⟩:=ce2 Aa;obtain ⟨Aj,Ak,Al⟩:=ce3 Ad;clear hk)
 go_quiet (fail)
 replace hb:=hb.trans ((below_drewN w1 nq).mono hb.size)
 replace Ag:=(show (w1.drewN nq).cell? _=_ from Ag)
 replace Ah:=(show (w1.drewN nq).cell? _=_ from Ah)
 replace Ai:=(show (w1.drewN nq).cell? _=_ from Ai)
 replace a0:=(show (w1.drewN nq).heap[_]? = _ from a0)
 replace Ab:=(show (w1.drewN nq).cell? _=_ from Ab)
 replace Ac:=(show (w1.drewN nq).cell? _=_ from Ac)
 replace a1:=(show (w1.drewN nq).heap[_]? = _ from a1)
 replace Ae:=(show (w1.drewN nq).cell? _=_ from Ae)
 replace Af:=(show (w1.drewN nq).cell? _=_ from Af)
 replace Aa:=(show (w1.drewN nq).heap[_]? = _ from Aa)
 replace Aj:=(show (w1.drewN nq).cell? _=_ from Aj)
 replace Ak:=(show (w1.drewN nq).cell? _=_ from Ak)
 replace Al:=(show (w1.drewN nq).cell? _=_ from Al)
 replace Ad:=(show (w1.drewN nq).heap[_]? = _ from Ad)
 obtain ⟨w1,hw2⟩:∃ w2,w1.drewN nq=w2:=⟨_,rfl⟩
 rw [hw2] at hb Ag Ah Ai a0 Ab Ac a1 Ae Af Aa Aj Ak Al Ad ⊢
 clear hw2
 go_upto_region 15 with ((first | (go_at_call 21;with_reducible refine (zL hb (C6.out _ (R.below hb))).mono ?_) | (go_at_call 32;with_reducible refine (chVB hb R C7).mono ?_));clear hb;rintro e w1 ⟨rfl,hk,hb⟩;clear Ab Ac Ae Af Aj Ak Al;replace a1:=zB hk a1;replace Aa:=zB hk Aa;replace Ad:=zB hk Ad;obtain ⟨Ab,Ac⟩:=ce2 a1;obtain ⟨Ae,Af⟩:=ce2 Aa;obtain ⟨Aj,Ak,Al⟩:=ce3 Ad;clear hk)
 clear Ag Ah Ai a0
 refine wp_alloc1 (fun w1 Ao hk=>?_)
 clear Ab Ac Ae Af Aj Ak Al
 replace a1:=zB hk a1
 replace Aa:=zB hk Aa
 replace Ad:=zB hk Ad
 obtain ⟨Ab,Ac⟩:=ce2 a1
 obtain ⟨Ae,Af⟩:=ce2 Aa
 obtain ⟨Aj,Ak,Al⟩:=ce3 Ad
 replace hb:=hb.trans (hk.mono hb.size)
 clear hk
 obtain ⟨A7,A8⟩:=ce2 Ao
 obtain ⟨Bd,Be⟩:=cy2 a1
 obtain ⟨Bf,Bg⟩:=cy2 Aa
 obtain ⟨Bh,Bi,Bj⟩:=cy3 Ad
 obtain ⟨Bk,Bl⟩:=cy2 Ao
 have A9:=rrV C8 R hb
 have Ba:=rrV C9 R hb
 refine wp_region_quiet_below (by first | assumption | kernel_rfl) (by kernel_rfl) ?_
 repeat (quiet_step (first | (with_reducible exact A9.out _ _) | (with_reducible exact Ba.out _ _)))
 refine wpQuiet_nil ?_
 intro w1 hw'
 obtain ⟨hk,hb⟩:=zQ hb hw'
 clear Ab Ac Ae Af Aj Ak Al A7 A8
 replace a1:=zB hk a1
 replace Aa:=zB hk Aa
 replace Ad:=zB hk Ad
 replace Ao:=zB hk Ao
 obtain ⟨Ab,Ac⟩:=ce2 a1
 obtain ⟨Ae,Af⟩:=ce2 Aa
 obtain ⟨Aj,Ak,Al⟩:=ce3 Ad
 obtain ⟨A7,A8⟩:=ce2 Ao
 clear A9 Ba Bd Be Bf Bg Bh Bi Bj Bk Bl
 clear hk hw'
 go_wp2
 first | go_ret | go_ret2 | go_ret3
 exact ⟨rfl,hb⟩
theorem grads_Ow  (a b c:Rat) (na:RN a 24 24) (nb:RN b 24 24) (nc:RN c 24 24) (s3 s4:ByteArray) (hr:¬ (IsRat s3.data.toList∧IsRat s4.data.toList)) (zs3:s3.size≤100000) (zs4:s4.size≤100000) (hs:(ratB a).size≤24∧(ratB b).size≤24∧(ratB c).size≤24∧s3.size≤24∧s4.size≤24) (q0:c≠0) (w:World) (R:EnvV w) :
   Calls Tryz.prog 7 #[.agg #[.string (ratB a),.string (ratB b),.string (ratB c)],.agg #[.string s3,.string s4]] w (Ret w (.bool true)):=by
 have Aq:=na.rl (K:=40000)
 have Am:RN (-a) 24 24:=(RN_neg na)
 have Ar:=RN_div Am nc q0
 have As:=nb.rl (K:=40000)
 have An:RN (-b) 24 24:=(RN_neg nb)
 have Au:=RN_div An nc q0
 have Ao:=RN_div na nc q0
 have A8:RN (-(a / c)) 48 48:=(RN_neg Ao)
 have Ap:=RN_div nb nc q0
 have A9:RN (-(b / c)) 48 48:=(RN_neg Ap)
 have Av:=Ao.rl (K:=40000)
 have Aw:=Ap.rl (K:=40000)
 have c1:=known15_any
 have c2:∀ w,EnvV w→Calls Tryz.prog 12 #[.slice (some ⟨w.heap.size,0,none⟩) 5 5] (w.alloc (Obj.cells #[Value.string (ratB a),Value.string (ratB b),Value.string (ratB c),Value.string s3,Value.string s4] 22)) (Ret w (.bool true)):=fun w R=>short5 (ratB a) (ratB b) (ratB c) s3 s4 true ⟨fun _=>hs,fun _=>rfl⟩ (Nat.le_trans hs.1 (by decide)) (Nat.le_trans hs.2.1 (by decide)) (Nat.le_trans hs.2.2.1 (by decide)) (Nat.le_trans hs.2.2.2.1 (by decide)) (Nat.le_trans hs.2.2.2.2 (by decide)) w R
 have c3:=grad_ok a b c na.r2 nb.r2 nc.r2 q0 Aq Am.rm nc.rm Ar.r2 As An.rm Au.r2
 have c4:CV 33 #[.agg #[.string s3,.string s4]] (.tuple #[.agg #[.string ⟨#[]⟩,.string ⟨#[]⟩,.string ⟨#[]⟩],.int .i64 2]):=fun w R=>anorm_err s3 s4 2 (fun w R=>check2_raw s3 s4 2 (fun k=>absurd k hr) (fun _=>rfl) zs3 zs4 w R) (by decide) w R
 have c5:=normal_ok a b c (na.rl (K:=200)) (nb.rl (K:=200)) (nc.rl (K:=200)) (Or.inr (Or.inr q0))
 have c6:=ldiv_any a c q0 na.rm nc.rm
 have c7:=fun (w:World) (R:EnvV w)=>rneg_any (a / c) Av w R.toEnvR
 have c8:=ldiv_any b c q0 nb.rm nc.rm
 have c9:=fun (w:World) (R:EnvV w)=>rneg_any (b / c) Aw w R.toEnvR
 have c10:=right2 s3 s4 false ⟨(fun h=>by cases h),fun k=>absurd k hr⟩ zs3 zs4
 have eq0:((ratB c).toList == [48])=false:=by rw [ratB_eq_zero];exact decide_eq_false q0
 have pq0:¬ (ratB c).toList=[48]:=fun h=>q0 ((zero_iff _).1 h)
 obtain ⟨Bk,Ax⟩:∃ vq,ratB (-(a / c))=vq:=⟨_,rfl⟩
 obtain ⟨Bl,Ay⟩:∃ vq,ratB (-(b / c))=vq:=⟨_,rfl⟩
 obtain ⟨Bm,Az⟩:∃ vq,ratB (a / c)=vq:=⟨_,rfl⟩
 obtain ⟨Bn,A0⟩:∃ vq,ratB (b / c)=vq:=⟨_,rfl⟩
 obtain ⟨Bo,A1⟩:∃ vq,ratB a=vq:=⟨_,rfl⟩
 obtain ⟨Bp,A2⟩:∃ vq,ratB b=vq:=⟨_,rfl⟩
 obtain ⟨Bq,A3⟩:∃ vq,ratB c=vq:=⟨_,rfl⟩
 try simp only [Ax,Ay,Az,A0,A1,A2,A3] at c1 c2 c3 c4 c5 c6 c7 c8 c9 c10 eq0 pq0 ⊢
 have C1:=Lib.hid c1
 have C2:=Lib.hid c2
 have C3:=Lib.hid c3
 have C4:=Lib.hid c4
 have C5:=Lib.hid c5
 have C6:=Lib.hid c6
 have C7:=Lib.hid c7
 have C8:=Lib.hid c8
 have C9:=Lib.hid c9
 have C10:=Lib.hid c10
 clear c1 c2 c3 c4 c5 c6 c7 c8 c9 c10 Ax Ay Az A0 A1 A2 A3 Aq Am Ar As An Au Ao A8 Ap A9 Av Aw q0 na nb nc hr zs3 zs4 hs
 have hb:=Below.refl w.heap.size w
 go_enter Tryz.func7,Tryz.ntmps7
 go_upto_region 1 with fail
 refine wp_alloc2 (fun w1 a0 a1 hk=>?_)
 replace hb:=hb.trans (hk.mono hb.size)
 clear hk
 obtain ⟨Ad,Ae,Af⟩:=ce3 a0
 obtain ⟨Ab,Ac⟩:=ce2 a1
 go_upto_region 4 with ((first | (go_at_call 11;with_reducible refine (chVB hb R C1).mono ?_) | (go_at_call 12;with_reducible refine (zL hb (C2.out _ (R.below hb))).mono ?_) | (go_at_call 32;with_reducible refine (chVB hb R C3).mono ?_));clear hb;rintro e w1 ⟨rfl,hk,hb⟩;clear Ad Ae Af Ab Ac;replace a0:=zB hk a0;replace a1:=zB hk a1;obtain ⟨Ad,Ae,Af⟩:=ce3 a0;obtain ⟨Ab,Ac⟩:=ce2 a1;clear hk)
 refine wp_alloc1 (fun w1 Aa hk=>?_)
 clear Ad Ae Af Ab Ac
 replace a0:=zB hk a0
 replace a1:=zB hk a1
 obtain ⟨Ad,Ae,Af⟩:=ce3 a0
 obtain ⟨Ab,Ac⟩:=ce2 a1
 replace hb:=hb.trans (hk.mono hb.size)
 clear hk
 obtain ⟨Ah,Ai⟩:=ce2 Aa
 go_upto_region 5 with (go_at_call 33;with_reducible refine (chVB hb R C4).mono ?_;clear hb;rintro e w1 ⟨rfl,hk,hb⟩;clear Ad Ae Af Ab Ac Ah Ai;replace a0:=zB hk a0;replace a1:=zB hk a1;replace Aa:=zB hk Aa;obtain ⟨Ad,Ae,Af⟩:=ce3 a0;obtain ⟨Ab,Ac⟩:=ce2 a1;obtain ⟨Ah,Ai⟩:=ce2 Aa;clear hk)
 refine wp_alloc1 (fun w1 Ag hk=>?_)
 clear Ad Ae Af Ab Ac Ah Ai
 replace a0:=zB hk a0
 replace a1:=zB hk a1
 replace Aa:=zB hk Aa
 obtain ⟨Ad,Ae,Af⟩:=ce3 a0
 obtain ⟨Ab,Ac⟩:=ce2 a1
 obtain ⟨Ah,Ai⟩:=ce2 Aa
 replace hb:=hb.trans (hk.mono hb.size)
 clear hk
 obtain ⟨Aj,Ak,Al⟩:=ce3 Ag
 go_upto_region 10 with (go_at_call 16;with_reducible refine (chVB hb R C5).mono ?_;clear hb;rintro e w1 ⟨rfl,hk,hb⟩;clear Ad Ae Af Ab Ac Ah Ai Aj Ak Al;replace a0:=zB hk a0;replace a1:=zB hk a1;replace Aa:=zB hk Aa;replace Ag:=zB hk Ag;obtain ⟨Ad,Ae,Af⟩:=ce3 a0;obtain ⟨Ab,Ac⟩:=ce2 a1;obtain ⟨Ah,Ai⟩:=ce2 Aa;obtain ⟨Aj,Ak,Al⟩:=ce3 Ag;clear hk)
 obtain ⟨Ba,Bb,Bc⟩:=cy3 a0
 obtain ⟨Bd,Be⟩:=cy2 a1
 obtain ⟨Bf,Bg⟩:=cy2 Aa
 obtain ⟨Bh,Bi,Bj⟩:=cy3 Ag
 have A4:=rrV C6 R hb
 have A5:=rrV C7 R hb
 have A6:=rrV C8 R hb
 have A7:=rrV C9 R hb
 refine wp_region_quiet_below (by first | assumption | kernel_rfl) (by kernel_rfl) ?_
 repeat (quiet_step (first | (with_reducible exact A4.out _ _) | (with_reducible exact A5.out _ _) | (with_reducible exact A6.out _ _) | (with_reducible exact A7.out _ _)))
 refine wpQuiet_nil ?_
 intro w1 hw'
 obtain ⟨hk,hb⟩:=zQ hb hw'
 clear Ad Ae Af Ab Ac Ah Ai Aj Ak Al
 replace a0:=zB hk a0
 replace a1:=zB hk a1
 replace Aa:=zB hk Aa
 replace Ag:=zB hk Ag
 obtain ⟨Ad,Ae,Af⟩:=ce3 a0
 obtain ⟨Ab,Ac⟩:=ce2 a1
 obtain ⟨Ah,Ai⟩:=ce2 Aa
 obtain ⟨Aj,Ak,Al⟩:=ce3 Ag
 clear A4 A5 A6 A7 Ba Bb Bc Bd Be Bf Bg Bh Bi Bj
 clear hk hw'
 go_wp2_with (go_at_call 21;with_reducible refine (zL hb (C10.out _ (R.below hb))).mono ?_;clear hb;rintro e w1 ⟨rfl,hk,hb⟩;clear Ab Ac Ah Ai Aj Ak Al;replace a1:=zB hk a1;replace Aa:=zB hk Aa;replace Ag:=zB hk Ag;obtain ⟨Ab,Ac⟩:=ce2 a1;obtain ⟨Ah,Ai⟩:=ce2 Aa;obtain ⟨Aj,Ak,Al⟩:=ce3 Ag;clear hk)
 first | go_ret | go_ret2 | go_ret3
 exact ⟨rfl,hb⟩
theorem grads_Or  (a b c:Rat) (na:RN a 24 24) (nb:RN b 24 24) (nc:RN c 24 24) (x y:Rat) (nx:RN x 24 24) (ny:RN y 24 24) (hs:(ratB a).size≤24∧(ratB b).size≤24∧(ratB c).size≤24∧(ratB x).size≤24∧(ratB y).size≤24) (q0:c≠0) (w:World) (R:EnvV w) :
   Calls Tryz.prog 7 #[.agg #[.string (ratB a),.string (ratB b),.string (ratB c)],.agg #[.string (ratB x),.string (ratB y)]] w (Ret w (.bool true)):=by
 have A5:=na.rl (K:=40000)
 have Ap:RN (-a) 24 24:=(RN_neg na)
 have A6:=RN_div Ap nc q0
 have A7:=nb.rl (K:=40000)
 have Aq:RN (-b) 24 24:=(RN_neg nb)
 have A8:=RN_div Aq nc q0
 have Ar:=RN_div na nc q0
 have B0:RN (-(a / c)) 48 48:=(RN_neg Ar)
 have As:=RN_div nb nc q0
 have B1:RN (-(b / c)) 48 48:=(RN_neg As)
 have Au:=nx.rl (K:=40000)
 have Av:=ny.rl (K:=40000)
 have Am:RN (-x) 24 24:=(RN_neg nx)
 have An:RN (-y) 24 24:=(RN_neg ny)
 have A9:=Ar.rl (K:=40000)
 have Ba:=As.rl (K:=40000)
 have Bb:=Am.rl (K:=40000)
 have Aw:RN (-(-x)) 24 24:=(RN_neg Am)
 have Bc:=RN_div Aw rn_1 (by decide)
 have Bd:=An.rl (K:=40000)
 have Ax:RN (-(-y)) 24 24:=(RN_neg An)
 have Be:=RN_div Ax rn_1 (by decide)
 have Bf:=RN_div Am rn_1 (by decide)
 have B2:RN (-((-x) / (1:Rat))) 25 25:=(RN_neg Bf)
 have Bg:=RN_div An rn_1 (by decide)
 have B3:RN (-((-y) / (1:Rat))) 25 25:=(RN_neg Bg)
 have c1:=known15_any
 have c2:∀ w,EnvV w→Calls Tryz.prog 12 #[.slice (some ⟨w.heap.size,0,none⟩) 5 5] (w.alloc (Obj.cells #[Value.string (ratB a),Value.string (ratB b),Value.string (ratB c),Value.string (ratB x),Value.string (ratB y)] 22)) (Ret w (.bool true)):=fun w R=>short5 (ratB a) (ratB b) (ratB c) (ratB x) (ratB y) true ⟨fun _=>hs,fun _=>rfl⟩ (Nat.le_trans hs.1 (by decide)) (Nat.le_trans hs.2.1 (by decide)) (Nat.le_trans hs.2.2.1 (by decide)) (Nat.le_trans hs.2.2.2.1 (by decide)) (Nat.le_trans hs.2.2.2.2 (by decide)) w R
 have c3:=grad_ok a b c na.r2 nb.r2 nc.r2 q0 A5 Ap.rm nc.rm A6.r2 A7 Aq.rm A8.r2
 have c4:=anorm_ok x y nx.r2 ny.r2 Au Av
 have c5:=normal_ok a b c (na.rl (K:=200)) (nb.rl (K:=200)) (nc.rl (K:=200)) (Or.inr (Or.inr q0))
 have c6:=ldiv_any a c q0 na.rm nc.rm
 have c7:=fun (w:World) (R:EnvV w)=>rneg_any (a / c) A9 w R.toEnvR
 have c8:=ldiv_any b c q0 nb.rm nc.rm
 have c9:=fun (w:World) (R:EnvV w)=>rneg_any (b / c) Ba w R.toEnvR
 have c10:∀ w,EnvV w→Calls Tryz.prog 21 #[.slice (some ⟨w.heap.size,0,none⟩) 2 2] (w.alloc (Obj.cells #[Value.string (ratB x),Value.string (ratB y)] 22)) (Ret w (.bool true)):=fun w R=>right2 (ratB x) (ratB y) true ⟨fun _=>⟨isRat_of (nx.rl (K:=200)),isRat_of (ny.rl (K:=200))⟩,fun _=>rfl⟩ (Nat.le_trans (size_of_RL (nx.rl (K:=200))) (by decide)) (Nat.le_trans (size_of_RL (ny.rl (K:=200))) (by decide)) w R
 have c11:CV 32 #[.agg #[.string (ratB (-x)),.string (ratB (-y)),.string ⟨#[49]⟩]] (.tuple #[.agg #[.string (ratB x),.string (ratB y)],.int .i64 0]):=fun w R=>(by have h:=(by have h:=grad_ok (-x) (-y) (1:Rat) Am.r2 An.r2 (RN.rl (K:=200) rn_1) (by decide) Bb Aw.rm (RN.rl (K:=10000) rn_1) Bc.r2 Bd Ax.rm Be.r2 w R;simp only [rb_1] at h;exact h);rw [show ratB (-((-x) / (1:Rat)))=ratB x from by rw [gback],show ratB (-((-y) / (1:Rat)))=ratB y from by rw [gback]] at h;exact h)
 have c12:=fun (w:World) (R:EnvV w)=>rneg_any x Au w R.toEnvR
 have c13:=fun (w:World) (R:EnvV w)=>rneg_any y Av w R.toEnvR
 have eq0:((ratB c).toList == [48])=false:=by rw [ratB_eq_zero];exact decide_eq_false q0
 have pq0:¬ (ratB c).toList=[48]:=fun h=>q0 ((zero_iff _).1 h)
 obtain ⟨B9,Bh⟩:∃ vq,ratB (-(a / c))=vq:=⟨_,rfl⟩
 obtain ⟨Ca,Bi⟩:∃ vq,ratB (-(b / c))=vq:=⟨_,rfl⟩
 obtain ⟨Cb,Bj⟩:∃ vq,ratB (a / c)=vq:=⟨_,rfl⟩
 obtain ⟨Cc,Bk⟩:∃ vq,ratB (b / c)=vq:=⟨_,rfl⟩
 obtain ⟨Cd,Bl⟩:∃ vq,ratB (-x)=vq:=⟨_,rfl⟩
 obtain ⟨Ce,Bm⟩:∃ vq,ratB (-y)=vq:=⟨_,rfl⟩
 obtain ⟨Cf,Bn⟩:∃ vq,ratB a=vq:=⟨_,rfl⟩
 obtain ⟨Cg,Bo⟩:∃ vq,ratB b=vq:=⟨_,rfl⟩
 obtain ⟨Ch,Bp⟩:∃ vq,ratB c=vq:=⟨_,rfl⟩
 obtain ⟨Ci,Bq⟩:∃ vq,ratB x=vq:=⟨_,rfl⟩
 obtain ⟨Cj,Br⟩:∃ vq,ratB y=vq:=⟨_,rfl⟩
 try simp only [Bh,Bi,Bj,Bk,Bl,Bm,Bn,Bo,Bp,Bq,Br] at c1 c2 c3 c4 c5 c6 c7 c8 c9 c10 c11 c12 c13 eq0 pq0 ⊢
 have C1:=Lib.hid c1
 have C2:=Lib.hid c2
 have C3:=Lib.hid c3
 have C4:=Lib.hid c4
 have C5:=Lib.hid c5
 have C6:=Lib.hid c6
 have C7:=Lib.hid c7
 have C8:=Lib.hid c8
 have C9:=Lib.hid c9
 have C10:=Lib.hid c10
 have C11:=Lib.hid c11
 have C12:=Lib.hid c12
 have C13:=Lib.hid c13
 clear c1 c2 c3 c4 c5 c6 c7 c8 c9 c10 c11 c12 c13 Bh Bi Bj Bk Bl Bm Bn Bo Bp Bq Br A5 Ap A6 A7 Aq A8 Ar B0 As B1 Au Av Am An A9 Ba Bb Aw Bc Bd Ax Be Bf B2 Bg B3 q0 na nb nc nx ny hs
 have hb:=Below.refl w.heap.size w
 go_enter Tryz.func7,Tryz.ntmps7
 go_upto_region 1 with fail
 refine wp_alloc2 (fun w1 a0 a1 hk=>?_)
 replace hb:=hb.trans (hk.mono hb.size)
 clear hk
 obtain ⟨Ag,Ah,Ai⟩:=ce3 a0
 obtain ⟨Ab,Ac⟩:=ce2 a1
 go_upto_region 4 with ((first | (go_at_call 11;with_reducible refine (chVB hb R C1).mono ?_) | (go_at_call 12;with_reducible refine (zL hb (C2.out _ (R.below hb))).mono ?_) | (go_at_call 32;with_reducible refine (chVB hb R C3).mono ?_));clear hb;rintro e w1 ⟨rfl,hk,hb⟩;clear Ag Ah Ai Ab Ac;replace a0:=zB hk a0;replace a1:=zB hk a1;obtain ⟨Ag,Ah,Ai⟩:=ce3 a0;obtain ⟨Ab,Ac⟩:=ce2 a1;clear hk)
 refine wp_alloc1 (fun w1 Aa hk=>?_)
 clear Ag Ah Ai Ab Ac
 replace a0:=zB hk a0
 replace a1:=zB hk a1
 obtain ⟨Ag,Ah,Ai⟩:=ce3 a0
 obtain ⟨Ab,Ac⟩:=ce2 a1
 replace hb:=hb.trans (hk.mono hb.size)
 clear hk
 obtain ⟨Ae,Af⟩:=ce2 Aa
 go_upto_region 5 with (go_at_call 33;with_reducible refine (chVB hb R C4).mono ?_;clear hb;rintro e w1 ⟨rfl,hk,hb⟩;clear Ag Ah Ai Ab Ac Ae Af;replace a0:=zB hk a0;replace a1:=zB hk a1;replace Aa:=zB hk Aa;obtain ⟨Ag,Ah,Ai⟩:=ce3 a0;obtain ⟨Ab,Ac⟩:=ce2 a1;obtain ⟨Ae,Af⟩:=ce2 Aa;clear hk)
 refine wp_alloc1 (fun w1 Ad hk=>?_)
 clear Ag Ah Ai Ab Ac Ae Af
 replace a0:=zB hk a0
 replace a1:=zB hk a1
 replace Aa:=zB hk Aa
 obtain ⟨Ag,Ah,Ai⟩:=ce3 a0
 obtain ⟨Ab,Ac⟩:=ce2 a1
 obtain ⟨Ae,Af⟩:=ce2 Aa
 replace hb:=hb.trans (hk.mono hb.size)
 clear hk
 obtain ⟨Aj,Ak,Al⟩:=ce3 Ad
 go_upto_region 10 with (go_at_call 16;with_reducible refine (chVB hb R C5).mono ?_;clear hb;rintro e w1 ⟨rfl,hk,hb⟩;clear Ag Ah Ai Ab Ac Ae Af Aj Ak Al;replace a0:=zB hk a0;replace a1:=zB hk a1;replace Aa:=zB hk Aa;replace Ad:=zB hk Ad;obtain ⟨Ag,Ah,Ai⟩:=ce3 a0;obtain ⟨Ab,Ac⟩:=ce2 a1;obtain ⟨Ae,Af⟩:=ce2 Aa;obtain ⟨Aj,Ak,Al⟩:=ce3 Ad;clear hk)
 obtain ⟨B4,B5,B6⟩:=cy3 a0
 obtain ⟨Ay,Az⟩:=cy2 a1
 obtain ⟨A0,A1⟩:=cy2 Aa
 obtain ⟨A2,A3,A4⟩:=cy3 Ad
 have Bs:=rrV C6 R hb
 have Bt:=rrV C7 R hb
 have Bu:=rrV C8 R hb
 have Bv:=rrV C9 R hb
 refine wp_region_quiet_below (by first | assumption | kernel_rfl) (by kernel_rfl) ?_
 repeat (quiet_step (first | (with_reducible exact Bs.out _ _) | (with_reducible exact Bt.out _ _) | (with_reducible exact Bu.out _ _) | (with_reducible exact Bv.out _ _)))
 refine wpQuiet_nil ?_
 intro w1 hw'
 obtain ⟨hk,hb⟩:=zQ hb hw'
 clear Ag Ah Ai Ab Ac Ae Af Aj Ak Al
 replace a0:=zB hk a0
 replace a1:=zB hk a1
 replace Aa:=zB hk Aa
 replace Ad:=zB hk Ad
 obtain ⟨Ag,Ah,Ai⟩:=ce3 a0
 obtain ⟨Ab,Ac⟩:=ce2 a1
 obtain ⟨Ae,Af⟩:=ce2 Aa
 obtain ⟨Aj,Ak,Al⟩:=ce3 Ad
 clear Bs Bt Bu Bv B4 B5 B6 Ay Az A0 A1 A2 A3 A4
 clear hk hw'
 go_upto_region 15 with ((first | (go_at_call 21;with_reducible refine (zL hb (C10.out _ (R.below hb))).mono ?_) | (go_at_call 32;with_reducible refine (chVB hb R C11).mono ?_));clear hb;rintro e w1 ⟨rfl,hk,hb⟩;clear Ab Ac Ae Af Aj Ak Al;replace a1:=zB hk a1;replace Aa:=zB hk Aa;replace Ad:=zB hk Ad;obtain ⟨Ab,Ac⟩:=ce2 a1;obtain ⟨Ae,Af⟩:=ce2 Aa;obtain ⟨Aj,Ak,Al⟩:=ce3 Ad;clear hk)
 clear Ag Ah Ai a0
 refine wp_alloc1 (fun w1 Ao hk=>?_)
 clear Ab Ac Ae Af Aj Ak Al
 replace a1:=zB hk a1
 replace Aa:=zB hk Aa
 replace Ad:=zB hk Ad
 obtain ⟨Ab,Ac⟩:=ce2 a1
 obtain ⟨Ae,Af⟩:=ce2 Aa
 obtain ⟨Aj,Ak,Al⟩:=ce3 Ad
 replace hb:=hb.trans (hk.mono hb.size)
 clear hk
 obtain ⟨Bw,Bx⟩:=ce2 Ao
 obtain ⟨Ay,Az⟩:=cy2 a1
 obtain ⟨A0,A1⟩:=cy2 Aa
 obtain ⟨A2,A3,A4⟩:=cy3 Ad
 obtain ⟨B7,B8⟩:=cy2 Ao
 have By:=rrV C12 R hb
 have Bz:=rrV C13 R hb
 refine wp_region_quiet_below (by first | assumption | kernel_rfl) (by kernel_rfl) ?_
 repeat (quiet_step (first | (with_reducible exact By.out _ _) | (with_reducible exact Bz.out _ _)))
 refine wpQuiet_nil ?_
 intro w1 hw'
 obtain ⟨hk,hb⟩:=zQ hb hw'
 clear Ab Ac Ae Af Aj Ak Al Bw Bx
 replace a1:=zB hk a1
 replace Aa:=zB hk Aa
 replace Ad:=zB hk Ad
 replace Ao:=zB hk Ao
 obtain ⟨Ab,Ac⟩:=ce2 a1
 obtain ⟨Ae,Af⟩:=ce2 Aa
 obtain ⟨Aj,Ak,Al⟩:=ce3 Ad
 obtain ⟨Bw,Bx⟩:=ce2 Ao
 clear By Bz Ay Az A0 A1 A2 A3 A4 B7 B8
 clear hk hw'
 go_wp2
 first | go_ret | go_ret2 | go_ret3
 exact ⟨rfl,hb⟩
theorem lawGradients (s0 s1 s2 s3 s4:ByteArray) (ms0:s0.size≤9223372036854775807) (ms1:s1.size≤9223372036854775807) (ms2:s2.size≤9223372036854775807) (ms3:s3.size≤9223372036854775807) (ms4:s4.size≤9223372036854775807) (w:World) (R:EnvV w) :
   Calls Tryz.prog 7 #[.agg #[.string s0,.string s1,.string s2],.agg #[.string s3,.string s4]] w (Ret w (.bool true)):=by
 by_cases hs:s0.size≤24∧s1.size≤24∧s2.size≤24∧s3.size≤24∧s4.size≤24
 case neg=>exact grads_long s0 s1 s2 s3 s4 hs ms0 ms1 ms2 ms3 ms4 w R
 have z3:s3.size≤100000:=Nat.le_trans hs.2.2.2.1 (by decide)
 have z4:s4.size≤100000:=Nat.le_trans hs.2.2.2.2 (by decide)
 by_cases hr:IsRat s3.data.toList∧IsRat s4.data.toList
 · obtain ⟨x,rfl,_⟩:=rat_of hr.1
   obtain ⟨y,rfl,_⟩:=rat_of hr.2
   have nx:RN x 24 24:=RN_of (RL_of_size hs.2.2.2.1)
   have ny:RN y 24 24:=RN_of (RL_of_size hs.2.2.2.2)
   rcases normal_cases s0 s1 s2 hs.1 hs.2.1 hs.2.2.1 with ⟨v,hv⟩ | ⟨a,b,c,rfl,rfl,rfl,na,nb,nc,h⟩
   · exact grads_Er s0 s1 s2 v hv (by omega) (by omega) (by omega) x y nx ny hs w R
   · by_cases g:c=0
     · exact grads_Vr a b c h na nb nc x y nx ny hs g w R
     · exact grads_Or a b c na nb nc x y nx ny hs g w R
 · rcases normal_cases s0 s1 s2 hs.1 hs.2.1 hs.2.2.1 with ⟨v,hv⟩ | ⟨a,b,c,rfl,rfl,rfl,na,nb,nc,h⟩
   · exact grads_Ew s0 s1 s2 v hv (by omega) (by omega) (by omega) s3 s4 hr z3 z4 hs w R
   · by_cases g:c=0
     · exact grads_Vw a b c h na nb nc s3 s4 hr z3 z4 hs g w R
     · exact grads_Ow a b c na nb nc s3 s4 hr z3 z4 hs g w R
end Go.Proofs.YtejfiegmdllfbaaGreatDoor.Kl
