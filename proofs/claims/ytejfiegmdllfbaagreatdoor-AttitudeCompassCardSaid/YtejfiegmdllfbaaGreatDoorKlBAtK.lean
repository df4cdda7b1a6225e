import Derived.Test.YtejfiegmdllfbaaGreatDoorKlBAtF
namespace Go.Proofs.YtejfiegmdllfbaaGreatDoor.Kl
open Go Go.RowKit
set_option maxRecDepth 100000
set_option maxHeartbeats 8000000
theorem rn1_24 : RN (1:Rat) 24 24:=RN.up rn_1 (by decide) (by decide)
theorem rn0_24 : RN (0:Rat) 24 24:=RN.up rn_0 (by decide) (by decide)
theorem rn1_30 : RN (1:Rat) 30 30:=RN.up rn_1 (by decide) (by decide)
theorem rn2_30 : RN (2:Rat) 30 30:=RN.up rn_2 (by decide) (by decide)
theorem strike_k (w:World) (R:EnvV w):Calls Tryz.prog 19 #[.agg #[.string ⟨#[49]⟩,.string ⟨#[48]⟩,.string ⟨#[49]⟩]] w (Ret w (.tuple #[.agg #[.string ⟨#[48]⟩,.string ⟨#[49]⟩],.int .i64 0])):=by
 have h:=strike_f (1:Rat) (0:Rat) (1:Rat) (Or.inl (by decide)) rn1_24 rn0_24 rn1_24 (by decide) w R
 rw [show ratB (-((0:Rat)*(primF (1:Rat) (0:Rat) (0:Rat))))=⟨#[48]⟩ from by decide +kernel,show ratB ((1:Rat)*(primF (1:Rat) (0:Rat) (0:Rat)))=⟨#[49]⟩ from by decide +kernel,rb_1,rb_0] at h
 exact h
theorem of_k (w:World) (R:EnvV w):Calls Tryz.prog 26 #[.agg #[.string ⟨#[49]⟩,.string ⟨#[50]⟩]] w (Ret w (.tuple #[.agg #[.int .i64 0,.string ⟨#[49,47,50]⟩],.int .i64 0])):=by
 have h:=of_lt (1:Rat) (2:Rat) (2:Rat) (1:Rat) 0 (fun w R=>quad_A (1:Rat) (2:Rat) rn1_30 rn2_30 (by decide +kernel) (by decide +kernel) w R) (Or.inl (by decide)) rn1_30 rn2_30 rn2_30 rn1_30 (by decide) (by decide) (by decide +kernel) w R
 rw [show ratB ((1:Rat) / (2:Rat))=⟨#[49,47,50]⟩ from by decide +kernel,rb_1,rb_2] at h
 exact h
theorem known15_any  (w:World) (R:EnvV w) :
   Calls Tryz.prog 11 #[] w (Ret w (.bool true)):=by
 have Ah:=RN_mul rn_m1 rn_1
 have Ai:=RN_mul rn_m2 rn_1
 have Aj:=RN_add (N:=4) Ah Ai
 have Ak:=RN_div Aj rn_1 (by decide +kernel)
 have c1:=vof_1_0_1
 have c2:=strike_k
 have c3:=vat_1_2
 have c4:=of_k
 have c5:=vof_0_0_0
 have c7:=vof_0_1_2
 have c8:=three_k
 have c9:=vof_m1_m2_1
 have c10:=vat_1_1
 have c11:CV 36 #[.agg #[.string ⟨#[45,49]⟩,.string ⟨#[45,50]⟩,.string ⟨#[49]⟩],.agg #[.string ⟨#[49]⟩,.string ⟨#[49]⟩]] (.tuple #[.string ⟨#[45,51]⟩,.int .i64 0]):=fun w R=>(by have h:=(by have h:=appar_ok (-1:Rat) (-2:Rat) (1:Rat) (1:Rat) (1:Rat) (RN.rl (K:=200) rn_1) (RN.rl (K:=200) rn_1) (by decide +kernel) (RN.rl (K:=200) rn_m1) (RN.rl (K:=200) rn_m2) (RN.rl (K:=200) rn_1) (by decide +kernel) (RN.rl (K:=10000) rn_m1) (RN.rl (K:=10000) rn_1) (RN.rl (K:=10000) rn_m2) (RN.rl (K:=10000) rn_1) Ah.rm Ai.rm Aj.rm (RN.rl (K:=10000) rn_1) Ak.r2 w R;simp only [rb_m1,rb_m2,rb_1] at h;exact h);simp only [show ratB ((((-1:Rat)*(1:Rat))+((-2:Rat)*(1:Rat))) / (1:Rat))=⟨#[45,51]⟩ from by decide +kernel] at h;exact h)
 have C1:=Lib.hid c1
 have C2:=Lib.hid c2
 have C3:=Lib.hid c3
 have C4:=Lib.hid c4
 have C5:=Lib.hid c5
 have C7:=Lib.hid c7
 have C8:=Lib.hid c8
 have C9:=Lib.hid c9
 have C10:=Lib.hid c10
 have C11:=Lib.hid c11
 clear c1 c2 c3 c4 c5 c7 c8 c9 c10 c11 Ah Ai Aj Ak
 have hb:=Below.refl w.heap.size w
 go_enter Tryz.func11,Tryz.ntmps11
 go_upto_region 2 with ((first | (go_at_call 41;with_reducible refine (chVB hb R C1).mono ?_) | (go_at_call 19;with_reducible refine (chVB hb R C2).mono ?_));clear hb;rintro e w1 ⟨rfl,hk,hb⟩;clear hk)
 refine wp_alloc1 (fun w1 Aa hk=>?_)
 replace hb:=hb.trans (hk.mono hb.size)
 clear hk
 obtain ⟨Ab,Ac⟩:=ce2 Aa
 go_upto_region 3 with ((first | (go_at_call 42;with_reducible refine (chVB hb R C3).mono ?_) | (go_at_call 26;with_reducible refine (chVB hb R C4).mono ?_));clear hb;rintro e w1 ⟨rfl,hk,hb⟩;clear Ab Ac;replace Aa:=zB hk Aa;obtain ⟨Ab,Ac⟩:=ce2 Aa;clear hk)
 refine wp_alloc1 (fun w1 Ad hk=>?_)
 clear Ab Ac
 replace Aa:=zB hk Aa
 obtain ⟨Ab,Ac⟩:=ce2 Aa
 replace hb:=hb.trans (hk.mono hb.size)
 clear hk
 obtain ⟨Ae,Af⟩:=ce2 Ad
 go_upto_region 4 with ((first | (go_at_call 41;first | with_reducible refine (chVB hb R C5).mono ?_ | with_reducible refine (chVB hb R C1).mono ?_ | with_reducible refine (chVB hb R C7).mono ?_) | (go_at_call 43;with_reducible refine (chVB hb R C8).mono ?_));clear hb;rintro e w1 ⟨rfl,hk,hb⟩;clear Ab Ac Ae Af;replace Aa:=zB hk Aa;replace Ad:=zB hk Ad;obtain ⟨Ab,Ac⟩:=ce2 Aa;obtain ⟨Ae,Af⟩:=ce2 Ad;clear hk)
 refine wp_alloc1 (fun w1 Ag hk=>?_)
 clear Ab Ac Ae Af
 replace Aa:=zB hk Aa
 replace Ad:=zB hk Ad
 obtain ⟨Ab,Ac⟩:=ce2 Aa
 obtain ⟨Ae,Af⟩:=ce2 Ad
 replace hb:=hb.trans (hk.mono hb.size)
 clear hk
 obtain ⟨Al,Am,An,Ao⟩:=ce4 Ag
 go_wp2_with ((first | (go_at_call 41;with_reducible refine (chVB hb R C9).mono ?_) | (go_at_call 42;with_reducible refine (chVB hb R C10).mono ?_) | (go_at_call 36;with_reducible refine (chVB hb R C11).mono ?_));clear hb;rintro e w1 ⟨rfl,hk,hb⟩;clear Ab Ac Ae Af Al Am An Ao;replace Aa:=zB hk Aa;replace Ad:=zB hk Ad;replace Ag:=zB hk Ag;obtain ⟨Ab,Ac⟩:=ce2 Aa;obtain ⟨Ae,Af⟩:=ce2 Ad;obtain ⟨Al,Am,An,Ao⟩:=ce4 Ag;clear hk)
 first | go_ret | go_ret2 | go_ret3
 exact ⟨rfl,hb⟩
end Go.Proofs.YtejfiegmdllfbaaGreatDoor.Kl
