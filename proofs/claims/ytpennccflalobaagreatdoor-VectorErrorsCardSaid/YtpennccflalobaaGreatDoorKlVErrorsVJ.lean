import Derived.Test.YtpennccflalobaaGreatDoorKlVErrorsVI
namespace Go.Proofs.YtpennccflalobaaGreatDoor.Kl
open Go Go.RowKit
set_option maxRecDepth 100000
set_option maxHeartbeats 8000000
theorem checkPlane_3 (a b c d:Rat) (z0:a=0) (z1:b=0) (z2:c=0) (r1:RL a 200) (r2:RL b 200) (r3:RL c 200) (r4:RL d 200) (w:World) (R:EnvV w) :
   Calls Tryz.prog 19 #[.agg #[.string (ratB a),.string (ratB b),.string (ratB c),.string (ratB d)]] w (Ret w (.int .i64 17)):=by
 have c1:=fun (w:World) (R:EnvV w)=>vcheck_ok a b c r1 r2 r3 w R.toEnvR
 have c2:CV 70 #[.string (ratB d)] (.int .i64 0):=fun w R=>rcheck_any _ 0 (.inl ⟨isRat_of r4,rfl⟩) (Nat.le_trans (size_of_RL r4) (by decide)) w R.toEnvR
 have c3:=fun (w:World) (R:EnvV w)=>orErr2 0 0 0 (by decide) w R.toEnvR
 have e0:((ratB a).toList == [48])=true:=by rw [ratB_eq_zero];exact decide_eq_true z0
 have p0:(ratB a).toList=[48]:=(zero_iff _).2 z0
 have e1:((ratB b).toList == [48])=true:=by rw [ratB_eq_zero];exact decide_eq_true z1
 have p1:(ratB b).toList=[48]:=(zero_iff _).2 z1
 have e2:((ratB c).toList == [48])=true:=by rw [ratB_eq_zero];exact decide_eq_true z2
 have p2:(ratB c).toList=[48]:=(zero_iff _).2 z2
 have C1:=Lib.hid c1
 have C2:=Lib.hid c2
 have C3:=Lib.hid c3
 clear c1 c2 c3 z0 z1 z2 r1 r2 r3 r4
 have hb:=Below.refl w.heap.size w
 have Aa:w.cell? ⟨0,0,none⟩=some (Value.string ⟨#[48]⟩):=R.z0
 have Ab:w.cell? ⟨0,1,none⟩=some (Value.string ⟨#[48]⟩):=R.z1
 have Ac:w.cell? ⟨0,2,none⟩=some (Value.string ⟨#[48]⟩):=R.z2
 go_enter Tryz.func19,Tryz.ntmps19
 go_upto_region 1 with fail
 refine wp_alloc1 (fun w1 a0 hk=>?_)
 replace Aa:=zC hk Aa
 replace Ab:=zC hk Ab
 replace Ac:=zC hk Ac
 replace hb:=hb.trans (hk.mono hb.size)
 clear hk
 obtain ⟨Ad,Ae,Af,Ag⟩:=ce4 a0
 go_upto_region 1 with fail
 have Aj:=zR Aa
 have Ak:=zR Ab
 have Al:=zR Ac
 obtain ⟨Am,An,Ao,Ap⟩:=cy4 a0
 have Ah:=rrV C1 R hb
 have Ai:=rrV C2 R hb
 refine wp_region_tail_below 6 (by first | assumption | kernel_rfl) (by kernel_rfl) ?_
 simp only [List.take_succ_cons,List.take_zero,List.drop_succ_cons,List.drop_zero]
 repeat (quiet_step (first | (with_reducible exact Ah.out _ _) | (with_reducible exact Ai.out _ _)))
 refine wpQuiet_nil ?_
 intro w1 hw'
 obtain ⟨hk,hb⟩:=zQ hb hw'
 replace Aa:=zC hk Aa
 replace Ab:=zC hk Ab
 replace Ac:=zC hk Ac
 clear Ad Ae Af Ag
 replace a0:=zB hk a0
 obtain ⟨Ad,Ae,Af,Ag⟩:=ce4 a0
 clear Ah Ai Aj Ak Al Am An Ao Ap
 clear hk hw'
 go_wp2_with (go_at_call 69;with_reducible refine (zL hb (C3.out _ (R.below hb))).mono ?_;clear hb;rintro e w1 ⟨rfl,hk,hb⟩;replace Aa:=zC hk Aa;replace Ab:=zC hk Ab;replace Ac:=zC hk Ac;clear Ad Ae Af Ag;replace a0:=zB hk a0;obtain ⟨Ad,Ae,Af,Ag⟩:=ce4 a0;clear hk)
 first | go_ret | go_ret2 | go_ret3
 exact ⟨rfl,hb⟩
end Go.Proofs.YtpennccflalobaaGreatDoor.Kl
