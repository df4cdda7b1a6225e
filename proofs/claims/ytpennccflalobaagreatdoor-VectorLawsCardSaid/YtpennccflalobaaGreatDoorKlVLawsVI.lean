import Derived.Test.YtpennccflalobaaGreatDoorKlVLawsVG
namespace Go.Proofs.YtpennccflalobaaGreatDoor.Kl
open Go Go.RowKit
set_option maxRecDepth 100000
set_option maxHeartbeats 8000000
theorem retBI {k:IntKind} {x y:Bool} {z:Int} (h:x=y):Ending.returned (.tuple #[.bool x,.int k z]) = .returned (.tuple #[.bool y,.int k z]):=by rw [h]
theorem isZero_any (a b c:Rat) (r1:RL a 200) (r2:RL b 200) (r3:RL c 200) (w:World) (R:EnvV w) :
   Calls Tryz.prog 32 #[.agg #[.string (ratB a),.string (ratB b),.string (ratB c)]] w (Ret w (.tuple #[.bool (decide (a=0∧b=0∧c=0)),.int .i64 0])):=by
 have c1:=fun (w:World) (R:EnvV w)=>vcheck_ok a b c r1 r2 r3 w R.toEnvR
 have C1:=Lib.hid c1
 clear c1 r1 r2 r3
 have hb:=Below.refl w.heap.size w
 have Aa:w.cell? ⟨0,0,none⟩=some (Value.string ⟨#[48]⟩):=R.z0
 have Ab:w.cell? ⟨0,1,none⟩=some (Value.string ⟨#[48]⟩):=R.z1
 have Ac:w.cell? ⟨0,2,none⟩=some (Value.string ⟨#[48]⟩):=R.z2
 go_enter Tryz.func32,Tryz.ntmps32
 go_upto_region 1 with fail
 refine wp_alloc1 (fun w1 a0 hk=>?_)
 replace Aa:=zC hk Aa
 replace Ab:=zC hk Ab
 replace Ac:=zC hk Ac
 replace hb:=hb.trans (hk.mono hb.size)
 clear hk
 obtain ⟨Ad,Ae,Af⟩:=ce3 a0
 go_wp2_with (go_at_call 15;with_reducible refine (chVB hb R C1).mono ?_;clear hb;rintro e w1 ⟨rfl,hk,hb⟩;replace Aa:=zC hk Aa;replace Ab:=zC hk Ab;replace Ac:=zC hk Ac;clear Ad Ae Af;replace a0:=zB hk a0;obtain ⟨Ad,Ae,Af⟩:=ce3 a0;clear hk)
 all_goals (go_ret2;refine ⟨retBI ?_,hb⟩;simp_all [zero_iff])
end Go.Proofs.YtpennccflalobaaGreatDoor.Kl
