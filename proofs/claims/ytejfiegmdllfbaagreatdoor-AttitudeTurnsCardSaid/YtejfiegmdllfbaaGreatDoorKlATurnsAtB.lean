import Derived.Test.YtejfiegmdllfbaaGreatDoorKlATurnsVZ
namespace Go.Proofs.YtejfiegmdllfbaaGreatDoor.Kl
open Go Go.RowKit
set_option maxRecDepth 100000
set_option maxHeartbeats 8000000
theorem q_m1 (a:Rat):a * -1 = -a:=by grind
theorem ov_t (a b c:Rat) (rc:RL c 200) (q0:c.num.sign < 0) (w:World) (R:EnvV w) :
   Calls Tryz.prog 45 #[.agg #[.string (ratB a),.string (ratB b),.string (ratB c)]] w (Ret w (.bool true)):=by
 have c1:=fun (w:World) (R:EnvV w)=>rsign_any c (rc.mono (by decide)) w R.toEnvR
 have g0:c.num.sign < 0:=q0
 obtain ⟨Ae,Aa⟩:∃ vq,ratB c=vq:=⟨_,rfl⟩
 try simp only [Aa] at c1 g0 ⊢
 obtain ⟨sg,esg⟩:∃ vq,c.num.sign=vq:=⟨_,rfl⟩
 try simp only [esg] at c1 g0 ⊢
 have C1:=Lib.hid c1
 clear c1 Aa esg q0 rc
 have hb:=Below.refl w.heap.size w
 go_enter Tryz.func45,Tryz.ntmps45
 go_upto_region 1 with fail
 refine wp_alloc1 (fun w1 a0 hk=>?_)
 replace hb:=hb.trans (hk.mono hb.size)
 clear hk
 obtain ⟨Ab,Ac,Ad⟩:=ce3 a0
 go_wp2_with (go_at_call 17;with_reducible refine (chVB hb R C1).mono ?_;clear hb;rintro e w1 ⟨rfl,hk,hb⟩;clear Ab Ac Ad;replace a0:=zB hk a0;obtain ⟨Ab,Ac,Ad⟩:=ce3 a0;clear hk)
 first | go_ret | go_ret2 | go_ret3
 first | exact ⟨rfl,hb⟩ | exact ⟨retBo (decide_eq_true (by omega)),hb⟩
end Go.Proofs.YtejfiegmdllfbaaGreatDoor.Kl
