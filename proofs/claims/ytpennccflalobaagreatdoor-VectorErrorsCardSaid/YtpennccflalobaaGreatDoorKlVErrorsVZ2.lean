import Derived.Test.YtpennccflalobaaGreatDoorKlVErrorsVY
namespace Go.Proofs.YtpennccflalobaaGreatDoor.Kl
open Go Go.RowKit
set_option maxRecDepth 100000
set_option maxHeartbeats 8000000
theorem refCheckPlane_z (a b c d:Rat) (q0:a=0) (q1:b=0) (q2:c=0) (r1:RL a 200) (r2:RL b 200) (r3:RL c 200) (r4:RL d 200) (w:World) (R:EnvV w) :
   Calls Tryz.prog 20 #[.agg #[.string (ratB a),.string (ratB b),.string (ratB c),.string (ratB d)]] w (Ret w (.int .i64 17)):=by
 have c1:=refRight3_any a b c r1 r2 r3
 have c2:CV 28 #[.string (ratB d)] (.bool true):=fun w R=>refRRight_any _ true ⟨fun _=>isRat_of r4,fun _=>rfl⟩ (Nat.le_trans (size_of_RL r4) (by decide)) w R.toEnvR
 have c3:=refZero_3 a b c q0 q1 q2
 have eq0:((ratB a).toList == [48])=true:=by rw [ratB_eq_zero];exact decide_eq_true q0
 have pq0:(ratB a).toList=[48]:=(zero_iff _).2 q0
 have eq1:((ratB b).toList == [48])=true:=by rw [ratB_eq_zero];exact decide_eq_true q1
 have pq1:(ratB b).toList=[48]:=(zero_iff _).2 q1
 have eq2:((ratB c).toList == [48])=true:=by rw [ratB_eq_zero];exact decide_eq_true q2
 have pq2:(ratB c).toList=[48]:=(zero_iff _).2 q2
 have C1:=Lib.hid c1
 have C2:=Lib.hid c2
 have C3:=Lib.hid c3
 clear c1 c2 c3 q0 q1 q2 r1 r2 r3 r4
 have hb:=Below.refl w.heap.size w
 go_enter Tryz.func20,Tryz.ntmps20
 go_upto_region 1 with fail
 refine wp_alloc1 (fun w1 a0 hk=>?_)
 replace hb:=hb.trans (hk.mono hb.size)
 clear hk
 obtain ⟨Aa,Ab,Ac,Ad⟩:=ce4 a0
 go_wp2_with ((first | (go_at_call 40;with_reducible refine (chVB hb R C1).mono ?_) | (go_at_call 28;with_reducible refine (chVB hb R C2).mono ?_) | (go_at_call 38;with_reducible refine (chVB hb R C3).mono ?_));clear hb;rintro e w1 ⟨rfl,hk,hb⟩;clear Aa Ab Ac Ad;replace a0:=zB hk a0;obtain ⟨Aa,Ab,Ac,Ad⟩:=ce4 a0;clear hk)
 first | go_ret | go_ret2 | go_ret3
 exact ⟨rfl,hb⟩
theorem refCheckPlane_any (a b c d:Rat) (r1:RL a 200) (r2:RL b 200) (r3:RL c 200) (r4:RL d 200) (w:World) (R:EnvV w) :
   Calls Tryz.prog 20 #[.agg #[.string (ratB a),.string (ratB b),.string (ratB c),.string (ratB d)]] w (Ret w (.int .i64 (planeE a b c))):=by
 by_cases h:a=0∧b=0∧c=0
 · rw [show planeE a b c=17 from if_pos h]
   exact refCheckPlane_z a b c d h.1 h.2.1 h.2.2 r1 r2 r3 r4 w R
 · have hn:a≠0∨b≠0∨c≠0:=by
     by_cases z0:a=0
     · by_cases z1:b=0
       · exact Or.inr (Or.inr (fun z2=>h ⟨z0,z1,z2⟩))
       · exact Or.inr (Or.inl z1)
     · exact Or.inl z0
   rw [show planeE a b c=0 from if_neg h]
   exact refCheckPlane_ok a b c d r1 r2 r3 r4 hn w R
end Go.Proofs.YtpennccflalobaaGreatDoor.Kl
