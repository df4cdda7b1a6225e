import Derived.Test.YtpennccflalobaaGreatDoorKlVErrorsVJ
namespace Go.Proofs.YtpennccflalobaaGreatDoor.Kl
open Go Go.RowKit
set_option maxRecDepth 100000
set_option maxHeartbeats 8000000
theorem refZero_0 (a b c:Rat) (n0:a≠0) (w:World) (R:EnvV w) :
   Calls Tryz.prog 38 #[.agg #[.string (ratB a),.string (ratB b),.string (ratB c)]] w (Ret w (.bool false)):=by
 have e0:((ratB a).toList == [48])=false:=by rw [ratB_eq_zero];exact decide_eq_false n0
 have p0:¬ (ratB a).toList=[48]:=fun h=>n0 ((zero_iff _).1 h)
 clear n0
 have hb:=Below.refl w.heap.size w
 have Aa:w.cell? ⟨0,0,none⟩=some (Value.string ⟨#[48]⟩):=R.z0
 have Ab:w.cell? ⟨0,1,none⟩=some (Value.string ⟨#[48]⟩):=R.z1
 have Ac:w.cell? ⟨0,2,none⟩=some (Value.string ⟨#[48]⟩):=R.z2
 go_enter Tryz.func38,Tryz.ntmps38
 go_upto_region 1 with fail
 refine wp_alloc1 (fun w1 a0 hk=>?_)
 replace Aa:=zC hk Aa
 replace Ab:=zC hk Ab
 replace Ac:=zC hk Ac
 replace hb:=hb.trans (hk.mono hb.size)
 clear hk
 obtain ⟨Ad,Ae,Af⟩:=ce3 a0
 go_wp2
 first | go_ret | go_ret2 | go_ret3
 exact ⟨rfl,hb⟩
theorem refZero_1 (a b c:Rat) (z0:a=0) (n1:b≠0) (w:World) (R:EnvV w) :
   Calls Tryz.prog 38 #[.agg #[.string (ratB a),.string (ratB b),.string (ratB c)]] w (Ret w (.bool false)):=by
 have e0:((ratB a).toList == [48])=true:=by rw [ratB_eq_zero];exact decide_eq_true z0
 have p0:(ratB a).toList=[48]:=(zero_iff _).2 z0
 have e1:((ratB b).toList == [48])=false:=by rw [ratB_eq_zero];exact decide_eq_false n1
 have p1:¬ (ratB b).toList=[48]:=fun h=>n1 ((zero_iff _).1 h)
 clear z0 n1
 have hb:=Below.refl w.heap.size w
 have Aa:w.cell? ⟨0,0,none⟩=some (Value.string ⟨#[48]⟩):=R.z0
 have Ab:w.cell? ⟨0,1,none⟩=some (Value.string ⟨#[48]⟩):=R.z1
 have Ac:w.cell? ⟨0,2,none⟩=some (Value.string ⟨#[48]⟩):=R.z2
 go_enter Tryz.func38,Tryz.ntmps38
 go_upto_region 1 with fail
 refine wp_alloc1 (fun w1 a0 hk=>?_)
 replace Aa:=zC hk Aa
 replace Ab:=zC hk Ab
 replace Ac:=zC hk Ac
 replace hb:=hb.trans (hk.mono hb.size)
 clear hk
 obtain ⟨Ad,Ae,Af⟩:=ce3 a0
 go_wp2
 first | go_ret | go_ret2 | go_ret3
 exact ⟨rfl,hb⟩
theorem refZero_2 (a b c:Rat) (z0:a=0) (z1:b=0) (n2:c≠0) (w:World) (R:EnvV w) :
   Calls Tryz.prog 38 #[.agg #[.string (ratB a),.string (ratB b),.string (ratB c)]] w (Ret w (.bool false)):=by
 have e0:((ratB a).toList == [48])=true:=by rw [ratB_eq_zero];exact decide_eq_true z0
 have p0:(ratB a).toList=[48]:=(zero_iff _).2 z0
 have e1:((ratB b).toList == [48])=true:=by rw [ratB_eq_zero];exact decide_eq_true z1
 have p1:(ratB b).toList=[48]:=(zero_iff _).2 z1
 have e2:((ratB c).toList == [48])=false:=by rw [ratB_eq_zero];exact decide_eq_false n2
 have p2:¬ (ratB c).toList=[48]:=fun h=>n2 ((zero_iff _).1 h)
 clear z0 z1 n2
 have hb:=Below.refl w.heap.size w
 have Aa:w.cell? ⟨0,0,none⟩=some (Value.string ⟨#[48]⟩):=R.z0
 have Ab:w.cell? ⟨0,1,none⟩=some (Value.string ⟨#[48]⟩):=R.z1
 have Ac:w.cell? ⟨0,2,none⟩=some (Value.string ⟨#[48]⟩):=R.z2
 go_enter Tryz.func38,Tryz.ntmps38
 go_upto_region 1 with fail
 refine wp_alloc1 (fun w1 a0 hk=>?_)
 replace Aa:=zC hk Aa
 replace Ab:=zC hk Ab
 replace Ac:=zC hk Ac
 replace hb:=hb.trans (hk.mono hb.size)
 clear hk
 obtain ⟨Ad,Ae,Af⟩:=ce3 a0
 go_wp2
 first | go_ret | go_ret2 | go_ret3
 exact ⟨rfl,hb⟩
theorem refZero_3 (a b c:Rat) (z0:a=0) (z1:b=0) (z2:c=0) (w:World) (R:EnvV w) :
   Calls Tryz.prog 38 #[.agg #[.string (ratB a),.string (ratB b),.string (ratB c)]] w (Ret w (.bool true)):=by
 have e0:((ratB a).toList == [48])=true:=by rw [ratB_eq_zero];exact decide_eq_true z0
 have p0:(ratB a).toList=[48]:=(zero_iff _).2 z0
 have e1:((ratB b).toList == [48])=true:=by rw [ratB_eq_zero];exact decide_eq_true z1
 have p1:(ratB b).toList=[48]:=(zero_iff _).2 z1
 have e2:((ratB c).toList == [48])=true:=by rw [ratB_eq_zero];exact decide_eq_true z2
 have p2:(ratB c).toList=[48]:=(zero_iff _).2 z2
 clear z0 z1 z2
 have hb:=Below.refl w.heap.size w
 have Aa:w.cell? ⟨0,0,none⟩=some (Value.string ⟨#[48]⟩):=R.z0
 have Ab:w.cell? ⟨0,1,none⟩=some (Value.string ⟨#[48]⟩):=R.z1
 have Ac:w.cell? ⟨0,2,none⟩=some (Value.string ⟨#[48]⟩):=R.z2
 go_enter Tryz.func38,Tryz.ntmps38
 go_upto_region 1 with fail
 refine wp_alloc1 (fun w1 a0 hk=>?_)
 replace Aa:=zC hk Aa
 replace Ab:=zC hk Ab
 replace Ac:=zC hk Ac
 replace hb:=hb.trans (hk.mono hb.size)
 clear hk
 obtain ⟨Ad,Ae,Af⟩:=ce3 a0
 go_wp2
 first | go_ret | go_ret2 | go_ret3
 exact ⟨rfl,hb⟩
theorem refZero_any (a b c:Rat) (w:World) (R:EnvV w) :
   Calls Tryz.prog 38 #[.agg #[.string (ratB a),.string (ratB b),.string (ratB c)]] w (Ret w (.bool (decide (a=0∧b=0∧c=0)))):=by
 by_cases z0:a=0
 · by_cases z1:b=0
   · by_cases z2:c=0
     · rw [show decide (a=0∧b=0∧c=0)=true from decide_eq_true ⟨z0,z1,z2⟩]
       exact refZero_3 a b c z0 z1 z2  w R
     · rw [show decide (a=0∧b=0∧c=0)=false from decide_eq_false (fun h=>z2 h.2.2)]
       exact refZero_2 a b c z0 z1 z2  w R
   · rw [show decide (a=0∧b=0∧c=0)=false from decide_eq_false (fun h=>z1 h.2.1)]
     exact refZero_1 a b c z0 z1  w R
 · rw [show decide (a=0∧b=0∧c=0)=false from decide_eq_false (fun h=>z0 h.1)]
   exact refZero_0 a b c z0  w R
theorem refRight3_any (a b c:Rat) (r1:RL a 200) (r2:RL b 200) (r3:RL c 200) (w:World) (R:EnvV w) :
   Calls Tryz.prog 40 #[.agg #[.string (ratB a),.string (ratB b),.string (ratB c)]] w (Ret w (.bool true)):=by
 have c1:CV 28 #[.string (ratB a)] (.bool true):=fun w R=>refRRight_any _ true ⟨fun _=>isRat_of r1,fun _=>rfl⟩ (Nat.le_trans (size_of_RL r1) (by decide)) w R.toEnvR
 have c2:CV 28 #[.string (ratB b)] (.bool true):=fun w R=>refRRight_any _ true ⟨fun _=>isRat_of r2,fun _=>rfl⟩ (Nat.le_trans (size_of_RL r2) (by decide)) w R.toEnvR
 have c3:CV 28 #[.string (ratB c)] (.bool true):=fun w R=>refRRight_any _ true ⟨fun _=>isRat_of r3,fun _=>rfl⟩ (Nat.le_trans (size_of_RL r3) (by decide)) w R.toEnvR
 have C1:=Lib.hid c1
 have C2:=Lib.hid c2
 have C3:=Lib.hid c3
 clear c1 c2 c3 r1 r2 r3
 have hb:=Below.refl w.heap.size w
 have Aa:w.cell? ⟨0,0,none⟩=some (Value.string ⟨#[48]⟩):=R.z0
 have Ab:w.cell? ⟨0,1,none⟩=some (Value.string ⟨#[48]⟩):=R.z1
 have Ac:w.cell? ⟨0,2,none⟩=some (Value.string ⟨#[48]⟩):=R.z2
 go_enter Tryz.func40,Tryz.ntmps40
 go_upto_region 1 with fail
 refine wp_alloc1 (fun w1 a0 hk=>?_)
 replace Aa:=zC hk Aa
 replace Ab:=zC hk Ab
 replace Ac:=zC hk Ac
 replace hb:=hb.trans (hk.mono hb.size)
 clear hk
 obtain ⟨Ad,Ae,Af⟩:=ce3 a0
 go_wp2_with ((go_at_call 28;first | with_reducible refine (chVB hb R C1).mono ?_ | with_reducible refine (chVB hb R C2).mono ?_ | with_reducible refine (chVB hb R C3).mono ?_);clear hb;rintro e w1 ⟨rfl,hk,hb⟩;replace Aa:=zC hk Aa;replace Ab:=zC hk Ab;replace Ac:=zC hk Ac;clear Ad Ae Af;replace a0:=zB hk a0;obtain ⟨Ad,Ae,Af⟩:=ce3 a0;clear hk)
 first | go_ret | go_ret2 | go_ret3
 exact ⟨rfl,hb⟩
theorem refZero_no (a b c:Rat) (nz:a≠0∨b≠0∨c≠0) (w:World) (R:EnvV w) :
   Calls Tryz.prog 38 #[.agg #[.string (ratB a),.string (ratB b),.string (ratB c)]] w (Ret w (.bool false)):=by
 have h:=refZero_any a b c  w R
 rwa [show decide (a=0∧b=0∧c=0)=false from decide_eq_false (fun h=>by simp [h.1,h.2.1,h.2.2] at nz)] at h
theorem refCheckPlane_ok (a b c d:Rat) (r1:RL a 200) (r2:RL b 200) (r3:RL c 200) (r4:RL d 200) (r5:a≠0∨b≠0∨c≠0) (w:World) (R:EnvV w) :
   Calls Tryz.prog 20 #[.agg #[.string (ratB a),.string (ratB b),.string (ratB c),.string (ratB d)]] w (Ret w (.int .i64 0)):=by
 have c1:=refRight3_any a b c r1 r2 r3
 have c2:CV 28 #[.string (ratB d)] (.bool true):=fun w R=>refRRight_any _ true ⟨fun _=>isRat_of r4,fun _=>rfl⟩ (Nat.le_trans (size_of_RL r4) (by decide)) w R.toEnvR
 have c3:=refZero_no a b c  r5
 have C1:=Lib.hid c1
 have C2:=Lib.hid c2
 have C3:=Lib.hid c3
 clear c1 c2 c3 r1 r2 r3 r4 r5
 have hb:=Below.refl w.heap.size w
 have Aa:w.cell? ⟨0,0,none⟩=some (Value.string ⟨#[48]⟩):=R.z0
 have Ab:w.cell? ⟨0,1,none⟩=some (Value.string ⟨#[48]⟩):=R.z1
 have Ac:w.cell? ⟨0,2,none⟩=some (Value.string ⟨#[48]⟩):=R.z2
 go_enter Tryz.func20,Tryz.ntmps20
 go_upto_region 1 with fail
 refine wp_alloc1 (fun w1 a0 hk=>?_)
 replace Aa:=zC hk Aa
 replace Ab:=zC hk Ab
 replace Ac:=zC hk Ac
 replace hb:=hb.trans (hk.mono hb.size)
 clear hk
 obtain ⟨Ad,Ae,Af,Ag⟩:=ce4 a0
 go_wp2_with ((first | (go_at_call 40;with_reducible refine (chVB hb R C1).mono ?_) | (go_at_call 28;with_reducible refine (chVB hb R C2).mono ?_) | (go_at_call 38;with_reducible refine (chVB hb R C3).mono ?_));clear hb;rintro e w1 ⟨rfl,hk,hb⟩;replace Aa:=zC hk Aa;replace Ab:=zC hk Ab;replace Ac:=zC hk Ac;clear Ad Ae Af Ag;replace a0:=zB hk a0;obtain ⟨Ad,Ae,Af,Ag⟩:=ce4 a0;clear hk)
 first | go_ret | go_ret2 | go_ret3
 exact ⟨rfl,hb⟩
end Go.Proofs.YtpennccflalobaaGreatDoor.Kl
