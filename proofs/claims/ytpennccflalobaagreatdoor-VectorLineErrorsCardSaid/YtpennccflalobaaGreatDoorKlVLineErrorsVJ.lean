import Derived.Test.YtpennccflalobaaGreatDoorKlVLineErrorsVB
import Derived.Test.YtpennccflalobaaGreatDoorKlBVEZ
namespace Go.Proofs.YtpennccflalobaaGreatDoor.Kl
open Go Go.RowKit
set_option maxRecDepth 100000
set_option maxHeartbeats 8000000
theorem checkLine_0 (a b c:Rat) (n0:a≠0) (r1:RL a 200) (r2:RL b 200) (r3:RL c 200) (w:World) (R:EnvV w) :
   Calls Tryz.prog 106 #[.agg #[.string (ratB a),.string (ratB b),.string (ratB c)]] w (Ret w (.int .i64 0)):=by
 have c1:∀ w,EnvV w→Calls Tryz.prog 67 #[.slice (some ⟨w.heap.size,0,none⟩) 3 3] (w.alloc (Obj.cells #[Value.string (ratB a),Value.string (ratB b),Value.string (ratB c)] 22)) (Ret w (.int .i64 0)):=fun w R=>numCheck3 (ratB a) (ratB b) (ratB c) 0 (fun _=>rfl) (fun h=>absurd ⟨isRat_of r1,isRat_of r2,isRat_of r3⟩ h) (Nat.le_trans (size_of_RL r1) (by decide)) (Nat.le_trans (size_of_RL r2) (by decide)) (Nat.le_trans (size_of_RL r3) (by decide)) w R.toEnvR
 have e0:((ratB a).toList == [48])=false:=by rw [ratB_eq_zero];exact decide_eq_false n0
 have p0:¬ (ratB a).toList=[48]:=fun h=>n0 ((zero_iff _).1 h)
 have C1:=Lib.hid c1
 clear c1 n0 r1 r2 r3
 have hb:=Below.refl w.heap.size w
 have Aa:w.cell? ⟨0,0,none⟩=some (Value.string ⟨#[48]⟩):=R.z0
 have Ab:w.cell? ⟨0,1,none⟩=some (Value.string ⟨#[48]⟩):=R.z1
 have Ac:w.cell? ⟨0,2,none⟩=some (Value.string ⟨#[48]⟩):=R.z2
 go_enter Tryz.func106,Tryz.ntmps106
 go_upto_region 1 with fail
 refine wp_alloc1 (fun w1 a0 hk=>?_)
 replace Aa:=zC hk Aa
 replace Ab:=zC hk Ab
 replace Ac:=zC hk Ac
 replace hb:=hb.trans (hk.mono hb.size)
 clear hk
 obtain ⟨Ad,Ae,Af⟩:=ce3 a0
 go_wp2_with (go_at_call 67;with_reducible refine (zL hb (C1.out _ (R.below hb))).mono ?_;clear hb;rintro e w1 ⟨rfl,hk,hb⟩;replace Aa:=zC hk Aa;replace Ab:=zC hk Ab;replace Ac:=zC hk Ac;clear Ad Ae Af;replace a0:=zB hk a0;obtain ⟨Ad,Ae,Af⟩:=ce3 a0;clear hk)
 first | go_ret | go_ret2 | go_ret3
 exact ⟨rfl,hb⟩
theorem checkLine_1 (a b c:Rat) (z0:a=0) (n1:b≠0) (r1:RL a 200) (r2:RL b 200) (r3:RL c 200) (w:World) (R:EnvV w) :
   Calls Tryz.prog 106 #[.agg #[.string (ratB a),.string (ratB b),.string (ratB c)]] w (Ret w (.int .i64 0)):=by
 have c1:∀ w,EnvV w→Calls Tryz.prog 67 #[.slice (some ⟨w.heap.size,0,none⟩) 3 3] (w.alloc (Obj.cells #[Value.string (ratB a),Value.string (ratB b),Value.string (ratB c)] 22)) (Ret w (.int .i64 0)):=fun w R=>numCheck3 (ratB a) (ratB b) (ratB c) 0 (fun _=>rfl) (fun h=>absurd ⟨isRat_of r1,isRat_of r2,isRat_of r3⟩ h) (Nat.le_trans (size_of_RL r1) (by decide)) (Nat.le_trans (size_of_RL r2) (by decide)) (Nat.le_trans (size_of_RL r3) (by decide)) w R.toEnvR
 have e0:((ratB a).toList == [48])=true:=by rw [ratB_eq_zero];exact decide_eq_true z0
 have p0:(ratB a).toList=[48]:=(zero_iff _).2 z0
 have e1:((ratB b).toList == [48])=false:=by rw [ratB_eq_zero];exact decide_eq_false n1
 have p1:¬ (ratB b).toList=[48]:=fun h=>n1 ((zero_iff _).1 h)
 have C1:=Lib.hid c1
 clear c1 z0 n1 r1 r2 r3
 have hb:=Below.refl w.heap.size w
 have Aa:w.cell? ⟨0,0,none⟩=some (Value.string ⟨#[48]⟩):=R.z0
 have Ab:w.cell? ⟨0,1,none⟩=some (Value.string ⟨#[48]⟩):=R.z1
 have Ac:w.cell? ⟨0,2,none⟩=some (Value.string ⟨#[48]⟩):=R.z2
 go_enter Tryz.func106,Tryz.ntmps106
 go_upto_region 1 with fail
 refine wp_alloc1 (fun w1 a0 hk=>?_)
 replace Aa:=zC hk Aa
 replace Ab:=zC hk Ab
 replace Ac:=zC hk Ac
 replace hb:=hb.trans (hk.mono hb.size)
 clear hk
 obtain ⟨Ad,Ae,Af⟩:=ce3 a0
 go_wp2_with (go_at_call 67;with_reducible refine (zL hb (C1.out _ (R.below hb))).mono ?_;clear hb;rintro e w1 ⟨rfl,hk,hb⟩;replace Aa:=zC hk Aa;replace Ab:=zC hk Ab;replace Ac:=zC hk Ac;clear Ad Ae Af;replace a0:=zB hk a0;obtain ⟨Ad,Ae,Af⟩:=ce3 a0;clear hk)
 first | go_ret | go_ret2 | go_ret3
 exact ⟨rfl,hb⟩
theorem checkLine_2 (a b c:Rat) (z0:a=0) (z1:b=0) (r1:RL a 200) (r2:RL b 200) (r3:RL c 200) (w:World) (R:EnvV w) :
   Calls Tryz.prog 106 #[.agg #[.string (ratB a),.string (ratB b),.string (ratB c)]] w (Ret w (.int .i64 17)):=by
 have c1:∀ w,EnvV w→Calls Tryz.prog 67 #[.slice (some ⟨w.heap.size,0,none⟩) 3 3] (w.alloc (Obj.cells #[Value.string (ratB a),Value.string (ratB b),Value.string (ratB c)] 22)) (Ret w (.int .i64 0)):=fun w R=>numCheck3 (ratB a) (ratB b) (ratB c) 0 (fun _=>rfl) (fun h=>absurd ⟨isRat_of r1,isRat_of r2,isRat_of r3⟩ h) (Nat.le_trans (size_of_RL r1) (by decide)) (Nat.le_trans (size_of_RL r2) (by decide)) (Nat.le_trans (size_of_RL r3) (by decide)) w R.toEnvR
 have e0:((ratB a).toList == [48])=true:=by rw [ratB_eq_zero];exact decide_eq_true z0
 have p0:(ratB a).toList=[48]:=(zero_iff _).2 z0
 have e1:((ratB b).toList == [48])=true:=by rw [ratB_eq_zero];exact decide_eq_true z1
 have p1:(ratB b).toList=[48]:=(zero_iff _).2 z1
 have C1:=Lib.hid c1
 clear c1 z0 z1 r1 r2 r3
 have hb:=Below.refl w.heap.size w
 have Aa:w.cell? ⟨0,0,none⟩=some (Value.string ⟨#[48]⟩):=R.z0
 have Ab:w.cell? ⟨0,1,none⟩=some (Value.string ⟨#[48]⟩):=R.z1
 have Ac:w.cell? ⟨0,2,none⟩=some (Value.string ⟨#[48]⟩):=R.z2
 go_enter Tryz.func106,Tryz.ntmps106
 go_upto_region 1 with fail
 refine wp_alloc1 (fun w1 a0 hk=>?_)
 replace Aa:=zC hk Aa
 replace Ab:=zC hk Ab
 replace Ac:=zC hk Ac
 replace hb:=hb.trans (hk.mono hb.size)
 clear hk
 obtain ⟨Ad,Ae,Af⟩:=ce3 a0
 go_wp2_with (go_at_call 67;with_reducible refine (zL hb (C1.out _ (R.below hb))).mono ?_;clear hb;rintro e w1 ⟨rfl,hk,hb⟩;replace Aa:=zC hk Aa;replace Ab:=zC hk Ab;replace Ac:=zC hk Ac;clear Ad Ae Af;replace a0:=zB hk a0;obtain ⟨Ad,Ae,Af⟩:=ce3 a0;clear hk)
 first | go_ret | go_ret2 | go_ret3
 exact ⟨rfl,hb⟩
end Go.Proofs.YtpennccflalobaaGreatDoor.Kl
