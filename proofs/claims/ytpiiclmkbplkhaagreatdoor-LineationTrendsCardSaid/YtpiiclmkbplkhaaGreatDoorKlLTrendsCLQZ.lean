import Derived.Test.YtpiiclmkbplkhaaGreatDoorKlLTrendsCVI
import Derived.Test.YtpiiclmkbplkhaaGreatDoorKlBLRZ
namespace Go.Proofs.YtpiiclmkbplkhaaGreatDoor.Kl
open Go Go.RowKit
set_option maxRecDepth 100000
set_option maxHeartbeats 8000000
theorem lver_t (a b c:Rat) (q0:a=0) (q1:b=0) (w:World) (_R:EnvV w) :
   Calls Tryz.prog 45 #[.agg #[.string (ratB a),.string (ratB b),.string (ratB c)]] w (Ret w (.bool true)):=by
 have eq0:((ratB a).toList == [48])=true:=by rw [ratB_eq_zero];exact decide_eq_true q0
 have pq0:(ratB a).toList=[48]:=(zero_iff _).2 q0
 have eq1:((ratB b).toList == [48])=true:=by rw [ratB_eq_zero];exact decide_eq_true q1
 have pq1:(ratB b).toList=[48]:=(zero_iff _).2 q1
 clear q0 q1
 have hb:=Below.refl w.heap.size w
 go_enter Tryz.func45,Tryz.ntmps45
 go_upto_region 1 with fail
 refine wp_alloc1 (fun w1 a0 hk=>?_)
 replace hb:=hb.trans (hk.mono hb.size)
 clear hk
 obtain ⟨Aa,Ab,Ac⟩:=ce3 a0
 go_wp2
 first | go_ret | go_ret2 | go_ret3
 exact ⟨rfl,hb⟩
theorem lTrend_v  (s0 s1 s2:ByteArray) (ck:CV 15 #[.agg #[.string s0,.string s1,.string s2]] (.int .i64 0)) (iv:CV 45 #[.agg #[.string s0,.string s1,.string s2]] (.bool true)) (w:World) (R:EnvV w) :
   Calls Tryz.prog 26 #[.agg #[.string s0,.string s1,.string s2]] w (Ret w (.tuple #[.int .i64 0,.int .i64 19])):=by
 have c1:=ck
 have c2:=iv
 have C1:=Lib.hid c1
 have C2:=Lib.hid c2
 clear c1 c2 ck iv
 have hb:=Below.refl w.heap.size w
 go_enter Tryz.func26,Tryz.ntmps26
 go_upto_region 1 with fail
 refine wp_alloc1 (fun w1 a0 hk=>?_)
 replace hb:=hb.trans (hk.mono hb.size)
 clear hk
 obtain ⟨Aa,Ab,Ac⟩:=ce3 a0
 go_wp2_with ((first | (go_at_call 15;with_reducible refine (chVB hb R C1).mono ?_) | (go_at_call 45;with_reducible refine (chVB hb R C2).mono ?_));clear hb;rintro e w1 ⟨rfl,hk,hb⟩;clear Aa Ab Ac;replace a0:=zB hk a0;obtain ⟨Aa,Ab,Ac⟩:=ce3 a0;clear hk)
 first | go_ret | go_ret2 | go_ret3
 exact ⟨rfl,hb⟩
theorem lCmpTrend_0  (s0 s1 s2 t0 t1 t2:ByteArray) (cs:CV 15 #[.agg #[.string s0,.string s1,.string s2]] (.int .i64 0)) (ct:CV 15 #[.agg #[.string t0,.string t1,.string t2]] (.int .i64 0)) (vs:CV 45 #[.agg #[.string s0,.string s1,.string s2]] (.bool true)) (w:World) (R:EnvV w) :
   Calls Tryz.prog 17 #[.agg #[.string s0,.string s1,.string s2],.agg #[.string t0,.string t1,.string t2]] w (Ret w (.tuple #[.int .i64 0,.int .i64 19])):=by
 have c1:=cs
 have c2:=ct
 have c3:=fun (w:World) (R:EnvV w)=>orErr2 0 0 0 (by decide) w R.toEnvR
 have c4:=vs
 have C1:=Lib.hid c1
 have C2:=Lib.hid c2
 have C3:=Lib.hid c3
 have C4:=Lib.hid c4
 clear c1 c2 c3 c4 cs ct vs
 have hb:=Below.refl w.heap.size w
 go_enter Tryz.func17,Tryz.ntmps17
 go_upto_region 1 with fail
 refine wp_alloc2 (fun w1 a0 a1 hk=>?_)
 replace hb:=hb.trans (hk.mono hb.size)
 clear hk
 obtain ⟨Aa,Ab,Ac⟩:=ce3 a0
 obtain ⟨Ad,Ae,Af⟩:=ce3 a1
 go_upto_region 1 with fail
 obtain ⟨Ai,Aj,Ak⟩:=cy3 a0
 obtain ⟨Al,Am,An⟩:=cy3 a1
 have Ag:=rrV C1 R hb
 have Ah:=rrV C2 R hb
 refine wp_region_tail_below 4 (by first | assumption | kernel_rfl) (by kernel_rfl) ?_
 simp only [List.take_succ_cons,List.take_zero,List.drop_succ_cons,List.drop_zero]
 repeat (quiet_step (first | (with_reducible exact Ag.out _ _) | (with_reducible exact Ah.out _ _)))
 refine wpQuiet_nil ?_
 intro w1 hw'
 obtain ⟨hk,hb⟩:=zQ hb hw'
 clear Aa Ab Ac Ad Ae Af
 replace a0:=zB hk a0
 replace a1:=zB hk a1
 obtain ⟨Aa,Ab,Ac⟩:=ce3 a0
 obtain ⟨Ad,Ae,Af⟩:=ce3 a1
 clear Ag Ah Ai Aj Ak Al Am An
 clear hk hw'
 go_wp2_with ((first | (go_at_call 43;with_reducible refine (zL hb (C3.out _ (R.below hb))).mono ?_) | (go_at_call 45;with_reducible refine (chVB hb R C4).mono ?_));clear hb;rintro e w1 ⟨rfl,hk,hb⟩;clear Aa Ab Ac Ad Ae Af;replace a0:=zB hk a0;replace a1:=zB hk a1;obtain ⟨Aa,Ab,Ac⟩:=ce3 a0;obtain ⟨Ad,Ae,Af⟩:=ce3 a1;clear hk)
 first | go_ret | go_ret2 | go_ret3
 exact ⟨rfl,hb⟩
theorem lCmpTrend_1  (s0 s1 s2 t0 t1 t2:ByteArray) (cs:CV 15 #[.agg #[.string s0,.string s1,.string s2]] (.int .i64 0)) (ct:CV 15 #[.agg #[.string t0,.string t1,.string t2]] (.int .i64 0)) (vs:CV 45 #[.agg #[.string s0,.string s1,.string s2]] (.bool false)) (vt:CV 45 #[.agg #[.string t0,.string t1,.string t2]] (.bool true)) (w:World) (R:EnvV w) :
   Calls Tryz.prog 17 #[.agg #[.string s0,.string s1,.string s2],.agg #[.string t0,.string t1,.string t2]] w (Ret w (.tuple #[.int .i64 0,.int .i64 19])):=by
 have c1:=cs
 have c2:=ct
 have c3:=fun (w:World) (R:EnvV w)=>orErr2 0 0 0 (by decide) w R.toEnvR
 have c4:=vs
 have c5:=vt
 have C1:=Lib.hid c1
 have C2:=Lib.hid c2
 have C3:=Lib.hid c3
 have C4:=Lib.hid c4
 have C5:=Lib.hid c5
 clear c1 c2 c3 c4 c5 cs ct vs vt
 have hb:=Below.refl w.heap.size w
 go_enter Tryz.func17,Tryz.ntmps17
 go_upto_region 1 with fail
 refine wp_alloc2 (fun w1 a0 a1 hk=>?_)
 replace hb:=hb.trans (hk.mono hb.size)
 clear hk
 obtain ⟨Aa,Ab,Ac⟩:=ce3 a0
 obtain ⟨Ad,Ae,Af⟩:=ce3 a1
 go_upto_region 1 with fail
 obtain ⟨Ai,Aj,Ak⟩:=cy3 a0
 obtain ⟨Al,Am,An⟩:=cy3 a1
 have Ag:=rrV C1 R hb
 have Ah:=rrV C2 R hb
 refine wp_region_tail_below 4 (by first | assumption | kernel_rfl) (by kernel_rfl) ?_
 simp only [List.take_succ_cons,List.take_zero,List.drop_succ_cons,List.drop_zero]
 repeat (quiet_step (first | (with_reducible exact Ag.out _ _) | (with_reducible exact Ah.out _ _)))
 refine wpQuiet_nil ?_
 intro w1 hw'
 obtain ⟨hk,hb⟩:=zQ hb hw'
 clear Aa Ab Ac Ad Ae Af
 replace a0:=zB hk a0
 replace a1:=zB hk a1
 obtain ⟨Aa,Ab,Ac⟩:=ce3 a0
 obtain ⟨Ad,Ae,Af⟩:=ce3 a1
 clear Ag Ah Ai Aj Ak Al Am An
 clear hk hw'
 go_wp2_with ((first | (go_at_call 43;with_reducible refine (zL hb (C3.out _ (R.below hb))).mono ?_) | (go_at_call 45;first | with_reducible refine (chVB hb R C4).mono ?_ | with_reducible refine (chVB hb R C5).mono ?_));clear hb;rintro e w1 ⟨rfl,hk,hb⟩;clear Aa Ab Ac Ad Ae Af;replace a0:=zB hk a0;replace a1:=zB hk a1;obtain ⟨Aa,Ab,Ac⟩:=ce3 a0;obtain ⟨Ad,Ae,Af⟩:=ce3 a1;clear hk)
 first | go_ret | go_ret2 | go_ret3
 exact ⟨rfl,hb⟩
theorem lCmpTrend_2  (s0 s1 s2 t0 t1 t2:ByteArray) (u0 u1 v0 v1:ByteArray) (C:Int) (cs:CV 15 #[.agg #[.string s0,.string s1,.string s2]] (.int .i64 0)) (ct:CV 15 #[.agg #[.string t0,.string t1,.string t2]] (.int .i64 0)) (vs:CV 45 #[.agg #[.string s0,.string s1,.string s2]] (.bool false)) (vt:CV 45 #[.agg #[.string t0,.string t1,.string t2]] (.bool false)) (bs:CV 47 #[.agg #[.string s0,.string s1,.string s2]] (.agg #[.string u0,.string u1])) (bt:CV 47 #[.agg #[.string t0,.string t1,.string t2]] (.agg #[.string v0,.string v1])) (cl:CV 46 #[.agg #[.string u0,.string u1],.agg #[.string v0,.string v1]] (.int .i64 C)) (w:World) (R:EnvV w) :
   Calls Tryz.prog 17 #[.agg #[.string s0,.string s1,.string s2],.agg #[.string t0,.string t1,.string t2]] w (Ret w (.tuple #[.int .i64 C,.int .i64 0])):=by
 have c1:=cs
 have c2:=ct
 have c3:=fun (w:World) (R:EnvV w)=>orErr2 0 0 0 (by decide) w R.toEnvR
 have c4:=vs
 have c5:=vt
 have c6:=bs
 have c7:=bt
 have c8:=cl
 have C1:=Lib.hid c1
 have C2:=Lib.hid c2
 have C3:=Lib.hid c3
 have C4:=Lib.hid c4
 have C5:=Lib.hid c5
 have C6:=Lib.hid c6
 have C7:=Lib.hid c7
 have C8:=Lib.hid c8
 clear c1 c2 c3 c4 c5 c6 c7 c8 cs ct vs vt bs bt cl
 have hb:=Below.refl w.heap.size w
 go_enter Tryz.func17,Tryz.ntmps17
 go_upto_region 1 with fail
 refine wp_alloc2 (fun w1 a0 a1 hk=>?_)
 replace hb:=hb.trans (hk.mono hb.size)
 clear hk
 obtain ⟨Aa,Ab,Ac⟩:=ce3 a0
 obtain ⟨Ad,Ae,Af⟩:=ce3 a1
 go_upto_region 1 with fail
 obtain ⟨Ag,Ah,Ai⟩:=cy3 a0
 obtain ⟨Aj,Ak,Al⟩:=cy3 a1
 have Am:=rrV C1 R hb
 have An:=rrV C2 R hb
 refine wp_region_tail_below 4 (by first | assumption | kernel_rfl) (by kernel_rfl) ?_
 simp only [List.take_succ_cons,List.take_zero,List.drop_succ_cons,List.drop_zero]
 repeat (quiet_step (first | (with_reducible exact Am.out _ _) | (with_reducible exact An.out _ _)))
 refine wpQuiet_nil ?_
 intro w1 hw'
 obtain ⟨hk,hb⟩:=zQ hb hw'
 clear Aa Ab Ac Ad Ae Af
 replace a0:=zB hk a0
 replace a1:=zB hk a1
 obtain ⟨Aa,Ab,Ac⟩:=ce3 a0
 obtain ⟨Ad,Ae,Af⟩:=ce3 a1
 clear Am An Ag Ah Ai Aj Ak Al
 clear hk hw'
 go_upto_region 6 with ((first | (go_at_call 43;with_reducible refine (zL hb (C3.out _ (R.below hb))).mono ?_) | (go_at_call 45;first | with_reducible refine (chVB hb R C4).mono ?_ | with_reducible refine (chVB hb R C5).mono ?_));clear hb;rintro e w1 ⟨rfl,hk,hb⟩;clear Aa Ab Ac Ad Ae Af;replace a0:=zB hk a0;replace a1:=zB hk a1;obtain ⟨Aa,Ab,Ac⟩:=ce3 a0;obtain ⟨Ad,Ae,Af⟩:=ce3 a1;clear hk)
 obtain ⟨Ag,Ah,Ai⟩:=cy3 a0
 obtain ⟨Aj,Ak,Al⟩:=cy3 a1
 have Ao:=rrV C6 R hb
 have Ap:=rrV C7 R hb
 have Aq:=rrV C8 R hb
 refine wp_region_quiet_below (by first | assumption | kernel_rfl) (by kernel_rfl) ?_
 repeat (quiet_step (first | (with_reducible exact Ao.out _ _) | (with_reducible exact Ap.out _ _) | (with_reducible exact Aq.out _ _)))
 refine wpQuiet_nil ?_
 intro w1 hw'
 obtain ⟨hk,hb⟩:=zQ hb hw'
 clear Aa Ab Ac Ad Ae Af
 replace a0:=zB hk a0
 replace a1:=zB hk a1
 obtain ⟨Aa,Ab,Ac⟩:=ce3 a0
 obtain ⟨Ad,Ae,Af⟩:=ce3 a1
 clear Ao Ap Aq Ag Ah Ai Aj Ak Al
 clear hk hw'
 go_wp2
 first | go_ret | go_ret2 | go_ret3
 exact ⟨rfl,hb⟩
end Go.Proofs.YtpiiclmkbplkhaaGreatDoor.Kl
