import Derived.Test.YtpiiclmkbplkhaaGreatDoorKlBLPZ
import Derived.Test.YtpiiclmkbplkhaaGreatDoorKlLChecksCVRaw
namespace Go.Proofs.YtpiiclmkbplkhaaGreatDoor.Kl
open Go Go.RowKit
set_option maxRecDepth 100000
set_option maxHeartbeats 8000000
theorem viszero_bad  (ta tb tc:ByteArray) (h:¬ (IsRat ta.data.toList∧IsRat tb.data.toList∧IsRat tc.data.toList)) (za:ta.size≤100000) (zb:tb.size≤100000) (zc:tc.size≤100000) (w:World) (R:EnvV w) :
   Calls Tryz.prog 42 #[.agg #[.string ta,.string tb,.string tc]] w (Ret w (.tuple #[.bool false,.int .i64 2])):=by
 have c1:CV 76 #[.agg #[.string ta,.string tb,.string tc]] (.int .i64 2):=fun w R=>check3_raw ta tb tc 2 (fun k=>absurd k h) (fun _=>rfl) za zb zc w R
 have C1:=Lib.hid c1
 clear c1 h za zb zc
 have hb:=Below.refl w.heap.size w
 go_enter Tryz.func42,Tryz.ntmps42
 go_upto_region 1 with fail
 refine wp_alloc1 (fun w1 a0 hk=>?_)
 replace hb:=hb.trans (hk.mono hb.size)
 clear hk
 obtain ⟨Aa,Ab,Ac⟩:=ce3 a0
 go_wp2_with (go_at_call 76;with_reducible refine (chVB hb R C1).mono ?_;clear hb;rintro e w1 ⟨rfl,hk,hb⟩;clear Aa Ab Ac;replace a0:=zB hk a0;obtain ⟨Aa,Ab,Ac⟩:=ce3 a0;clear hk)
 first | go_ret | go_ret2 | go_ret3
 exact ⟨rfl,hb⟩
theorem lcheck_z (a b c:Rat) (h:a=0∧b=0∧c=0) (ra:RL a 200) (rb:RL b 200) (rc:RL c 200) (w:World) (R:EnvV w) :
   Calls Tryz.prog 15 #[.agg #[.string (ratB a),.string (ratB b),.string (ratB c)]] w (Ret w (.int .i64 17)):=by
 have c1:CV 42 #[.agg #[.string (ratB a),.string (ratB b),.string (ratB c)]] (.tuple #[.bool true,.int .i64 0]):=fun w R=>(by have h':=isZero_any a b c ra rb rc w R;rw [decide_eq_true h] at h';exact h')
 obtain ⟨Ag,Aa⟩:∃ vq,ratB a=vq:=⟨_,rfl⟩
 obtain ⟨Ah,Ab⟩:∃ vq,ratB b=vq:=⟨_,rfl⟩
 obtain ⟨Ai,Ac⟩:∃ vq,ratB c=vq:=⟨_,rfl⟩
 try simp only [Aa,Ab,Ac] at c1 ⊢
 have C1:=Lib.hid c1
 clear c1 Aa Ab Ac h ra rb rc
 have hb:=Below.refl w.heap.size w
 go_enter Tryz.func15,Tryz.ntmps15
 go_upto_region 1 with fail
 refine wp_alloc1 (fun w1 a0 hk=>?_)
 replace hb:=hb.trans (hk.mono hb.size)
 clear hk
 obtain ⟨Ad,Ae,Af⟩:=ce3 a0
 go_wp2_with (go_at_call 42;with_reducible refine (chVB hb R C1).mono ?_;clear hb;rintro e w1 ⟨rfl,hk,hb⟩;clear Ad Ae Af;replace a0:=zB hk a0;obtain ⟨Ad,Ae,Af⟩:=ce3 a0;clear hk)
 first | go_ret | go_ret2 | go_ret3
 exact ⟨rfl,hb⟩
theorem lcheck_bad  (ta tb tc:ByteArray) (h:¬ (IsRat ta.data.toList∧IsRat tb.data.toList∧IsRat tc.data.toList)) (za:ta.size≤100000) (zb:tb.size≤100000) (zc:tc.size≤100000) (w:World) (R:EnvV w) :
   Calls Tryz.prog 15 #[.agg #[.string ta,.string tb,.string tc]] w (Ret w (.int .i64 2)):=by
 have c1:=viszero_bad ta tb tc h za zb zc
 have C1:=Lib.hid c1
 clear c1 h za zb zc
 have hb:=Below.refl w.heap.size w
 go_enter Tryz.func15,Tryz.ntmps15
 go_upto_region 1 with fail
 refine wp_alloc1 (fun w1 a0 hk=>?_)
 replace hb:=hb.trans (hk.mono hb.size)
 clear hk
 obtain ⟨Aa,Ab,Ac⟩:=ce3 a0
 go_wp2_with (go_at_call 42;with_reducible refine (chVB hb R C1).mono ?_;clear hb;rintro e w1 ⟨rfl,hk,hb⟩;clear Aa Ab Ac;replace a0:=zB hk a0;obtain ⟨Aa,Ab,Ac⟩:=ce3 a0;clear hk)
 first | go_ret | go_ret2 | go_ret3
 exact ⟨rfl,hb⟩
theorem lcheck_err (ta tb tc:ByteArray) (v:Int) (h:LErr ta tb tc v) (za:ta.size≤100000) (zb:tb.size≤100000) (zc:tc.size≤100000) (w:World) (R:EnvV w) :
   Calls Tryz.prog 15 #[.agg #[.string ta,.string tb,.string tc]] w (Ret w (.int .i64 v)):=by
 rcases h with ⟨h,rfl⟩ | ⟨⟨rfl,rfl,rfl⟩,rfl⟩
 · exact lcheck_bad ta tb tc h za zb zc w R
 · have h:=lcheck_z 0 0 0 ⟨rfl,rfl,rfl⟩ (rn_0.rl) (rn_0.rl) (rn_0.rl) w R
   rwa [rb_0] at h
theorem scheck_0  (ta tb tc:ByteArray) (ita:¬ IsRat ta.data.toList) (za:ta.size≤100000) (w:World) (R:EnvV w) :
   Calls Tryz.prog 14 #[.agg #[.string ta,.string tb,.string tc]] w (Ret w (.int .i64 2)):=by
 have c1:=fun (w:World) (R:EnvV w)=>rcheck_any ta 2 (Or.inr ⟨ita,rfl⟩) za w R.toEnvR
 have C1:=Lib.hid c1
 clear c1 ita za
 have hb:=Below.refl w.heap.size w
 go_enter Tryz.func14,Tryz.ntmps14
 go_upto_region 1 with fail
 refine wp_alloc1 (fun w1 a0 hk=>?_)
 replace hb:=hb.trans (hk.mono hb.size)
 clear hk
 obtain ⟨Aa,Ab,Ac⟩:=ce3 a0
 go_wp2_with (go_at_call 41;with_reducible refine (chVB hb R C1).mono ?_;clear hb;rintro e w1 ⟨rfl,hk,hb⟩;clear Aa Ab Ac;replace a0:=zB hk a0;obtain ⟨Aa,Ab,Ac⟩:=ce3 a0;clear hk)
 first | go_ret | go_ret2 | go_ret3
 exact ⟨rfl,hb⟩
theorem scheck_1  (ta tb tc:ByteArray) (ita:IsRat ta.data.toList) (itb:¬ IsRat tb.data.toList) (za:ta.size≤100000) (zb:tb.size≤100000) (w:World) (R:EnvV w) :
   Calls Tryz.prog 14 #[.agg #[.string ta,.string tb,.string tc]] w (Ret w (.int .i64 2)):=by
 have c1:=fun (w:World) (R:EnvV w)=>rcheck_any ta 0 (Or.inl ⟨ita,rfl⟩) za w R.toEnvR
 have c2:=fun (w:World) (R:EnvV w)=>rcheck_any tb 2 (Or.inr ⟨itb,rfl⟩) zb w R.toEnvR
 have C1:=Lib.hid c1
 have C2:=Lib.hid c2
 clear c1 c2 ita itb za zb
 have hb:=Below.refl w.heap.size w
 go_enter Tryz.func14,Tryz.ntmps14
 go_upto_region 1 with fail
 refine wp_alloc1 (fun w1 a0 hk=>?_)
 replace hb:=hb.trans (hk.mono hb.size)
 clear hk
 obtain ⟨Aa,Ab,Ac⟩:=ce3 a0
 go_wp2_with ((go_at_call 41;first | with_reducible refine (chVB hb R C1).mono ?_ | with_reducible refine (chVB hb R C2).mono ?_);clear hb;rintro e w1 ⟨rfl,hk,hb⟩;clear Aa Ab Ac;replace a0:=zB hk a0;obtain ⟨Aa,Ab,Ac⟩:=ce3 a0;clear hk)
 first | go_ret | go_ret2 | go_ret3
 exact ⟨rfl,hb⟩
theorem scheck_2  (ta tb tc:ByteArray) (ita:IsRat ta.data.toList) (itb:IsRat tb.data.toList) (itc:¬ IsRat tc.data.toList) (za:ta.size≤100000) (zb:tb.size≤100000) (zc:tc.size≤100000) (w:World) (R:EnvV w) :
   Calls Tryz.prog 14 #[.agg #[.string ta,.string tb,.string tc]] w (Ret w (.int .i64 2)):=by
 have c1:=fun (w:World) (R:EnvV w)=>rcheck_any ta 0 (Or.inl ⟨ita,rfl⟩) za w R.toEnvR
 have c2:=fun (w:World) (R:EnvV w)=>rcheck_any tb 0 (Or.inl ⟨itb,rfl⟩) zb w R.toEnvR
 have c3:=fun (w:World) (R:EnvV w)=>rcheck_any tc 2 (Or.inr ⟨itc,rfl⟩) zc w R.toEnvR
 have C1:=Lib.hid c1
 have C2:=Lib.hid c2
 have C3:=Lib.hid c3
 clear c1 c2 c3 ita itb itc za zb zc
 have hb:=Below.refl w.heap.size w
 go_enter Tryz.func14,Tryz.ntmps14
 go_upto_region 1 with fail
 refine wp_alloc1 (fun w1 a0 hk=>?_)
 replace hb:=hb.trans (hk.mono hb.size)
 clear hk
 obtain ⟨Aa,Ab,Ac⟩:=ce3 a0
 go_wp2_with ((go_at_call 41;first | with_reducible refine (chVB hb R C1).mono ?_ | with_reducible refine (chVB hb R C2).mono ?_ | with_reducible refine (chVB hb R C3).mono ?_);clear hb;rintro e w1 ⟨rfl,hk,hb⟩;clear Aa Ab Ac;replace a0:=zB hk a0;obtain ⟨Aa,Ab,Ac⟩:=ce3 a0;clear hk)
 first | go_ret | go_ret2 | go_ret3
 exact ⟨rfl,hb⟩
theorem sdir_0 (a b c:Rat) (ra:RL a 200) (rb:RL b 200) (rc:RL c 200) (q0:a≠0) (w:World) (R:EnvV w) :
   Calls Tryz.prog 14 #[.agg #[.string (ratB a),.string (ratB b),.string (ratB c)]] w (Ret w (.int .i64 0)):=by
 have c1:=fun (w:World) (R:EnvV w)=>rcheck_any (ratB a) 0 (Or.inl ⟨isRat_of ra,rfl⟩) (Nat.le_trans (size_of_RL ra) (by decide)) w R.toEnvR
 have c2:=fun (w:World) (R:EnvV w)=>rcheck_any (ratB b) 0 (Or.inl ⟨isRat_of rb,rfl⟩) (Nat.le_trans (size_of_RL rb) (by decide)) w R.toEnvR
 have c3:=fun (w:World) (R:EnvV w)=>rcheck_any (ratB c) 0 (Or.inl ⟨isRat_of rc,rfl⟩) (Nat.le_trans (size_of_RL rc) (by decide)) w R.toEnvR
 have eq0:((ratB a).toList == [48])=false:=by rw [ratB_eq_zero];exact decide_eq_false q0
 have pq0:¬ (ratB a).toList=[48]:=fun h=>q0 ((zero_iff _).1 h)
 have C1:=Lib.hid c1
 have C2:=Lib.hid c2
 have C3:=Lib.hid c3
 clear c1 c2 c3 q0 ra rb rc
 have hb:=Below.refl w.heap.size w
 go_enter Tryz.func14,Tryz.ntmps14
 go_upto_region 1 with fail
 refine wp_alloc1 (fun w1 a0 hk=>?_)
 replace hb:=hb.trans (hk.mono hb.size)
 clear hk
 obtain ⟨Aa,Ab,Ac⟩:=ce3 a0
 go_wp2_with ((go_at_call 41;first | with_reducible refine (chVB hb R C1).mono ?_ | with_reducible refine (chVB hb R C2).mono ?_ | with_reducible refine (chVB hb R C3).mono ?_);clear hb;rintro e w1 ⟨rfl,hk,hb⟩;clear Aa Ab Ac;replace a0:=zB hk a0;obtain ⟨Aa,Ab,Ac⟩:=ce3 a0;clear hk)
 first | go_ret | go_ret2 | go_ret3
 exact ⟨rfl,hb⟩
theorem sdir_1 (a b c:Rat) (ra:RL a 200) (rb:RL b 200) (rc:RL c 200) (q0:a=0) (q1:b≠0) (w:World) (R:EnvV w) :
   Calls Tryz.prog 14 #[.agg #[.string (ratB a),.string (ratB b),.string (ratB c)]] w (Ret w (.int .i64 0)):=by
 have c1:=fun (w:World) (R:EnvV w)=>rcheck_any (ratB a) 0 (Or.inl ⟨isRat_of ra,rfl⟩) (Nat.le_trans (size_of_RL ra) (by decide)) w R.toEnvR
 have c2:=fun (w:World) (R:EnvV w)=>rcheck_any (ratB b) 0 (Or.inl ⟨isRat_of rb,rfl⟩) (Nat.le_trans (size_of_RL rb) (by decide)) w R.toEnvR
 have c3:=fun (w:World) (R:EnvV w)=>rcheck_any (ratB c) 0 (Or.inl ⟨isRat_of rc,rfl⟩) (Nat.le_trans (size_of_RL rc) (by decide)) w R.toEnvR
 have eq0:((ratB a).toList == [48])=true:=by rw [ratB_eq_zero];exact decide_eq_true q0
 have pq0:(ratB a).toList=[48]:=(zero_iff _).2 q0
 have eq1:((ratB b).toList == [48])=false:=by rw [ratB_eq_zero];exact decide_eq_false q1
 have pq1:¬ (ratB b).toList=[48]:=fun h=>q1 ((zero_iff _).1 h)
 have C1:=Lib.hid c1
 have C2:=Lib.hid c2
 have C3:=Lib.hid c3
 clear c1 c2 c3 q0 q1 ra rb rc
 have hb:=Below.refl w.heap.size w
 go_enter Tryz.func14,Tryz.ntmps14
 go_upto_region 1 with fail
 refine wp_alloc1 (fun w1 a0 hk=>?_)
 replace hb:=hb.trans (hk.mono hb.size)
 clear hk
 obtain ⟨Aa,Ab,Ac⟩:=ce3 a0
 go_wp2_with ((go_at_call 41;first | with_reducible refine (chVB hb R C1).mono ?_ | with_reducible refine (chVB hb R C2).mono ?_ | with_reducible refine (chVB hb R C3).mono ?_);clear hb;rintro e w1 ⟨rfl,hk,hb⟩;clear Aa Ab Ac;replace a0:=zB hk a0;obtain ⟨Aa,Ab,Ac⟩:=ce3 a0;clear hk)
 first | go_ret | go_ret2 | go_ret3
 exact ⟨rfl,hb⟩
theorem sdir_2 (a b c:Rat) (ra:RL a 200) (rb:RL b 200) (rc:RL c 200) (q0:a=0) (q1:b=0) (q2:c≠0) (w:World) (R:EnvV w) :
   Calls Tryz.prog 14 #[.agg #[.string (ratB a),.string (ratB b),.string (ratB c)]] w (Ret w (.int .i64 0)):=by
 have c1:=fun (w:World) (R:EnvV w)=>rcheck_any (ratB a) 0 (Or.inl ⟨isRat_of ra,rfl⟩) (Nat.le_trans (size_of_RL ra) (by decide)) w R.toEnvR
 have c2:=fun (w:World) (R:EnvV w)=>rcheck_any (ratB b) 0 (Or.inl ⟨isRat_of rb,rfl⟩) (Nat.le_trans (size_of_RL rb) (by decide)) w R.toEnvR
 have c3:=fun (w:World) (R:EnvV w)=>rcheck_any (ratB c) 0 (Or.inl ⟨isRat_of rc,rfl⟩) (Nat.le_trans (size_of_RL rc) (by decide)) w R.toEnvR
 have eq0:((ratB a).toList == [48])=true:=by rw [ratB_eq_zero];exact decide_eq_true q0
 have pq0:(ratB a).toList=[48]:=(zero_iff _).2 q0
 have eq1:((ratB b).toList == [48])=true:=by rw [ratB_eq_zero];exact decide_eq_true q1
 have pq1:(ratB b).toList=[48]:=(zero_iff _).2 q1
 have eq2:((ratB c).toList == [48])=false:=by rw [ratB_eq_zero];exact decide_eq_false q2
 have pq2:¬ (ratB c).toList=[48]:=fun h=>q2 ((zero_iff _).1 h)
 have C1:=Lib.hid c1
 have C2:=Lib.hid c2
 have C3:=Lib.hid c3
 clear c1 c2 c3 q0 q1 q2 ra rb rc
 have hb:=Below.refl w.heap.size w
 go_enter Tryz.func14,Tryz.ntmps14
 go_upto_region 1 with fail
 refine wp_alloc1 (fun w1 a0 hk=>?_)
 replace hb:=hb.trans (hk.mono hb.size)
 clear hk
 obtain ⟨Aa,Ab,Ac⟩:=ce3 a0
 go_wp2_with ((go_at_call 41;first | with_reducible refine (chVB hb R C1).mono ?_ | with_reducible refine (chVB hb R C2).mono ?_ | with_reducible refine (chVB hb R C3).mono ?_);clear hb;rintro e w1 ⟨rfl,hk,hb⟩;clear Aa Ab Ac;replace a0:=zB hk a0;obtain ⟨Aa,Ab,Ac⟩:=ce3 a0;clear hk)
 first | go_ret | go_ret2 | go_ret3
 exact ⟨rfl,hb⟩
theorem sdir_z (a b c:Rat) (ra:RL a 200) (rb:RL b 200) (rc:RL c 200) (q0:a=0) (q1:b=0) (q2:c=0) (w:World) (R:EnvV w) :
   Calls Tryz.prog 14 #[.agg #[.string (ratB a),.string (ratB b),.string (ratB c)]] w (Ret w (.int .i64 17)):=by
 have c1:=fun (w:World) (R:EnvV w)=>rcheck_any (ratB a) 0 (Or.inl ⟨isRat_of ra,rfl⟩) (Nat.le_trans (size_of_RL ra) (by decide)) w R.toEnvR
 have c2:=fun (w:World) (R:EnvV w)=>rcheck_any (ratB b) 0 (Or.inl ⟨isRat_of rb,rfl⟩) (Nat.le_trans (size_of_RL rb) (by decide)) w R.toEnvR
 have c3:=fun (w:World) (R:EnvV w)=>rcheck_any (ratB c) 0 (Or.inl ⟨isRat_of rc,rfl⟩) (Nat.le_trans (size_of_RL rc) (by decide)) w R.toEnvR
 have eq0:((ratB a).toList == [48])=true:=by rw [ratB_eq_zero];exact decide_eq_true q0
 have pq0:(ratB a).toList=[48]:=(zero_iff _).2 q0
 have eq1:((ratB b).toList == [48])=true:=by rw [ratB_eq_zero];exact decide_eq_true q1
 have pq1:(ratB b).toList=[48]:=(zero_iff _).2 q1
 have eq2:((ratB c).toList == [48])=true:=by rw [ratB_eq_zero];exact decide_eq_true q2
 have pq2:(ratB c).toList=[48]:=(zero_iff _).2 q2
 have C1:=Lib.hid c1
 have C2:=Lib.hid c2
 have C3:=Lib.hid c3
 clear c1 c2 c3 q0 q1 q2 ra rb rc
 have hb:=Below.refl w.heap.size w
 go_enter Tryz.func14,Tryz.ntmps14
 go_upto_region 1 with fail
 refine wp_alloc1 (fun w1 a0 hk=>?_)
 replace hb:=hb.trans (hk.mono hb.size)
 clear hk
 obtain ⟨Aa,Ab,Ac⟩:=ce3 a0
 go_wp2_with ((go_at_call 41;first | with_reducible refine (chVB hb R C1).mono ?_ | with_reducible refine (chVB hb R C2).mono ?_ | with_reducible refine (chVB hb R C3).mono ?_);clear hb;rintro e w1 ⟨rfl,hk,hb⟩;clear Aa Ab Ac;replace a0:=zB hk a0;obtain ⟨Aa,Ab,Ac⟩:=ce3 a0;clear hk)
 first | go_ret | go_ret2 | go_ret3
 exact ⟨rfl,hb⟩
theorem scheck_ok (a b c:Rat) (h:a≠0∨b≠0∨c≠0) (ra:RL a 200) (rb:RL b 200) (rc:RL c 200) (w:World) (R:EnvV w) :
   Calls Tryz.prog 14 #[.agg #[.string (ratB a),.string (ratB b),.string (ratB c)]] w (Ret w (.int .i64 0)):=by
 by_cases q0:a=0
 · by_cases q1:b=0
   · exact sdir_2 a b c ra rb rc q0 q1 ((h.resolve_left (fun k=>k q0)).resolve_left (fun k=>k q1)) w R
   · exact sdir_1 a b c ra rb rc q0 q1 w R
 · exact sdir_0 a b c ra rb rc q0 w R
theorem scheck_err (ta tb tc:ByteArray) (v:Int) (h:LErr ta tb tc v) (za:ta.size≤100000) (zb:tb.size≤100000) (zc:tc.size≤100000) (w:World) (R:EnvV w) :
   Calls Tryz.prog 14 #[.agg #[.string ta,.string tb,.string tc]] w (Ret w (.int .i64 v)):=by
 rcases h with ⟨h,rfl⟩ | ⟨⟨rfl,rfl,rfl⟩,rfl⟩
 · by_cases ia:IsRat ta.data.toList
   · by_cases ib:IsRat tb.data.toList
     · exact scheck_2 ta tb tc ia ib (fun ic=>h ⟨ia,ib,ic⟩) za zb zc w R
     · exact scheck_1 ta tb tc ia ib za zb w R
   · exact scheck_0 ta tb tc ia za w R
 · have r0:RL (0:Rat) 200:=rn_0.rl
   have h:=sdir_z 0 0 0 r0 r0 r0 rfl rfl rfl w R
   rwa [rb_0] at h
theorem lOf_err  (ta tb tc:ByteArray) (v:Int) (ca:CV 15 #[.agg #[.string ta,.string tb,.string tc]] (.int .i64 v)) (q0:v≠0) (w:World) (R:EnvV w) :
   Calls Tryz.prog 25 #[.agg #[.string ta,.string tb,.string tc]] w (Ret w (.tuple #[.agg #[.string ⟨#[]⟩,.string ⟨#[]⟩,.string ⟨#[]⟩],.int .i64 v])):=by
 have c1:=ca
 have eq0:(v == 0)=false:=beq_eq_false_iff_ne.2 q0
 have pq0:¬ v=0:=q0
 have C1:=Lib.hid c1
 clear c1 q0 ca
 have hb:=Below.refl w.heap.size w
 go_enter Tryz.func25,Tryz.ntmps25
 go_upto_region 1 with fail
 refine wp_alloc2 (fun w1 a0 a1 hk=>?_)
 replace hb:=hb.trans (hk.mono hb.size)
 clear hk
 obtain ⟨Ad,Ae,Af⟩:=ce3 a0
 obtain ⟨Aa,Ag,Ab,Ah,Ac,Ai⟩:=cf3 a1
 go_wp2_with (go_at_call 15;with_reducible refine (chVB hb R C1).mono ?_;clear hb;rintro e w1 ⟨rfl,hk,hb⟩;clear Ad Ae Af Aa Ab Ac Ag Ah Ai;replace a0:=zB hk a0;replace a1:=zB hk a1;obtain ⟨Ad,Ae,Af⟩:=ce3 a0;obtain ⟨Aa,Ag,Ab,Ah,Ac,Ai⟩:=cf3 a1;clear hk)
 refine bodyPost_ret (v:=.tuple #[.agg #[.string ⟨#[]⟩,.string ⟨#[]⟩,.string ⟨#[]⟩],.int .i64 v]) (by simp [results,Tryz.results25,go_sem,Aa,Ab,Ac]) rfl ⟨rfl,?_⟩
 repeat' (first | exact hb | refine Below.setCell ?_ (by first | exact Nat.le_refl _ | (dsimp only;omega)) _)
theorem lTrend_err  (ta tb tc:ByteArray) (v:Int) (ca:CV 15 #[.agg #[.string ta,.string tb,.string tc]] (.int .i64 v)) (q0:v≠0) (w:World) (R:EnvV w) :
   Calls Tryz.prog 26 #[.agg #[.string ta,.string tb,.string tc]] w (Ret w (.tuple #[.int .i64 0,.int .i64 v])):=by
 have c1:=ca
 have eq0:(v == 0)=false:=beq_eq_false_iff_ne.2 q0
 have pq0:¬ v=0:=q0
 have C1:=Lib.hid c1
 clear c1 q0 ca
 have hb:=Below.refl w.heap.size w
 go_enter Tryz.func26,Tryz.ntmps26
 go_upto_region 1 with fail
 refine wp_alloc1 (fun w1 a0 hk=>?_)
 replace hb:=hb.trans (hk.mono hb.size)
 clear hk
 obtain ⟨Aa,Ab,Ac⟩:=ce3 a0
 go_wp2_with (go_at_call 15;with_reducible refine (chVB hb R C1).mono ?_;clear hb;rintro e w1 ⟨rfl,hk,hb⟩;clear Aa Ab Ac;replace a0:=zB hk a0;obtain ⟨Aa,Ab,Ac⟩:=ce3 a0;clear hk)
 first | go_ret | go_ret2 | go_ret3
 exact ⟨rfl,hb⟩
theorem lPlunge_err  (ta tb tc:ByteArray) (v:Int) (ca:CV 15 #[.agg #[.string ta,.string tb,.string tc]] (.int .i64 v)) (q0:v≠0) (w:World) (R:EnvV w) :
   Calls Tryz.prog 27 #[.agg #[.string ta,.string tb,.string tc]] w (Ret w (.tuple #[.string ⟨#[]⟩,.bool false,.int .i64 v])):=by
 have c1:=ca
 have eq0:(v == 0)=false:=beq_eq_false_iff_ne.2 q0
 have pq0:¬ v=0:=q0
 have C1:=Lib.hid c1
 clear c1 q0 ca
 have hb:=Below.refl w.heap.size w
 go_enter Tryz.func27,Tryz.ntmps27
 go_upto_region 1 with fail
 refine wp_alloc1 (fun w1 a0 hk=>?_)
 replace hb:=hb.trans (hk.mono hb.size)
 clear hk
 obtain ⟨Aa,Ab,Ac⟩:=ce3 a0
 go_wp2_with (go_at_call 15;with_reducible refine (chVB hb R C1).mono ?_;clear hb;rintro e w1 ⟨rfl,hk,hb⟩;clear Aa Ab Ac;replace a0:=zB hk a0;obtain ⟨Aa,Ab,Ac⟩:=ce3 a0;clear hk)
 first | go_ret | go_ret2 | go_ret3
 exact ⟨rfl,hb⟩
set_option maxRecDepth 512 in
theorem orErr4 (a0 a1 a2 a3:Int) (v:Int) (hv:firstNZ [a0,a1,a2,a3]=v) (w:World) (_R:EnvR w) :
   Calls Tryz.prog 43 #[.slice (some ⟨w.heap.size,0,none⟩) 4 4] (w.alloc (Obj.cells #[Value.int .i64 a0,Value.int .i64 a1,Value.int .i64 a2,Value.int .i64 a3] 27)) (Ret w (.int .i64 v)):=by
 have hba:Below w.heap.size w (w.alloc (Obj.cells #[Value.int .i64 a0,Value.int .i64 a1,Value.int .i64 a2,Value.int .i64 a3] 27)):=(Below.refl _ _).alloc (Nat.le_refl _) _
 refine (orErr_w w.heap.size 4 4 [a0,a1,a2,a3] rfl (by decide) v hv _ ?_).mono fun e w' h=>⟨h.1,hba.trans (h.2.mono hba.size)⟩
 intro j t h
 match j,h with
 | 0,h=>injection h with h;subst h;simp [go_sem]
 | 1,h=>injection h with h;subst h;simp [go_sem]
 | 2,h=>injection h with h;subst h;simp [go_sem]
 | 3,h=>injection h with h;subst h;simp [go_sem]
 | j+4,h=>simp at h
theorem lSame_err  (ta tb tc tx ty tz:ByteArray) (ea eb v:Int) (ca:CV 15 #[.agg #[.string ta,.string tb,.string tc]] (.int .i64 ea)) (cb:CV 15 #[.agg #[.string tx,.string ty,.string tz]] (.int .i64 eb)) (hv:firstNZ [ea,eb]=v) (q0:v≠0) (w:World) (R:EnvV w) :
   Calls Tryz.prog 16 #[.agg #[.string ta,.string tb,.string tc],.agg #[.string tx,.string ty,.string tz]] w (Ret w (.tuple #[.bool false,.int .i64 v])):=by
 have c1:=ca
 have c2:=cb
 have c3:=fun (w:World) (R:EnvV w)=>orErr2 ea eb v hv w R.toEnvR
 have eq0:(v == 0)=false:=beq_eq_false_iff_ne.2 q0
 have pq0:¬ v=0:=q0
 have C1:=Lib.hid c1
 have C2:=Lib.hid c2
 have C3:=Lib.hid c3
 clear c1 c2 c3 q0 ca cb hv
 have hb:=Below.refl w.heap.size w
 go_enter Tryz.func16,Tryz.ntmps16
 go_upto_region 1 with fail
 refine wp_alloc2 (fun w1 a0 a1 hk=>?_)
 replace hb:=hb.trans (hk.mono hb.size)
 clear hk
 obtain ⟨Aa,Ab,Ac⟩:=ce3 a0
 obtain ⟨Ad,Ae,Af⟩:=ce3 a1
 go_upto_region 1 with fail
 obtain ⟨Ai,Aj,Ak⟩:=cy3 a0
 obtain ⟨Al,Am,An⟩:=cy3 a1
 have Ag:=rrV C1 R hb
 have Ah:=rrV C2 R hb
 refine wp_region_tail_below 4 (by first | assumption | kernel_rfl) (by kernel_rfl) ?_
 simp only [List.take_succ_cons,List.take_zero,List.drop_succ_cons,List.drop_zero]
 repeat (quiet_step (first | (with_reducible exact Ag.out _ _) | (with_reducible exact Ah.out _ _)))
 refine wpQuiet_nil ?_
 intro w1 hw'
 obtain ⟨hk,hb⟩:=zQ hb hw'
 clear Aa Ab Ac Ad Ae Af
 replace a0:=zB hk a0
 replace a1:=zB hk a1
 obtain ⟨Aa,Ab,Ac⟩:=ce3 a0
 obtain ⟨Ad,Ae,Af⟩:=ce3 a1
 clear Ag Ah Ai Aj Ak Al Am An
 clear hk hw'
 go_wp2_with (go_at_call 43;with_reducible refine (zL hb (C3.out _ (R.below hb))).mono ?_;clear hb;rintro e w1 ⟨rfl,hk,hb⟩;clear Aa Ab Ac Ad Ae Af;replace a0:=zB hk a0;replace a1:=zB hk a1;obtain ⟨Aa,Ab,Ac⟩:=ce3 a0;obtain ⟨Ad,Ae,Af⟩:=ce3 a1;clear hk)
 first | go_ret | go_ret2 | go_ret3
 exact ⟨rfl,hb⟩
theorem lCmpTrend_err  (ta tb tc tx ty tz:ByteArray) (ea eb v:Int) (ca:CV 15 #[.agg #[.string ta,.string tb,.string tc]] (.int .i64 ea)) (cb:CV 15 #[.agg #[.string tx,.string ty,.string tz]] (.int .i64 eb)) (hv:firstNZ [ea,eb]=v) (q0:v≠0) (w:World) (R:EnvV w) :
   Calls Tryz.prog 17 #[.agg #[.string ta,.string tb,.string tc],.agg #[.string tx,.string ty,.string tz]] w (Ret w (.tuple #[.int .i64 0,.int .i64 v])):=by
 have c1:=ca
 have c2:=cb
 have c3:=fun (w:World) (R:EnvV w)=>orErr2 ea eb v hv w R.toEnvR
 have eq0:(v == 0)=false:=beq_eq_false_iff_ne.2 q0
 have pq0:¬ v=0:=q0
 have C1:=Lib.hid c1
 have C2:=Lib.hid c2
 have C3:=Lib.hid c3
 clear c1 c2 c3 q0 ca cb hv
 have hb:=Below.refl w.heap.size w
 go_enter Tryz.func17,Tryz.ntmps17
 go_upto_region 1 with fail
 refine wp_alloc2 (fun w1 a0 a1 hk=>?_)
 replace hb:=hb.trans (hk.mono hb.size)
 clear hk
 obtain ⟨Aa,Ab,Ac⟩:=ce3 a0
 obtain ⟨Ad,Ae,Af⟩:=ce3 a1
 go_upto_region 1 with fail
 obtain ⟨Ai,Aj,Ak⟩:=cy3 a0
 obtain ⟨Al,Am,An⟩:=cy3 a1
 have Ag:=rrV C1 R hb
 have Ah:=rrV C2 R hb
 refine wp_region_tail_below 4 (by first | assumption | kernel_rfl) (by kernel_rfl) ?_
 simp only [List.take_succ_cons,List.take_zero,List.drop_succ_cons,List.drop_zero]
 repeat (quiet_step (first | (with_reducible exact Ag.out _ _) | (with_reducible exact Ah.out _ _)))
 refine wpQuiet_nil ?_
 intro w1 hw'
 obtain ⟨hk,hb⟩:=zQ hb hw'
 clear Aa Ab Ac Ad Ae Af
 replace a0:=zB hk a0
 replace a1:=zB hk a1
 obtain ⟨Aa,Ab,Ac⟩:=ce3 a0
 obtain ⟨Ad,Ae,Af⟩:=ce3 a1
 clear Ag Ah Ai Aj Ak Al Am An
 clear hk hw'
 go_wp2_with (go_at_call 43;with_reducible refine (zL hb (C3.out _ (R.below hb))).mono ?_;clear hb;rintro e w1 ⟨rfl,hk,hb⟩;clear Aa Ab Ac Ad Ae Af;replace a0:=zB hk a0;replace a1:=zB hk a1;obtain ⟨Aa,Ab,Ac⟩:=ce3 a0;obtain ⟨Ad,Ae,Af⟩:=ce3 a1;clear hk)
 first | go_ret | go_ret2 | go_ret3
 exact ⟨rfl,hb⟩
theorem lCmpPlunge_err  (ta tb tc tx ty tz:ByteArray) (ea eb v:Int) (ca:CV 15 #[.agg #[.string ta,.string tb,.string tc]] (.int .i64 ea)) (cb:CV 15 #[.agg #[.string tx,.string ty,.string tz]] (.int .i64 eb)) (hv:firstNZ [ea,eb]=v) (q0:v≠0) (w:World) (R:EnvV w) :
   Calls Tryz.prog 18 #[.agg #[.string ta,.string tb,.string tc],.agg #[.string tx,.string ty,.string tz]] w (Ret w (.tuple #[.int .i64 0,.int .i64 v])):=by
 have c1:=ca
 have c2:=cb
 have c3:=fun (w:World) (R:EnvV w)=>orErr2 ea eb v hv w R.toEnvR
 have eq0:(v == 0)=false:=beq_eq_false_iff_ne.2 q0
 have pq0:¬ v=0:=q0
 have C1:=Lib.hid c1
 have C2:=Lib.hid c2
 have C3:=Lib.hid c3
 clear c1 c2 c3 q0 ca cb hv
 have hb:=Below.refl w.heap.size w
 go_enter Tryz.func18,Tryz.ntmps18
 go_upto_region 1 with fail
 refine wp_alloc2 (fun w1 a0 a1 hk=>?_)
 replace hb:=hb.trans (hk.mono hb.size)
 clear hk
 obtain ⟨Aa,Ab,Ac⟩:=ce3 a0
 obtain ⟨Ad,Ae,Af⟩:=ce3 a1
 go_upto_region 1 with fail
 obtain ⟨Ai,Aj,Ak⟩:=cy3 a0
 obtain ⟨Al,Am,An⟩:=cy3 a1
 have Ag:=rrV C1 R hb
 have Ah:=rrV C2 R hb
 refine wp_region_tail_below 4 (by first | assumption | kernel_rfl) (by kernel_rfl) ?_
 simp only [List.take_succ_cons,List.take_zero,List.drop_succ_cons,List.drop_zero]
 repeat (quiet_step (first | (with_reducible exact Ag.out _ _) | (with_reducible exact Ah.out _ _)))
 refine wpQuiet_nil ?_
 intro w1 hw'
 obtain ⟨hk,hb⟩:=zQ hb hw'
 clear Aa Ab Ac Ad Ae Af
 replace a0:=zB hk a0
 replace a1:=zB hk a1
 obtain ⟨Aa,Ab,Ac⟩:=ce3 a0
 obtain ⟨Ad,Ae,Af⟩:=ce3 a1
 clear Ag Ah Ai Aj Ak Al Am An
 clear hk hw'
 go_wp2_with (go_at_call 43;with_reducible refine (zL hb (C3.out _ (R.below hb))).mono ?_;clear hb;rintro e w1 ⟨rfl,hk,hb⟩;clear Aa Ab Ac Ad Ae Af;replace a0:=zB hk a0;replace a1:=zB hk a1;obtain ⟨Aa,Ab,Ac⟩:=ce3 a0;obtain ⟨Ad,Ae,Af⟩:=ce3 a1;clear hk)
 first | go_ret | go_ret2 | go_ret3
 exact ⟨rfl,hb⟩
theorem lAngle_err  (ta tb tc tx ty tz:ByteArray) (ea eb v:Int) (ca:CV 15 #[.agg #[.string ta,.string tb,.string tc]] (.int .i64 ea)) (cb:CV 15 #[.agg #[.string tx,.string ty,.string tz]] (.int .i64 eb)) (hv:firstNZ [ea,eb]=v) (q0:v≠0) (w:World) (R:EnvV w) :
   Calls Tryz.prog 19 #[.agg #[.string ta,.string tb,.string tc],.agg #[.string tx,.string ty,.string tz]] w (Ret w (.tuple #[.string ⟨#[]⟩,.int .i64 v])):=by
 have c1:=ca
 have c2:=cb
 have c3:=fun (w:World) (R:EnvV w)=>orErr2 ea eb v hv w R.toEnvR
 have eq0:(v == 0)=false:=beq_eq_false_iff_ne.2 q0
 have pq0:¬ v=0:=q0
 have C1:=Lib.hid c1
 have C2:=Lib.hid c2
 have C3:=Lib.hid c3
 clear c1 c2 c3 q0 ca cb hv
 have hb:=Below.refl w.heap.size w
 go_enter Tryz.func19,Tryz.ntmps19
 go_upto_region 1 with fail
 refine wp_alloc2 (fun w1 a0 a1 hk=>?_)
 replace hb:=hb.trans (hk.mono hb.size)
 clear hk
 obtain ⟨Aa,Ab,Ac⟩:=ce3 a0
 obtain ⟨Ad,Ae,Af⟩:=ce3 a1
 go_upto_region 1 with fail
 obtain ⟨Ai,Aj,Ak⟩:=cy3 a0
 obtain ⟨Al,Am,An⟩:=cy3 a1
 have Ag:=rrV C1 R hb
 have Ah:=rrV C2 R hb
 refine wp_region_tail_below 4 (by first | assumption | kernel_rfl) (by kernel_rfl) ?_
 simp only [List.take_succ_cons,List.take_zero,List.drop_succ_cons,List.drop_zero]
 repeat (quiet_step (first | (with_reducible exact Ag.out _ _) | (with_reducible exact Ah.out _ _)))
 refine wpQuiet_nil ?_
 intro w1 hw'
 obtain ⟨hk,hb⟩:=zQ hb hw'
 clear Aa Ab Ac Ad Ae Af
 replace a0:=zB hk a0
 replace a1:=zB hk a1
 obtain ⟨Aa,Ab,Ac⟩:=ce3 a0
 obtain ⟨Ad,Ae,Af⟩:=ce3 a1
 clear Ag Ah Ai Aj Ak Al Am An
 clear hk hw'
 go_wp2_with (go_at_call 43;with_reducible refine (zL hb (C3.out _ (R.below hb))).mono ?_;clear hb;rintro e w1 ⟨rfl,hk,hb⟩;clear Aa Ab Ac Ad Ae Af;replace a0:=zB hk a0;replace a1:=zB hk a1;obtain ⟨Aa,Ab,Ac⟩:=ce3 a0;obtain ⟨Ad,Ae,Af⟩:=ce3 a1;clear hk)
 first | go_ret | go_ret2 | go_ret3
 exact ⟨rfl,hb⟩
theorem lLies_err  (ta tb tc tx ty tz:ByteArray) (ea eb v:Int) (ca:CV 15 #[.agg #[.string ta,.string tb,.string tc]] (.int .i64 ea)) (cb:CV 15 #[.agg #[.string tx,.string ty,.string tz]] (.int .i64 eb)) (hv:firstNZ [ea,eb]=v) (q0:v≠0) (w:World) (R:EnvV w) :
   Calls Tryz.prog 21 #[.agg #[.string ta,.string tb,.string tc],.agg #[.string tx,.string ty,.string tz]] w (Ret w (.tuple #[.bool false,.int .i64 v])):=by
 have c1:=ca
 have c2:=cb
 have c3:=fun (w:World) (R:EnvV w)=>orErr2 ea eb v hv w R.toEnvR
 have eq0:(v == 0)=false:=beq_eq_false_iff_ne.2 q0
 have pq0:¬ v=0:=q0
 have C1:=Lib.hid c1
 have C2:=Lib.hid c2
 have C3:=Lib.hid c3
 clear c1 c2 c3 q0 ca cb hv
 have hb:=Below.refl w.heap.size w
 go_enter Tryz.func21,Tryz.ntmps21
 go_upto_region 1 with fail
 refine wp_alloc2 (fun w1 a0 a1 hk=>?_)
 replace hb:=hb.trans (hk.mono hb.size)
 clear hk
 obtain ⟨Aa,Ab,Ac⟩:=ce3 a0
 obtain ⟨Ad,Ae,Af⟩:=ce3 a1
 go_upto_region 1 with fail
 obtain ⟨Ai,Aj,Ak⟩:=cy3 a0
 obtain ⟨Al,Am,An⟩:=cy3 a1
 have Ag:=rrV C1 R hb
 have Ah:=rrV C2 R hb
 refine wp_region_tail_below 4 (by first | assumption | kernel_rfl) (by kernel_rfl) ?_
 simp only [List.take_succ_cons,List.take_zero,List.drop_succ_cons,List.drop_zero]
 repeat (quiet_step (first | (with_reducible exact Ag.out _ _) | (with_reducible exact Ah.out _ _)))
 refine wpQuiet_nil ?_
 intro w1 hw'
 obtain ⟨hk,hb⟩:=zQ hb hw'
 clear Aa Ab Ac Ad Ae Af
 replace a0:=zB hk a0
 replace a1:=zB hk a1
 obtain ⟨Aa,Ab,Ac⟩:=ce3 a0
 obtain ⟨Ad,Ae,Af⟩:=ce3 a1
 clear Ag Ah Ai Aj Ak Al Am An
 clear hk hw'
 go_wp2_with (go_at_call 43;with_reducible refine (zL hb (C3.out _ (R.below hb))).mono ?_;clear hb;rintro e w1 ⟨rfl,hk,hb⟩;clear Aa Ab Ac Ad Ae Af;replace a0:=zB hk a0;replace a1:=zB hk a1;obtain ⟨Aa,Ab,Ac⟩:=ce3 a0;obtain ⟨Ad,Ae,Af⟩:=ce3 a1;clear hk)
 first | go_ret | go_ret2 | go_ret3
 exact ⟨rfl,hb⟩
theorem lPitch_err  (ta tb tc tx ty tz:ByteArray) (ea eb v:Int) (ca:CV 15 #[.agg #[.string ta,.string tb,.string tc]] (.int .i64 ea)) (cb:CV 15 #[.agg #[.string tx,.string ty,.string tz]] (.int .i64 eb)) (hv:firstNZ [ea,eb]=v) (q0:v≠0) (w:World) (R:EnvV w) :
   Calls Tryz.prog 23 #[.agg #[.string ta,.string tb,.string tc],.agg #[.string tx,.string ty,.string tz]] w (Ret w (.tuple #[.string ⟨#[]⟩,.int .i64 v])):=by
 have c1:=ca
 have c2:=cb
 have c3:=fun (w:World) (R:EnvV w)=>orErr2 ea eb v hv w R.toEnvR
 have eq0:(v == 0)=false:=beq_eq_false_iff_ne.2 q0
 have pq0:¬ v=0:=q0
 have C1:=Lib.hid c1
 have C2:=Lib.hid c2
 have C3:=Lib.hid c3
 clear c1 c2 c3 q0 ca cb hv
 have hb:=Below.refl w.heap.size w
 go_enter Tryz.func23,Tryz.ntmps23
 go_upto_region 1 with fail
 refine wp_alloc2 (fun w1 a0 a1 hk=>?_)
 replace hb:=hb.trans (hk.mono hb.size)
 clear hk
 obtain ⟨Aa,Ab,Ac⟩:=ce3 a0
 obtain ⟨Ad,Ae,Af⟩:=ce3 a1
 go_upto_region 1 with fail
 obtain ⟨Ai,Aj,Ak⟩:=cy3 a0
 obtain ⟨Al,Am,An⟩:=cy3 a1
 have Ag:=rrV C1 R hb
 have Ah:=rrV C2 R hb
 refine wp_region_tail_below 4 (by first | assumption | kernel_rfl) (by kernel_rfl) ?_
 simp only [List.take_succ_cons,List.take_zero,List.drop_succ_cons,List.drop_zero]
 repeat (quiet_step (first | (with_reducible exact Ag.out _ _) | (with_reducible exact Ah.out _ _)))
 refine wpQuiet_nil ?_
 intro w1 hw'
 obtain ⟨hk,hb⟩:=zQ hb hw'
 clear Aa Ab Ac Ad Ae Af
 replace a0:=zB hk a0
 replace a1:=zB hk a1
 obtain ⟨Aa,Ab,Ac⟩:=ce3 a0
 obtain ⟨Ad,Ae,Af⟩:=ce3 a1
 clear Ag Ah Ai Aj Ak Al Am An
 clear hk hw'
 go_wp2_with (go_at_call 43;with_reducible refine (zL hb (C3.out _ (R.below hb))).mono ?_;clear hb;rintro e w1 ⟨rfl,hk,hb⟩;clear Aa Ab Ac Ad Ae Af;replace a0:=zB hk a0;replace a1:=zB hk a1;obtain ⟨Aa,Ab,Ac⟩:=ce3 a0;obtain ⟨Ad,Ae,Af⟩:=ce3 a1;clear hk)
 first | go_ret | go_ret2 | go_ret3
 exact ⟨rfl,hb⟩
theorem lInterlimb_err  (ta tb tc tx ty tz:ByteArray) (ea eb v:Int) (ca:CV 15 #[.agg #[.string ta,.string tb,.string tc]] (.int .i64 ea)) (cb:CV 15 #[.agg #[.string tx,.string ty,.string tz]] (.int .i64 eb)) (hv:firstNZ [ea,eb]=v) (q0:v≠0) (w:World) (R:EnvV w) :
   Calls Tryz.prog 24 #[.agg #[.string ta,.string tb,.string tc],.agg #[.string tx,.string ty,.string tz]] w (Ret w (.tuple #[.int .i64 0,.int .i64 v])):=by
 have c1:=ca
 have c2:=cb
 have c3:=fun (w:World) (R:EnvV w)=>orErr2 ea eb v hv w R.toEnvR
 have eq0:(v == 0)=false:=beq_eq_false_iff_ne.2 q0
 have pq0:¬ v=0:=q0
 have C1:=Lib.hid c1
 have C2:=Lib.hid c2
 have C3:=Lib.hid c3
 clear c1 c2 c3 q0 ca cb hv
 have hb:=Below.refl w.heap.size w
 go_enter Tryz.func24,Tryz.ntmps24
 go_upto_region 1 with fail
 refine wp_alloc2 (fun w1 a0 a1 hk=>?_)
 replace hb:=hb.trans (hk.mono hb.size)
 clear hk
 obtain ⟨Aa,Ab,Ac⟩:=ce3 a0
 obtain ⟨Ad,Ae,Af⟩:=ce3 a1
 go_upto_region 1 with fail
 obtain ⟨Ai,Aj,Ak⟩:=cy3 a0
 obtain ⟨Al,Am,An⟩:=cy3 a1
 have Ag:=rrV C1 R hb
 have Ah:=rrV C2 R hb
 refine wp_region_tail_below 4 (by first | assumption | kernel_rfl) (by kernel_rfl) ?_
 simp only [List.take_succ_cons,List.take_zero,List.drop_succ_cons,List.drop_zero]
 repeat (quiet_step (first | (with_reducible exact Ag.out _ _) | (with_reducible exact Ah.out _ _)))
 refine wpQuiet_nil ?_
 intro w1 hw'
 obtain ⟨hk,hb⟩:=zQ hb hw'
 clear Aa Ab Ac Ad Ae Af
 replace a0:=zB hk a0
 replace a1:=zB hk a1
 obtain ⟨Aa,Ab,Ac⟩:=ce3 a0
 obtain ⟨Ad,Ae,Af⟩:=ce3 a1
 clear Ag Ah Ai Aj Ak Al Am An
 clear hk hw'
 go_wp2_with (go_at_call 43;with_reducible refine (zL hb (C3.out _ (R.below hb))).mono ?_;clear hb;rintro e w1 ⟨rfl,hk,hb⟩;clear Aa Ab Ac Ad Ae Af;replace a0:=zB hk a0;replace a1:=zB hk a1;obtain ⟨Aa,Ab,Ac⟩:=ce3 a0;obtain ⟨Ad,Ae,Af⟩:=ce3 a1;clear hk)
 first | go_ret | go_ret2 | go_ret3
 exact ⟨rfl,hb⟩
theorem lCmpAngles_err  (ta tb tc tx ty tz:ByteArray) (ea eb v:Int) (ca:CV 15 #[.agg #[.string ta,.string tb,.string tc]] (.int .i64 ea)) (cb:CV 15 #[.agg #[.string tx,.string ty,.string tz]] (.int .i64 eb)) (hv:firstNZ [ea,eb,ea,ea]=v) (q0:v≠0) (w:World) (R:EnvV w) :
   Calls Tryz.prog 20 #[.agg #[.string ta,.string tb,.string tc,.string tx,.string ty,.string tz],.agg #[.string ta,.string tb,.string tc,.string ta,.string tb,.string tc]] w (Ret w (.tuple #[.int .i64 0,.int .i64 v])):=by
 have c1:=ca
 have c2:=cb
 have c5:=fun (w:World) (R:EnvV w)=>orErr4 ea eb ea ea v hv w R.toEnvR
 have eq0:(v == 0)=false:=beq_eq_false_iff_ne.2 q0
 have pq0:¬ v=0:=q0
 have C1:=Lib.hid c1
 have C2:=Lib.hid c2
 have C5:=Lib.hid c5
 clear c1 c2 c5 q0 ca cb hv
 have hb:=Below.refl w.heap.size w
 go_enter Tryz.func20,Tryz.ntmps20
 go_upto_region 1 with fail
 refine wp_alloc2 (fun w1 a0 a1 hk=>?_)
 replace hb:=hb.trans (hk.mono hb.size)
 clear hk
 obtain ⟨Aa,Ab,Ac,Ad,Ae,Af⟩:=ce6 a0
 obtain ⟨Ag,Ah,Ai,Aj,Ak,Al⟩:=ce6 a1
 go_upto_region 1 with fail
 obtain ⟨Aq,Ar,As,At,Au,Av⟩:=cy6 a0
 obtain ⟨Aw,Ax,Ay,Az,A0,A1⟩:=cy6 a1
 have Am:=rrV C1 R hb
 have An:=rrV C2 R hb
 have Ao:=rrV C1 R hb
 have Ap:=rrV C1 R hb
 refine wp_region_tail_below 12 (by first | assumption | kernel_rfl) (by kernel_rfl) ?_
 simp only [List.take_succ_cons,List.take_zero,List.drop_succ_cons,List.drop_zero]
 repeat (quiet_step (first | (with_reducible exact Am.out _ _) | (with_reducible exact An.out _ _) | (with_reducible exact Ao.out _ _) | (with_reducible exact Ap.out _ _)))
 refine wpQuiet_nil ?_
 intro w1 hw'
 obtain ⟨hk,hb⟩:=zQ hb hw'
 clear Aa Ab Ac Ad Ae Af Ag Ah Ai Aj Ak Al
 replace a0:=zB hk a0
 replace a1:=zB hk a1
 obtain ⟨Aa,Ab,Ac,Ad,Ae,Af⟩:=ce6 a0
 obtain ⟨Ag,Ah,Ai,Aj,Ak,Al⟩:=ce6 a1
 clear Am An Ao Ap Aq Ar As At Au Av Aw Ax Ay Az A0 A1
 clear hk hw'
 go_wp2_with (go_at_call 43;with_reducible refine (zL hb (C5.out _ (R.below hb))).mono ?_;clear hb;rintro e w1 ⟨rfl,hk,hb⟩;clear Aa Ab Ac Ad Ae Af Ag Ah Ai Aj Ak Al;replace a0:=zB hk a0;replace a1:=zB hk a1;obtain ⟨Aa,Ab,Ac,Ad,Ae,Af⟩:=ce6 a0;obtain ⟨Ag,Ah,Ai,Aj,Ak,Al⟩:=ce6 a1;clear hk)
 first | go_ret | go_ret2 | go_ret3
 exact ⟨rfl,hb⟩
theorem lIntersect_err  (ta tb tc tx ty tz:ByteArray) (v:Int) (cs:CV 16 #[.agg #[.string ta,.string tb,.string tc],.agg #[.string tx,.string ty,.string tz]] (.tuple #[.bool false,.int .i64 v])) (q0:v≠0) (w:World) (R:EnvV w) :
   Calls Tryz.prog 22 #[.agg #[.string ta,.string tb,.string tc],.agg #[.string tx,.string ty,.string tz]] w (Ret w (.tuple #[.agg #[.string ⟨#[]⟩,.string ⟨#[]⟩,.string ⟨#[]⟩],.int .i64 v])):=by
 have c1:=cs
 have eq0:(v == 0)=false:=beq_eq_false_iff_ne.2 q0
 have pq0:¬ v=0:=q0
 have C1:=Lib.hid c1
 clear c1 q0 cs
 have hb:=Below.refl w.heap.size w
 go_enter Tryz.func22,Tryz.ntmps22
 go_upto_region 1 with fail
 refine wp_alloc3 (fun w1 a0 a1 a2 hk=>?_)
 replace hb:=hb.trans (hk.mono hb.size)
 clear hk
 obtain ⟨Ad,Ae,Af⟩:=ce3 a0
 obtain ⟨Ag,Ah,Ai⟩:=ce3 a1
 obtain ⟨Aa,Aj,Ab,Ak,Ac,Al⟩:=cf3 a2
 go_wp2_with (go_at_call 16;with_reducible refine (chVB hb R C1).mono ?_;clear hb;rintro e w1 ⟨rfl,hk,hb⟩;clear Ad Ae Af Ag Ah Ai Aa Ab Ac Aj Ak Al;replace a0:=zB hk a0;replace a1:=zB hk a1;replace a2:=zB hk a2;obtain ⟨Ad,Ae,Af⟩:=ce3 a0;obtain ⟨Ag,Ah,Ai⟩:=ce3 a1;obtain ⟨Aa,Aj,Ab,Ak,Ac,Al⟩:=cf3 a2;clear hk)
 refine bodyPost_ret (v:=.tuple #[.agg #[.string ⟨#[]⟩,.string ⟨#[]⟩,.string ⟨#[]⟩],.int .i64 v]) (by simp [results,Tryz.results22,go_sem,Aa,Ab,Ac]) rfl ⟨rfl,?_⟩
 repeat' (first | exact hb | refine Below.setCell ?_ (by first | exact Nat.le_refl _ | (dsimp only;omega)) _)
end Go.Proofs.YtpiiclmkbplkhaaGreatDoor.Kl
