import Derived.Test.YtejfiegmdllfbaaGreatDoorKlAPlanesAtB
import Derived.Test.YtejfiegmdllfbaaGreatDoorKlBAtK
namespace Go.Proofs.YtejfiegmdllfbaaGreatDoor.Kl
open Go Go.RowKit
set_option maxRecDepth 100000
set_option maxHeartbeats 8000000
theorem planes_long  (s0 s1 s2:ByteArray) (hl:¬ (s0.size≤24∧s1.size≤24∧s2.size≤24)) (ms0:s0.size≤9223372036854775807) (ms1:s1.size≤9223372036854775807) (ms2:s2.size≤9223372036854775807) (w:World) (R:EnvV w) :
   Calls Tryz.prog 3 #[.agg #[.string s0,.string s1,.string s2]] w (Ret w (.bool true)):=by
 have c1:=known15_any
 have c2:=short3 s0 s1 s2 false ⟨(fun h=>by cases h),fun k=>absurd k hl⟩ ms0 ms1 ms2
 have C1:=Lib.hid c1
 have C2:=Lib.hid c2
 clear c1 c2 hl ms0 ms1 ms2
 have hb:=Below.refl w.heap.size w
 go_enter Tryz.func3,Tryz.ntmps3
 go_upto_region 1 with fail
 refine wp_alloc1 (fun w1 a0 hk=>?_)
 replace hb:=hb.trans (hk.mono hb.size)
 clear hk
 obtain ⟨Aa,Ab,Ac⟩:=ce3 a0
 go_wp2_with ((first | (go_at_call 11;first | with_reducible refine (chVB hb R C1).mono ?_ | with_reducible refine (chVB hb R C1).mono ?_) | (go_at_call 12;with_reducible refine (zL hb (C2.out _ (R.below hb))).mono ?_));clear hb;rintro e w1 ⟨rfl,hk,hb⟩;clear Aa Ab Ac;replace a0:=zB hk a0;obtain ⟨Aa,Ab,Ac⟩:=ce3 a0;clear hk)
 first | go_ret | go_ret2 | go_ret3
 exact ⟨rfl,hb⟩
theorem planes_err  (s0 s1 s2:ByteArray) (v:Int) (hs:s0.size≤24∧s1.size≤24∧s2.size≤24) (hv:NErr s0 s1 s2 v) (ms0:s0.size≤9223372036854775807) (ms1:s1.size≤9223372036854775807) (ms2:s2.size≤9223372036854775807) (zs0:s0.size≤100000) (zs1:s1.size≤100000) (zs2:s2.size≤100000) (w:World) (R:EnvV w) :
   Calls Tryz.prog 3 #[.agg #[.string s0,.string s1,.string s2]] w (Ret w (.bool true)):=by
 have c1:=known15_any
 have c2:∀ w,EnvV w→Calls Tryz.prog 12 #[.slice (some ⟨w.heap.size,0,none⟩) 3 3] (w.alloc (Obj.cells #[Value.string s0,Value.string s1,Value.string s2] 22)) (Ret w (.bool true)):=fun w R=>short3 s0 s1 s2 true ⟨fun _=>hs,fun _=>rfl⟩ ms0 ms1 ms2 w R
 have c3:=fun (w:World) (R:EnvV w)=>over_err s0 s1 s2 v (fun w R=>acheck_err s0 s1 s2 v hv zs0 zs1 zs2 w R) hv.ne w R
 have c4:=fun (w:World) (R:EnvV w)=>horiz_err s0 s1 s2 v (fun w R=>acheck_err s0 s1 s2 v hv zs0 zs1 zs2 w R) hv.ne w R
 have c5:=fun (w:World) (R:EnvV w)=>vert_err s0 s1 s2 v (fun w R=>acheck_err s0 s1 s2 v hv zs0 zs1 zs2 w R) hv.ne w R
 have c6:=normal_err s0 s1 s2 v hv zs0 zs1 zs2
 have eq0:(v == 0)=false:=beq_eq_false_iff_ne.2 hv.ne
 have pq0:¬ v=0:=hv.ne
 have C1:=Lib.hid c1
 have C2:=Lib.hid c2
 have C3:=Lib.hid c3
 have C4:=Lib.hid c4
 have C5:=Lib.hid c5
 have C6:=Lib.hid c6
 clear c1 c2 c3 c4 c5 c6 hs hv ms0 ms1 ms2 zs0 zs1 zs2
 have hb:=Below.refl w.heap.size w
 go_enter Tryz.func3,Tryz.ntmps3
 go_upto_region 1 with fail
 refine wp_alloc1 (fun w1 a0 hk=>?_)
 replace hb:=hb.trans (hk.mono hb.size)
 clear hk
 obtain ⟨Aa,Ab,Ac⟩:=ce3 a0
 go_wp2_with ((first | (go_at_call 11;with_reducible refine (chVB hb R C1).mono ?_) | (go_at_call 12;with_reducible refine (zL hb (C2.out _ (R.below hb))).mono ?_) | (go_at_call 13;with_reducible refine (chVB hb R C3).mono ?_) | (go_at_call 14;with_reducible refine (chVB hb R C4).mono ?_) | (go_at_call 15;with_reducible refine (chVB hb R C5).mono ?_) | (go_at_call 16;with_reducible refine (chVB hb R C6).mono ?_));clear hb;rintro e w1 ⟨rfl,hk,hb⟩;clear Aa Ab Ac;replace a0:=zB hk a0;obtain ⟨Aa,Ab,Ac⟩:=ce3 a0;clear hk)
 first | go_ret | go_ret2 | go_ret3
 exact ⟨rfl,hb⟩
theorem planes_010 (a b c:Rat) (h:a≠0∨b≠0∨c≠0) (na:RN a 24 24) (nb:RN b 24 24) (nc:RN c 24 24) (hs:(ratB a).size≤24∧(ratB b).size≤24∧(ratB c).size≤24) (q0:¬ c.num.sign < 0) (q1:c=0) (q2:a≠0) (w:World) (R:EnvV w) :
   Calls Tryz.prog 3 #[.agg #[.string (ratB a),.string (ratB b),.string (ratB c)]] w (Ret w (.bool true)):=by
 have Aa:=nc.rl (K:=100000)
 have c1:=known15_any
 have c2:∀ w,EnvV w→Calls Tryz.prog 12 #[.slice (some ⟨w.heap.size,0,none⟩) 3 3] (w.alloc (Obj.cells #[Value.string (ratB a),Value.string (ratB b),Value.string (ratB c)] 22)) (Ret w (.bool true)):=fun w R=>short3 (ratB a) (ratB b) (ratB c) true ⟨fun _=>hs,fun _=>rfl⟩ (Nat.le_trans hs.1 (by decide)) (Nat.le_trans hs.2.1 (by decide)) (Nat.le_trans hs.2.2 (by decide)) w R
 have c3:=over_f a b c h (na.rl) (nb.rl) (nc.rl) q0
 have c4:=horiz_f a b c h (na.rl) (nb.rl) (nc.rl) (Or.inl q2)
 have c5:=vert_t a b c h (na.rl) (nb.rl) (nc.rl) q1
 have c6:=normal_ok a b c (na.rl) (nb.rl) (nc.rl) h
 have c7:=fun (w:World) (R:EnvV w)=>rsign_any c Aa w R.toEnvR
 have gd:decide (c.num.sign < 0)=false:=decide_eq_false q0
 have gs:¬ c.num.sign < 0:=q0
 have eq1:((ratB c).toList == [48])=true:=by rw [ratB_eq_zero];exact decide_eq_true q1
 have pq1:(ratB c).toList=[48]:=(zero_iff _).2 q1
 have eq2:((ratB a).toList == [48])=false:=by rw [ratB_eq_zero];exact decide_eq_false q2
 have pq2:¬ (ratB a).toList=[48]:=fun h=>q2 ((zero_iff _).1 h)
 obtain ⟨Ah,Ab⟩:∃ vq,ratB a=vq:=⟨_,rfl⟩
 obtain ⟨Ai,Ac⟩:∃ vq,ratB b=vq:=⟨_,rfl⟩
 obtain ⟨Aj,Ad⟩:∃ vq,ratB c=vq:=⟨_,rfl⟩
 try simp only [Ab,Ac,Ad] at c1 c2 c3 c4 c5 c6 c7 gd gs eq1 pq1 eq2 pq2 ⊢
 obtain ⟨sg,esg⟩:∃ vq,c.num.sign=vq:=⟨_,rfl⟩
 try simp only [esg] at c1 c2 c3 c4 c5 c6 c7 gd gs eq1 pq1 eq2 pq2 ⊢
 have C1:=Lib.hid c1
 have C2:=Lib.hid c2
 have C3:=Lib.hid c3
 have C4:=Lib.hid c4
 have C5:=Lib.hid c5
 have C6:=Lib.hid c6
 have C7:=Lib.hid c7
 clear c1 c2 c3 c4 c5 c6 c7 Ab Ac Ad esg Aa q0 q1 q2 h na nb nc hs
 have hb:=Below.refl w.heap.size w
 go_enter Tryz.func3,Tryz.ntmps3
 go_upto_region 1 with fail
 refine wp_alloc1 (fun w1 a0 hk=>?_)
 replace hb:=hb.trans (hk.mono hb.size)
 clear hk
 obtain ⟨Ae,Af,Ag⟩:=ce3 a0
 go_wp2_with ((first | (go_at_call 11;with_reducible refine (chVB hb R C1).mono ?_) | (go_at_call 12;with_reducible refine (zL hb (C2.out _ (R.below hb))).mono ?_) | (go_at_call 13;with_reducible refine (chVB hb R C3).mono ?_) | (go_at_call 14;with_reducible refine (chVB hb R C4).mono ?_) | (go_at_call 15;with_reducible refine (chVB hb R C5).mono ?_) | (go_at_call 16;with_reducible refine (chVB hb R C6).mono ?_) | (go_at_call 17;with_reducible refine (chVB hb R C7).mono ?_));clear hb;rintro e w1 ⟨rfl,hk,hb⟩;clear Ae Af Ag;replace a0:=zB hk a0;obtain ⟨Ae,Af,Ag⟩:=ce3 a0;clear hk)
 first | go_ret | go_ret2 | go_ret3
 exact ⟨rfl,hb⟩
theorem planes_001 (a b c:Rat) (h:a≠0∨b≠0∨c≠0) (na:RN a 24 24) (nb:RN b 24 24) (nc:RN c 24 24) (hs:(ratB a).size≤24∧(ratB b).size≤24∧(ratB c).size≤24) (q0:c.num.sign < 0) (q1:c≠0) (q2:a≠0) (w:World) (R:EnvV w) :
   Calls Tryz.prog 3 #[.agg #[.string (ratB a),.string (ratB b),.string (ratB c)]] w (Ret w (.bool true)):=by
 have Aa:=nc.rl (K:=100000)
 have c1:=known15_any
 have c2:∀ w,EnvV w→Calls Tryz.prog 12 #[.slice (some ⟨w.heap.size,0,none⟩) 3 3] (w.alloc (Obj.cells #[Value.string (ratB a),Value.string (ratB b),Value.string (ratB c)] 22)) (Ret w (.bool true)):=fun w R=>short3 (ratB a) (ratB b) (ratB c) true ⟨fun _=>hs,fun _=>rfl⟩ (Nat.le_trans hs.1 (by decide)) (Nat.le_trans hs.2.1 (by decide)) (Nat.le_trans hs.2.2 (by decide)) w R
 have c3:=over_t a b c h (na.rl) (nb.rl) (nc.rl) q0
 have c4:=horiz_f a b c h (na.rl) (nb.rl) (nc.rl) (Or.inl q2)
 have c5:=vert_f a b c h (na.rl) (nb.rl) (nc.rl) q1
 have c6:=normal_ok a b c (na.rl) (nb.rl) (nc.rl) h
 have c7:=fun (w:World) (R:EnvV w)=>rsign_any c Aa w R.toEnvR
 have gd:decide (c.num.sign < 0)=true:=decide_eq_true q0
 have gs:c.num.sign < 0:=q0
 have eq1:((ratB c).toList == [48])=false:=by rw [ratB_eq_zero];exact decide_eq_false q1
 have pq1:¬ (ratB c).toList=[48]:=fun h=>q1 ((zero_iff _).1 h)
 have eq2:((ratB a).toList == [48])=false:=by rw [ratB_eq_zero];exact decide_eq_false q2
 have pq2:¬ (ratB a).toList=[48]:=fun h=>q2 ((zero_iff _).1 h)
 obtain ⟨Ah,Ab⟩:∃ vq,ratB a=vq:=⟨_,rfl⟩
 obtain ⟨Ai,Ac⟩:∃ vq,ratB b=vq:=⟨_,rfl⟩
 obtain ⟨Aj,Ad⟩:∃ vq,ratB c=vq:=⟨_,rfl⟩
 try simp only [Ab,Ac,Ad] at c1 c2 c3 c4 c5 c6 c7 gd gs eq1 pq1 eq2 pq2 ⊢
 obtain ⟨sg,esg⟩:∃ vq,c.num.sign=vq:=⟨_,rfl⟩
 try simp only [esg] at c1 c2 c3 c4 c5 c6 c7 gd gs eq1 pq1 eq2 pq2 ⊢
 have C1:=Lib.hid c1
 have C2:=Lib.hid c2
 have C3:=Lib.hid c3
 have C4:=Lib.hid c4
 have C5:=Lib.hid c5
 have C6:=Lib.hid c6
 have C7:=Lib.hid c7
 clear c1 c2 c3 c4 c5 c6 c7 Ab Ac Ad esg Aa q0 q1 q2 h na nb nc hs
 have hb:=Below.refl w.heap.size w
 go_enter Tryz.func3,Tryz.ntmps3
 go_upto_region 1 with fail
 refine wp_alloc1 (fun w1 a0 hk=>?_)
 replace hb:=hb.trans (hk.mono hb.size)
 clear hk
 obtain ⟨Ae,Af,Ag⟩:=ce3 a0
 go_wp2_with ((first | (go_at_call 11;with_reducible refine (chVB hb R C1).mono ?_) | (go_at_call 12;with_reducible refine (zL hb (C2.out _ (R.below hb))).mono ?_) | (go_at_call 13;with_reducible refine (chVB hb R C3).mono ?_) | (go_at_call 14;with_reducible refine (chVB hb R C4).mono ?_) | (go_at_call 15;with_reducible refine (chVB hb R C5).mono ?_) | (go_at_call 16;with_reducible refine (chVB hb R C6).mono ?_) | (go_at_call 17;with_reducible refine (chVB hb R C7).mono ?_));clear hb;rintro e w1 ⟨rfl,hk,hb⟩;clear Ae Af Ag;replace a0:=zB hk a0;obtain ⟨Ae,Af,Ag⟩:=ce3 a0;clear hk)
 first | go_ret | go_ret2 | go_ret3
 exact ⟨rfl,hb⟩
theorem planes_000 (a b c:Rat) (h:a≠0∨b≠0∨c≠0) (na:RN a 24 24) (nb:RN b 24 24) (nc:RN c 24 24) (hs:(ratB a).size≤24∧(ratB b).size≤24∧(ratB c).size≤24) (q0:¬ c.num.sign < 0) (q1:c≠0) (q2:a≠0) (w:World) (R:EnvV w) :
   Calls Tryz.prog 3 #[.agg #[.string (ratB a),.string (ratB b),.string (ratB c)]] w (Ret w (.bool true)):=by
 have Aa:=nc.rl (K:=100000)
 have c1:=known15_any
 have c2:∀ w,EnvV w→Calls Tryz.prog 12 #[.slice (some ⟨w.heap.size,0,none⟩) 3 3] (w.alloc (Obj.cells #[Value.string (ratB a),Value.string (ratB b),Value.string (ratB c)] 22)) (Ret w (.bool true)):=fun w R=>short3 (ratB a) (ratB b) (ratB c) true ⟨fun _=>hs,fun _=>rfl⟩ (Nat.le_trans hs.1 (by decide)) (Nat.le_trans hs.2.1 (by decide)) (Nat.le_trans hs.2.2 (by decide)) w R
 have c3:=over_f a b c h (na.rl) (nb.rl) (nc.rl) q0
 have c4:=horiz_f a b c h (na.rl) (nb.rl) (nc.rl) (Or.inl q2)
 have c5:=vert_f a b c h (na.rl) (nb.rl) (nc.rl) q1
 have c6:=normal_ok a b c (na.rl) (nb.rl) (nc.rl) h
 have c7:=fun (w:World) (R:EnvV w)=>rsign_any c Aa w R.toEnvR
 have gd:decide (c.num.sign < 0)=false:=decide_eq_false q0
 have gs:¬ c.num.sign < 0:=q0
 have eq1:((ratB c).toList == [48])=false:=by rw [ratB_eq_zero];exact decide_eq_false q1
 have pq1:¬ (ratB c).toList=[48]:=fun h=>q1 ((zero_iff _).1 h)
 have eq2:((ratB a).toList == [48])=false:=by rw [ratB_eq_zero];exact decide_eq_false q2
 have pq2:¬ (ratB a).toList=[48]:=fun h=>q2 ((zero_iff _).1 h)
 obtain ⟨Ah,Ab⟩:∃ vq,ratB a=vq:=⟨_,rfl⟩
 obtain ⟨Ai,Ac⟩:∃ vq,ratB b=vq:=⟨_,rfl⟩
 obtain ⟨Aj,Ad⟩:∃ vq,ratB c=vq:=⟨_,rfl⟩
 try simp only [Ab,Ac,Ad] at c1 c2 c3 c4 c5 c6 c7 gd gs eq1 pq1 eq2 pq2 ⊢
 obtain ⟨sg,esg⟩:∃ vq,c.num.sign=vq:=⟨_,rfl⟩
 try simp only [esg] at c1 c2 c3 c4 c5 c6 c7 gd gs eq1 pq1 eq2 pq2 ⊢
 have C1:=Lib.hid c1
 have C2:=Lib.hid c2
 have C3:=Lib.hid c3
 have C4:=Lib.hid c4
 have C5:=Lib.hid c5
 have C6:=Lib.hid c6
 have C7:=Lib.hid c7
 clear c1 c2 c3 c4 c5 c6 c7 Ab Ac Ad esg Aa q0 q1 q2 h na nb nc hs
 have hb:=Below.refl w.heap.size w
 go_enter Tryz.func3,Tryz.ntmps3
 go_upto_region 1 with fail
 refine wp_alloc1 (fun w1 a0 hk=>?_)
 replace hb:=hb.trans (hk.mono hb.size)
 clear hk
 obtain ⟨Ae,Af,Ag⟩:=ce3 a0
 go_wp2_with ((first | (go_at_call 11;with_reducible refine (chVB hb R C1).mono ?_) | (go_at_call 12;with_reducible refine (zL hb (C2.out _ (R.below hb))).mono ?_) | (go_at_call 13;with_reducible refine (chVB hb R C3).mono ?_) | (go_at_call 14;with_reducible refine (chVB hb R C4).mono ?_) | (go_at_call 15;with_reducible refine (chVB hb R C5).mono ?_) | (go_at_call 16;with_reducible refine (chVB hb R C6).mono ?_) | (go_at_call 17;with_reducible refine (chVB hb R C7).mono ?_));clear hb;rintro e w1 ⟨rfl,hk,hb⟩;clear Ae Af Ag;replace a0:=zB hk a0;obtain ⟨Ae,Af,Ag⟩:=ce3 a0;clear hk)
 first | go_ret | go_ret2 | go_ret3
 exact ⟨rfl,hb⟩
theorem planes_110 (a b c:Rat) (h:a≠0∨b≠0∨c≠0) (na:RN a 24 24) (nb:RN b 24 24) (nc:RN c 24 24) (hs:(ratB a).size≤24∧(ratB b).size≤24∧(ratB c).size≤24) (q0:¬ c.num.sign < 0) (q1:c=0) (q2:a=0) (q3:b≠0) (w:World) (R:EnvV w) :
   Calls Tryz.prog 3 #[.agg #[.string (ratB a),.string (ratB b),.string (ratB c)]] w (Ret w (.bool true)):=by
 have Aa:=nc.rl (K:=100000)
 have c1:=known15_any
 have c2:∀ w,EnvV w→Calls Tryz.prog 12 #[.slice (some ⟨w.heap.size,0,none⟩) 3 3] (w.alloc (Obj.cells #[Value.string (ratB a),Value.string (ratB b),Value.string (ratB c)] 22)) (Ret w (.bool true)):=fun w R=>short3 (ratB a) (ratB b) (ratB c) true ⟨fun _=>hs,fun _=>rfl⟩ (Nat.le_trans hs.1 (by decide)) (Nat.le_trans hs.2.1 (by decide)) (Nat.le_trans hs.2.2 (by decide)) w R
 have c3:=over_f a b c h (na.rl) (nb.rl) (nc.rl) q0
 have c4:=horiz_f a b c h (na.rl) (nb.rl) (nc.rl) (Or.inr q3)
 have c5:=vert_t a b c h (na.rl) (nb.rl) (nc.rl) q1
 have c6:=normal_ok a b c (na.rl) (nb.rl) (nc.rl) h
 have c7:=fun (w:World) (R:EnvV w)=>rsign_any c Aa w R.toEnvR
 have gd:decide (c.num.sign < 0)=false:=decide_eq_false q0
 have gs:¬ c.num.sign < 0:=q0
 have eq1:((ratB c).toList == [48])=true:=by rw [ratB_eq_zero];exact decide_eq_true q1
 have pq1:(ratB c).toList=[48]:=(zero_iff _).2 q1
 have eq2:((ratB a).toList == [48])=true:=by rw [ratB_eq_zero];exact decide_eq_true q2
 have pq2:(ratB a).toList=[48]:=(zero_iff _).2 q2
 have eq3:((ratB b).toList == [48])=false:=by rw [ratB_eq_zero];exact decide_eq_false q3
 have pq3:¬ (ratB b).toList=[48]:=fun h=>q3 ((zero_iff _).1 h)
 obtain ⟨Ah,Ab⟩:∃ vq,ratB a=vq:=⟨_,rfl⟩
 obtain ⟨Ai,Ac⟩:∃ vq,ratB b=vq:=⟨_,rfl⟩
 obtain ⟨Aj,Ad⟩:∃ vq,ratB c=vq:=⟨_,rfl⟩
 try simp only [Ab,Ac,Ad] at c1 c2 c3 c4 c5 c6 c7 gd gs eq1 pq1 eq2 pq2 eq3 pq3 ⊢
 obtain ⟨sg,esg⟩:∃ vq,c.num.sign=vq:=⟨_,rfl⟩
 try simp only [esg] at c1 c2 c3 c4 c5 c6 c7 gd gs eq1 pq1 eq2 pq2 eq3 pq3 ⊢
 have C1:=Lib.hid c1
 have C2:=Lib.hid c2
 have C3:=Lib.hid c3
 have C4:=Lib.hid c4
 have C5:=Lib.hid c5
 have C6:=Lib.hid c6
 have C7:=Lib.hid c7
 clear c1 c2 c3 c4 c5 c6 c7 Ab Ac Ad esg Aa q0 q1 q2 q3 h na nb nc hs
 have hb:=Below.refl w.heap.size w
 go_enter Tryz.func3,Tryz.ntmps3
 go_upto_region 1 with fail
 refine wp_alloc1 (fun w1 a0 hk=>?_)
 replace hb:=hb.trans (hk.mono hb.size)
 clear hk
 obtain ⟨Ae,Af,Ag⟩:=ce3 a0
 go_wp2_with ((first | (go_at_call 11;with_reducible refine (chVB hb R C1).mono ?_) | (go_at_call 12;with_reducible refine (zL hb (C2.out _ (R.below hb))).mono ?_) | (go_at_call 13;with_reducible refine (chVB hb R C3).mono ?_) | (go_at_call 14;with_reducible refine (chVB hb R C4).mono ?_) | (go_at_call 15;with_reducible refine (chVB hb R C5).mono ?_) | (go_at_call 16;with_reducible refine (chVB hb R C6).mono ?_) | (go_at_call 17;with_reducible refine (chVB hb R C7).mono ?_));clear hb;rintro e w1 ⟨rfl,hk,hb⟩;clear Ae Af Ag;replace a0:=zB hk a0;obtain ⟨Ae,Af,Ag⟩:=ce3 a0;clear hk)
 first | go_ret | go_ret2 | go_ret3
 exact ⟨rfl,hb⟩
theorem planes_101 (a b c:Rat) (h:a≠0∨b≠0∨c≠0) (na:RN a 24 24) (nb:RN b 24 24) (nc:RN c 24 24) (hs:(ratB a).size≤24∧(ratB b).size≤24∧(ratB c).size≤24) (q0:c.num.sign < 0) (q1:c≠0) (q2:a=0) (q3:b≠0) (w:World) (R:EnvV w) :
   Calls Tryz.prog 3 #[.agg #[.string (ratB a),.string (ratB b),.string (ratB c)]] w (Ret w (.bool true)):=by
 have Aa:=nc.rl (K:=100000)
 have c1:=known15_any
 have c2:∀ w,EnvV w→Calls Tryz.prog 12 #[.slice (some ⟨w.heap.size,0,none⟩) 3 3] (w.alloc (Obj.cells #[Value.string (ratB a),Value.string (ratB b),Value.string (ratB c)] 22)) (Ret w (.bool true)):=fun w R=>short3 (ratB a) (ratB b) (ratB c) true ⟨fun _=>hs,fun _=>rfl⟩ (Nat.le_trans hs.1 (by decide)) (Nat.le_trans hs.2.1 (by decide)) (Nat.le_trans hs.2.2 (by decide)) w R
 have c3:=over_t a b c h (na.rl) (nb.rl) (nc.rl) q0
 have c4:=horiz_f a b c h (na.rl) (nb.rl) (nc.rl) (Or.inr q3)
 have c5:=vert_f a b c h (na.rl) (nb.rl) (nc.rl) q1
 have c6:=normal_ok a b c (na.rl) (nb.rl) (nc.rl) h
 have c7:=fun (w:World) (R:EnvV w)=>rsign_any c Aa w R.toEnvR
 have gd:decide (c.num.sign < 0)=true:=decide_eq_true q0
 have gs:c.num.sign < 0:=q0
 have eq1:((ratB c).toList == [48])=false:=by rw [ratB_eq_zero];exact decide_eq_false q1
 have pq1:¬ (ratB c).toList=[48]:=fun h=>q1 ((zero_iff _).1 h)
 have eq2:((ratB a).toList == [48])=true:=by rw [ratB_eq_zero];exact decide_eq_true q2
 have pq2:(ratB a).toList=[48]:=(zero_iff _).2 q2
 have eq3:((ratB b).toList == [48])=false:=by rw [ratB_eq_zero];exact decide_eq_false q3
 have pq3:¬ (ratB b).toList=[48]:=fun h=>q3 ((zero_iff _).1 h)
 obtain ⟨Ah,Ab⟩:∃ vq,ratB a=vq:=⟨_,rfl⟩
 obtain ⟨Ai,Ac⟩:∃ vq,ratB b=vq:=⟨_,rfl⟩
 obtain ⟨Aj,Ad⟩:∃ vq,ratB c=vq:=⟨_,rfl⟩
 try simp only [Ab,Ac,Ad] at c1 c2 c3 c4 c5 c6 c7 gd gs eq1 pq1 eq2 pq2 eq3 pq3 ⊢
 obtain ⟨sg,esg⟩:∃ vq,c.num.sign=vq:=⟨_,rfl⟩
 try simp only [esg] at c1 c2 c3 c4 c5 c6 c7 gd gs eq1 pq1 eq2 pq2 eq3 pq3 ⊢
 have C1:=Lib.hid c1
 have C2:=Lib.hid c2
 have C3:=Lib.hid c3
 have C4:=Lib.hid c4
 have C5:=Lib.hid c5
 have C6:=Lib.hid c6
 have C7:=Lib.hid c7
 clear c1 c2 c3 c4 c5 c6 c7 Ab Ac Ad esg Aa q0 q1 q2 q3 h na nb nc hs
 have hb:=Below.refl w.heap.size w
 go_enter Tryz.func3,Tryz.ntmps3
 go_upto_region 1 with fail
 refine wp_alloc1 (fun w1 a0 hk=>?_)
 replace hb:=hb.trans (hk.mono hb.size)
 clear hk
 obtain ⟨Ae,Af,Ag⟩:=ce3 a0
 go_wp2_with ((first | (go_at_call 11;with_reducible refine (chVB hb R C1).mono ?_) | (go_at_call 12;with_reducible refine (zL hb (C2.out _ (R.below hb))).mono ?_) | (go_at_call 13;with_reducible refine (chVB hb R C3).mono ?_) | (go_at_call 14;with_reducible refine (chVB hb R C4).mono ?_) | (go_at_call 15;with_reducible refine (chVB hb R C5).mono ?_) | (go_at_call 16;with_reducible refine (chVB hb R C6).mono ?_) | (go_at_call 17;with_reducible refine (chVB hb R C7).mono ?_));clear hb;rintro e w1 ⟨rfl,hk,hb⟩;clear Ae Af Ag;replace a0:=zB hk a0;obtain ⟨Ae,Af,Ag⟩:=ce3 a0;clear hk)
 first | go_ret | go_ret2 | go_ret3
 exact ⟨rfl,hb⟩
theorem planes_100 (a b c:Rat) (h:a≠0∨b≠0∨c≠0) (na:RN a 24 24) (nb:RN b 24 24) (nc:RN c 24 24) (hs:(ratB a).size≤24∧(ratB b).size≤24∧(ratB c).size≤24) (q0:¬ c.num.sign < 0) (q1:c≠0) (q2:a=0) (q3:b≠0) (w:World) (R:EnvV w) :
   Calls Tryz.prog 3 #[.agg #[.string (ratB a),.string (ratB b),.string (ratB c)]] w (Ret w (.bool true)):=by
 have Aa:=nc.rl (K:=100000)
 have c1:=known15_any
 have c2:∀ w,EnvV w→Calls Tryz.prog 12 #[.slice (some ⟨w.heap.size,0,none⟩) 3 3] (w.alloc (Obj.cells #[Value.string (ratB a),Value.string (ratB b),Value.string (ratB c)] 22)) (Ret w (.bool true)):=fun w R=>short3 (ratB a) (ratB b) (ratB c) true ⟨fun _=>hs,fun _=>rfl⟩ (Nat.le_trans hs.1 (by decide)) (Nat.le_trans hs.2.1 (by decide)) (Nat.le_trans hs.2.2 (by decide)) w R
 have c3:=over_f a b c h (na.rl) (nb.rl) (nc.rl) q0
 have c4:=horiz_f a b c h (na.rl) (nb.rl) (nc.rl) (Or.inr q3)
 have c5:=vert_f a b c h (na.rl) (nb.rl) (nc.rl) q1
 have c6:=normal_ok a b c (na.rl) (nb.rl) (nc.rl) h
 have c7:=fun (w:World) (R:EnvV w)=>rsign_any c Aa w R.toEnvR
 have gd:decide (c.num.sign < 0)=false:=decide_eq_false q0
 have gs:¬ c.num.sign < 0:=q0
 have eq1:((ratB c).toList == [48])=false:=by rw [ratB_eq_zero];exact decide_eq_false q1
 have pq1:¬ (ratB c).toList=[48]:=fun h=>q1 ((zero_iff _).1 h)
 have eq2:((ratB a).toList == [48])=true:=by rw [ratB_eq_zero];exact decide_eq_true q2
 have pq2:(ratB a).toList=[48]:=(zero_iff _).2 q2
 have eq3:((ratB b).toList == [48])=false:=by rw [ratB_eq_zero];exact decide_eq_false q3
 have pq3:¬ (ratB b).toList=[48]:=fun h=>q3 ((zero_iff _).1 h)
 obtain ⟨Ah,Ab⟩:∃ vq,ratB a=vq:=⟨_,rfl⟩
 obtain ⟨Ai,Ac⟩:∃ vq,ratB b=vq:=⟨_,rfl⟩
 obtain ⟨Aj,Ad⟩:∃ vq,ratB c=vq:=⟨_,rfl⟩
 try simp only [Ab,Ac,Ad] at c1 c2 c3 c4 c5 c6 c7 gd gs eq1 pq1 eq2 pq2 eq3 pq3 ⊢
 obtain ⟨sg,esg⟩:∃ vq,c.num.sign=vq:=⟨_,rfl⟩
 try simp only [esg] at c1 c2 c3 c4 c5 c6 c7 gd gs eq1 pq1 eq2 pq2 eq3 pq3 ⊢
 have C1:=Lib.hid c1
 have C2:=Lib.hid c2
 have C3:=Lib.hid c3
 have C4:=Lib.hid c4
 have C5:=Lib.hid c5
 have C6:=Lib.hid c6
 have C7:=Lib.hid c7
 clear c1 c2 c3 c4 c5 c6 c7 Ab Ac Ad esg Aa q0 q1 q2 q3 h na nb nc hs
 have hb:=Below.refl w.heap.size w
 go_enter Tryz.func3,Tryz.ntmps3
 go_upto_region 1 with fail
 refine wp_alloc1 (fun w1 a0 hk=>?_)
 replace hb:=hb.trans (hk.mono hb.size)
 clear hk
 obtain ⟨Ae,Af,Ag⟩:=ce3 a0
 go_wp2_with ((first | (go_at_call 11;with_reducible refine (chVB hb R C1).mono ?_) | (go_at_call 12;with_reducible refine (zL hb (C2.out _ (R.below hb))).mono ?_) | (go_at_call 13;with_reducible refine (chVB hb R C3).mono ?_) | (go_at_call 14;with_reducible refine (chVB hb R C4).mono ?_) | (go_at_call 15;with_reducible refine (chVB hb R C5).mono ?_) | (go_at_call 16;with_reducible refine (chVB hb R C6).mono ?_) | (go_at_call 17;with_reducible refine (chVB hb R C7).mono ?_));clear hb;rintro e w1 ⟨rfl,hk,hb⟩;clear Ae Af Ag;replace a0:=zB hk a0;obtain ⟨Ae,Af,Ag⟩:=ce3 a0;clear hk)
 first | go_ret | go_ret2 | go_ret3
 exact ⟨rfl,hb⟩
theorem planes_201 (a b c:Rat) (h:a≠0∨b≠0∨c≠0) (na:RN a 24 24) (nb:RN b 24 24) (nc:RN c 24 24) (hs:(ratB a).size≤24∧(ratB b).size≤24∧(ratB c).size≤24) (q0:c.num.sign < 0) (q1:c≠0) (q2:a=0) (q3:b=0) (w:World) (R:EnvV w) :
   Calls Tryz.prog 3 #[.agg #[.string (ratB a),.string (ratB b),.string (ratB c)]] w (Ret w (.bool true)):=by
 have Aa:=nc.rl (K:=100000)
 have c1:=known15_any
 have c2:∀ w,EnvV w→Calls Tryz.prog 12 #[.slice (some ⟨w.heap.size,0,none⟩) 3 3] (w.alloc (Obj.cells #[Value.string (ratB a),Value.string (ratB b),Value.string (ratB c)] 22)) (Ret w (.bool true)):=fun w R=>short3 (ratB a) (ratB b) (ratB c) true ⟨fun _=>hs,fun _=>rfl⟩ (Nat.le_trans hs.1 (by decide)) (Nat.le_trans hs.2.1 (by decide)) (Nat.le_trans hs.2.2 (by decide)) w R
 have c3:=over_t a b c h (na.rl) (nb.rl) (nc.rl) q0
 have c4:=horiz_t a b c h (na.rl) (nb.rl) (nc.rl) q2 q3
 have c5:=vert_f a b c h (na.rl) (nb.rl) (nc.rl) q1
 have c6:=normal_ok a b c (na.rl) (nb.rl) (nc.rl) h
 have c7:=fun (w:World) (R:EnvV w)=>rsign_any c Aa w R.toEnvR
 have gd:decide (c.num.sign < 0)=true:=decide_eq_true q0
 have gs:c.num.sign < 0:=q0
 have eq1:((ratB c).toList == [48])=false:=by rw [ratB_eq_zero];exact decide_eq_false q1
 have pq1:¬ (ratB c).toList=[48]:=fun h=>q1 ((zero_iff _).1 h)
 have eq2:((ratB a).toList == [48])=true:=by rw [ratB_eq_zero];exact decide_eq_true q2
 have pq2:(ratB a).toList=[48]:=(zero_iff _).2 q2
 have eq3:((ratB b).toList == [48])=true:=by rw [ratB_eq_zero];exact decide_eq_true q3
 have pq3:(ratB b).toList=[48]:=(zero_iff _).2 q3
 obtain ⟨Ah,Ab⟩:∃ vq,ratB a=vq:=⟨_,rfl⟩
 obtain ⟨Ai,Ac⟩:∃ vq,ratB b=vq:=⟨_,rfl⟩
 obtain ⟨Aj,Ad⟩:∃ vq,ratB c=vq:=⟨_,rfl⟩
 try simp only [Ab,Ac,Ad] at c1 c2 c3 c4 c5 c6 c7 gd gs eq1 pq1 eq2 pq2 eq3 pq3 ⊢
 obtain ⟨sg,esg⟩:∃ vq,c.num.sign=vq:=⟨_,rfl⟩
 try simp only [esg] at c1 c2 c3 c4 c5 c6 c7 gd gs eq1 pq1 eq2 pq2 eq3 pq3 ⊢
 have C1:=Lib.hid c1
 have C2:=Lib.hid c2
 have C3:=Lib.hid c3
 have C4:=Lib.hid c4
 have C5:=Lib.hid c5
 have C6:=Lib.hid c6
 have C7:=Lib.hid c7
 clear c1 c2 c3 c4 c5 c6 c7 Ab Ac Ad esg Aa q0 q1 q2 q3 h na nb nc hs
 have hb:=Below.refl w.heap.size w
 go_enter Tryz.func3,Tryz.ntmps3
 go_upto_region 1 with fail
 refine wp_alloc1 (fun w1 a0 hk=>?_)
 replace hb:=hb.trans (hk.mono hb.size)
 clear hk
 obtain ⟨Ae,Af,Ag⟩:=ce3 a0
 go_wp2_with ((first | (go_at_call 11;with_reducible refine (chVB hb R C1).mono ?_) | (go_at_call 12;with_reducible refine (zL hb (C2.out _ (R.below hb))).mono ?_) | (go_at_call 13;with_reducible refine (chVB hb R C3).mono ?_) | (go_at_call 14;with_reducible refine (chVB hb R C4).mono ?_) | (go_at_call 15;with_reducible refine (chVB hb R C5).mono ?_) | (go_at_call 16;with_reducible refine (chVB hb R C6).mono ?_) | (go_at_call 17;with_reducible refine (chVB hb R C7).mono ?_));clear hb;rintro e w1 ⟨rfl,hk,hb⟩;clear Ae Af Ag;replace a0:=zB hk a0;obtain ⟨Ae,Af,Ag⟩:=ce3 a0;clear hk)
 first | go_ret | go_ret2 | go_ret3
 exact ⟨rfl,hb⟩
theorem planes_200 (a b c:Rat) (h:a≠0∨b≠0∨c≠0) (na:RN a 24 24) (nb:RN b 24 24) (nc:RN c 24 24) (hs:(ratB a).size≤24∧(ratB b).size≤24∧(ratB c).size≤24) (q0:¬ c.num.sign < 0) (q1:c≠0) (q2:a=0) (q3:b=0) (w:World) (R:EnvV w) :
   Calls Tryz.prog 3 #[.agg #[.string (ratB a),.string (ratB b),.string (ratB c)]] w (Ret w (.bool true)):=by
 have Aa:=nc.rl (K:=100000)
 have c1:=known15_any
 have c2:∀ w,EnvV w→Calls Tryz.prog 12 #[.slice (some ⟨w.heap.size,0,none⟩) 3 3] (w.alloc (Obj.cells #[Value.string (ratB a),Value.string (ratB b),Value.string (ratB c)] 22)) (Ret w (.bool true)):=fun w R=>short3 (ratB a) (ratB b) (ratB c) true ⟨fun _=>hs,fun _=>rfl⟩ (Nat.le_trans hs.1 (by decide)) (Nat.le_trans hs.2.1 (by decide)) (Nat.le_trans hs.2.2 (by decide)) w R
 have c3:=over_f a b c h (na.rl) (nb.rl) (nc.rl) q0
 have c4:=horiz_t a b c h (na.rl) (nb.rl) (nc.rl) q2 q3
 have c5:=vert_f a b c h (na.rl) (nb.rl) (nc.rl) q1
 have c6:=normal_ok a b c (na.rl) (nb.rl) (nc.rl) h
 have c7:=fun (w:World) (R:EnvV w)=>rsign_any c Aa w R.toEnvR
 have gd:decide (c.num.sign < 0)=false:=decide_eq_false q0
 have gs:¬ c.num.sign < 0:=q0
 have eq1:((ratB c).toList == [48])=false:=by rw [ratB_eq_zero];exact decide_eq_false q1
 have pq1:¬ (ratB c).toList=[48]:=fun h=>q1 ((zero_iff _).1 h)
 have eq2:((ratB a).toList == [48])=true:=by rw [ratB_eq_zero];exact decide_eq_true q2
 have pq2:(ratB a).toList=[48]:=(zero_iff _).2 q2
 have eq3:((ratB b).toList == [48])=true:=by rw [ratB_eq_zero];exact decide_eq_true q3
 have pq3:(ratB b).toList=[48]:=(zero_iff _).2 q3
 obtain ⟨Ah,Ab⟩:∃ vq,ratB a=vq:=⟨_,rfl⟩
 obtain ⟨Ai,Ac⟩:∃ vq,ratB b=vq:=⟨_,rfl⟩
 obtain ⟨Aj,Ad⟩:∃ vq,ratB c=vq:=⟨_,rfl⟩
 try simp only [Ab,Ac,Ad] at c1 c2 c3 c4 c5 c6 c7 gd gs eq1 pq1 eq2 pq2 eq3 pq3 ⊢
 obtain ⟨sg,esg⟩:∃ vq,c.num.sign=vq:=⟨_,rfl⟩
 try simp only [esg] at c1 c2 c3 c4 c5 c6 c7 gd gs eq1 pq1 eq2 pq2 eq3 pq3 ⊢
 have C1:=Lib.hid c1
 have C2:=Lib.hid c2
 have C3:=Lib.hid c3
 have C4:=Lib.hid c4
 have C5:=Lib.hid c5
 have C6:=Lib.hid c6
 have C7:=Lib.hid c7
 clear c1 c2 c3 c4 c5 c6 c7 Ab Ac Ad esg Aa q0 q1 q2 q3 h na nb nc hs
 have hb:=Below.refl w.heap.size w
 go_enter Tryz.func3,Tryz.ntmps3
 go_upto_region 1 with fail
 refine wp_alloc1 (fun w1 a0 hk=>?_)
 replace hb:=hb.trans (hk.mono hb.size)
 clear hk
 obtain ⟨Ae,Af,Ag⟩:=ce3 a0
 go_wp2_with ((first | (go_at_call 11;with_reducible refine (chVB hb R C1).mono ?_) | (go_at_call 12;with_reducible refine (zL hb (C2.out _ (R.below hb))).mono ?_) | (go_at_call 13;with_reducible refine (chVB hb R C3).mono ?_) | (go_at_call 14;with_reducible refine (chVB hb R C4).mono ?_) | (go_at_call 15;with_reducible refine (chVB hb R C5).mono ?_) | (go_at_call 16;with_reducible refine (chVB hb R C6).mono ?_) | (go_at_call 17;with_reducible refine (chVB hb R C7).mono ?_));clear hb;rintro e w1 ⟨rfl,hk,hb⟩;clear Ae Af Ag;replace a0:=zB hk a0;obtain ⟨Ae,Af,Ag⟩:=ce3 a0;clear hk)
 first | go_ret | go_ret2 | go_ret3
 exact ⟨rfl,hb⟩
theorem planes_ok (a b c:Rat) (h:a≠0∨b≠0∨c≠0) (na:RN a 24 24) (nb:RN b 24 24) (nc:RN c 24 24) (hs:(ratB a).size≤24∧(ratB b).size≤24∧(ratB c).size≤24) (w:World) (R:EnvV w) :
   Calls Tryz.prog 3 #[.agg #[.string (ratB a),.string (ratB b),.string (ratB c)]] w (Ret w (.bool true)):=by
 by_cases q1:c=0
 · have q0:¬ c.num.sign < 0:=by rw [q1];decide
   by_cases q2:a=0
   · by_cases q3:b=0
     · exact absurd ⟨q2,q3,q1⟩ (nz3 h)
     · exact (planes_110 a b c h na nb nc hs q0 q1 q2 q3 w R)
   · exact (planes_010 a b c h na nb nc hs q0 q1 q2 w R)
 · by_cases q0:c.num.sign < 0
   · skip
     by_cases q2:a=0
     · by_cases q3:b=0
       · exact (planes_201 a b c h na nb nc hs q0 q1 q2 q3 w R)
       · exact (planes_101 a b c h na nb nc hs q0 q1 q2 q3 w R)
     · exact (planes_001 a b c h na nb nc hs q0 q1 q2 w R)
   · skip
     by_cases q2:a=0
     · by_cases q3:b=0
       · exact (planes_200 a b c h na nb nc hs q0 q1 q2 q3 w R)
       · exact (planes_100 a b c h na nb nc hs q0 q1 q2 q3 w R)
     · exact (planes_000 a b c h na nb nc hs q0 q1 q2 w R)
theorem lawPlanes (s0 s1 s2:ByteArray) (ms0:s0.size≤9223372036854775807) (ms1:s1.size≤9223372036854775807) (ms2:s2.size≤9223372036854775807) (w:World) (R:EnvV w) :
   Calls Tryz.prog 3 #[.agg #[.string s0,.string s1,.string s2]] w (Ret w (.bool true)):=by
 by_cases hs:s0.size≤24∧s1.size≤24∧s2.size≤24
 · rcases normal_cases s0 s1 s2 hs.1 hs.2.1 hs.2.2 with ⟨v,hv⟩ | ⟨a,b,c,rfl,rfl,rfl,na,nb,nc,h⟩
   · exact planes_err s0 s1 s2 v hs hv ms0 ms1 ms2 (by omega) (by omega) (by omega) w R
   · exact planes_ok a b c h na nb nc hs w R
 · exact planes_long s0 s1 s2 hs ms0 ms1 ms2 w R
end Go.Proofs.YtejfiegmdllfbaaGreatDoor.Kl
