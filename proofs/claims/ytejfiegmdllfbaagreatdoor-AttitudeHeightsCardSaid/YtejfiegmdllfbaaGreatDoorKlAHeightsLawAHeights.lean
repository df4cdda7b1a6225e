import Derived.Test.YtejfiegmdllfbaaGreatDoorKlAHeightsAtG
namespace Go.Proofs.YtejfiegmdllfbaaGreatDoor.Kl
open Go Go.RowKit
set_option maxRecDepth 100000
set_option maxHeartbeats 8000000
theorem heights_long  (s0 s1 s2 s3 s4 s5:ByteArray) (hl:¬ (s0.size≤24∧s1.size≤24∧s2.size≤24∧s3.size≤24∧s4.size≤24∧s5.size≤24)) (ms0:s0.size≤9223372036854775807) (ms1:s1.size≤9223372036854775807) (ms2:s2.size≤9223372036854775807) (ms3:s3.size≤9223372036854775807) (ms4:s4.size≤9223372036854775807) (ms5:s5.size≤9223372036854775807) (w:World) (R:EnvV w) :
   Calls Tryz.prog 8 #[.agg #[.string s0,.string s1,.string s2,.string s3],.agg #[.string s4,.string s5]] w (Ret w (.bool true)):=by
 have c1:=known15_any
 have c2:=short6 s0 s1 s2 s3 s4 s5 false ⟨(fun h=>by cases h),fun k=>absurd k hl⟩ ms0 ms1 ms2 ms3 ms4 ms5
 have C1:=Lib.hid c1
 have C2:=Lib.hid c2
 clear c1 c2 hl ms0 ms1 ms2 ms3 ms4 ms5
 have hb:=Below.refl w.heap.size w
 go_enter Tryz.func8,Tryz.ntmps8
 go_upto_region 1 with fail
 refine wp_alloc2 (fun w1 a0 a1 hk=>?_)
 replace hb:=hb.trans (hk.mono hb.size)
 clear hk
 obtain ⟨Aa,Ab,Ac,Ad⟩:=ce4 a0
 obtain ⟨Ae,Af⟩:=ce2 a1
 go_wp2_with ((first | (go_at_call 11;first | with_reducible refine (chVB hb R C1).mono ?_ | with_reducible refine (chVB hb R C1).mono ?_) | (go_at_call 12;with_reducible refine (zL hb (C2.out _ (R.below hb))).mono ?_));clear hb;rintro e w1 ⟨rfl,hk,hb⟩;clear Aa Ab Ac Ad Ae Af;replace a0:=zB hk a0;replace a1:=zB hk a1;obtain ⟨Aa,Ab,Ac,Ad⟩:=ce4 a0;obtain ⟨Ae,Af⟩:=ce2 a1;clear hk)
 first | go_ret | go_ret2 | go_ret3
 exact ⟨rfl,hb⟩
theorem heights_E  (s0 s1 s2 s3 s4 s5:ByteArray) (v:Int) (hv:NErr s0 s1 s2 v) (zs0:s0.size≤100000) (zs1:s1.size≤100000) (zs2:s2.size≤100000) (eo ep u:Int) (co:CV 78 #[.string s3] (.int .i64 eo)) (cp:CV 77 #[.agg #[.string s4,.string s5]] (.int .i64 ep)) (hu:firstNZ [eo,ep]=u) (hs:s0.size≤24∧s1.size≤24∧s2.size≤24∧s3.size≤24∧s4.size≤24∧s5.size≤24) (w:World) (R:EnvV w) :
   Calls Tryz.prog 8 #[.agg #[.string s0,.string s1,.string s2,.string s3],.agg #[.string s4,.string s5]] w (Ret w (.bool true)):=by
 have c1:=known15_any
 have c2:∀ w,EnvV w→Calls Tryz.prog 12 #[.slice (some ⟨w.heap.size,0,none⟩) 6 6] (w.alloc (Obj.cells #[Value.string s0,Value.string s1,Value.string s2,Value.string s3,Value.string s4,Value.string s5] 22)) (Ret w (.bool true)):=fun w R=>short6 s0 s1 s2 s3 s4 s5 true ⟨fun _=>hs,fun _=>rfl⟩ (Nat.le_trans hs.1 (by decide)) (Nat.le_trans hs.2.1 (by decide)) (Nat.le_trans hs.2.2.1 (by decide)) (Nat.le_trans hs.2.2.2.1 (by decide)) (Nat.le_trans hs.2.2.2.2.1 (by decide)) (Nat.le_trans hs.2.2.2.2.2 (by decide)) w R
 have c3:=fun (w:World) (R:EnvV w)=>height_err s0 s1 s2 s3 s4 s5 eo ep u v co cp hu (fun w R=>slope_err s0 s1 s2 v u v (fun w R=>acheck_err s0 s1 s2 v hv zs0 zs1 zs2 w R) (fnz_1 v u hv.ne) hv.ne w R) hv.ne w R
 have c4:=normal_err s0 s1 s2 v hv zs0 zs1 zs2
 have eqv:(v == 0)=false:=beq_eq_false_iff_ne.2 hv.ne
 have pqv:¬ v=0:=hv.ne
 have C1:=Lib.hid c1
 have C2:=Lib.hid c2
 have C3:=Lib.hid c3
 have C4:=Lib.hid c4
 clear c1 c2 c3 c4 hv zs0 zs1 zs2 co cp hu hs
 have hb:=Below.refl w.heap.size w
 go_enter Tryz.func8,Tryz.ntmps8
 go_upto_region 1 with fail
 refine wp_alloc2 (fun w1 a0 a1 hk=>?_)
 replace hb:=hb.trans (hk.mono hb.size)
 clear hk
 obtain ⟨Aa,Ab,Ac,Ad⟩:=ce4 a0
 obtain ⟨Ae,Af⟩:=ce2 a1
 go_wp2_with ((first | (go_at_call 11;with_reducible refine (chVB hb R C1).mono ?_) | (go_at_call 12;with_reducible refine (zL hb (C2.out _ (R.below hb))).mono ?_) | (go_at_call 35;with_reducible refine (chVB hb R C3).mono ?_) | (go_at_call 16;with_reducible refine (chVB hb R C4).mono ?_));clear hb;rintro e w1 ⟨rfl,hk,hb⟩;clear Aa Ab Ac Ad Ae Af;replace a0:=zB hk a0;replace a1:=zB hk a1;obtain ⟨Aa,Ab,Ac,Ad⟩:=ce4 a0;obtain ⟨Ae,Af⟩:=ce2 a1;clear hk)
 first | go_ret | go_ret2 | go_ret3
 exact ⟨rfl,hb⟩
theorem heights_N  (a b c:Rat) (s3 s4 s5:ByteArray) (h:a≠0∨b≠0∨c≠0) (na:RN a 24 24) (nb:RN b 24 24) (nc:RN c 24 24) (eo ep:Int) (co:CV 78 #[.string s3] (.int .i64 eo)) (cp:CV 77 #[.agg #[.string s4,.string s5]] (.int .i64 ep)) (hu:firstNZ [eo,ep]=2) (hr:¬ (IsRat s3.data.toList∧IsRat s4.data.toList∧IsRat s5.data.toList)) (zs3:s3.size≤100000) (zs4:s4.size≤100000) (zs5:s5.size≤100000) (hs:(ratB a).size≤24∧(ratB b).size≤24∧(ratB c).size≤24∧s3.size≤24∧s4.size≤24∧s5.size≤24) (w:World) (R:EnvV w) :
   Calls Tryz.prog 8 #[.agg #[.string (ratB a),.string (ratB b),.string (ratB c),.string s3],.agg #[.string s4,.string s5]] w (Ret w (.bool true)):=by
 have c1:=known15_any
 have c2:∀ w,EnvV w→Calls Tryz.prog 12 #[.slice (some ⟨w.heap.size,0,none⟩) 6 6] (w.alloc (Obj.cells #[Value.string (ratB a),Value.string (ratB b),Value.string (ratB c),Value.string s3,Value.string s4,Value.string s5] 22)) (Ret w (.bool true)):=fun w R=>short6 (ratB a) (ratB b) (ratB c) s3 s4 s5 true ⟨fun _=>hs,fun _=>rfl⟩ (Nat.le_trans hs.1 (by decide)) (Nat.le_trans hs.2.1 (by decide)) (Nat.le_trans hs.2.2.1 (by decide)) (Nat.le_trans hs.2.2.2.1 (by decide)) (Nat.le_trans hs.2.2.2.2.1 (by decide)) (Nat.le_trans hs.2.2.2.2.2 (by decide)) w R
 have c3:=fun (w:World) (R:EnvV w)=>height_err (ratB a) (ratB b) (ratB c) s3 s4 s5 eo ep 2 2 co cp hu (fun w R=>slope_err (ratB a) (ratB b) (ratB c) 0 2 2 (fun w R=>acheck_ok a b c h (na.rl (K:=200)) (nb.rl (K:=200)) (nc.rl (K:=200)) w R) (by decide) (by decide) w R) (by decide) w R
 have c4:=normal_ok a b c (na.rl (K:=200)) (nb.rl (K:=200)) (nc.rl (K:=200)) h
 have c5:=right3 s3 s4 s5 false ⟨(fun h=>by cases h),fun k=>absurd k hr⟩ zs3 zs4 zs5
 obtain ⟨Aj,Aa⟩:∃ vq,ratB a=vq:=⟨_,rfl⟩
 obtain ⟨Ak,Ab⟩:∃ vq,ratB b=vq:=⟨_,rfl⟩
 obtain ⟨Al,Ac⟩:∃ vq,ratB c=vq:=⟨_,rfl⟩
 try simp only [Aa,Ab,Ac] at c1 c2 c3 c4 c5 ⊢
 have C1:=Lib.hid c1
 have C2:=Lib.hid c2
 have C3:=Lib.hid c3
 have C4:=Lib.hid c4
 have C5:=Lib.hid c5
 clear c1 c2 c3 c4 c5 Aa Ab Ac h na nb nc co cp hu hr zs3 zs4 zs5 hs
 have hb:=Below.refl w.heap.size w
 go_enter Tryz.func8,Tryz.ntmps8
 go_upto_region 1 with fail
 refine wp_alloc2 (fun w1 a0 a1 hk=>?_)
 replace hb:=hb.trans (hk.mono hb.size)
 clear hk
 obtain ⟨Ad,Ae,Af,Ag⟩:=ce4 a0
 obtain ⟨Ah,Ai⟩:=ce2 a1
 go_wp2_with ((first | (go_at_call 11;with_reducible refine (chVB hb R C1).mono ?_) | (go_at_call 12;with_reducible refine (zL hb (C2.out _ (R.below hb))).mono ?_) | (go_at_call 35;with_reducible refine (chVB hb R C3).mono ?_) | (go_at_call 16;with_reducible refine (chVB hb R C4).mono ?_) | (go_at_call 21;with_reducible refine (zL hb (C5.out _ (R.below hb))).mono ?_));clear hb;rintro e w1 ⟨rfl,hk,hb⟩;clear Ad Ae Af Ag Ah Ai;replace a0:=zB hk a0;replace a1:=zB hk a1;obtain ⟨Ad,Ae,Af,Ag⟩:=ce4 a0;obtain ⟨Ah,Ai⟩:=ce2 a1;clear hk)
 first | go_ret | go_ret2 | go_ret3
 exact ⟨rfl,hb⟩
theorem heights_V  (a b c d x y:Rat) (h:a≠0∨b≠0∨c≠0) (na:RN a 24 24) (nb:RN b 24 24) (nc:RN c 24 24) (nd:RN d 24 24) (nx:RN x 24 24) (ny:RN y 24 24) (hs:(ratB a).size≤24∧(ratB b).size≤24∧(ratB c).size≤24∧(ratB d).size≤24∧(ratB x).size≤24∧(ratB y).size≤24) (q0:c=0) (w:World) (R:EnvV w) :
   Calls Tryz.prog 8 #[.agg #[.string (ratB a),.string (ratB b),.string (ratB c),.string (ratB d)],.agg #[.string (ratB x),.string (ratB y)]] w (Ret w (.bool true)):=by
 have c1:=known15_any
 have c2:∀ w,EnvV w→Calls Tryz.prog 12 #[.slice (some ⟨w.heap.size,0,none⟩) 6 6] (w.alloc (Obj.cells #[Value.string (ratB a),Value.string (ratB b),Value.string (ratB c),Value.string (ratB d),Value.string (ratB x),Value.string (ratB y)] 22)) (Ret w (.bool true)):=fun w R=>short6 (ratB a) (ratB b) (ratB c) (ratB d) (ratB x) (ratB y) true ⟨fun _=>hs,fun _=>rfl⟩ (Nat.le_trans hs.1 (by decide)) (Nat.le_trans hs.2.1 (by decide)) (Nat.le_trans hs.2.2.1 (by decide)) (Nat.le_trans hs.2.2.2.1 (by decide)) (Nat.le_trans hs.2.2.2.2.1 (by decide)) (Nat.le_trans hs.2.2.2.2.2 (by decide)) w R
 have c3:=fun (w:World) (R:EnvV w)=>height_err (ratB a) (ratB b) (ratB c) (ratB d) (ratB x) (ratB y) 0 0 0 21 (fun w R=>rcheck_any (ratB d) 0 (Or.inl ⟨isRat_of (nd.rl (K:=200)),rfl⟩) (Nat.le_trans (size_of_RL (nd.rl (K:=200))) (by decide)) w R.toEnvR) (fun w R=>pcheck_ok x y (nx.rl (K:=200)) (ny.rl (K:=200)) w R.toEnvR) (by decide) (fun w R=>slope_v a b c h (na.rl (K:=200)) (nb.rl (K:=200)) (nc.rl (K:=200)) q0 w R) (by decide) w R
 have c4:=normal_ok a b c (na.rl (K:=200)) (nb.rl (K:=200)) (nc.rl (K:=200)) h
 have c5:∀ w,EnvV w→Calls Tryz.prog 21 #[.slice (some ⟨w.heap.size,0,none⟩) 3 3] (w.alloc (Obj.cells #[Value.string (ratB d),Value.string (ratB x),Value.string (ratB y)] 22)) (Ret w (.bool true)):=fun w R=>right3 (ratB d) (ratB x) (ratB y) true ⟨fun _=>⟨isRat_of (nd.rl (K:=200)),isRat_of (nx.rl (K:=200)),isRat_of (ny.rl (K:=200))⟩,fun _=>rfl⟩ (Nat.le_trans (size_of_RL (nd.rl (K:=200))) (by decide)) (Nat.le_trans (size_of_RL (nx.rl (K:=200))) (by decide)) (Nat.le_trans (size_of_RL (ny.rl (K:=200))) (by decide)) w R
 have eq0:((ratB c).toList == [48])=true:=by rw [ratB_eq_zero];exact decide_eq_true q0
 have pq0:(ratB c).toList=[48]:=(zero_iff _).2 q0
 obtain ⟨Am,Aa⟩:∃ vq,ratB a=vq:=⟨_,rfl⟩
 obtain ⟨An,Ab⟩:∃ vq,ratB b=vq:=⟨_,rfl⟩
 obtain ⟨Ao,Ac⟩:∃ vq,ratB c=vq:=⟨_,rfl⟩
 obtain ⟨Ap,Ad⟩:∃ vq,ratB d=vq:=⟨_,rfl⟩
 obtain ⟨Aq,Ae⟩:∃ vq,ratB x=vq:=⟨_,rfl⟩
 obtain ⟨Ar,Af⟩:∃ vq,ratB y=vq:=⟨_,rfl⟩
 try simp only [Aa,Ab,Ac,Ad,Ae,Af] at c1 c2 c3 c4 c5 eq0 pq0 ⊢
 have C1:=Lib.hid c1
 have C2:=Lib.hid c2
 have C3:=Lib.hid c3
 have C4:=Lib.hid c4
 have C5:=Lib.hid c5
 clear c1 c2 c3 c4 c5 Aa Ab Ac Ad Ae Af q0 h na nb nc nd nx ny hs
 have hb:=Below.refl w.heap.size w
 go_enter Tryz.func8,Tryz.ntmps8
 go_upto_region 1 with fail
 refine wp_alloc2 (fun w1 a0 a1 hk=>?_)
 replace hb:=hb.trans (hk.mono hb.size)
 clear hk
 obtain ⟨Ag,Ah,Ai,Aj⟩:=ce4 a0
 obtain ⟨Ak,Al⟩:=ce2 a1
 go_wp2_with ((first | (go_at_call 11;with_reducible refine (chVB hb R C1).mono ?_) | (go_at_call 12;with_reducible refine (zL hb (C2.out _ (R.below hb))).mono ?_) | (go_at_call 35;with_reducible refine (chVB hb R C3).mono ?_) | (go_at_call 16;with_reducible refine (chVB hb R C4).mono ?_) | (go_at_call 21;with_reducible refine (zL hb (C5.out _ (R.below hb))).mono ?_));clear hb;rintro e w1 ⟨rfl,hk,hb⟩;clear Ag Ah Ai Aj Ak Al;replace a0:=zB hk a0;replace a1:=zB hk a1;obtain ⟨Ag,Ah,Ai,Aj⟩:=ce4 a0;obtain ⟨Ak,Al⟩:=ce2 a1;clear hk)
 first | go_ret | go_ret2 | go_ret3
 exact ⟨rfl,hb⟩
theorem heights_O  (a b c d x y:Rat) (na:RN a 24 24) (nb:RN b 24 24) (nc:RN c 24 24) (nd:RN d 24 24) (nx:RN x 24 24) (ny:RN y 24 24) (hs:(ratB a).size≤24∧(ratB b).size≤24∧(ratB c).size≤24∧(ratB d).size≤24∧(ratB x).size≤24∧(ratB y).size≤24) (q0:c≠0) (w:World) (R:EnvV w) :
   Calls Tryz.prog 8 #[.agg #[.string (ratB a),.string (ratB b),.string (ratB c),.string (ratB d)],.agg #[.string (ratB x),.string (ratB y)]] w (Ret w (.bool true)):=by
 have Ae:=RN_mul na nx
 have Af:=RN_mul nb ny
 have Ag:=RN_add (N:=96) Ae Af
 have Ah:=RN_sub (N:=121) nd Ag
 have Ak:=RN_div Ah nc q0
 have c1:=known15_any
 have c2:∀ w,EnvV w→Calls Tryz.prog 12 #[.slice (some ⟨w.heap.size,0,none⟩) 6 6] (w.alloc (Obj.cells #[Value.string (ratB a),Value.string (ratB b),Value.string (ratB c),Value.string (ratB d),Value.string (ratB x),Value.string (ratB y)] 22)) (Ret w (.bool true)):=fun w R=>short6 (ratB a) (ratB b) (ratB c) (ratB d) (ratB x) (ratB y) true ⟨fun _=>hs,fun _=>rfl⟩ (Nat.le_trans hs.1 (by decide)) (Nat.le_trans hs.2.1 (by decide)) (Nat.le_trans hs.2.2.1 (by decide)) (Nat.le_trans hs.2.2.2.1 (by decide)) (Nat.le_trans hs.2.2.2.2.1 (by decide)) (Nat.le_trans hs.2.2.2.2.2 (by decide)) w R
 have c3:=height_ok a b c d x y nd.r2 nx.r2 ny.r2 na.r2 nb.r2 nc.r2 q0 na.rm nx.rm nb.rm ny.rm Ae.rm Af.rm nd.rm Ag.rm Ah.rm nc.rm Ak.r2
 have c4:=normal_ok a b c (na.rl (K:=200)) (nb.rl (K:=200)) (nc.rl (K:=200)) (Or.inr (Or.inr q0))
 have c5:∀ w,EnvV w→Calls Tryz.prog 21 #[.slice (some ⟨w.heap.size,0,none⟩) 3 3] (w.alloc (Obj.cells #[Value.string (ratB d),Value.string (ratB x),Value.string (ratB y)] 22)) (Ret w (.bool true)):=fun w R=>right3 (ratB d) (ratB x) (ratB y) true ⟨fun _=>⟨isRat_of (nd.rl (K:=200)),isRat_of (nx.rl (K:=200)),isRat_of (ny.rl (K:=200))⟩,fun _=>rfl⟩ (Nat.le_trans (size_of_RL (nd.rl (K:=200))) (by decide)) (Nat.le_trans (size_of_RL (nx.rl (K:=200))) (by decide)) (Nat.le_trans (size_of_RL (ny.rl (K:=200))) (by decide)) w R
 have c6:=fun (w:World) (R:EnvV w)=>rmul_any a x na.rm nx.rm w R.toEnvR
 have c7:=fun (w:World) (R:EnvV w)=>rmul_any b y nb.rm ny.rm w R.toEnvR
 have c8:=fun (w:World) (R:EnvV w)=>radd_any (a*x) (b*y) Ae.rm Af.rm w R.toEnvR
 have c9:=fun (w:World) (R:EnvV w)=>rsub_any d ((a*x)+(b*y)) nd.rm Ag.rm w R.toEnvR
 have c10:=ldiv_any (d - ((a*x)+(b*y))) c q0 Ah.rm nc.rm
 have eq0:((ratB c).toList == [48])=false:=by rw [ratB_eq_zero];exact decide_eq_false q0
 have pq0:¬ (ratB c).toList=[48]:=fun h=>q0 ((zero_iff _).1 h)
 obtain ⟨A7,Al⟩:∃ vq,ratB ((d - ((a*x)+(b*y))) / c)=vq:=⟨_,rfl⟩
 obtain ⟨A8,Am⟩:∃ vq,ratB (d - ((a*x)+(b*y)))=vq:=⟨_,rfl⟩
 obtain ⟨A9,An⟩:∃ vq,ratB ((a*x)+(b*y))=vq:=⟨_,rfl⟩
 obtain ⟨Ba,Ao⟩:∃ vq,ratB (a*x)=vq:=⟨_,rfl⟩
 obtain ⟨Bb,Ap⟩:∃ vq,ratB (b*y)=vq:=⟨_,rfl⟩
 obtain ⟨Bc,Aq⟩:∃ vq,ratB a=vq:=⟨_,rfl⟩
 obtain ⟨Bd,Ar⟩:∃ vq,ratB b=vq:=⟨_,rfl⟩
 obtain ⟨Be,As⟩:∃ vq,ratB c=vq:=⟨_,rfl⟩
 obtain ⟨Bf,Au⟩:∃ vq,ratB d=vq:=⟨_,rfl⟩
 obtain ⟨Bg,Av⟩:∃ vq,ratB x=vq:=⟨_,rfl⟩
 obtain ⟨Bh,Aw⟩:∃ vq,ratB y=vq:=⟨_,rfl⟩
 try simp only [Al,Am,An,Ao,Ap,Aq,Ar,As,Au,Av,Aw] at c1 c2 c3 c4 c5 c6 c7 c8 c9 c10 eq0 pq0 ⊢
 have C1:=Lib.hid c1
 have C2:=Lib.hid c2
 have C3:=Lib.hid c3
 have C4:=Lib.hid c4
 have C5:=Lib.hid c5
 have C6:=Lib.hid c6
 have C7:=Lib.hid c7
 have C8:=Lib.hid c8
 have C9:=Lib.hid c9
 have C10:=Lib.hid c10
 clear c1 c2 c3 c4 c5 c6 c7 c8 c9 c10 Al Am An Ao Ap Aq Ar As Au Av Aw Ae Af Ag Ah Ak q0 na nb nc nd nx ny hs
 have hb:=Below.refl w.heap.size w
 go_enter Tryz.func8,Tryz.ntmps8
 go_upto_region 1 with fail
 refine wp_alloc2 (fun w1 a0 a1 hk=>?_)
 replace hb:=hb.trans (hk.mono hb.size)
 clear hk
 obtain ⟨Aa,Ab,Ac,Ad⟩:=ce4 a0
 obtain ⟨Ai,Aj⟩:=ce2 a1
 go_upto_region 11 with ((first | (go_at_call 11;with_reducible refine (chVB hb R C1).mono ?_) | (go_at_call 12;with_reducible refine (zL hb (C2.out _ (R.below hb))).mono ?_) | (go_at_call 35;with_reducible refine (chVB hb R C3).mono ?_) | (go_at_call 16;with_reducible refine (chVB hb R C4).mono ?_) | (go_at_call 21;with_reducible refine (zL hb (C5.out _ (R.below hb))).mono ?_));clear hb;rintro e w1 ⟨rfl,hk,hb⟩;clear Aa Ab Ac Ad Ai Aj;replace a0:=zB hk a0;replace a1:=zB hk a1;obtain ⟨Aa,Ab,Ac,Ad⟩:=ce4 a0;obtain ⟨Ai,Aj⟩:=ce2 a1;clear hk)
 obtain ⟨A1,A2,A3,A4⟩:=cy4 a0
 obtain ⟨A5,A6⟩:=cy2 a1
 have Ax:=rrV C6 R hb
 have Ay:=rrV C7 R hb
 have Az:=rrV C8 R hb
 have A0:=rrV C9 R hb
 refine wp_region_quiet_below (by first | assumption | kernel_rfl) (by kernel_rfl) ?_
 repeat (quiet_step (first | (with_reducible exact Ax.out _ _) | (with_reducible exact Ay.out _ _) | (with_reducible exact Az.out _ _) | (with_reducible exact A0.out _ _)))
 refine wpQuiet_nil ?_
 intro w1 hw'
 obtain ⟨hk,hb⟩:=zQ hb hw'
 clear Aa Ab Ac Ad Ai Aj
 replace a0:=zB hk a0
 replace a1:=zB hk a1
 obtain ⟨Aa,Ab,Ac,Ad⟩:=ce4 a0
 obtain ⟨Ai,Aj⟩:=ce2 a1
 clear Ax Ay Az A0 A1 A2 A3 A4 A5 A6
 clear hk hw'
 go_wp2_with (go_at_call 34;with_reducible refine (chVB hb R C10).mono ?_;clear hb;rintro e w1 ⟨rfl,hk,hb⟩;clear Aa Ab Ac Ad;replace a0:=zB hk a0;obtain ⟨Aa,Ab,Ac,Ad⟩:=ce4 a0;clear hk)
 first | go_ret | go_ret2 | go_ret3
 exact ⟨rfl,hb⟩
theorem lawHeights (s0 s1 s2 s3 s4 s5:ByteArray) (ms0:s0.size≤9223372036854775807) (ms1:s1.size≤9223372036854775807) (ms2:s2.size≤9223372036854775807) (ms3:s3.size≤9223372036854775807) (ms4:s4.size≤9223372036854775807) (ms5:s5.size≤9223372036854775807) (w:World) (R:EnvV w) :
   Calls Tryz.prog 8 #[.agg #[.string s0,.string s1,.string s2,.string s3],.agg #[.string s4,.string s5]] w (Ret w (.bool true)):=by
 by_cases hs:s0.size≤24∧s1.size≤24∧s2.size≤24∧s3.size≤24∧s4.size≤24∧s5.size≤24
 case neg=>exact heights_long s0 s1 s2 s3 s4 s5 hs ms0 ms1 ms2 ms3 ms4 ms5 w R
 have z3:s3.size≤100000:=Nat.le_trans hs.2.2.2.1 (by decide)
 have z4:s4.size≤100000:=Nat.le_trans hs.2.2.2.2.1 (by decide)
 have z5:s5.size≤100000:=Nat.le_trans hs.2.2.2.2.2 (by decide)
 obtain ⟨eo,ho,co⟩:∃ eo:Int,(IsRat s3.data.toList∧eo=0∨¬ IsRat s3.data.toList∧eo=2)∧CV 78 #[.string s3] (.int .i64 eo):=by
   by_cases h:IsRat s3.data.toList
   · exact ⟨0,Or.inl ⟨h,rfl⟩,fun w R=>rcheck_any s3 0 (Or.inl ⟨h,rfl⟩) z3 w R.toEnvR⟩
   · exact ⟨2,Or.inr ⟨h,rfl⟩,fun w R=>rcheck_any s3 2 (Or.inr ⟨h,rfl⟩) z3 w R.toEnvR⟩
 obtain ⟨ep,hp,cp⟩:∃ ep:Int,((IsRat s4.data.toList∧IsRat s5.data.toList)∧ep=0∨¬ (IsRat s4.data.toList∧IsRat s5.data.toList)∧ep=2)∧CV 77 #[.agg #[.string s4,.string s5]] (.int .i64 ep):=by
   by_cases h:IsRat s4.data.toList∧IsRat s5.data.toList
   · exact ⟨0,Or.inl ⟨h,rfl⟩,fun w R=>check2_raw s4 s5 0 (fun _=>rfl) (fun k=>absurd h k) z4 z5 w R⟩
   · exact ⟨2,Or.inr ⟨h,rfl⟩,fun w R=>check2_raw s4 s5 2 (fun k=>absurd k h) (fun _=>rfl) z4 z5 w R⟩
 rcases normal_cases s0 s1 s2 hs.1 hs.2.1 hs.2.2.1 with ⟨v,hv⟩ | ⟨a,b,c,rfl,rfl,rfl,na,nb,nc,h⟩
 · exact heights_E s0 s1 s2 s3 s4 s5 v hv (by omega) (by omega) (by omega) eo ep _ co cp rfl hs w R
 · by_cases hr:IsRat s3.data.toList∧IsRat s4.data.toList∧IsRat s5.data.toList
   · obtain ⟨d,rfl,_⟩:=rat_of hr.1
     obtain ⟨x,rfl,_⟩:=rat_of hr.2.1
     obtain ⟨y,rfl,_⟩:=rat_of hr.2.2
     have nd:RN d 24 24:=RN_of (RL_of_size hs.2.2.2.1)
     have nx:RN x 24 24:=RN_of (RL_of_size hs.2.2.2.2.1)
     have ny:RN y 24 24:=RN_of (RL_of_size hs.2.2.2.2.2)
     by_cases g:c=0
     · exact heights_V a b c d x y h na nb nc nd nx ny hs g w R
     · exact heights_O a b c d x y na nb nc nd nx ny hs g w R
   · refine heights_N a b c s3 s4 s5 h na nb nc eo ep co cp ?_ hr z3 z4 z5 hs w R
     rcases ho with ⟨h1,rfl⟩ | ⟨_,rfl⟩
     · rcases hp with ⟨h2,rfl⟩ | ⟨_,rfl⟩
       · exact absurd ⟨h1,h2⟩ hr
       · decide
     · exact fnz_1 2 ep (by decide)
end Go.Proofs.YtejfiegmdllfbaaGreatDoor.Kl
