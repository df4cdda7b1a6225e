import Derived.Test.YtejfiegmdllfbaaGreatDoorKlAOrdersAtG
import Derived.Test.YtejfiegmdllfbaaGreatDoorKlAOrdersAtO
namespace Go.Proofs.YtejfiegmdllfbaaGreatDoor.Kl
open Go Go.RowKit
set_option maxRecDepth 100000
set_option maxHeartbeats 8000000
theorem sgn_swap (a b:Rat):(b - a).num.sign = -(a - b).num.sign:=by
 rw [show b - a = -(a - b) by grind];show (-(a - b).num).sign=_;rw [Int.sign_neg]
theorem sgn_in (z:Int) : -1≤z.sign∧z.sign≤1:=by
 rcases Int.lt_trichotomy z 0 with h | h | h
 · rw [Int.sign_eq_neg_one_of_neg h];decide
 · rw [h];decide
 · rw [Int.sign_eq_one_of_pos h];decide
theorem orders_long  (i j:Int) (s0 s1:ByteArray) (hl:¬ (s0.size≤24∧s1.size≤24)) (ms0:s0.size≤9223372036854775807) (ms1:s1.size≤9223372036854775807) (w:World) (R:EnvV w) :
   Calls Tryz.prog 6 #[.agg #[.int .i64 i,.string s0],.agg #[.int .i64 j,.string s1]] w (Ret w (.bool true)):=by
 have c1:=known15_any
 have c2:=short2 s0 s1 false ⟨(fun h=>by cases h),fun k=>absurd k hl⟩ ms0 ms1
 have C1:=Lib.hid c1
 have C2:=Lib.hid c2
 clear c1 c2 hl ms0 ms1
 have hb:=Below.refl w.heap.size w
 go_enter Tryz.func6,Tryz.ntmps6
 go_upto_region 1 with fail
 refine wp_alloc2 (fun w1 a0 a1 hk=>?_)
 replace hb:=hb.trans (hk.mono hb.size)
 clear hk
 obtain ⟨Aa,Ab⟩:=ce2 a0
 obtain ⟨Ac,Ad⟩:=ce2 a1
 go_wp2_with ((first | (go_at_call 11;first | with_reducible refine (chVB hb R C1).mono ?_ | with_reducible refine (chVB hb R C1).mono ?_) | (go_at_call 12;with_reducible refine (zL hb (C2.out _ (R.below hb))).mono ?_));clear hb;rintro e w1 ⟨rfl,hk,hb⟩;clear Aa Ab Ac Ad;replace a0:=zB hk a0;replace a1:=zB hk a1;obtain ⟨Aa,Ab⟩:=ce2 a0;obtain ⟨Ac,Ad⟩:=ce2 a1;clear hk)
 first | go_ret | go_ret2 | go_ret3
 exact ⟨rfl,hb⟩
theorem orders_e1  (i j v u:Int) (s0 s1:ByteArray) (ka:CKS i s0 v) (kb:CKS j s1 u) (hv:v≠0) (hs:s0.size≤24∧s1.size≤24) (w:World) (R:EnvV w) :
   Calls Tryz.prog 6 #[.agg #[.int .i64 i,.string s0],.agg #[.int .i64 j,.string s1]] w (Ret w (.bool true)):=by
 have c1:=known15_any
 have c2:∀ w,EnvV w→Calls Tryz.prog 12 #[.slice (some ⟨w.heap.size,0,none⟩) 2 2] (w.alloc (Obj.cells #[Value.string s0,Value.string s1] 22)) (Ret w (.bool true)):=fun w R=>short2 s0 s1 true ⟨fun _=>hs,fun _=>rfl⟩ (Nat.le_trans hs.1 (by decide)) (Nat.le_trans hs.2 (by decide)) w R
 have c3:=before_err i j s0 s1 v u v ka.1 kb.1 (fnz_1 v u hv) hv
 have c4:=ka.2
 have eqv:(v == 0)=false:=beq_eq_false_iff_ne.2 hv
 have pqv:¬ v=0:=hv
 have C1:=Lib.hid c1
 have C2:=Lib.hid c2
 have C3:=Lib.hid c3
 have C4:=Lib.hid c4
 clear c1 c2 c3 c4 ka kb hv hs
 have hb:=Below.refl w.heap.size w
 go_enter Tryz.func6,Tryz.ntmps6
 go_upto_region 1 with fail
 refine wp_alloc2 (fun w1 a0 a1 hk=>?_)
 replace hb:=hb.trans (hk.mono hb.size)
 clear hk
 obtain ⟨Aa,Ab⟩:=ce2 a0
 obtain ⟨Ac,Ad⟩:=ce2 a1
 go_wp2_with ((first | (go_at_call 11;with_reducible refine (chVB hb R C1).mono ?_) | (go_at_call 12;with_reducible refine (zL hb (C2.out _ (R.below hb))).mono ?_) | (go_at_call 29;with_reducible refine (chVB hb R C3).mono ?_) | (go_at_call 30;with_reducible refine (chVB hb R C4).mono ?_));clear hb;rintro e w1 ⟨rfl,hk,hb⟩;clear Aa Ab Ac Ad;replace a0:=zB hk a0;replace a1:=zB hk a1;obtain ⟨Aa,Ab⟩:=ce2 a0;obtain ⟨Ac,Ad⟩:=ce2 a1;clear hk)
 first | go_ret | go_ret2 | go_ret3
 exact ⟨rfl,hb⟩
theorem orders_e2  (i j v:Int) (s0 s1:ByteArray) (ka:CKS i s0 0) (kb:CKS j s1 v) (hv:v≠0) (hs:s0.size≤24∧s1.size≤24) (w:World) (R:EnvV w) :
   Calls Tryz.prog 6 #[.agg #[.int .i64 i,.string s0],.agg #[.int .i64 j,.string s1]] w (Ret w (.bool true)):=by
 have c1:=known15_any
 have c2:∀ w,EnvV w→Calls Tryz.prog 12 #[.slice (some ⟨w.heap.size,0,none⟩) 2 2] (w.alloc (Obj.cells #[Value.string s0,Value.string s1] 22)) (Ret w (.bool true)):=fun w R=>short2 s0 s1 true ⟨fun _=>hs,fun _=>rfl⟩ (Nat.le_trans hs.1 (by decide)) (Nat.le_trans hs.2 (by decide)) w R
 have c3:=before_err i j s0 s1 0 v v ka.1 kb.1 (fnz_l v) hv
 have c4:=ka.2
 have c5:=kb.2
 have eqv:(v == 0)=false:=beq_eq_false_iff_ne.2 hv
 have pqv:¬ v=0:=hv
 have C1:=Lib.hid c1
 have C2:=Lib.hid c2
 have C3:=Lib.hid c3
 have C4:=Lib.hid c4
 have C5:=Lib.hid c5
 clear c1 c2 c3 c4 c5 ka kb hv hs
 have hb:=Below.refl w.heap.size w
 go_enter Tryz.func6,Tryz.ntmps6
 go_upto_region 1 with fail
 refine wp_alloc2 (fun w1 a0 a1 hk=>?_)
 replace hb:=hb.trans (hk.mono hb.size)
 clear hk
 obtain ⟨Aa,Ab⟩:=ce2 a0
 obtain ⟨Ac,Ad⟩:=ce2 a1
 go_wp2_with ((first | (go_at_call 11;with_reducible refine (chVB hb R C1).mono ?_) | (go_at_call 12;with_reducible refine (zL hb (C2.out _ (R.below hb))).mono ?_) | (go_at_call 29;with_reducible refine (chVB hb R C3).mono ?_) | (go_at_call 30;first | with_reducible refine (chVB hb R C4).mono ?_ | with_reducible refine (chVB hb R C5).mono ?_));clear hb;rintro e w1 ⟨rfl,hk,hb⟩;clear Aa Ab Ac Ad;replace a0:=zB hk a0;replace a1:=zB hk a1;obtain ⟨Aa,Ab⟩:=ce2 a0;obtain ⟨Ac,Ad⟩:=ce2 a1;clear hk)
 first | go_ret | go_ret2 | go_ret3
 exact ⟨rfl,hb⟩
theorem orders_lt  (i j:Int) (a b:Rat) (na:RN a 24 24) (nb:RN b 24 24) (ka:CKS i (ratB a) 0) (kb:CKS j (ratB b) 0) (hij:i < j) (hs:(ratB a).size≤24∧(ratB b).size≤24) (w:World) (R:EnvV w) :
   Calls Tryz.prog 6 #[.agg #[.int .i64 i,.string (ratB a)],.agg #[.int .i64 j,.string (ratB b)]] w (Ret w (.bool true)):=by
 have c1:=known15_any
 have c2:∀ w,EnvV w→Calls Tryz.prog 12 #[.slice (some ⟨w.heap.size,0,none⟩) 2 2] (w.alloc (Obj.cells #[Value.string (ratB a),Value.string (ratB b)] 22)) (Ret w (.bool true)):=fun w R=>short2 (ratB a) (ratB b) true ⟨fun _=>hs,fun _=>rfl⟩ (Nat.le_trans hs.1 (by decide)) (Nat.le_trans hs.2 (by decide)) w R
 have c3:CV 29 #[.agg #[.int .i64 i,.string (ratB a)],.agg #[.int .i64 j,.string (ratB b)]] (.tuple #[.int .i64 (-1),.int .i64 0]):=fun w R=>before_ne i j (-1) (ratB a) (ratB b) ka.1 kb.1 (by omega) (by unfold Lib.compareInt;rw [if_pos hij]) w R
 have c4:=ka.2
 have c5:=kb.2
 have c6:=fun (w:World) (R:EnvV w)=>rcompare_any a b na.rm nb.rm w R.toEnvR
 have gi:i < j:=hij
 obtain ⟨Ag,Aa⟩:∃ vq,ratB a=vq:=⟨_,rfl⟩
 obtain ⟨Ah,Ab⟩:∃ vq,ratB b=vq:=⟨_,rfl⟩
 try simp only [Aa,Ab] at c1 c2 c3 c4 c5 c6 gi ⊢
 obtain ⟨sg,esg⟩:∃ vq,(a - b).num.sign=vq:=⟨_,rfl⟩
 try simp only [esg] at c1 c2 c3 c4 c5 c6 gi ⊢
 have C1:=Lib.hid c1
 have C2:=Lib.hid c2
 have C3:=Lib.hid c3
 have C4:=Lib.hid c4
 have C5:=Lib.hid c5
 have C6:=Lib.hid c6
 clear c1 c2 c3 c4 c5 c6 Aa Ab esg na nb ka kb hij hs
 have hb:=Below.refl w.heap.size w
 go_enter Tryz.func6,Tryz.ntmps6
 go_upto_region 1 with fail
 refine wp_alloc2 (fun w1 a0 a1 hk=>?_)
 replace hb:=hb.trans (hk.mono hb.size)
 clear hk
 obtain ⟨Ac,Ad⟩:=ce2 a0
 obtain ⟨Ae,Af⟩:=ce2 a1
 go_wp2_with ((first | (go_at_call 11;with_reducible refine (chVB hb R C1).mono ?_) | (go_at_call 12;with_reducible refine (zL hb (C2.out _ (R.below hb))).mono ?_) | (go_at_call 29;with_reducible refine (chVB hb R C3).mono ?_) | (go_at_call 30;first | with_reducible refine (chVB hb R C4).mono ?_ | with_reducible refine (chVB hb R C5).mono ?_) | (go_at_call 31;with_reducible refine (chVB hb R C6).mono ?_));clear hb;rintro e w1 ⟨rfl,hk,hb⟩;clear Ac Ad Ae Af;replace a0:=zB hk a0;replace a1:=zB hk a1;obtain ⟨Ac,Ad⟩:=ce2 a0;obtain ⟨Ae,Af⟩:=ce2 a1;clear hk)
 first | go_ret | go_ret2 | go_ret3
 exact ⟨rfl,hb⟩
theorem orders_gt  (i j:Int) (a b:Rat) (na:RN a 24 24) (nb:RN b 24 24) (ka:CKS i (ratB a) 0) (kb:CKS j (ratB b) 0) (hij:j < i) (hs:(ratB a).size≤24∧(ratB b).size≤24) (w:World) (R:EnvV w) :
   Calls Tryz.prog 6 #[.agg #[.int .i64 i,.string (ratB a)],.agg #[.int .i64 j,.string (ratB b)]] w (Ret w (.bool true)):=by
 have c1:=known15_any
 have c2:∀ w,EnvV w→Calls Tryz.prog 12 #[.slice (some ⟨w.heap.size,0,none⟩) 2 2] (w.alloc (Obj.cells #[Value.string (ratB a),Value.string (ratB b)] 22)) (Ret w (.bool true)):=fun w R=>short2 (ratB a) (ratB b) true ⟨fun _=>hs,fun _=>rfl⟩ (Nat.le_trans hs.1 (by decide)) (Nat.le_trans hs.2 (by decide)) w R
 have c3:CV 29 #[.agg #[.int .i64 i,.string (ratB a)],.agg #[.int .i64 j,.string (ratB b)]] (.tuple #[.int .i64 1,.int .i64 0]):=fun w R=>before_ne i j (1) (ratB a) (ratB b) ka.1 kb.1 (by omega) (by unfold Lib.compareInt;rw [if_neg (by omega),if_pos hij]) w R
 have c4:=ka.2
 have c5:=kb.2
 have c6:=fun (w:World) (R:EnvV w)=>rcompare_any a b na.rm nb.rm w R.toEnvR
 have gi:j < i:=hij
 obtain ⟨Ag,Aa⟩:∃ vq,ratB a=vq:=⟨_,rfl⟩
 obtain ⟨Ah,Ab⟩:∃ vq,ratB b=vq:=⟨_,rfl⟩
 try simp only [Aa,Ab] at c1 c2 c3 c4 c5 c6 gi ⊢
 obtain ⟨sg,esg⟩:∃ vq,(a - b).num.sign=vq:=⟨_,rfl⟩
 try simp only [esg] at c1 c2 c3 c4 c5 c6 gi ⊢
 have C1:=Lib.hid c1
 have C2:=Lib.hid c2
 have C3:=Lib.hid c3
 have C4:=Lib.hid c4
 have C5:=Lib.hid c5
 have C6:=Lib.hid c6
 clear c1 c2 c3 c4 c5 c6 Aa Ab esg na nb ka kb hij hs
 have hb:=Below.refl w.heap.size w
 go_enter Tryz.func6,Tryz.ntmps6
 go_upto_region 1 with fail
 refine wp_alloc2 (fun w1 a0 a1 hk=>?_)
 replace hb:=hb.trans (hk.mono hb.size)
 clear hk
 obtain ⟨Ac,Ad⟩:=ce2 a0
 obtain ⟨Ae,Af⟩:=ce2 a1
 go_wp2_with ((first | (go_at_call 11;with_reducible refine (chVB hb R C1).mono ?_) | (go_at_call 12;with_reducible refine (zL hb (C2.out _ (R.below hb))).mono ?_) | (go_at_call 29;with_reducible refine (chVB hb R C3).mono ?_) | (go_at_call 30;first | with_reducible refine (chVB hb R C4).mono ?_ | with_reducible refine (chVB hb R C5).mono ?_) | (go_at_call 31;with_reducible refine (chVB hb R C6).mono ?_));clear hb;rintro e w1 ⟨rfl,hk,hb⟩;clear Ac Ad Ae Af;replace a0:=zB hk a0;replace a1:=zB hk a1;obtain ⟨Ac,Ad⟩:=ce2 a0;obtain ⟨Ae,Af⟩:=ce2 a1;clear hk)
 first | go_ret | go_ret2 | go_ret3
 exact ⟨rfl,hb⟩
theorem orders_0  (i:Int) (a b:Rat) (na:RN a 24 24) (nb:RN b 24 24) (ka:CKS i (ratB a) 0) (kb:CKS i (ratB b) 0) (hk:0≤i∧i≤7) (hm:i.tmod 2=0) (hs:(ratB a).size≤24∧(ratB b).size≤24) (w:World) (R:EnvV w) :
   Calls Tryz.prog 6 #[.agg #[.int .i64 i,.string (ratB a)],.agg #[.int .i64 i,.string (ratB b)]] w (Ret w (.bool true)):=by
 have c1:=known15_any
 have c2:∀ w,EnvV w→Calls Tryz.prog 12 #[.slice (some ⟨w.heap.size,0,none⟩) 2 2] (w.alloc (Obj.cells #[Value.string (ratB a),Value.string (ratB b)] 22)) (Ret w (.bool true)):=fun w R=>short2 (ratB a) (ratB b) true ⟨fun _=>hs,fun _=>rfl⟩ (Nat.le_trans hs.1 (by decide)) (Nat.le_trans hs.2 (by decide)) w R
 have c3:=before_0 i a b na nb ka.1 kb.1 hk hm
 have c4:=ka.2
 have c5:=kb.2
 have c6:=fun (w:World) (R:EnvV w)=>rcompare_any a b na.rm nb.rm w R.toEnvR
 have gm:i.tmod 2=0:=hm
 have gk:0≤i∧i≤7:=hk
 obtain ⟨Ag,Aa⟩:∃ vq,ratB a=vq:=⟨_,rfl⟩
 obtain ⟨Ah,Ab⟩:∃ vq,ratB b=vq:=⟨_,rfl⟩
 try simp only [Aa,Ab] at c1 c2 c3 c4 c5 c6 gm gk ⊢
 obtain ⟨sg,esg⟩:∃ vq,(a - b).num.sign=vq:=⟨_,rfl⟩
 try simp only [esg] at c1 c2 c3 c4 c5 c6 gm gk ⊢
 have C1:=Lib.hid c1
 have C2:=Lib.hid c2
 have C3:=Lib.hid c3
 have C4:=Lib.hid c4
 have C5:=Lib.hid c5
 have C6:=Lib.hid c6
 clear c1 c2 c3 c4 c5 c6 Aa Ab esg na nb ka kb hk hm hs
 have hb:=Below.refl w.heap.size w
 go_enter Tryz.func6,Tryz.ntmps6
 go_upto_region 1 with fail
 refine wp_alloc2 (fun w1 a0 a1 hk=>?_)
 replace hb:=hb.trans (hk.mono hb.size)
 clear hk
 obtain ⟨Ac,Ad⟩:=ce2 a0
 obtain ⟨Ae,Af⟩:=ce2 a1
 go_wp2_with ((first | (go_at_call 11;with_reducible refine (chVB hb R C1).mono ?_) | (go_at_call 12;with_reducible refine (zL hb (C2.out _ (R.below hb))).mono ?_) | (go_at_call 29;with_reducible refine (chVB hb R C3).mono ?_) | (go_at_call 30;first | with_reducible refine (chVB hb R C4).mono ?_ | with_reducible refine (chVB hb R C5).mono ?_) | (go_at_call 31;with_reducible refine (chVB hb R C6).mono ?_));clear hb;rintro e w1 ⟨rfl,hk,hb⟩;clear Ac Ad Ae Af;replace a0:=zB hk a0;replace a1:=zB hk a1;obtain ⟨Ac,Ad⟩:=ce2 a0;obtain ⟨Ae,Af⟩:=ce2 a1;clear hk)
 first | go_ret | go_ret2 | go_ret3
 exact ⟨rfl,hb⟩
theorem orders_1  (i:Int) (a b:Rat) (na:RN a 24 24) (nb:RN b 24 24) (ka:CKS i (ratB a) 0) (kb:CKS i (ratB b) 0) (hk:0≤i∧i≤7) (hm:i.tmod 2=1) (hs:(ratB a).size≤24∧(ratB b).size≤24) (w:World) (R:EnvV w) :
   Calls Tryz.prog 6 #[.agg #[.int .i64 i,.string (ratB a)],.agg #[.int .i64 i,.string (ratB b)]] w (Ret w (.bool true)):=by
 have c1:=known15_any
 have c2:∀ w,EnvV w→Calls Tryz.prog 12 #[.slice (some ⟨w.heap.size,0,none⟩) 2 2] (w.alloc (Obj.cells #[Value.string (ratB a),Value.string (ratB b)] 22)) (Ret w (.bool true)):=fun w R=>short2 (ratB a) (ratB b) true ⟨fun _=>hs,fun _=>rfl⟩ (Nat.le_trans hs.1 (by decide)) (Nat.le_trans hs.2 (by decide)) w R
 have c3:CV 29 #[.agg #[.int .i64 i,.string (ratB a)],.agg #[.int .i64 i,.string (ratB b)]] (.tuple #[.int .i64 (-(a - b).num.sign),.int .i64 0]):=fun w R=>(by have h:=before_1 i a b na nb ka.1 kb.1 hk hm w R;rw [sgn_swap] at h;exact h)
 have c4:=ka.2
 have c5:=kb.2
 have c6:=fun (w:World) (R:EnvV w)=>rcompare_any a b na.rm nb.rm w R.toEnvR
 have gm:i.tmod 2=1:=hm
 have gk:0≤i∧i≤7:=hk
 have gw:IntKind.i64.wrap (-(a - b).num.sign) = -(a - b).num.sign:=IntWalk.i64_in _ (by have:=sgn_in (a - b).num;omega)
 have gv : -1≤(a - b).num.sign∧(a - b).num.sign≤1:=sgn_in (a - b).num
 obtain ⟨Ag,Aa⟩:∃ vq,ratB a=vq:=⟨_,rfl⟩
 obtain ⟨Ah,Ab⟩:∃ vq,ratB b=vq:=⟨_,rfl⟩
 try simp only [Aa,Ab] at c1 c2 c3 c4 c5 c6 gm gk gw gv ⊢
 obtain ⟨sg,esg⟩:∃ vq,(a - b).num.sign=vq:=⟨_,rfl⟩
 try simp only [esg] at c1 c2 c3 c4 c5 c6 gm gk gw gv ⊢
 have C1:=Lib.hid c1
 have C2:=Lib.hid c2
 have C3:=Lib.hid c3
 have C4:=Lib.hid c4
 have C5:=Lib.hid c5
 have C6:=Lib.hid c6
 clear c1 c2 c3 c4 c5 c6 Aa Ab esg na nb ka kb hk hm hs
 have hb:=Below.refl w.heap.size w
 go_enter Tryz.func6,Tryz.ntmps6
 go_upto_region 1 with fail
 refine wp_alloc2 (fun w1 a0 a1 hk=>?_)
 replace hb:=hb.trans (hk.mono hb.size)
 clear hk
 obtain ⟨Ac,Ad⟩:=ce2 a0
 obtain ⟨Ae,Af⟩:=ce2 a1
 go_wp2_with ((first | (go_at_call 11;with_reducible refine (chVB hb R C1).mono ?_) | (go_at_call 12;with_reducible refine (zL hb (C2.out _ (R.below hb))).mono ?_) | (go_at_call 29;with_reducible refine (chVB hb R C3).mono ?_) | (go_at_call 30;first | with_reducible refine (chVB hb R C4).mono ?_ | with_reducible refine (chVB hb R C5).mono ?_) | (go_at_call 31;with_reducible refine (chVB hb R C6).mono ?_));clear hb;rintro e w1 ⟨rfl,hk,hb⟩;clear Ac Ad Ae Af;replace a0:=zB hk a0;replace a1:=zB hk a1;obtain ⟨Ac,Ad⟩:=ce2 a0;obtain ⟨Ae,Af⟩:=ce2 a1;clear hk)
 first | go_ret | go_ret2 | go_ret3
 exact ⟨rfl,hb⟩
theorem lawOrders (i j:Int) (s0 s1:ByteArray) (ms0:s0.size≤9223372036854775807) (ms1:s1.size≤9223372036854775807) (w:World) (R:EnvV w) :
   Calls Tryz.prog 6 #[.agg #[.int .i64 i,.string s0],.agg #[.int .i64 j,.string s1]] w (Ret w (.bool true)):=by
 by_cases hs:s0.size≤24∧s1.size≤24
 case neg=>exact orders_long i j s0 s1 hs ms0 ms1 w R
 rcases cks i s0 hs.1 with ⟨v,hv,ka⟩ | ⟨ka,hk,a,rfl,na⟩
 · obtain ⟨u,kb⟩:∃ u,CKS j s1 u:=by
     rcases cks j s1 hs.2 with ⟨u,_,kb⟩ | ⟨kb,_⟩
     · exact ⟨u,kb⟩
     · exact ⟨0,kb⟩
   exact orders_e1 i j v u s0 s1 ka kb hv hs w R
 · rcases cks j s1 hs.2 with ⟨v,hv,kb⟩ | ⟨kb,hk2,b,rfl,nb⟩
   · exact orders_e2 i j v (ratB a) s1 ka kb hv hs w R
   · rcases Int.lt_trichotomy i j with h | rfl | h
     · exact orders_lt i j a b na nb ka kb h hs w R
     · rcases tmod2 i hk.1 with hm | hm
       · exact orders_0 i a b na nb ka kb hk hm hs w R
       · exact orders_1 i a b na nb ka kb hk hm hs w R
     · exact orders_gt i j a b na nb ka kb h hs w R
end Go.Proofs.YtejfiegmdllfbaaGreatDoor.Kl
