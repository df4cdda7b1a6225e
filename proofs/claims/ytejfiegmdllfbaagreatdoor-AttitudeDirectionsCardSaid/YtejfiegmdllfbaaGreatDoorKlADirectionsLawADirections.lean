import Derived.Test.YtejfiegmdllfbaaGreatDoorKlADirectionsAtP
namespace Go.Proofs.YtejfiegmdllfbaaGreatDoor.Kl
open Go Go.RowKit
set_option maxRecDepth 100000
set_option maxHeartbeats 8000000
theorem dirs_long  (s0 s1 s2:ByteArray) (hl:¬ (s0.size≤24∧s1.size≤24∧s2.size≤24)) (ms0:s0.size≤9223372036854775807) (ms1:s1.size≤9223372036854775807) (ms2:s2.size≤9223372036854775807) (w:World) (R:EnvV w) :
   Calls Tryz.prog 4 #[.agg #[.string s0,.string s1,.string s2]] w (Ret w (.bool true)):=by
 have c1:=known15_any
 have c2:=short3 s0 s1 s2 false ⟨(fun h=>by cases h),fun k=>absurd k hl⟩ ms0 ms1 ms2
 have C1:=Lib.hid c1
 have C2:=Lib.hid c2
 clear c1 c2 hl ms0 ms1 ms2
 have hb:=Below.refl w.heap.size w
 go_enter Tryz.func4,Tryz.ntmps4
 go_upto_region 1 with fail
 refine wp_alloc1 (fun w1 a0 hk=>?_)
 replace hb:=hb.trans (hk.mono hb.size)
 clear hk
 obtain ⟨Aa,Ab,Ac⟩:=ce3 a0
 go_wp2_with ((first | (go_at_call 11;first | with_reducible refine (chVB hb R C1).mono ?_ | with_reducible refine (chVB hb R C1).mono ?_) | (go_at_call 12;with_reducible refine (zL hb (C2.out _ (R.below hb))).mono ?_));clear hb;rintro e w1 ⟨rfl,hk,hb⟩;clear Aa Ab Ac;replace a0:=zB hk a0;obtain ⟨Aa,Ab,Ac⟩:=ce3 a0;clear hk)
 first | go_ret | go_ret2 | go_ret3
 exact ⟨rfl,hb⟩
theorem dirs_E  (s0 s1 s2:ByteArray) (v:Int) (hv:NErr s0 s1 s2 v) (zs0:s0.size≤100000) (zs1:s1.size≤100000) (zs2:s2.size≤100000) (hs:s0.size≤24∧s1.size≤24∧s2.size≤24) (w:World) (R:EnvV w) :
   Calls Tryz.prog 4 #[.agg #[.string s0,.string s1,.string s2]] w (Ret w (.bool true)):=by
 have c1:=known15_any
 have c2:∀ w,EnvV w→Calls Tryz.prog 12 #[.slice (some ⟨w.heap.size,0,none⟩) 3 3] (w.alloc (Obj.cells #[Value.string s0,Value.string s1,Value.string s2] 22)) (Ret w (.bool true)):=fun w R=>short3 s0 s1 s2 true ⟨fun _=>hs,fun _=>rfl⟩ (Nat.le_trans hs.1 (by decide)) (Nat.le_trans hs.2.1 (by decide)) (Nat.le_trans hs.2.2 (by decide)) w R
 have c3:=fun (w:World) (R:EnvV w)=>atoward_err s0 s1 s2 v (fun w R=>acheck_err s0 s1 s2 v hv zs0 zs1 zs2 w R) hv.ne w R
 have c4:=fun (w:World) (R:EnvV w)=>strike_err s0 s1 s2 v (fun w R=>acheck_err s0 s1 s2 v hv zs0 zs1 zs2 w R) hv.ne w R
 have c5:=normal_err s0 s1 s2 v hv zs0 zs1 zs2
 have eqv:(v == 0)=false:=beq_eq_false_iff_ne.2 hv.ne
 have pqv:¬ v=0:=hv.ne
 have C1:=Lib.hid c1
 have C2:=Lib.hid c2
 have C3:=Lib.hid c3
 have C4:=Lib.hid c4
 have C5:=Lib.hid c5
 clear c1 c2 c3 c4 c5 hv zs0 zs1 zs2 hs
 have hb:=Below.refl w.heap.size w
 go_enter Tryz.func4,Tryz.ntmps4
 go_upto_region 1 with fail
 refine wp_alloc1 (fun w1 a0 hk=>?_)
 replace hb:=hb.trans (hk.mono hb.size)
 clear hk
 obtain ⟨Aa,Ab,Ac⟩:=ce3 a0
 go_upto_region 4 with ((first | (go_at_call 11;with_reducible refine (chVB hb R C1).mono ?_) | (go_at_call 12;with_reducible refine (zL hb (C2.out _ (R.below hb))).mono ?_) | (go_at_call 18;with_reducible refine (chVB hb R C3).mono ?_));clear hb;rintro e w1 ⟨rfl,hk,hb⟩;clear Aa Ab Ac;replace a0:=zB hk a0;obtain ⟨Aa,Ab,Ac⟩:=ce3 a0;clear hk)
 refine wp_alloc1 (fun w1 Ad hk=>?_)
 clear Aa Ab Ac
 replace a0:=zB hk a0
 obtain ⟨Aa,Ab,Ac⟩:=ce3 a0
 replace hb:=hb.trans (hk.mono hb.size)
 clear hk
 obtain ⟨Ae,Af⟩:=ce2 Ad
 go_upto_region 5 with (go_at_call 19;with_reducible refine (chVB hb R C4).mono ?_;clear hb;rintro e w1 ⟨rfl,hk,hb⟩;clear Aa Ab Ac Ae Af;replace a0:=zB hk a0;replace Ad:=zB hk Ad;obtain ⟨Aa,Ab,Ac⟩:=ce3 a0;obtain ⟨Ae,Af⟩:=ce2 Ad;clear hk)
 refine wp_alloc1 (fun w1 Ag hk=>?_)
 clear Aa Ab Ac Ae Af
 replace a0:=zB hk a0
 replace Ad:=zB hk Ad
 obtain ⟨Aa,Ab,Ac⟩:=ce3 a0
 obtain ⟨Ae,Af⟩:=ce2 Ad
 replace hb:=hb.trans (hk.mono hb.size)
 clear hk
 obtain ⟨Ah,Ai⟩:=ce2 Ag
 go_wp2_with (go_at_call 16;with_reducible refine (chVB hb R C5).mono ?_;clear hb;rintro e w1 ⟨rfl,hk,hb⟩;clear Aa Ab Ac Ae Af Ah Ai;replace a0:=zB hk a0;replace Ad:=zB hk Ad;replace Ag:=zB hk Ag;obtain ⟨Aa,Ab,Ac⟩:=ce3 a0;obtain ⟨Ae,Af⟩:=ce2 Ad;obtain ⟨Ah,Ai⟩:=ce2 Ag;clear hk)
 first | go_ret | go_ret2 | go_ret3
 exact ⟨rfl,hb⟩
theorem dirs_N  (a b c:Rat) (h:a≠0∨b≠0∨c≠0) (na:RN a 24 24) (nb:RN b 24 24) (nc:RN c 24 24) (hs:(ratB a).size≤24∧(ratB b).size≤24∧(ratB c).size≤24) (q0:a=0) (q1:b=0) (w:World) (R:EnvV w) :
   Calls Tryz.prog 4 #[.agg #[.string (ratB a),.string (ratB b),.string (ratB c)]] w (Ret w (.bool true)):=by
 have c1:=known15_any
 have c2:∀ w,EnvV w→Calls Tryz.prog 12 #[.slice (some ⟨w.heap.size,0,none⟩) 3 3] (w.alloc (Obj.cells #[Value.string (ratB a),Value.string (ratB b),Value.string (ratB c)] 22)) (Ret w (.bool true)):=fun w R=>short3 (ratB a) (ratB b) (ratB c) true ⟨fun _=>hs,fun _=>rfl⟩ (Nat.le_trans hs.1 (by decide)) (Nat.le_trans hs.2.1 (by decide)) (Nat.le_trans hs.2.2 (by decide)) w R
 have c3:=toward_none a b c h (na.rl (K:=200)) (nb.rl (K:=200)) (nc.rl (K:=200)) q0 q1
 have c4:=strike_none a b c h (na.rl (K:=200)) (nb.rl (K:=200)) (nc.rl (K:=200)) q0 q1
 have c5:=normal_ok a b c (na.rl (K:=200)) (nb.rl (K:=200)) (nc.rl (K:=200)) h
 have eq0:((ratB a).toList == [48])=true:=by rw [ratB_eq_zero];exact decide_eq_true q0
 have pq0:(ratB a).toList=[48]:=(zero_iff _).2 q0
 have eq1:((ratB b).toList == [48])=true:=by rw [ratB_eq_zero];exact decide_eq_true q1
 have pq1:(ratB b).toList=[48]:=(zero_iff _).2 q1
 obtain ⟨Am,Ah⟩:∃ vq,ratB a=vq:=⟨_,rfl⟩
 obtain ⟨An,Ai⟩:∃ vq,ratB b=vq:=⟨_,rfl⟩
 obtain ⟨Ao,Aj⟩:∃ vq,ratB c=vq:=⟨_,rfl⟩
 try simp only [Ah,Ai,Aj] at c1 c2 c3 c4 c5 eq0 pq0 eq1 pq1 ⊢
 have C1:=Lib.hid c1
 have C2:=Lib.hid c2
 have C3:=Lib.hid c3
 have C4:=Lib.hid c4
 have C5:=Lib.hid c5
 clear c1 c2 c3 c4 c5 Ah Ai Aj q0 q1 h na nb nc hs
 have hb:=Below.refl w.heap.size w
 go_enter Tryz.func4,Tryz.ntmps4
 go_upto_region 1 with fail
 refine wp_alloc1 (fun w1 a0 hk=>?_)
 replace hb:=hb.trans (hk.mono hb.size)
 clear hk
 obtain ⟨Aa,Ab,Ac⟩:=ce3 a0
 go_upto_region 4 with ((first | (go_at_call 11;with_reducible refine (chVB hb R C1).mono ?_) | (go_at_call 12;with_reducible refine (zL hb (C2.out _ (R.below hb))).mono ?_) | (go_at_call 18;with_reducible refine (chVB hb R C3).mono ?_));clear hb;rintro e w1 ⟨rfl,hk,hb⟩;clear Aa Ab Ac;replace a0:=zB hk a0;obtain ⟨Aa,Ab,Ac⟩:=ce3 a0;clear hk)
 refine wp_alloc1 (fun w1 Ad hk=>?_)
 clear Aa Ab Ac
 replace a0:=zB hk a0
 obtain ⟨Aa,Ab,Ac⟩:=ce3 a0
 replace hb:=hb.trans (hk.mono hb.size)
 clear hk
 obtain ⟨Ae,Af⟩:=ce2 Ad
 go_upto_region 5 with (go_at_call 19;with_reducible refine (chVB hb R C4).mono ?_;clear hb;rintro e w1 ⟨rfl,hk,hb⟩;clear Aa Ab Ac Ae Af;replace a0:=zB hk a0;replace Ad:=zB hk Ad;obtain ⟨Aa,Ab,Ac⟩:=ce3 a0;obtain ⟨Ae,Af⟩:=ce2 Ad;clear hk)
 refine wp_alloc1 (fun w1 Ag hk=>?_)
 clear Aa Ab Ac Ae Af
 replace a0:=zB hk a0
 replace Ad:=zB hk Ad
 obtain ⟨Aa,Ab,Ac⟩:=ce3 a0
 obtain ⟨Ae,Af⟩:=ce2 Ad
 replace hb:=hb.trans (hk.mono hb.size)
 clear hk
 obtain ⟨Ak,Al⟩:=ce2 Ag
 go_wp2_with (go_at_call 16;with_reducible refine (chVB hb R C5).mono ?_;clear hb;rintro e w1 ⟨rfl,hk,hb⟩;clear Aa Ab Ac Ae Af Ak Al;replace a0:=zB hk a0;replace Ad:=zB hk Ad;replace Ag:=zB hk Ag;obtain ⟨Aa,Ab,Ac⟩:=ce3 a0;obtain ⟨Ae,Af⟩:=ce2 Ad;obtain ⟨Ak,Al⟩:=ce2 Ag;clear hk)
 first | go_ret | go_ret2 | go_ret3
 exact ⟨rfl,hb⟩
theorem dirs_t0  (a b c:Rat) (g:a≠0∨b≠0) (na:RN a 24 24) (nb:RN b 24 24) (nc:RN c 24 24) (hsg:c.num.sign < 0) (hs:(ratB a).size≤24∧(ratB b).size≤24∧(ratB c).size≤24) (q1:a≠0) (w:World) (R:EnvV w) :
   Calls Tryz.prog 4 #[.agg #[.string (ratB a),.string (ratB b),.string (ratB c)]] w (Ret w (.bool true)):=by
 have Ao:=RN_mul (RN_neg na) (RN_prim (n:=24) (d:=24) (g.elim (fun k=>Or.inl (neg_ne k)) (fun k=>Or.inr (Or.inl (neg_ne k)))) (by decide) (by decide) (RN.up (RN_neg na) (by decide) (by decide)) (RN.up (RN_neg nb) (by decide) (by decide)) (RN.up rn_0 (by decide) (by decide)))
 have Aj:=RN_mul (RN_neg nb) (RN_prim (n:=24) (d:=24) (g.elim (fun k=>Or.inl (neg_ne k)) (fun k=>Or.inr (Or.inl (neg_ne k)))) (by decide) (by decide) (RN.up (RN_neg na) (by decide) (by decide)) (RN.up (RN_neg nb) (by decide) (by decide)) (RN.up rn_0 (by decide) (by decide)))
 have Bl:RN (-((-b)*(primF (-a) (-b) (0:Rat)))) 96 48:=(RN_neg Aj)
 have Av:=nc.rl (K:=100000)
 have Ap:RN (-a) 24 24:=(RN_neg na)
 have Aw:=na.rl (K:=40000)
 have Aq:RN (-b) 24 24:=(RN_neg nb)
 have Ax:=nb.rl (K:=40000)
 have Ay:=Aj.rl (K:=40000)
 have Ar:=RN_mul Ap Aj
 have As:=RN_mul Aq Ao
 have Bm:=RN_sub (N:=192) Ar As
 have At:=RN_mul Ap Ao
 have Au:=RN_mul Aq Aj
 have Az:=RN_add (N:=192) At Au
 have A0:=Az.rl (K:=100000)
 have c1:=known15_any
 have c2:∀ w,EnvV w→Calls Tryz.prog 12 #[.slice (some ⟨w.heap.size,0,none⟩) 3 3] (w.alloc (Obj.cells #[Value.string (ratB a),Value.string (ratB b),Value.string (ratB c)] 22)) (Ret w (.bool true)):=fun w R=>short3 (ratB a) (ratB b) (ratB c) true ⟨fun _=>hs,fun _=>rfl⟩ (Nat.le_trans hs.1 (by decide)) (Nat.le_trans hs.2.1 (by decide)) (Nat.le_trans hs.2.2 (by decide)) w R
 have c3:=toward_t a b c g na nb nc hsg
 have c4:=strike_t a b c g na nb nc hsg
 have c5:=normal_ok a b c (na.rl (K:=200)) (nb.rl (K:=200)) (nc.rl (K:=200)) (g.elim Or.inl (fun k=>Or.inr (Or.inl k)))
 have c6:=fun (w:World) (R:EnvV w)=>rsign_any c Av w R.toEnvR
 have c7:=fun (w:World) (R:EnvV w)=>rneg_any a Aw w R.toEnvR
 have c8:=fun (w:World) (R:EnvV w)=>rneg_any b Ax w R.toEnvR
 have c9:∀ w,EnvV w→Calls Tryz.prog 21 #[.slice (some ⟨w.heap.size,0,none⟩) 2 2] (w.alloc (Obj.cells #[Value.string (ratB ((-a)*(primF (-a) (-b) (0:Rat)))),Value.string (ratB ((-b)*(primF (-a) (-b) (0:Rat))))] 22)) (Ret w (.bool true)):=fun w R=>right2 (ratB ((-a)*(primF (-a) (-b) (0:Rat)))) (ratB ((-b)*(primF (-a) (-b) (0:Rat)))) true ⟨fun _=>⟨isRat_of Ao.r2,isRat_of Aj.r2⟩,fun _=>rfl⟩ (Nat.le_trans (size_of_RL Ao.r2) (by decide)) (Nat.le_trans (size_of_RL Aj.r2) (by decide)) w R
 have c10:=fun (w:World) (R:EnvV w)=>rneg_any ((-b)*(primF (-a) (-b) (0:Rat))) Ay w R.toEnvR
 have c11:=fun (w:World) (R:EnvV w)=>rmul_any (-a) ((-b)*(primF (-a) (-b) (0:Rat))) Ap.rm Aj.rm w R.toEnvR
 have c12:=fun (w:World) (R:EnvV w)=>rmul_any (-b) ((-a)*(primF (-a) (-b) (0:Rat))) Aq.rm Ao.rm w R.toEnvR
 have c13:CV 22 #[.string (ratB ((-a)*((-b)*(primF (-a) (-b) (0:Rat))))),.string (ratB ((-b)*((-a)*(primF (-a) (-b) (0:Rat)))))] (.string ⟨#[48]⟩):=fun w R=>(by have h:=rsub_any ((-a)*((-b)*(primF (-a) (-b) (0:Rat)))) ((-b)*((-a)*(primF (-a) (-b) (0:Rat)))) Ar.rm As.rm w R.toEnvR;rw [show ((-a)*((-b)*(primF (-a) (-b) (0:Rat)))) - ((-b)*((-a)*(primF (-a) (-b) (0:Rat))))=0 from dir_cross (-a) (-b),rb_0] at h;exact h)
 have c14:=fun (w:World) (R:EnvV w)=>rmul_any (-a) ((-a)*(primF (-a) (-b) (0:Rat))) Ap.rm Ao.rm w R.toEnvR
 have c15:=fun (w:World) (R:EnvV w)=>rmul_any (-b) ((-b)*(primF (-a) (-b) (0:Rat))) Aq.rm Aj.rm w R.toEnvR
 have c16:=fun (w:World) (R:EnvV w)=>radd_any ((-a)*((-a)*(primF (-a) (-b) (0:Rat)))) ((-b)*((-b)*(primF (-a) (-b) (0:Rat)))) At.rm Au.rm w R.toEnvR
 have c17:=fun (w:World) (R:EnvV w)=>rsign_any (((-a)*((-a)*(primF (-a) (-b) (0:Rat))))+((-b)*((-b)*(primF (-a) (-b) (0:Rat))))) A0 w R.toEnvR
 have c18:=lprim3 ((-a)*(primF (-a) (-b) (0:Rat))) ((-b)*(primF (-a) (-b) (0:Rat))) (dir_den (-a) (-b) (g.elim (fun k=>Or.inl (neg_ne k)) (fun k=>Or.inr (neg_ne k)))).1 (dir_den (-a) (-b) (g.elim (fun k=>Or.inl (neg_ne k)) (fun k=>Or.inr (neg_ne k)))).2 Ao.rm Aj.rm (dir_gcd (-a) (-b) (g.elim (fun k=>Or.inl (neg_ne k)) (fun k=>Or.inr (neg_ne k))))
 have gd:decide (c.num.sign < 0)=true:=decide_eq_true hsg
 have gs:c.num.sign < 0:=hsg
 have gt:0 < (((-a)*((-a)*(primF (-a) (-b) (0:Rat))))+((-b)*((-b)*(primF (-a) (-b) (0:Rat))))).num.sign:=dir_dot (-a) (-b) (g.elim (fun k=>Or.inl (neg_ne k)) (fun k=>Or.inr (neg_ne k)))
 have eq1:((ratB a).toList == [48])=false:=by rw [ratB_eq_zero];exact decide_eq_false q1
 have pq1:¬ (ratB a).toList=[48]:=fun h=>q1 ((zero_iff _).1 h)
 obtain ⟨Bq,A1⟩:∃ vq,ratB (((-a)*((-a)*(primF (-a) (-b) (0:Rat))))+((-b)*((-b)*(primF (-a) (-b) (0:Rat)))))=vq:=⟨_,rfl⟩
 obtain ⟨Br,A2⟩:∃ vq,ratB ((-a)*((-a)*(primF (-a) (-b) (0:Rat))))=vq:=⟨_,rfl⟩
 obtain ⟨Bs,A3⟩:∃ vq,ratB ((-a)*((-b)*(primF (-a) (-b) (0:Rat))))=vq:=⟨_,rfl⟩
 obtain ⟨Bt,A4⟩:∃ vq,ratB ((-b)*((-a)*(primF (-a) (-b) (0:Rat))))=vq:=⟨_,rfl⟩
 obtain ⟨Bu,A5⟩:∃ vq,ratB ((-b)*((-b)*(primF (-a) (-b) (0:Rat))))=vq:=⟨_,rfl⟩
 obtain ⟨Bv,A6⟩:∃ vq,ratB (-((-b)*(primF (-a) (-b) (0:Rat))))=vq:=⟨_,rfl⟩
 obtain ⟨Bw,A7⟩:∃ vq,ratB ((-a)*(primF (-a) (-b) (0:Rat)))=vq:=⟨_,rfl⟩
 obtain ⟨Bx,A8⟩:∃ vq,ratB ((-b)*(primF (-a) (-b) (0:Rat)))=vq:=⟨_,rfl⟩
 obtain ⟨By,A9⟩:∃ vq,ratB (-a)=vq:=⟨_,rfl⟩
 obtain ⟨Bz,Ba⟩:∃ vq,ratB (-b)=vq:=⟨_,rfl⟩
 obtain ⟨B0,Bb⟩:∃ vq,ratB a=vq:=⟨_,rfl⟩
 obtain ⟨B1,Bc⟩:∃ vq,ratB b=vq:=⟨_,rfl⟩
 obtain ⟨B2,Bd⟩:∃ vq,ratB c=vq:=⟨_,rfl⟩
 try simp only [A1,A2,A3,A4,A5,A6,A7,A8,A9,Ba,Bb,Bc,Bd] at c1 c2 c3 c4 c5 c6 c7 c8 c9 c10 c11 c12 c13 c14 c15 c16 c17 c18 gd gs gt eq1 pq1 ⊢
 obtain ⟨sg,esg⟩:∃ vq,c.num.sign=vq:=⟨_,rfl⟩
 try simp only [esg] at c1 c2 c3 c4 c5 c6 c7 c8 c9 c10 c11 c12 c13 c14 c15 c16 c17 c18 gd gs gt eq1 pq1 ⊢
 obtain ⟨dg,edg⟩:∃ vq,(((-a)*((-a)*(primF (-a) (-b) (0:Rat))))+((-b)*((-b)*(primF (-a) (-b) (0:Rat))))).num.sign=vq:=⟨_,rfl⟩
 try simp only [edg] at c1 c2 c3 c4 c5 c6 c7 c8 c9 c10 c11 c12 c13 c14 c15 c16 c17 c18 gd gs gt eq1 pq1 ⊢
 have C1:=Lib.hid c1
 have C2:=Lib.hid c2
 have C3:=Lib.hid c3
 have C4:=Lib.hid c4
 have C5:=Lib.hid c5
 have C6:=Lib.hid c6
 have C7:=Lib.hid c7
 have C8:=Lib.hid c8
 have C9:=Lib.hid c9
 have C10:=Lib.hid c10
 have C11:=Lib.hid c11
 have C12:=Lib.hid c12
 have C13:=Lib.hid c13
 have C14:=Lib.hid c14
 have C15:=Lib.hid c15
 have C16:=Lib.hid c16
 have C17:=Lib.hid c17
 have C18:=Lib.hid c18
 clear c1 c2 c3 c4 c5 c6 c7 c8 c9 c10 c11 c12 c13 c14 c15 c16 c17 c18 A1 A2 A3 A4 A5 A6 A7 A8 A9 Ba Bb Bc Bd esg edg Ao Aj Bl Av Ap Aw Aq Ax Ay Ar As Bm At Au Az A0 q1 g na nb nc hsg hs
 have hb:=Below.refl w.heap.size w
 go_enter Tryz.func4,Tryz.ntmps4
 go_upto_region 1 with fail
 refine wp_alloc1 (fun w1 a0 hk=>?_)
 replace hb:=hb.trans (hk.mono hb.size)
 clear hk
 obtain ⟨Ag,Ah,Ai⟩:=ce3 a0
 go_upto_region 4 with ((first | (go_at_call 11;with_reducible refine (chVB hb R C1).mono ?_) | (go_at_call 12;with_reducible refine (zL hb (C2.out _ (R.below hb))).mono ?_) | (go_at_call 18;with_reducible refine (chVB hb R C3).mono ?_));clear hb;rintro e w1 ⟨rfl,hk,hb⟩;clear Ag Ah Ai;replace a0:=zB hk a0;obtain ⟨Ag,Ah,Ai⟩:=ce3 a0;clear hk)
 refine wp_alloc1 (fun w1 Aa hk=>?_)
 clear Ag Ah Ai
 replace a0:=zB hk a0
 obtain ⟨Ag,Ah,Ai⟩:=ce3 a0
 replace hb:=hb.trans (hk.mono hb.size)
 clear hk
 obtain ⟨Ac,Ad⟩:=ce2 Aa
 go_upto_region 5 with (go_at_call 19;with_reducible refine (chVB hb R C4).mono ?_;clear hb;rintro e w1 ⟨rfl,hk,hb⟩;clear Ag Ah Ai Ac Ad;replace a0:=zB hk a0;replace Aa:=zB hk Aa;obtain ⟨Ag,Ah,Ai⟩:=ce3 a0;obtain ⟨Ac,Ad⟩:=ce2 Aa;clear hk)
 refine wp_alloc1 (fun w1 Ab hk=>?_)
 clear Ag Ah Ai Ac Ad
 replace a0:=zB hk a0
 replace Aa:=zB hk Aa
 obtain ⟨Ag,Ah,Ai⟩:=ce3 a0
 obtain ⟨Ac,Ad⟩:=ce2 Aa
 replace hb:=hb.trans (hk.mono hb.size)
 clear hk
 obtain ⟨Ae,Af⟩:=ce2 Ab
 go_upto_region 10 with (go_at_call 16;with_reducible refine (chVB hb R C5).mono ?_;clear hb;rintro e w1 ⟨rfl,hk,hb⟩;clear Ag Ah Ai Ac Ad Ae Af;replace a0:=zB hk a0;replace Aa:=zB hk Aa;replace Ab:=zB hk Ab;obtain ⟨Ag,Ah,Ai⟩:=ce3 a0;obtain ⟨Ac,Ad⟩:=ce2 Aa;obtain ⟨Ae,Af⟩:=ce2 Ab;clear hk)
 obtain ⟨Bn,Bo,Bp⟩:=cy3 a0
 obtain ⟨Ak,Al⟩:=cy2 Aa
 obtain ⟨Am,An⟩:=cy2 Ab
 refine wp_region_quiet_below (by first | assumption | kernel_rfl) (by kernel_rfl) ?_
 repeat (quiet_step (first | fail))
 refine wpQuiet_nil ?_
 intro w1 hw'
 obtain ⟨hk,hb⟩:=zQ hb hw'
 clear Ag Ah Ai Ac Ad Ae Af
 replace a0:=zB hk a0
 replace Aa:=zB hk Aa
 replace Ab:=zB hk Ab
 obtain ⟨Ag,Ah,Ai⟩:=ce3 a0
 obtain ⟨Ac,Ad⟩:=ce2 Aa
 obtain ⟨Ae,Af⟩:=ce2 Ab
 clear Bn Bo Bp Ak Al Am An
 clear hk hw'
 go_upto_region 13 with (first | (go_at_call 17;with_reducible refine (chVB hb R C6).mono ?_;clear hb;rintro e w1 ⟨rfl,hk,hb⟩;clear Ag Ah Ai Ac Ad Ae Af;replace a0:=zB hk a0;replace Aa:=zB hk Aa;replace Ab:=zB hk Ab;obtain ⟨Ag,Ah,Ai⟩:=ce3 a0;obtain ⟨Ac,Ad⟩:=ce2 Aa;obtain ⟨Ae,Af⟩:=ce2 Ab;clear hk) | ((go_at_call 20;first | with_reducible refine (chVB hb R C7).mono ?_ | with_reducible refine (chVB hb R C8).mono ?_);clear hb;rintro e w1 ⟨rfl,hk,hb⟩;clear Ac Ad Ae Af;replace Aa:=zB hk Aa;replace Ab:=zB hk Ab;obtain ⟨Ac,Ad⟩:=ce2 Aa;obtain ⟨Ae,Af⟩:=ce2 Ab;clear hk))
 clear Ag Ah Ai a0
 obtain ⟨Ak,Al⟩:=cy2 Aa
 obtain ⟨Am,An⟩:=cy2 Ab
 refine wp_region_mid 11 1 (by first | assumption | kernel_rfl) (by kernel_rfl) ?_
 simp only [List.take_succ_cons,List.take_zero,List.drop_succ_cons,List.drop_zero]
 repeat (quiet_step (first | fail))
 refine wpQuiet_nil ?_
 intro w1 hw'
 obtain ⟨hk,hb⟩:=zQ hb hw'
 clear Ac Ad Ae Af
 replace Aa:=zB hk Aa
 replace Ab:=zB hk Ab
 obtain ⟨Ac,Ad⟩:=ce2 Aa
 obtain ⟨Ae,Af⟩:=ce2 Ab
 clear Ak Al Am An
 clear hk hw'
 go_wp2_with (go_at_call 21;with_reducible refine (zL hb (C9.out _ (R.below hb))).mono ?_;clear hb;rintro e w1 ⟨rfl,hk,hb⟩;clear Ac Ad Ae Af;replace Aa:=zB hk Aa;replace Ab:=zB hk Ab;obtain ⟨Ac,Ad⟩:=ce2 Aa;obtain ⟨Ae,Af⟩:=ce2 Ab;clear hk)
 obtain ⟨Ak,Al⟩:=cy2 Aa
 obtain ⟨Am,An⟩:=cy2 Ab
 have Be:=rrV C10 R hb
 refine ⟨w1,Below.refl _ _,?_⟩
 repeat (quiet_step (first | (with_reducible exact Be.out _ _)))
 refine wpQuiet_nil ?_
 intro w1 hw'
 obtain ⟨hk,hb⟩:=zQ hb hw'
 clear Ac Ad Ae Af
 replace Aa:=zB hk Aa
 replace Ab:=zB hk Ab
 obtain ⟨Ac,Ad⟩:=ce2 Aa
 obtain ⟨Ae,Af⟩:=ce2 Ab
 clear Be Ak Al Am An
 clear hk hw'
 go_upto_region 15 with fail
 obtain ⟨Ak,Al⟩:=cy2 Aa
 obtain ⟨Am,An⟩:=cy2 Ab
 have Bf:=rrV C11 R hb
 have Bg:=rrV C12 R hb
 have Bh:=rrV C13 R hb
 refine wp_region_quiet_below (by first | assumption | kernel_rfl) (by kernel_rfl) ?_
 repeat (quiet_step (first | (with_reducible exact Bf.out _ _) | (with_reducible exact Bg.out _ _) | (with_reducible exact Bh.out _ _)))
 refine wpQuiet_nil ?_
 intro w1 hw'
 obtain ⟨hk,hb⟩:=zQ hb hw'
 clear Ac Ad Ae Af
 replace Aa:=zB hk Aa
 replace Ab:=zB hk Ab
 obtain ⟨Ac,Ad⟩:=ce2 Aa
 obtain ⟨Ae,Af⟩:=ce2 Ab
 clear Bf Bg Bh Ak Al Am An
 clear hk hw'
 go_upto_region 16 with fail
 obtain ⟨Ak,Al⟩:=cy2 Aa
 obtain ⟨Am,An⟩:=cy2 Ab
 have Bi:=rrV C14 R hb
 have Bj:=rrV C15 R hb
 have Bk:=rrV C16 R hb
 refine wp_region_quiet_below (by first | assumption | kernel_rfl) (by kernel_rfl) ?_
 repeat (quiet_step (first | (with_reducible exact Bi.out _ _) | (with_reducible exact Bj.out _ _) | (with_reducible exact Bk.out _ _)))
 refine wpQuiet_nil ?_
 intro w1 hw'
 obtain ⟨hk,hb⟩:=zQ hb hw'
 clear Ac Ad Ae Af
 replace Aa:=zB hk Aa
 replace Ab:=zB hk Ab
 obtain ⟨Ac,Ad⟩:=ce2 Aa
 obtain ⟨Ae,Af⟩:=ce2 Ab
 clear Bi Bj Bk Ak Al Am An
 clear hk hw'
 go_wp2_with ((first | (go_at_call 17;with_reducible refine (chVB hb R C17).mono ?_) | (go_at_call 25;with_reducible refine (zL hb (C18.out _ (R.below hb))).mono ?_));clear hb;rintro e w1 ⟨rfl,hk,hb⟩;clear Ac Ad Ae Af;replace Aa:=zB hk Aa;replace Ab:=zB hk Ab;obtain ⟨Ac,Ad⟩:=ce2 Aa;obtain ⟨Ae,Af⟩:=ce2 Ab;clear hk)
 first | go_ret | go_ret2 | go_ret3
 exact ⟨rfl,hb⟩
theorem dirs_t1  (a b c:Rat) (g:a≠0∨b≠0) (na:RN a 24 24) (nb:RN b 24 24) (nc:RN c 24 24) (hsg:c.num.sign < 0) (hs:(ratB a).size≤24∧(ratB b).size≤24∧(ratB c).size≤24) (q1:a=0) (q2:b≠0) (w:World) (R:EnvV w) :
   Calls Tryz.prog 4 #[.agg #[.string (ratB a),.string (ratB b),.string (ratB c)]] w (Ret w (.bool true)):=by
 have Ao:=RN_mul (RN_neg na) (RN_prim (n:=24) (d:=24) (g.elim (fun k=>Or.inl (neg_ne k)) (fun k=>Or.inr (Or.inl (neg_ne k)))) (by decide) (by decide) (RN.up (RN_neg na) (by decide) (by decide)) (RN.up (RN_neg nb) (by decide) (by decide)) (RN.up rn_0 (by decide) (by decide)))
 have Aj:=RN_mul (RN_neg nb) (RN_prim (n:=24) (d:=24) (g.elim (fun k=>Or.inl (neg_ne k)) (fun k=>Or.inr (Or.inl (neg_ne k)))) (by decide) (by decide) (RN.up (RN_neg na) (by decide) (by decide)) (RN.up (RN_neg nb) (by decide) (by decide)) (RN.up rn_0 (by decide) (by decide)))
 have Bl:RN (-((-b)*(primF (-a) (-b) (0:Rat)))) 96 48:=(RN_neg Aj)
 have Av:=nc.rl (K:=100000)
 have Ap:RN (-a) 24 24:=(RN_neg na)
 have Aw:=na.rl (K:=40000)
 have Aq:RN (-b) 24 24:=(RN_neg nb)
 have Ax:=nb.rl (K:=40000)
 have Ay:=Aj.rl (K:=40000)
 have Ar:=RN_mul Ap Aj
 have As:=RN_mul Aq Ao
 have Bm:=RN_sub (N:=192) Ar As
 have At:=RN_mul Ap Ao
 have Au:=RN_mul Aq Aj
 have Az:=RN_add (N:=192) At Au
 have A0:=Az.rl (K:=100000)
 have c1:=known15_any
 have c2:∀ w,EnvV w→Calls Tryz.prog 12 #[.slice (some ⟨w.heap.size,0,none⟩) 3 3] (w.alloc (Obj.cells #[Value.string (ratB a),Value.string (ratB b),Value.string (ratB c)] 22)) (Ret w (.bool true)):=fun w R=>short3 (ratB a) (ratB b) (ratB c) true ⟨fun _=>hs,fun _=>rfl⟩ (Nat.le_trans hs.1 (by decide)) (Nat.le_trans hs.2.1 (by decide)) (Nat.le_trans hs.2.2 (by decide)) w R
 have c3:=toward_t a b c g na nb nc hsg
 have c4:=strike_t a b c g na nb nc hsg
 have c5:=normal_ok a b c (na.rl (K:=200)) (nb.rl (K:=200)) (nc.rl (K:=200)) (g.elim Or.inl (fun k=>Or.inr (Or.inl k)))
 have c6:=fun (w:World) (R:EnvV w)=>rsign_any c Av w R.toEnvR
 have c7:=fun (w:World) (R:EnvV w)=>rneg_any a Aw w R.toEnvR
 have c8:=fun (w:World) (R:EnvV w)=>rneg_any b Ax w R.toEnvR
 have c9:∀ w,EnvV w→Calls Tryz.prog 21 #[.slice (some ⟨w.heap.size,0,none⟩) 2 2] (w.alloc (Obj.cells #[Value.string (ratB ((-a)*(primF (-a) (-b) (0:Rat)))),Value.string (ratB ((-b)*(primF (-a) (-b) (0:Rat))))] 22)) (Ret w (.bool true)):=fun w R=>right2 (ratB ((-a)*(primF (-a) (-b) (0:Rat)))) (ratB ((-b)*(primF (-a) (-b) (0:Rat)))) true ⟨fun _=>⟨isRat_of Ao.r2,isRat_of Aj.r2⟩,fun _=>rfl⟩ (Nat.le_trans (size_of_RL Ao.r2) (by decide)) (Nat.le_trans (size_of_RL Aj.r2) (by decide)) w R
 have c10:=fun (w:World) (R:EnvV w)=>rneg_any ((-b)*(primF (-a) (-b) (0:Rat))) Ay w R.toEnvR
 have c11:=fun (w:World) (R:EnvV w)=>rmul_any (-a) ((-b)*(primF (-a) (-b) (0:Rat))) Ap.rm Aj.rm w R.toEnvR
 have c12:=fun (w:World) (R:EnvV w)=>rmul_any (-b) ((-a)*(primF (-a) (-b) (0:Rat))) Aq.rm Ao.rm w R.toEnvR
 have c13:CV 22 #[.string (ratB ((-a)*((-b)*(primF (-a) (-b) (0:Rat))))),.string (ratB ((-b)*((-a)*(primF (-a) (-b) (0:Rat)))))] (.string ⟨#[48]⟩):=fun w R=>(by have h:=rsub_any ((-a)*((-b)*(primF (-a) (-b) (0:Rat)))) ((-b)*((-a)*(primF (-a) (-b) (0:Rat)))) Ar.rm As.rm w R.toEnvR;rw [show ((-a)*((-b)*(primF (-a) (-b) (0:Rat)))) - ((-b)*((-a)*(primF (-a) (-b) (0:Rat))))=0 from dir_cross (-a) (-b),rb_0] at h;exact h)
 have c14:=fun (w:World) (R:EnvV w)=>rmul_any (-a) ((-a)*(primF (-a) (-b) (0:Rat))) Ap.rm Ao.rm w R.toEnvR
 have c15:=fun (w:World) (R:EnvV w)=>rmul_any (-b) ((-b)*(primF (-a) (-b) (0:Rat))) Aq.rm Aj.rm w R.toEnvR
 have c16:=fun (w:World) (R:EnvV w)=>radd_any ((-a)*((-a)*(primF (-a) (-b) (0:Rat)))) ((-b)*((-b)*(primF (-a) (-b) (0:Rat)))) At.rm Au.rm w R.toEnvR
 have c17:=fun (w:World) (R:EnvV w)=>rsign_any (((-a)*((-a)*(primF (-a) (-b) (0:Rat))))+((-b)*((-b)*(primF (-a) (-b) (0:Rat))))) A0 w R.toEnvR
 have c18:=lprim3 ((-a)*(primF (-a) (-b) (0:Rat))) ((-b)*(primF (-a) (-b) (0:Rat))) (dir_den (-a) (-b) (g.elim (fun k=>Or.inl (neg_ne k)) (fun k=>Or.inr (neg_ne k)))).1 (dir_den (-a) (-b) (g.elim (fun k=>Or.inl (neg_ne k)) (fun k=>Or.inr (neg_ne k)))).2 Ao.rm Aj.rm (dir_gcd (-a) (-b) (g.elim (fun k=>Or.inl (neg_ne k)) (fun k=>Or.inr (neg_ne k))))
 have gd:decide (c.num.sign < 0)=true:=decide_eq_true hsg
 have gs:c.num.sign < 0:=hsg
 have gt:0 < (((-a)*((-a)*(primF (-a) (-b) (0:Rat))))+((-b)*((-b)*(primF (-a) (-b) (0:Rat))))).num.sign:=dir_dot (-a) (-b) (g.elim (fun k=>Or.inl (neg_ne k)) (fun k=>Or.inr (neg_ne k)))
 have eq1:((ratB a).toList == [48])=true:=by rw [ratB_eq_zero];exact decide_eq_true q1
 have pq1:(ratB a).toList=[48]:=(zero_iff _).2 q1
 have eq2:((ratB b).toList == [48])=false:=by rw [ratB_eq_zero];exact decide_eq_false q2
 have pq2:¬ (ratB b).toList=[48]:=fun h=>q2 ((zero_iff _).1 h)
 obtain ⟨Bq,A1⟩:∃ vq,ratB (((-a)*((-a)*(primF (-a) (-b) (0:Rat))))+((-b)*((-b)*(primF (-a) (-b) (0:Rat)))))=vq:=⟨_,rfl⟩
 obtain ⟨Br,A2⟩:∃ vq,ratB ((-a)*((-a)*(primF (-a) (-b) (0:Rat))))=vq:=⟨_,rfl⟩
 obtain ⟨Bs,A3⟩:∃ vq,ratB ((-a)*((-b)*(primF (-a) (-b) (0:Rat))))=vq:=⟨_,rfl⟩
 obtain ⟨Bt,A4⟩:∃ vq,ratB ((-b)*((-a)*(primF (-a) (-b) (0:Rat))))=vq:=⟨_,rfl⟩
 obtain ⟨Bu,A5⟩:∃ vq,ratB ((-b)*((-b)*(primF (-a) (-b) (0:Rat))))=vq:=⟨_,rfl⟩
 obtain ⟨Bv,A6⟩:∃ vq,ratB (-((-b)*(primF (-a) (-b) (0:Rat))))=vq:=⟨_,rfl⟩
 obtain ⟨Bw,A7⟩:∃ vq,ratB ((-a)*(primF (-a) (-b) (0:Rat)))=vq:=⟨_,rfl⟩
 obtain ⟨Bx,A8⟩:∃ vq,ratB ((-b)*(primF (-a) (-b) (0:Rat)))=vq:=⟨_,rfl⟩
 obtain ⟨By,A9⟩:∃ vq,ratB (-a)=vq:=⟨_,rfl⟩
 obtain ⟨Bz,Ba⟩:∃ vq,ratB (-b)=vq:=⟨_,rfl⟩
 obtain ⟨B0,Bb⟩:∃ vq,ratB a=vq:=⟨_,rfl⟩
 obtain ⟨B1,Bc⟩:∃ vq,ratB b=vq:=⟨_,rfl⟩
 obtain ⟨B2,Bd⟩:∃ vq,ratB c=vq:=⟨_,rfl⟩
 try simp only [A1,A2,A3,A4,A5,A6,A7,A8,A9,Ba,Bb,Bc,Bd] at c1 c2 c3 c4 c5 c6 c7 c8 c9 c10 c11 c12 c13 c14 c15 c16 c17 c18 gd gs gt eq1 pq1 eq2 pq2 ⊢
 obtain ⟨sg,esg⟩:∃ vq,c.num.sign=vq:=⟨_,rfl⟩
 try simp only [esg] at c1 c2 c3 c4 c5 c6 c7 c8 c9 c10 c11 c12 c13 c14 c15 c16 c17 c18 gd gs gt eq1 pq1 eq2 pq2 ⊢
 obtain ⟨dg,edg⟩:∃ vq,(((-a)*((-a)*(primF (-a) (-b) (0:Rat))))+((-b)*((-b)*(primF (-a) (-b) (0:Rat))))).num.sign=vq:=⟨_,rfl⟩
 try simp only [edg] at c1 c2 c3 c4 c5 c6 c7 c8 c9 c10 c11 c12 c13 c14 c15 c16 c17 c18 gd gs gt eq1 pq1 eq2 pq2 ⊢
 have C1:=Lib.hid c1
 have C2:=Lib.hid c2
 have C3:=Lib.hid c3
 have C4:=Lib.hid c4
 have C5:=Lib.hid c5
 have C6:=Lib.hid c6
 have C7:=Lib.hid c7
 have C8:=Lib.hid c8
 have C9:=Lib.hid c9
 have C10:=Lib.hid c10
 have C11:=Lib.hid c11
 have C12:=Lib.hid c12
 have C13:=Lib.hid c13
 have C14:=Lib.hid c14
 have C15:=Lib.hid c15
 have C16:=Lib.hid c16
 have C17:=Lib.hid c17
 have C18:=Lib.hid c18
 clear c1 c2 c3 c4 c5 c6 c7 c8 c9 c10 c11 c12 c13 c14 c15 c16 c17 c18 A1 A2 A3 A4 A5 A6 A7 A8 A9 Ba Bb Bc Bd esg edg Ao Aj Bl Av Ap Aw Aq Ax Ay Ar As Bm At Au Az A0 q1 q2 g na nb nc hsg hs
 have hb:=Below.refl w.heap.size w
 go_enter Tryz.func4,Tryz.ntmps4
 go_upto_region 1 with fail
 refine wp_alloc1 (fun w1 a0 hk=>?_)
 replace hb:=hb.trans (hk.mono hb.size)
 clear hk
 obtain ⟨Ag,Ah,Ai⟩:=ce3 a0
 go_upto_region 4 with ((first | (go_at_call 11;with_reducible refine (chVB hb R C1).mono ?_) | (go_at_call 12;with_reducible refine (zL hb (C2.out _ (R.below hb))).mono ?_) | (go_at_call 18;with_reducible refine (chVB hb R C3).mono ?_));clear hb;rintro e w1 ⟨rfl,hk,hb⟩;clear Ag Ah Ai;replace a0:=zB hk a0;obtain ⟨Ag,Ah,Ai⟩:=ce3 a0;clear hk)
 refine wp_alloc1 (fun w1 Aa hk=>?_)
 clear Ag Ah Ai
 replace a0:=zB hk a0
 obtain ⟨Ag,Ah,Ai⟩:=ce3 a0
 replace hb:=hb.trans (hk.mono hb.size)
 clear hk
 obtain ⟨Ac,Ad⟩:=ce2 Aa
 go_upto_region 5 with (go_at_call 19;with_reducible refine (chVB hb R C4).mono ?_;clear hb;rintro e w1 ⟨rfl,hk,hb⟩;clear Ag Ah Ai Ac Ad;replace a0:=zB hk a0;replace Aa:=zB hk Aa;obtain ⟨Ag,Ah,Ai⟩:=ce3 a0;obtain ⟨Ac,Ad⟩:=ce2 Aa;clear hk)
 refine wp_alloc1 (fun w1 Ab hk=>?_)
 clear Ag Ah Ai Ac Ad
 replace a0:=zB hk a0
 replace Aa:=zB hk Aa
 obtain ⟨Ag,Ah,Ai⟩:=ce3 a0
 obtain ⟨Ac,Ad⟩:=ce2 Aa
 replace hb:=hb.trans (hk.mono hb.size)
 clear hk
 obtain ⟨Ae,Af⟩:=ce2 Ab
 go_upto_region 10 with (go_at_call 16;with_reducible refine (chVB hb R C5).mono ?_;clear hb;rintro e w1 ⟨rfl,hk,hb⟩;clear Ag Ah Ai Ac Ad Ae Af;replace a0:=zB hk a0;replace Aa:=zB hk Aa;replace Ab:=zB hk Ab;obtain ⟨Ag,Ah,Ai⟩:=ce3 a0;obtain ⟨Ac,Ad⟩:=ce2 Aa;obtain ⟨Ae,Af⟩:=ce2 Ab;clear hk)
 obtain ⟨Bn,Bo,Bp⟩:=cy3 a0
 obtain ⟨Ak,Al⟩:=cy2 Aa
 obtain ⟨Am,An⟩:=cy2 Ab
 refine wp_region_quiet_below (by first | assumption | kernel_rfl) (by kernel_rfl) ?_
 repeat (quiet_step (first | fail))
 refine wpQuiet_nil ?_
 intro w1 hw'
 obtain ⟨hk,hb⟩:=zQ hb hw'
 clear Ag Ah Ai Ac Ad Ae Af
 replace a0:=zB hk a0
 replace Aa:=zB hk Aa
 replace Ab:=zB hk Ab
 obtain ⟨Ag,Ah,Ai⟩:=ce3 a0
 obtain ⟨Ac,Ad⟩:=ce2 Aa
 obtain ⟨Ae,Af⟩:=ce2 Ab
 clear Bn Bo Bp Ak Al Am An
 clear hk hw'
 go_upto_region 13 with (first | (go_at_call 17;with_reducible refine (chVB hb R C6).mono ?_;clear hb;rintro e w1 ⟨rfl,hk,hb⟩;clear Ag Ah Ai Ac Ad Ae Af;replace a0:=zB hk a0;replace Aa:=zB hk Aa;replace Ab:=zB hk Ab;obtain ⟨Ag,Ah,Ai⟩:=ce3 a0;obtain ⟨Ac,Ad⟩:=ce2 Aa;obtain ⟨Ae,Af⟩:=ce2 Ab;clear hk) | ((go_at_call 20;first | with_reducible refine (chVB hb R C7).mono ?_ | with_reducible refine (chVB hb R C8).mono ?_);clear hb;rintro e w1 ⟨rfl,hk,hb⟩;clear Ac Ad Ae Af;replace Aa:=zB hk Aa;replace Ab:=zB hk Ab;obtain ⟨Ac,Ad⟩:=ce2 Aa;obtain ⟨Ae,Af⟩:=ce2 Ab;clear hk))
 clear Ag Ah Ai a0
 obtain ⟨Ak,Al⟩:=cy2 Aa
 obtain ⟨Am,An⟩:=cy2 Ab
 refine wp_region_mid 11 1 (by first | assumption | kernel_rfl) (by kernel_rfl) ?_
 simp only [List.take_succ_cons,List.take_zero,List.drop_succ_cons,List.drop_zero]
 repeat (quiet_step (first | fail))
 refine wpQuiet_nil ?_
 intro w1 hw'
 obtain ⟨hk,hb⟩:=zQ hb hw'
 clear Ac Ad Ae Af
 replace Aa:=zB hk Aa
 replace Ab:=zB hk Ab
 obtain ⟨Ac,Ad⟩:=ce2 Aa
 obtain ⟨Ae,Af⟩:=ce2 Ab
 clear Ak Al Am An
 clear hk hw'
 go_wp2_with (go_at_call 21;with_reducible refine (zL hb (C9.out _ (R.below hb))).mono ?_;clear hb;rintro e w1 ⟨rfl,hk,hb⟩;clear Ac Ad Ae Af;replace Aa:=zB hk Aa;replace Ab:=zB hk Ab;obtain ⟨Ac,Ad⟩:=ce2 Aa;obtain ⟨Ae,Af⟩:=ce2 Ab;clear hk)
 obtain ⟨Ak,Al⟩:=cy2 Aa
 obtain ⟨Am,An⟩:=cy2 Ab
 have Be:=rrV C10 R hb
 refine ⟨w1,Below.refl _ _,?_⟩
 repeat (quiet_step (first | (with_reducible exact Be.out _ _)))
 refine wpQuiet_nil ?_
 intro w1 hw'
 obtain ⟨hk,hb⟩:=zQ hb hw'
 clear Ac Ad Ae Af
 replace Aa:=zB hk Aa
 replace Ab:=zB hk Ab
 obtain ⟨Ac,Ad⟩:=ce2 Aa
 obtain ⟨Ae,Af⟩:=ce2 Ab
 clear Be Ak Al Am An
 clear hk hw'
 go_upto_region 15 with fail
 obtain ⟨Ak,Al⟩:=cy2 Aa
 obtain ⟨Am,An⟩:=cy2 Ab
 have Bf:=rrV C11 R hb
 have Bg:=rrV C12 R hb
 have Bh:=rrV C13 R hb
 refine wp_region_quiet_below (by first | assumption | kernel_rfl) (by kernel_rfl) ?_
 repeat (quiet_step (first | (with_reducible exact Bf.out _ _) | (with_reducible exact Bg.out _ _) | (with_reducible exact Bh.out _ _)))
 refine wpQuiet_nil ?_
 intro w1 hw'
 obtain ⟨hk,hb⟩:=zQ hb hw'
 clear Ac Ad Ae Af
 replace Aa:=zB hk Aa
 replace Ab:=zB hk Ab
 obtain ⟨Ac,Ad⟩:=ce2 Aa
 obtain ⟨Ae,Af⟩:=ce2 Ab
 clear Bf Bg Bh Ak Al Am An
 clear hk hw'
 go_upto_region 16 with fail
 obtain ⟨Ak,Al⟩:=cy2 Aa
 obtain ⟨Am,An⟩:=cy2 Ab
 have Bi:=rrV C14 R hb
 have Bj:=rrV C15 R hb
 have Bk:=rrV C16 R hb
 refine wp_region_quiet_below (by first | assumption | kernel_rfl) (by kernel_rfl) ?_
 repeat (quiet_step (first | (with_reducible exact Bi.out _ _) | (with_reducible exact Bj.out _ _) | (with_reducible exact Bk.out _ _)))
 refine wpQuiet_nil ?_
 intro w1 hw'
 obtain ⟨hk,hb⟩:=zQ hb hw'
 clear Ac Ad Ae Af
 replace Aa:=zB hk Aa
 replace Ab:=zB hk Ab
 obtain ⟨Ac,Ad⟩:=ce2 Aa
 obtain ⟨Ae,Af⟩:=ce2 Ab
 clear Bi Bj Bk Ak Al Am An
 clear hk hw'
 go_wp2_with ((first | (go_at_call 17;with_reducible refine (chVB hb R C17).mono ?_) | (go_at_call 25;with_reducible refine (zL hb (C18.out _ (R.below hb))).mono ?_));clear hb;rintro e w1 ⟨rfl,hk,hb⟩;clear Ac Ad Ae Af;replace Aa:=zB hk Aa;replace Ab:=zB hk Ab;obtain ⟨Ac,Ad⟩:=ce2 Aa;obtain ⟨Ae,Af⟩:=ce2 Ab;clear hk)
 first | go_ret | go_ret2 | go_ret3
 exact ⟨rfl,hb⟩
theorem dirs_f0  (a b c:Rat) (g:a≠0∨b≠0) (na:RN a 24 24) (nb:RN b 24 24) (nc:RN c 24 24) (hsg:¬ c.num.sign < 0) (hs:(ratB a).size≤24∧(ratB b).size≤24∧(ratB c).size≤24) (q1:a≠0) (w:World) (R:EnvV w) :
   Calls Tryz.prog 4 #[.agg #[.string (ratB a),.string (ratB b),.string (ratB c)]] w (Ret w (.bool true)):=by
 have Ao:=RN_mul na (RN_prim (n:=24) (d:=24) (g.elim Or.inl (fun k=>Or.inr (Or.inl k))) (by decide) (by decide) (RN.up na (by decide) (by decide)) (RN.up nb (by decide) (by decide)) (RN.up rn_0 (by decide) (by decide)))
 have Aj:=RN_mul nb (RN_prim (n:=24) (d:=24) (g.elim Or.inl (fun k=>Or.inr (Or.inl k))) (by decide) (by decide) (RN.up na (by decide) (by decide)) (RN.up nb (by decide) (by decide)) (RN.up rn_0 (by decide) (by decide)))
 have Bf:RN (-(b*(primF a b (0:Rat)))) 96 48:=(RN_neg Aj)
 have At:=nc.rl (K:=100000)
 have Au:=Aj.rl (K:=40000)
 have Ap:=RN_mul na Aj
 have Aq:=RN_mul nb Ao
 have Bg:=RN_sub (N:=192) Ap Aq
 have Ar:=RN_mul na Ao
 have As:=RN_mul nb Aj
 have Av:=RN_add (N:=192) Ar As
 have Aw:=Av.rl (K:=100000)
 have c1:=known15_any
 have c2:∀ w,EnvV w→Calls Tryz.prog 12 #[.slice (some ⟨w.heap.size,0,none⟩) 3 3] (w.alloc (Obj.cells #[Value.string (ratB a),Value.string (ratB b),Value.string (ratB c)] 22)) (Ret w (.bool true)):=fun w R=>short3 (ratB a) (ratB b) (ratB c) true ⟨fun _=>hs,fun _=>rfl⟩ (Nat.le_trans hs.1 (by decide)) (Nat.le_trans hs.2.1 (by decide)) (Nat.le_trans hs.2.2 (by decide)) w R
 have c3:=toward_f a b c g na nb nc hsg
 have c4:=strike_f a b c g na nb nc hsg
 have c5:=normal_ok a b c (na.rl (K:=200)) (nb.rl (K:=200)) (nc.rl (K:=200)) (g.elim Or.inl (fun k=>Or.inr (Or.inl k)))
 have c6:=fun (w:World) (R:EnvV w)=>rsign_any c At w R.toEnvR
 have c7:∀ w,EnvV w→Calls Tryz.prog 21 #[.slice (some ⟨w.heap.size,0,none⟩) 2 2] (w.alloc (Obj.cells #[Value.string (ratB (a*(primF a b (0:Rat)))),Value.string (ratB (b*(primF a b (0:Rat))))] 22)) (Ret w (.bool true)):=fun w R=>right2 (ratB (a*(primF a b (0:Rat)))) (ratB (b*(primF a b (0:Rat)))) true ⟨fun _=>⟨isRat_of Ao.r2,isRat_of Aj.r2⟩,fun _=>rfl⟩ (Nat.le_trans (size_of_RL Ao.r2) (by decide)) (Nat.le_trans (size_of_RL Aj.r2) (by decide)) w R
 have c8:=fun (w:World) (R:EnvV w)=>rneg_any (b*(primF a b (0:Rat))) Au w R.toEnvR
 have c9:=fun (w:World) (R:EnvV w)=>rmul_any a (b*(primF a b (0:Rat))) na.rm Aj.rm w R.toEnvR
 have c10:=fun (w:World) (R:EnvV w)=>rmul_any b (a*(primF a b (0:Rat))) nb.rm Ao.rm w R.toEnvR
 have c11:CV 22 #[.string (ratB (a*(b*(primF a b (0:Rat))))),.string (ratB (b*(a*(primF a b (0:Rat)))))] (.string ⟨#[48]⟩):=fun w R=>(by have h:=rsub_any (a*(b*(primF a b (0:Rat)))) (b*(a*(primF a b (0:Rat)))) Ap.rm Aq.rm w R.toEnvR;rw [show (a*(b*(primF a b (0:Rat)))) - (b*(a*(primF a b (0:Rat))))=0 from dir_cross a b,rb_0] at h;exact h)
 have c12:=fun (w:World) (R:EnvV w)=>rmul_any a (a*(primF a b (0:Rat))) na.rm Ao.rm w R.toEnvR
 have c13:=fun (w:World) (R:EnvV w)=>rmul_any b (b*(primF a b (0:Rat))) nb.rm Aj.rm w R.toEnvR
 have c14:=fun (w:World) (R:EnvV w)=>radd_any (a*(a*(primF a b (0:Rat)))) (b*(b*(primF a b (0:Rat)))) Ar.rm As.rm w R.toEnvR
 have c15:=fun (w:World) (R:EnvV w)=>rsign_any ((a*(a*(primF a b (0:Rat))))+(b*(b*(primF a b (0:Rat))))) Aw w R.toEnvR
 have c16:=lprim3 (a*(primF a b (0:Rat))) (b*(primF a b (0:Rat))) (dir_den a b g).1 (dir_den a b g).2 Ao.rm Aj.rm (dir_gcd a b g)
 have gd:decide (c.num.sign < 0)=false:=decide_eq_false hsg
 have gs:0≤c.num.sign:=Int.not_lt.1 hsg
 have gt:0 < ((a*(a*(primF a b (0:Rat))))+(b*(b*(primF a b (0:Rat))))).num.sign:=dir_dot a b g
 have eq1:((ratB a).toList == [48])=false:=by rw [ratB_eq_zero];exact decide_eq_false q1
 have pq1:¬ (ratB a).toList=[48]:=fun h=>q1 ((zero_iff _).1 h)
 obtain ⟨Bk,Ax⟩:∃ vq,ratB ((a*(a*(primF a b (0:Rat))))+(b*(b*(primF a b (0:Rat)))))=vq:=⟨_,rfl⟩
 obtain ⟨Bl,Ay⟩:∃ vq,ratB (a*(a*(primF a b (0:Rat))))=vq:=⟨_,rfl⟩
 obtain ⟨Bm,Az⟩:∃ vq,ratB (a*(b*(primF a b (0:Rat))))=vq:=⟨_,rfl⟩
 obtain ⟨Bn,A0⟩:∃ vq,ratB (b*(a*(primF a b (0:Rat))))=vq:=⟨_,rfl⟩
 obtain ⟨Bo,A1⟩:∃ vq,ratB (b*(b*(primF a b (0:Rat))))=vq:=⟨_,rfl⟩
 obtain ⟨Bp,A2⟩:∃ vq,ratB (-(b*(primF a b (0:Rat))))=vq:=⟨_,rfl⟩
 obtain ⟨Bq,A3⟩:∃ vq,ratB (a*(primF a b (0:Rat)))=vq:=⟨_,rfl⟩
 obtain ⟨Br,A4⟩:∃ vq,ratB (b*(primF a b (0:Rat)))=vq:=⟨_,rfl⟩
 obtain ⟨Bs,A5⟩:∃ vq,ratB a=vq:=⟨_,rfl⟩
 obtain ⟨Bt,A6⟩:∃ vq,ratB b=vq:=⟨_,rfl⟩
 obtain ⟨Bu,A7⟩:∃ vq,ratB c=vq:=⟨_,rfl⟩
 try simp only [Ax,Ay,Az,A0,A1,A2,A3,A4,A5,A6,A7] at c1 c2 c3 c4 c5 c6 c7 c8 c9 c10 c11 c12 c13 c14 c15 c16 gd gs gt eq1 pq1 ⊢
 obtain ⟨sg,esg⟩:∃ vq,c.num.sign=vq:=⟨_,rfl⟩
 try simp only [esg] at c1 c2 c3 c4 c5 c6 c7 c8 c9 c10 c11 c12 c13 c14 c15 c16 gd gs gt eq1 pq1 ⊢
 obtain ⟨dg,edg⟩:∃ vq,((a*(a*(primF a b (0:Rat))))+(b*(b*(primF a b (0:Rat))))).num.sign=vq:=⟨_,rfl⟩
 try simp only [edg] at c1 c2 c3 c4 c5 c6 c7 c8 c9 c10 c11 c12 c13 c14 c15 c16 gd gs gt eq1 pq1 ⊢
 have C1:=Lib.hid c1
 have C2:=Lib.hid c2
 have C3:=Lib.hid c3
 have C4:=Lib.hid c4
 have C5:=Lib.hid c5
 have C6:=Lib.hid c6
 have C7:=Lib.hid c7
 have C8:=Lib.hid c8
 have C9:=Lib.hid c9
 have C10:=Lib.hid c10
 have C11:=Lib.hid c11
 have C12:=Lib.hid c12
 have C13:=Lib.hid c13
 have C14:=Lib.hid c14
 have C15:=Lib.hid c15
 have C16:=Lib.hid c16
 clear c1 c2 c3 c4 c5 c6 c7 c8 c9 c10 c11 c12 c13 c14 c15 c16 Ax Ay Az A0 A1 A2 A3 A4 A5 A6 A7 esg edg Ao Aj Bf At Au Ap Aq Bg Ar As Av Aw q1 g na nb nc hsg hs
 have hb:=Below.refl w.heap.size w
 go_enter Tryz.func4,Tryz.ntmps4
 go_upto_region 1 with fail
 refine wp_alloc1 (fun w1 a0 hk=>?_)
 replace hb:=hb.trans (hk.mono hb.size)
 clear hk
 obtain ⟨Ag,Ah,Ai⟩:=ce3 a0
 go_upto_region 4 with ((first | (go_at_call 11;with_reducible refine (chVB hb R C1).mono ?_) | (go_at_call 12;with_reducible refine (zL hb (C2.out _ (R.below hb))).mono ?_) | (go_at_call 18;with_reducible refine (chVB hb R C3).mono ?_));clear hb;rintro e w1 ⟨rfl,hk,hb⟩;clear Ag Ah Ai;replace a0:=zB hk a0;obtain ⟨Ag,Ah,Ai⟩:=ce3 a0;clear hk)
 refine wp_alloc1 (fun w1 Aa hk=>?_)
 clear Ag Ah Ai
 replace a0:=zB hk a0
 obtain ⟨Ag,Ah,Ai⟩:=ce3 a0
 replace hb:=hb.trans (hk.mono hb.size)
 clear hk
 obtain ⟨Ac,Ad⟩:=ce2 Aa
 go_upto_region 5 with (go_at_call 19;with_reducible refine (chVB hb R C4).mono ?_;clear hb;rintro e w1 ⟨rfl,hk,hb⟩;clear Ag Ah Ai Ac Ad;replace a0:=zB hk a0;replace Aa:=zB hk Aa;obtain ⟨Ag,Ah,Ai⟩:=ce3 a0;obtain ⟨Ac,Ad⟩:=ce2 Aa;clear hk)
 refine wp_alloc1 (fun w1 Ab hk=>?_)
 clear Ag Ah Ai Ac Ad
 replace a0:=zB hk a0
 replace Aa:=zB hk Aa
 obtain ⟨Ag,Ah,Ai⟩:=ce3 a0
 obtain ⟨Ac,Ad⟩:=ce2 Aa
 replace hb:=hb.trans (hk.mono hb.size)
 clear hk
 obtain ⟨Ae,Af⟩:=ce2 Ab
 go_upto_region 10 with (go_at_call 16;with_reducible refine (chVB hb R C5).mono ?_;clear hb;rintro e w1 ⟨rfl,hk,hb⟩;clear Ag Ah Ai Ac Ad Ae Af;replace a0:=zB hk a0;replace Aa:=zB hk Aa;replace Ab:=zB hk Ab;obtain ⟨Ag,Ah,Ai⟩:=ce3 a0;obtain ⟨Ac,Ad⟩:=ce2 Aa;obtain ⟨Ae,Af⟩:=ce2 Ab;clear hk)
 obtain ⟨Bh,Bi,Bj⟩:=cy3 a0
 obtain ⟨Ak,Al⟩:=cy2 Aa
 obtain ⟨Am,An⟩:=cy2 Ab
 refine wp_region_quiet_below (by first | assumption | kernel_rfl) (by kernel_rfl) ?_
 repeat (quiet_step (first | fail))
 refine wpQuiet_nil ?_
 intro w1 hw'
 obtain ⟨hk,hb⟩:=zQ hb hw'
 clear Ag Ah Ai Ac Ad Ae Af
 replace a0:=zB hk a0
 replace Aa:=zB hk Aa
 replace Ab:=zB hk Ab
 obtain ⟨Ag,Ah,Ai⟩:=ce3 a0
 obtain ⟨Ac,Ad⟩:=ce2 Aa
 obtain ⟨Ae,Af⟩:=ce2 Ab
 clear Bh Bi Bj Ak Al Am An
 clear hk hw'
 go_upto_region 13 with (go_at_call 17;with_reducible refine (chVB hb R C6).mono ?_;clear hb;rintro e w1 ⟨rfl,hk,hb⟩;clear Ag Ah Ai Ac Ad Ae Af;replace a0:=zB hk a0;replace Aa:=zB hk Aa;replace Ab:=zB hk Ab;obtain ⟨Ag,Ah,Ai⟩:=ce3 a0;obtain ⟨Ac,Ad⟩:=ce2 Aa;obtain ⟨Ae,Af⟩:=ce2 Ab;clear hk)
 clear Ag Ah Ai a0
 obtain ⟨Ak,Al⟩:=cy2 Aa
 obtain ⟨Am,An⟩:=cy2 Ab
 refine wp_region_mid 11 1 (by first | assumption | kernel_rfl) (by kernel_rfl) ?_
 simp only [List.take_succ_cons,List.take_zero,List.drop_succ_cons,List.drop_zero]
 repeat (quiet_step (first | fail))
 refine wpQuiet_nil ?_
 intro w1 hw'
 obtain ⟨hk,hb⟩:=zQ hb hw'
 clear Ac Ad Ae Af
 replace Aa:=zB hk Aa
 replace Ab:=zB hk Ab
 obtain ⟨Ac,Ad⟩:=ce2 Aa
 obtain ⟨Ae,Af⟩:=ce2 Ab
 clear Ak Al Am An
 clear hk hw'
 go_wp2_with (go_at_call 21;with_reducible refine (zL hb (C7.out _ (R.below hb))).mono ?_;clear hb;rintro e w1 ⟨rfl,hk,hb⟩;clear Ac Ad Ae Af;replace Aa:=zB hk Aa;replace Ab:=zB hk Ab;obtain ⟨Ac,Ad⟩:=ce2 Aa;obtain ⟨Ae,Af⟩:=ce2 Ab;clear hk)
 obtain ⟨Ak,Al⟩:=cy2 Aa
 obtain ⟨Am,An⟩:=cy2 Ab
 have A8:=rrV C8 R hb
 refine ⟨w1,Below.refl _ _,?_⟩
 repeat (quiet_step (first | (with_reducible exact A8.out _ _)))
 refine wpQuiet_nil ?_
 intro w1 hw'
 obtain ⟨hk,hb⟩:=zQ hb hw'
 clear Ac Ad Ae Af
 replace Aa:=zB hk Aa
 replace Ab:=zB hk Ab
 obtain ⟨Ac,Ad⟩:=ce2 Aa
 obtain ⟨Ae,Af⟩:=ce2 Ab
 clear A8 Ak Al Am An
 clear hk hw'
 go_upto_region 15 with fail
 obtain ⟨Ak,Al⟩:=cy2 Aa
 obtain ⟨Am,An⟩:=cy2 Ab
 have A9:=rrV C9 R hb
 have Ba:=rrV C10 R hb
 have Bb:=rrV C11 R hb
 refine wp_region_quiet_below (by first | assumption | kernel_rfl) (by kernel_rfl) ?_
 repeat (quiet_step (first | (with_reducible exact A9.out _ _) | (with_reducible exact Ba.out _ _) | (with_reducible exact Bb.out _ _)))
 refine wpQuiet_nil ?_
 intro w1 hw'
 obtain ⟨hk,hb⟩:=zQ hb hw'
 clear Ac Ad Ae Af
 replace Aa:=zB hk Aa
 replace Ab:=zB hk Ab
 obtain ⟨Ac,Ad⟩:=ce2 Aa
 obtain ⟨Ae,Af⟩:=ce2 Ab
 clear A9 Ba Bb Ak Al Am An
 clear hk hw'
 go_upto_region 16 with fail
 obtain ⟨Ak,Al⟩:=cy2 Aa
 obtain ⟨Am,An⟩:=cy2 Ab
 have Bc:=rrV C12 R hb
 have Bd:=rrV C13 R hb
 have Be:=rrV C14 R hb
 refine wp_region_quiet_below (by first | assumption | kernel_rfl) (by kernel_rfl) ?_
 repeat (quiet_step (first | (with_reducible exact Bc.out _ _) | (with_reducible exact Bd.out _ _) | (with_reducible exact Be.out _ _)))
 refine wpQuiet_nil ?_
 intro w1 hw'
 obtain ⟨hk,hb⟩:=zQ hb hw'
 clear Ac Ad Ae Af
 replace Aa:=zB hk Aa
 replace Ab:=zB hk Ab
 obtain ⟨Ac,Ad⟩:=ce2 Aa
 obtain ⟨Ae,Af⟩:=ce2 Ab
 clear Bc Bd Be Ak Al Am An
 clear hk hw'
 go_wp2_with ((first | (go_at_call 17;with_reducible refine (chVB hb R C15).mono ?_) | (go_at_call 25;with_reducible refine (zL hb (C16.out _ (R.below hb))).mono ?_));clear hb;rintro e w1 ⟨rfl,hk,hb⟩;clear Ac Ad Ae Af;replace Aa:=zB hk Aa;replace Ab:=zB hk Ab;obtain ⟨Ac,Ad⟩:=ce2 Aa;obtain ⟨Ae,Af⟩:=ce2 Ab;clear hk)
 first | go_ret | go_ret2 | go_ret3
 exact ⟨rfl,hb⟩
theorem dirs_f1  (a b c:Rat) (g:a≠0∨b≠0) (na:RN a 24 24) (nb:RN b 24 24) (nc:RN c 24 24) (hsg:¬ c.num.sign < 0) (hs:(ratB a).size≤24∧(ratB b).size≤24∧(ratB c).size≤24) (q1:a=0) (q2:b≠0) (w:World) (R:EnvV w) :
   Calls Tryz.prog 4 #[.agg #[.string (ratB a),.string (ratB b),.string (ratB c)]] w (Ret w (.bool true)):=by
 have Ao:=RN_mul na (RN_prim (n:=24) (d:=24) (g.elim Or.inl (fun k=>Or.inr (Or.inl k))) (by decide) (by decide) (RN.up na (by decide) (by decide)) (RN.up nb (by decide) (by decide)) (RN.up rn_0 (by decide) (by decide)))
 have Aj:=RN_mul nb (RN_prim (n:=24) (d:=24) (g.elim Or.inl (fun k=>Or.inr (Or.inl k))) (by decide) (by decide) (RN.up na (by decide) (by decide)) (RN.up nb (by decide) (by decide)) (RN.up rn_0 (by decide) (by decide)))
 have Bf:RN (-(b*(primF a b (0:Rat)))) 96 48:=(RN_neg Aj)
 have At:=nc.rl (K:=100000)
 have Au:=Aj.rl (K:=40000)
 have Ap:=RN_mul na Aj
 have Aq:=RN_mul nb Ao
 have Bg:=RN_sub (N:=192) Ap Aq
 have Ar:=RN_mul na Ao
 have As:=RN_mul nb Aj
 have Av:=RN_add (N:=192) Ar As
 have Aw:=Av.rl (K:=100000)
 have c1:=known15_any
 have c2:∀ w,EnvV w→Calls Tryz.prog 12 #[.slice (some ⟨w.heap.size,0,none⟩) 3 3] (w.alloc (Obj.cells #[Value.string (ratB a),Value.string (ratB b),Value.string (ratB c)] 22)) (Ret w (.bool true)):=fun w R=>short3 (ratB a) (ratB b) (ratB c) true ⟨fun _=>hs,fun _=>rfl⟩ (Nat.le_trans hs.1 (by decide)) (Nat.le_trans hs.2.1 (by decide)) (Nat.le_trans hs.2.2 (by decide)) w R
 have c3:=toward_f a b c g na nb nc hsg
 have c4:=strike_f a b c g na nb nc hsg
 have c5:=normal_ok a b c (na.rl (K:=200)) (nb.rl (K:=200)) (nc.rl (K:=200)) (g.elim Or.inl (fun k=>Or.inr (Or.inl k)))
 have c6:=fun (w:World) (R:EnvV w)=>rsign_any c At w R.toEnvR
 have c7:∀ w,EnvV w→Calls Tryz.prog 21 #[.slice (some ⟨w.heap.size,0,none⟩) 2 2] (w.alloc (Obj.cells #[Value.string (ratB (a*(primF a b (0:Rat)))),Value.string (ratB (b*(primF a b (0:Rat))))] 22)) (Ret w (.bool true)):=fun w R=>right2 (ratB (a*(primF a b (0:Rat)))) (ratB (b*(primF a b (0:Rat)))) true ⟨fun _=>⟨isRat_of Ao.r2,isRat_of Aj.r2⟩,fun _=>rfl⟩ (Nat.le_trans (size_of_RL Ao.r2) (by decide)) (Nat.le_trans (size_of_RL Aj.r2) (by decide)) w R
 have c8:=fun (w:World) (R:EnvV w)=>rneg_any (b*(primF a b (0:Rat))) Au w R.toEnvR
 have c9:=fun (w:World) (R:EnvV w)=>rmul_any a (b*(primF a b (0:Rat))) na.rm Aj.rm w R.toEnvR
 have c10:=fun (w:World) (R:EnvV w)=>rmul_any b (a*(primF a b (0:Rat))) nb.rm Ao.rm w R.toEnvR
 have c11:CV 22 #[.string (ratB (a*(b*(primF a b (0:Rat))))),.string (ratB (b*(a*(primF a b (0:Rat)))))] (.string ⟨#[48]⟩):=fun w R=>(by have h:=rsub_any (a*(b*(primF a b (0:Rat)))) (b*(a*(primF a b (0:Rat)))) Ap.rm Aq.rm w R.toEnvR;rw [show (a*(b*(primF a b (0:Rat)))) - (b*(a*(primF a b (0:Rat))))=0 from dir_cross a b,rb_0] at h;exact h)
 have c12:=fun (w:World) (R:EnvV w)=>rmul_any a (a*(primF a b (0:Rat))) na.rm Ao.rm w R.toEnvR
 have c13:=fun (w:World) (R:EnvV w)=>rmul_any b (b*(primF a b (0:Rat))) nb.rm Aj.rm w R.toEnvR
 have c14:=fun (w:World) (R:EnvV w)=>radd_any (a*(a*(primF a b (0:Rat)))) (b*(b*(primF a b (0:Rat)))) Ar.rm As.rm w R.toEnvR
 have c15:=fun (w:World) (R:EnvV w)=>rsign_any ((a*(a*(primF a b (0:Rat))))+(b*(b*(primF a b (0:Rat))))) Aw w R.toEnvR
 have c16:=lprim3 (a*(primF a b (0:Rat))) (b*(primF a b (0:Rat))) (dir_den a b g).1 (dir_den a b g).2 Ao.rm Aj.rm (dir_gcd a b g)
 have gd:decide (c.num.sign < 0)=false:=decide_eq_false hsg
 have gs:0≤c.num.sign:=Int.not_lt.1 hsg
 have gt:0 < ((a*(a*(primF a b (0:Rat))))+(b*(b*(primF a b (0:Rat))))).num.sign:=dir_dot a b g
 have eq1:((ratB a).toList == [48])=true:=by rw [ratB_eq_zero];exact decide_eq_true q1
 have pq1:(ratB a).toList=[48]:=(zero_iff _).2 q1
 have eq2:((ratB b).toList == [48])=false:=by rw [ratB_eq_zero];exact decide_eq_false q2
 have pq2:¬ (ratB b).toList=[48]:=fun h=>q2 ((zero_iff _).1 h)
 obtain ⟨Bk,Ax⟩:∃ vq,ratB ((a*(a*(primF a b (0:Rat))))+(b*(b*(primF a b (0:Rat)))))=vq:=⟨_,rfl⟩
 obtain ⟨Bl,Ay⟩:∃ vq,ratB (a*(a*(primF a b (0:Rat))))=vq:=⟨_,rfl⟩
 obtain ⟨Bm,Az⟩:∃ vq,ratB (a*(b*(primF a b (0:Rat))))=vq:=⟨_,rfl⟩
 obtain ⟨Bn,A0⟩:∃ vq,ratB (b*(a*(primF a b (0:Rat))))=vq:=⟨_,rfl⟩
 obtain ⟨Bo,A1⟩:∃ vq,ratB (b*(b*(primF a b (0:Rat))))=vq:=⟨_,rfl⟩
 obtain ⟨Bp,A2⟩:∃ vq,ratB (-(b*(primF a b (0:Rat))))=vq:=⟨_,rfl⟩
 obtain ⟨Bq,A3⟩:∃ vq,ratB (a*(primF a b (0:Rat)))=vq:=⟨_,rfl⟩
 obtain ⟨Br,A4⟩:∃ vq,ratB (b*(primF a b (0:Rat)))=vq:=⟨_,rfl⟩
 obtain ⟨Bs,A5⟩:∃ vq,ratB a=vq:=⟨_,rfl⟩
 obtain ⟨Bt,A6⟩:∃ vq,ratB b=vq:=⟨_,rfl⟩
 obtain ⟨Bu,A7⟩:∃ vq,ratB c=vq:=⟨_,rfl⟩
 try simp only [Ax,Ay,Az,A0,A1,A2,A3,A4,A5,A6,A7] at c1 c2 c3 c4 c5 c6 c7 c8 c9 c10 c11 c12 c13 c14 c15 c16 gd gs gt eq1 pq1 eq2 pq2 ⊢
 obtain ⟨sg,esg⟩:∃ vq,c.num.sign=vq:=⟨_,rfl⟩
 try simp only [esg] at c1 c2 c3 c4 c5 c6 c7 c8 c9 c10 c11 c12 c13 c14 c15 c16 gd gs gt eq1 pq1 eq2 pq2 ⊢
 obtain ⟨dg,edg⟩:∃ vq,((a*(a*(primF a b (0:Rat))))+(b*(b*(primF a b (0:Rat))))).num.sign=vq:=⟨_,rfl⟩
 try simp only [edg] at c1 c2 c3 c4 c5 c6 c7 c8 c9 c10 c11 c12 c13 c14 c15 c16 gd gs gt eq1 pq1 eq2 pq2 ⊢
 have C1:=Lib.hid c1
 have C2:=Lib.hid c2
 have C3:=Lib.hid c3
 have C4:=Lib.hid c4
 have C5:=Lib.hid c5
 have C6:=Lib.hid c6
 have C7:=Lib.hid c7
 have C8:=Lib.hid c8
 have C9:=Lib.hid c9
 have C10:=Lib.hid c10
 have C11:=Lib.hid c11
 have C12:=Lib.hid c12
 have C13:=Lib.hid c13
 have C14:=Lib.hid c14
 have C15:=Lib.hid c15
 have C16:=Lib.hid c16
 clear c1 c2 c3 c4 c5 c6 c7 c8 c9 c10 c11 c12 c13 c14 c15 c16 Ax Ay Az A0 A1 A2 A3 A4 A5 A6 A7 esg edg Ao Aj Bf At Au Ap Aq Bg Ar As Av Aw q1 q2 g na nb nc hsg hs
 have hb:=Below.refl w.heap.size w
 go_enter Tryz.func4,Tryz.ntmps4
 go_upto_region 1 with fail
 refine wp_alloc1 (fun w1 a0 hk=>?_)
 replace hb:=hb.trans (hk.mono hb.size)
 clear hk
 obtain ⟨Ag,Ah,Ai⟩:=ce3 a0
 go_upto_region 4 with ((first | (go_at_call 11;with_reducible refine (chVB hb R C1).mono ?_) | (go_at_call 12;with_reducible refine (zL hb (C2.out _ (R.below hb))).mono ?_) | (go_at_call 18;with_reducible refine (chVB hb R C3).mono ?_));clear hb;rintro e w1 ⟨rfl,hk,hb⟩;clear Ag Ah Ai;replace a0:=zB hk a0;obtain ⟨Ag,Ah,Ai⟩:=ce3 a0;clear hk)
 refine wp_alloc1 (fun w1 Aa hk=>?_)
 clear Ag Ah Ai
 replace a0:=zB hk a0
 obtain ⟨Ag,Ah,Ai⟩:=ce3 a0
 replace hb:=hb.trans (hk.mono hb.size)
 clear hk
 obtain ⟨Ac,Ad⟩:=ce2 Aa
 go_upto_region 5 with (go_at_call 19;with_reducible refine (chVB hb R C4).mono ?_;clear hb;rintro e w1 ⟨rfl,hk,hb⟩;clear Ag Ah Ai Ac Ad;replace a0:=zB hk a0;replace Aa:=zB hk Aa;obtain ⟨Ag,Ah,Ai⟩:=ce3 a0;obtain ⟨Ac,Ad⟩:=ce2 Aa;clear hk)
 refine wp_alloc1 (fun w1 Ab hk=>?_)
 clear Ag Ah Ai Ac Ad
 replace a0:=zB hk a0
 replace Aa:=zB hk Aa
 obtain ⟨Ag,Ah,Ai⟩:=ce3 a0
 obtain ⟨Ac,Ad⟩:=ce2 Aa
 replace hb:=hb.trans (hk.mono hb.size)
 clear hk
 obtain ⟨Ae,Af⟩:=ce2 Ab
 go_upto_region 10 with (go_at_call 16;with_reducible refine (chVB hb R C5).mono ?_;clear hb;rintro e w1 ⟨rfl,hk,hb⟩;clear Ag Ah Ai Ac Ad Ae Af;replace a0:=zB hk a0;replace Aa:=zB hk Aa;replace Ab:=zB hk Ab;obtain ⟨Ag,Ah,Ai⟩:=ce3 a0;obtain ⟨Ac,Ad⟩:=ce2 Aa;obtain ⟨Ae,Af⟩:=ce2 Ab;clear hk)
 obtain ⟨Bh,Bi,Bj⟩:=cy3 a0
 obtain ⟨Ak,Al⟩:=cy2 Aa
 obtain ⟨Am,An⟩:=cy2 Ab
 refine wp_region_quiet_below (by first | assumption | kernel_rfl) (by kernel_rfl) ?_
 repeat (quiet_step (first | fail))
 refine wpQuiet_nil ?_
 intro w1 hw'
 obtain ⟨hk,hb⟩:=zQ hb hw'
 clear Ag Ah Ai Ac Ad Ae Af
 replace a0:=zB hk a0
 replace Aa:=zB hk Aa
 replace Ab:=zB hk Ab
 obtain ⟨Ag,Ah,Ai⟩:=ce3 a0
 obtain ⟨Ac,Ad⟩:=ce2 Aa
 obtain ⟨Ae,Af⟩:=ce2 Ab
 clear Bh Bi Bj Ak Al Am An
 clear hk hw'
 go_upto_region 13 with (go_at_call 17;with_reducible refine (chVB hb R C6).mono ?_;clear hb;rintro e w1 ⟨rfl,hk,hb⟩;clear Ag Ah Ai Ac Ad Ae Af;replace a0:=zB hk a0;replace Aa:=zB hk Aa;replace Ab:=zB hk Ab;obtain ⟨Ag,Ah,Ai⟩:=ce3 a0;obtain ⟨Ac,Ad⟩:=ce2 Aa;obtain ⟨Ae,Af⟩:=ce2 Ab;clear hk)
 clear Ag Ah Ai a0
 obtain ⟨Ak,Al⟩:=cy2 Aa
 obtain ⟨Am,An⟩:=cy2 Ab
 refine wp_region_mid 11 1 (by first | assumption | kernel_rfl) (by kernel_rfl) ?_
 simp only [List.take_succ_cons,List.take_zero,List.drop_succ_cons,List.drop_zero]
 repeat (quiet_step (first | fail))
 refine wpQuiet_nil ?_
 intro w1 hw'
 obtain ⟨hk,hb⟩:=zQ hb hw'
 clear Ac Ad Ae Af
 replace Aa:=zB hk Aa
 replace Ab:=zB hk Ab
 obtain ⟨Ac,Ad⟩:=ce2 Aa
 obtain ⟨Ae,Af⟩:=ce2 Ab
 clear Ak Al Am An
 clear hk hw'
 go_wp2_with (go_at_call 21;with_reducible refine (zL hb (C7.out _ (R.below hb))).mono ?_;clear hb;rintro e w1 ⟨rfl,hk,hb⟩;clear Ac Ad Ae Af;replace Aa:=zB hk Aa;replace Ab:=zB hk Ab;obtain ⟨Ac,Ad⟩:=ce2 Aa;obtain ⟨Ae,Af⟩:=ce2 Ab;clear hk)
 obtain ⟨Ak,Al⟩:=cy2 Aa
 obtain ⟨Am,An⟩:=cy2 Ab
 have A8:=rrV C8 R hb
 refine ⟨w1,Below.refl _ _,?_⟩
 repeat (quiet_step (first | (with_reducible exact A8.out _ _)))
 refine wpQuiet_nil ?_
 intro w1 hw'
 obtain ⟨hk,hb⟩:=zQ hb hw'
 clear Ac Ad Ae Af
 replace Aa:=zB hk Aa
 replace Ab:=zB hk Ab
 obtain ⟨Ac,Ad⟩:=ce2 Aa
 obtain ⟨Ae,Af⟩:=ce2 Ab
 clear A8 Ak Al Am An
 clear hk hw'
 go_upto_region 15 with fail
 obtain ⟨Ak,Al⟩:=cy2 Aa
 obtain ⟨Am,An⟩:=cy2 Ab
 have A9:=rrV C9 R hb
 have Ba:=rrV C10 R hb
 have Bb:=rrV C11 R hb
 refine wp_region_quiet_below (by first | assumption | kernel_rfl) (by kernel_rfl) ?_
 repeat (quiet_step (first | (with_reducible exact A9.out _ _) | (with_reducible exact Ba.out _ _) | (with_reducible exact Bb.out _ _)))
 refine wpQuiet_nil ?_
 intro w1 hw'
 obtain ⟨hk,hb⟩:=zQ hb hw'
 clear Ac Ad Ae Af
 replace Aa:=zB hk Aa
 replace Ab:=zB hk Ab
 obtain ⟨Ac,Ad⟩:=ce2 Aa
 obtain ⟨Ae,Af⟩:=ce2 Ab
 clear A9 Ba Bb Ak Al Am An
 clear hk hw'
 go_upto_region 16 with fail
 obtain ⟨Ak,Al⟩:=cy2 Aa
 obtain ⟨Am,An⟩:=cy2 Ab
 have Bc:=rrV C12 R hb
 have Bd:=rrV C13 R hb
 have Be:=rrV C14 R hb
 refine wp_region_quiet_below (by first | assumption | kernel_rfl) (by kernel_rfl) ?_
 repeat (quiet_step (first | (with_reducible exact Bc.out _ _) | (with_reducible exact Bd.out _ _) | (with_reducible exact Be.out _ _)))
 refine wpQuiet_nil ?_
 intro w1 hw'
 obtain ⟨hk,hb⟩:=zQ hb hw'
 clear Ac Ad Ae Af
 replace Aa:=zB hk Aa
 replace Ab:=zB hk Ab
 obtain ⟨Ac,Ad⟩:=ce2 Aa
 obtain ⟨Ae,Af⟩:=ce2 Ab
 clear Bc Bd Be Ak Al Am An
 clear hk hw'
 go_wp2_with ((first | (go_at_call 17;with_reducible refine (chVB hb R C15).mono ?_) | (go_at_call 25;with_reducible refine (zL hb (C16.out _ (R.below hb))).mono ?_));clear hb;rintro e w1 ⟨rfl,hk,hb⟩;clear Ac Ad Ae Af;replace Aa:=zB hk Aa;replace Ab:=zB hk Ab;obtain ⟨Ac,Ad⟩:=ce2 Aa;obtain ⟨Ae,Af⟩:=ce2 Ab;clear hk)
 first | go_ret | go_ret2 | go_ret3
 exact ⟨rfl,hb⟩
theorem lawDirections (s0 s1 s2:ByteArray) (ms0:s0.size≤9223372036854775807) (ms1:s1.size≤9223372036854775807) (ms2:s2.size≤9223372036854775807) (w:World) (R:EnvV w) :
   Calls Tryz.prog 4 #[.agg #[.string s0,.string s1,.string s2]] w (Ret w (.bool true)):=by
 by_cases hs:s0.size≤24∧s1.size≤24∧s2.size≤24
 case neg=>exact dirs_long s0 s1 s2 hs ms0 ms1 ms2 w R
 rcases normal_cases s0 s1 s2 hs.1 hs.2.1 hs.2.2 with ⟨v,hv⟩ | ⟨a,b,c,rfl,rfl,rfl,na,nb,nc,h⟩
 · exact dirs_E s0 s1 s2 v hv (by omega) (by omega) (by omega) hs w R
 · by_cases q0:a=0
   · by_cases q1:b=0
     · exact dirs_N a b c h na nb nc hs q0 q1 w R
     · by_cases hsg:c.num.sign < 0
       · exact dirs_t1 a b c (Or.inr q1) na nb nc hsg hs q0 q1 w R
       · exact dirs_f1 a b c (Or.inr q1) na nb nc hsg hs q0 q1 w R
   · by_cases hsg:c.num.sign < 0
     · exact dirs_t0 a b c (Or.inl q0) na nb nc hsg hs q0 w R
     · exact dirs_f0 a b c (Or.inl q0) na nb nc hsg hs q0 w R
end Go.Proofs.YtejfiegmdllfbaaGreatDoor.Kl
