import Derived.Test.YtejfiegmdllfbaaGreatDoorKlATurnsAtT
namespace Go.Proofs.YtejfiegmdllfbaaGreatDoor.Kl
open Go Go.RowKit
set_option maxRecDepth 100000
set_option maxHeartbeats 8000000
theorem flat_0 (x y z:Rat):(((((-x)*(-x))+((-y)*(-y)))*(z*z)) - (((x*x)+(y*y))*((-z)*(-z)))).num.sign=0:=by
 rw [show (((((-x)*(-x))+((-y)*(-y)))*(z*z)) - (((x*x)+(y*y))*((-z)*(-z))))=0 by grind];rfl
theorem neg_neg' (q:Rat) : -(-q)=q:=by grind
theorem div_neg2 (p q:Rat):(-p) / (-q)=p / q:=by
 by_cases h:q=0
 · subst h;rw [show (-(0:Rat))=0 by decide +kernel,Rat.div_def,Rat.div_def,Rat.inv_zero,Rat.mul_zero,Rat.mul_zero]
 · have h2:(-q)≠0:=neg_ne h
   rw [Rat.div_def,Rat.div_def]
   have e1:q*q⁻¹=1:=Rat.mul_inv_cancel q h
   have e2:(-q)*(-q)⁻¹=1:=Rat.mul_inv_cancel (-q) h2
   grind
theorem dir_ne (x y:Rat) (h:x≠0∨y≠0):(x*primF x y (0:Rat))≠0∨(y*primF x y (0:Rat))≠0:=by
 have hF:=prim_pos x y 0 (h.elim Or.inl (fun k=>Or.inr (Or.inl k)))
 have hF0:primF x y (0:Rat)≠0:=fun k=>by rw [k] at hF;exact absurd hF (by decide)
 rcases h with h | h
 · exact Or.inl (fun k=>(Rat.mul_eq_zero.1 k).elim h hF0)
 · exact Or.inr (fun k=>(Rat.mul_eq_zero.1 k).elim h hF0)
theorem dir_ne2 (x y:Rat) (h:x≠0∨y≠0):(-(y*primF x y (0:Rat)))≠0∨(x*primF x y (0:Rat))≠0:=by
 rcases dir_ne x y h with k | k
 · exact Or.inr k
 · exact Or.inl (neg_ne k)
theorem zero_div' (z:Rat):(0:Rat) / z=0:=by rw [Rat.div_def,Rat.zero_mul]
theorem sgn_pos {q:Rat} (h:0 < q):0 < q.num.sign:=by rw [sign_rat,if_neg (by grind),if_neg (by grind)];decide
theorem pos_sgn {q:Rat} (h:0 < q.num.sign):0 < q:=by
 rw [sign_rat] at h
 by_cases h1:q < 0
 · rw [if_pos h1] at h;omega
 · by_cases h2:q=0
   · rw [if_neg h1,if_pos h2] at h;omega
   · grind
theorem fall_f (x y z:Rat) (h:x≠0∨y≠0) (hz:0 < z):0 < (((x*(x*primF x y (0:Rat)))+(y*(y*primF x y (0:Rat)))) / z).num.sign:=by
 have:=pos_sgn (dir_dot x y h)
 rw [Rat.div_def]
 exact sgn_pos (Rat.mul_pos this (Rat.inv_pos.2 hz))
theorem fall_t (x y z:Rat) (h:x≠0∨y≠0) (hz:z < 0):0 < (((x*((-x)*primF (-x) (-y) (0:Rat)))+(y*((-y)*primF (-x) (-y) (0:Rat)))) / z).num.sign:=by
 have h2:(-x)≠0∨(-y)≠0:=h.elim (fun k=>Or.inl (neg_ne k)) (fun k=>Or.inr (neg_ne k))
 have:=fall_f (-x) (-y) (-z) h2 (by grind)
 rw [← div_neg2 _ z,show -((x*((-x)*primF (-x) (-y) (0:Rat)))+(y*((-y)*primF (-x) (-y) (0:Rat))))=((-x)*((-x)*primF (-x) (-y) (0:Rat)))+((-y)*((-y)*primF (-x) (-y) (0:Rat))) by grind]
 exact this
theorem neg_of_sgn {q:Rat} (h:q.num.sign < 0):q < 0:=by
 rw [sign_rat] at h
 by_cases h1:q < 0
 · exact h1
 · by_cases h2:q=0
   · rw [if_neg h1,if_pos h2] at h;omega
   · rw [if_neg h1,if_neg h2] at h;omega
theorem sgp {q:Rat} (hq:q≠0) (h:¬ q.num.sign < 0):0 < q.num.sign:=by
 have h0:q.num.sign≠0:=fun k=>hq (Rat.num_eq_zero.1 (Int.sign_eq_zero_iff_zero.1 k))
 omega
theorem sgn_neg2 (q:Rat):(-q).num.sign = -q.num.sign:=by show (-q.num).sign=_;rw [Int.sign_neg]
theorem turns_0  (i0 i1 i2:Int) (x y z:Rat) (k0:IsD i0 x) (k1:IsD i1 y) (k2:IsD i2 z) (q0:x=0) (q1:y=0) (w:World) (R:EnvV w) :
   Calls Tryz.prog 10 #[.agg #[.int .i8 i0,.int .i8 i1,.int .i8 i2]] w (Ret w (.bool true)):=by
 have c1:=vector_any i0 i1 i2 x y z k0 k1 k2
 have c2:=known15_any
 have eq0:((ratB x).toList == [48])=true:=by rw [ratB_eq_zero];exact decide_eq_true q0
 have pq0:(ratB x).toList=[48]:=(zero_iff _).2 q0
 have eq1:((ratB y).toList == [48])=true:=by rw [ratB_eq_zero];exact decide_eq_true q1
 have pq1:(ratB y).toList=[48]:=(zero_iff _).2 q1
 obtain ⟨Ak,Ae⟩:∃ vq,ratB x=vq:=⟨_,rfl⟩
 obtain ⟨Al,Af⟩:∃ vq,ratB y=vq:=⟨_,rfl⟩
 obtain ⟨Am,Ag⟩:∃ vq,ratB z=vq:=⟨_,rfl⟩
 try simp only [Ae,Af,Ag] at c1 c2 eq0 pq0 eq1 pq1 ⊢
 have C1:=Lib.hid c1
 have C2:=Lib.hid c2
 clear c1 c2 Ae Af Ag q0 q1 k0 k1 k2
 have hb:=Below.refl w.heap.size w
 go_enter Tryz.func10,Tryz.ntmps10
 go_upto_region 1 with fail
 refine wp_alloc1 (fun w1 a0 hk=>?_)
 replace hb:=hb.trans (hk.mono hb.size)
 clear hk
 obtain ⟨Ab,Ac,Ad⟩:=ce3 a0
 go_upto_region 2 with (go_at_call 39;with_reducible refine (chVB hb R C1).mono ?_;clear hb;rintro e w1 ⟨rfl,hk,hb⟩;clear Ab Ac Ad;replace a0:=zB hk a0;obtain ⟨Ab,Ac,Ad⟩:=ce3 a0;clear hk)
 clear Ab Ac Ad a0
 refine wp_alloc1 (fun w1 Aa hk=>?_)
 replace hb:=hb.trans (hk.mono hb.size)
 clear hk
 obtain ⟨Ah,Ai,Aj⟩:=ce3 Aa
 go_wp2_with ((go_at_call 11;first | with_reducible refine (chVB hb R C2).mono ?_ | with_reducible refine (chVB hb R C2).mono ?_);clear hb;rintro e w1 ⟨rfl,hk,hb⟩;clear Ah Ai Aj;replace Aa:=zB hk Aa;obtain ⟨Ah,Ai,Aj⟩:=ce3 Aa;clear hk)
 first | go_ret | go_ret2 | go_ret3
 exact ⟨rfl,hb⟩
theorem turns_1  (i0 i1 i2:Int) (x y z:Rat) (k0:IsD i0 x) (k1:IsD i1 y) (k2:IsD i2 z) (q0:x≠0) (q1:z=0) (w:World) (R:EnvV w) :
   Calls Tryz.prog 10 #[.agg #[.int .i8 i0,.int .i8 i1,.int .i8 i2]] w (Ret w (.bool true)):=by
 have c1:=vector_any i0 i1 i2 x y z k0 k1 k2
 have c2:=known15_any
 have eq0:((ratB x).toList == [48])=false:=by rw [ratB_eq_zero];exact decide_eq_false q0
 have pq0:¬ (ratB x).toList=[48]:=fun h=>q0 ((zero_iff _).1 h)
 have eq1:((ratB z).toList == [48])=true:=by rw [ratB_eq_zero];exact decide_eq_true q1
 have pq1:(ratB z).toList=[48]:=(zero_iff _).2 q1
 obtain ⟨Ak,Ae⟩:∃ vq,ratB x=vq:=⟨_,rfl⟩
 obtain ⟨Al,Af⟩:∃ vq,ratB y=vq:=⟨_,rfl⟩
 obtain ⟨Am,Ag⟩:∃ vq,ratB z=vq:=⟨_,rfl⟩
 try simp only [Ae,Af,Ag] at c1 c2 eq0 pq0 eq1 pq1 ⊢
 have C1:=Lib.hid c1
 have C2:=Lib.hid c2
 clear c1 c2 Ae Af Ag q0 q1 k0 k1 k2
 have hb:=Below.refl w.heap.size w
 go_enter Tryz.func10,Tryz.ntmps10
 go_upto_region 1 with fail
 refine wp_alloc1 (fun w1 a0 hk=>?_)
 replace hb:=hb.trans (hk.mono hb.size)
 clear hk
 obtain ⟨Ab,Ac,Ad⟩:=ce3 a0
 go_upto_region 2 with (go_at_call 39;with_reducible refine (chVB hb R C1).mono ?_;clear hb;rintro e w1 ⟨rfl,hk,hb⟩;clear Ab Ac Ad;replace a0:=zB hk a0;obtain ⟨Ab,Ac,Ad⟩:=ce3 a0;clear hk)
 clear Ab Ac Ad a0
 refine wp_alloc1 (fun w1 Aa hk=>?_)
 replace hb:=hb.trans (hk.mono hb.size)
 clear hk
 obtain ⟨Ah,Ai,Aj⟩:=ce3 Aa
 go_wp2_with ((go_at_call 11;first | with_reducible refine (chVB hb R C2).mono ?_ | with_reducible refine (chVB hb R C2).mono ?_);clear hb;rintro e w1 ⟨rfl,hk,hb⟩;clear Ah Ai Aj;replace Aa:=zB hk Aa;obtain ⟨Ah,Ai,Aj⟩:=ce3 Aa;clear hk)
 first | go_ret | go_ret2 | go_ret3
 exact ⟨rfl,hb⟩
theorem turns_2  (i0 i1 i2:Int) (x y z:Rat) (k0:IsD i0 x) (k1:IsD i1 y) (k2:IsD i2 z) (q0:x=0) (q1:y≠0) (q2:z=0) (w:World) (R:EnvV w) :
   Calls Tryz.prog 10 #[.agg #[.int .i8 i0,.int .i8 i1,.int .i8 i2]] w (Ret w (.bool true)):=by
 have c1:=vector_any i0 i1 i2 x y z k0 k1 k2
 have c2:=known15_any
 have eq0:((ratB x).toList == [48])=true:=by rw [ratB_eq_zero];exact decide_eq_true q0
 have pq0:(ratB x).toList=[48]:=(zero_iff _).2 q0
 have eq1:((ratB y).toList == [48])=false:=by rw [ratB_eq_zero];exact decide_eq_false q1
 have pq1:¬ (ratB y).toList=[48]:=fun h=>q1 ((zero_iff _).1 h)
 have eq2:((ratB z).toList == [48])=true:=by rw [ratB_eq_zero];exact decide_eq_true q2
 have pq2:(ratB z).toList=[48]:=(zero_iff _).2 q2
 obtain ⟨Ak,Ae⟩:∃ vq,ratB x=vq:=⟨_,rfl⟩
 obtain ⟨Al,Af⟩:∃ vq,ratB y=vq:=⟨_,rfl⟩
 obtain ⟨Am,Ag⟩:∃ vq,ratB z=vq:=⟨_,rfl⟩
 try simp only [Ae,Af,Ag] at c1 c2 eq0 pq0 eq1 pq1 eq2 pq2 ⊢
 have C1:=Lib.hid c1
 have C2:=Lib.hid c2
 clear c1 c2 Ae Af Ag q0 q1 q2 k0 k1 k2
 have hb:=Below.refl w.heap.size w
 go_enter Tryz.func10,Tryz.ntmps10
 go_upto_region 1 with fail
 refine wp_alloc1 (fun w1 a0 hk=>?_)
 replace hb:=hb.trans (hk.mono hb.size)
 clear hk
 obtain ⟨Ab,Ac,Ad⟩:=ce3 a0
 go_upto_region 2 with (go_at_call 39;with_reducible refine (chVB hb R C1).mono ?_;clear hb;rintro e w1 ⟨rfl,hk,hb⟩;clear Ab Ac Ad;replace a0:=zB hk a0;obtain ⟨Ab,Ac,Ad⟩:=ce3 a0;clear hk)
 clear Ab Ac Ad a0
 refine wp_alloc1 (fun w1 Aa hk=>?_)
 replace hb:=hb.trans (hk.mono hb.size)
 clear hk
 obtain ⟨Ah,Ai,Aj⟩:=ce3 Aa
 go_wp2_with ((go_at_call 11;first | with_reducible refine (chVB hb R C2).mono ?_ | with_reducible refine (chVB hb R C2).mono ?_);clear hb;rintro e w1 ⟨rfl,hk,hb⟩;clear Ah Ai Aj;replace Aa:=zB hk Aa;obtain ⟨Ah,Ai,Aj⟩:=ce3 Aa;clear hk)
 first | go_ret | go_ret2 | go_ret3
 exact ⟨rfl,hb⟩
theorem turns_t0  (i0 i1 i2:Int) (x y z:Rat) (k0:IsD i0 x) (k1:IsD i1 y) (k2:IsD i2 z) (g:x≠0∨y≠0) (hz:z≠0) (hsg:z.num.sign < 0) (q1:x≠0) (q2:z≠0) (w:World) (R:EnvV w) :
   Calls Tryz.prog 10 #[.agg #[.int .i8 i0,.int .i8 i1,.int .i8 i2]] w (Ret w (.bool true)):=by
 have Ap:RN (-x) 1 1:=(RN_neg k0.rn)
 have A5:=k0.rn.rl (K:=40000)
 have Aq:RN (-y) 1 1:=(RN_neg k1.rn)
 have A6:=k1.rn.rl (K:=40000)
 have Ar:RN (-z) 1 1:=(RN_neg k2.rn)
 have Br:=k2.rn.rl (K:=40000)
 have Aw:=RN_mul (RN_neg k0.rn) (RN_prim (n:=1) (d:=1) ((g.elim (fun k=>Or.inl (neg_ne k)) (fun k=>Or.inr (neg_ne k))).elim Or.inl (fun k=>Or.inr (Or.inl k))) (by decide) (by decide) (RN.up (RN_neg k0.rn) (by decide) (by decide)) (RN.up (RN_neg k1.rn) (by decide) (by decide)) (RN.up rn_0 (by decide) (by decide)))
 have Az:=RN_mul (RN_neg k1.rn) (RN_prim (n:=1) (d:=1) ((g.elim (fun k=>Or.inl (neg_ne k)) (fun k=>Or.inr (neg_ne k))).elim Or.inl (fun k=>Or.inr (Or.inl k))) (by decide) (by decide) (RN.up (RN_neg k0.rn) (by decide) (by decide)) (RN.up (RN_neg k1.rn) (by decide) (by decide)) (RN.up rn_0 (by decide) (by decide)))
 have A0:RN (-((-y)*(primF (-x) (-y) (0:Rat)))) 4 2:=(RN_neg Az)
 have A7:=RN_mul Ap Ap
 have A8:=RN_mul Aq Aq
 have A9:=RN_mul k0.rn k0.rn
 have Ba:=RN_mul k1.rn k1.rn
 have Bb:=RN_add (N:=4) A7 A8
 have Bc:=RN_mul k2.rn k2.rn
 have Bd:=RN_add (N:=4) A9 Ba
 have Be:=RN_mul Ar Ar
 have Bs:=RN_mul Bb Bc
 have Bt:=RN_mul Bd Be
 have Bu:=RN_div Ap k2.rn hz
 have Bv:=RN_div Aq k2.rn hz
 have Bw:=RN_div k0.rn k2.rn hz
 have Co:RN (-(x / z)) 2 2:=(RN_neg Bw)
 have Bx:=RN_div k1.rn k2.rn hz
 have Cp:RN (-(y / z)) 2 2:=(RN_neg Bx)
 have By:=Ap.rl (K:=40000)
 have Bf:RN (-(-x)) 1 1:=(RN_neg Ap)
 have Bz:=RN_div Bf Ar (neg_ne hz)
 have B0:=Aq.rl (K:=40000)
 have Bg:RN (-(-y)) 1 1:=(RN_neg Aq)
 have B1:=RN_div Bg Ar (neg_ne hz)
 have B2:=RN_div Ap Ar (neg_ne hz)
 have Cq:RN (-((-x) / (-z))) 2 2:=(RN_neg B2)
 have B3:=RN_div Aq Ar (neg_ne hz)
 have Cr:RN (-((-y) / (-z))) 2 2:=(RN_neg B3)
 have Bh:=RN_mul k0.rn A0
 have Bi:=RN_mul k1.rn Aw
 have Bj:=RN_add (N:=8) Bh Bi
 have B4:=RN_div Bj k2.rn hz
 have Bk:=RN_mul k0.rn Aw
 have Bl:=RN_mul k1.rn Az
 have Bm:=RN_add (N:=8) Bk Bl
 have Bn:=RN_div Bm k2.rn hz
 have B5:=Bn.rl (K:=100000)
 have c1:=vector_any i0 i1 i2 x y z k0 k1 k2
 have c2:=known15_any
 have c3:=fun (w:World) (R:EnvV w)=>rneg_any x A5 w R.toEnvR
 have c4:=fun (w:World) (R:EnvV w)=>rneg_any y A6 w R.toEnvR
 have c5:=fun (w:World) (R:EnvV w)=>rneg_any z Br w R.toEnvR
 have c6:=strike_t x y z g (RN.up k0.rn (by decide) (by decide)) (RN.up k1.rn (by decide) (by decide)) (RN.up k2.rn (by decide) (by decide)) hsg
 have c7:CV 19 #[.agg #[.string (ratB (-x)),.string (ratB (-y)),.string (ratB (-z))]] (.tuple #[.agg #[.string (ratB (-((-y)*(primF (-x) (-y) (0:Rat))))),.string (ratB ((-x)*(primF (-x) (-y) (0:Rat))))],.int .i64 0]):=fun w R=>strike_f (-x) (-y) (-z) (g.elim (fun k=>Or.inl (neg_ne k)) (fun k=>Or.inr (neg_ne k))) (RN.up (RN_neg k0.rn) (by decide) (by decide)) (RN.up (RN_neg k1.rn) (by decide) (by decide)) (RN.up (RN_neg k2.rn) (by decide) (by decide)) (by rw [sgn_neg2];omega) w R
 have c8:CV 40 #[.agg #[.string (ratB (-x)),.string (ratB (-y)),.string (ratB (-z))],.agg #[.string (ratB x),.string (ratB y),.string (ratB z)]] (.tuple #[.int .i64 0,.int .i64 0]):=fun w R=>(by have h:=flat_ok (-x) (-y) (-z) x y z (Or.inr (Or.inr (neg_ne hz))) Ap.r2 Aq.r2 Ar.r2 (Or.inr (Or.inr hz)) k0.rn.r2 k1.rn.r2 k2.rn.r2 Ap.rm Aq.rm A7.rm A8.rm Ar.rm k0.rn.rm k1.rn.rm A9.rm Ba.rm k2.rn.rm Bb.rm Bc.rm Bd.rm Be.rm Bs.rm Bt.rm w R;rw [flat_0 x y z] at h;exact h)
 have c9:=grad_ok x y z k0.rn.r2 k1.rn.r2 k2.rn.r2 hz A5 Ap.rm k2.rn.rm Bu.r2 A6 Aq.rm Bv.r2
 have c10:CV 32 #[.agg #[.string (ratB (-x)),.string (ratB (-y)),.string (ratB (-z))]] (.tuple #[.agg #[.string (ratB (-(x / z))),.string (ratB (-(y / z)))],.int .i64 0]):=fun w R=>(by have h:=grad_ok (-x) (-y) (-z) Ap.r2 Aq.r2 Ar.r2 (neg_ne hz) By Bf.rm Ar.rm Bz.r2 B0 Bg.rm B1.r2 w R;rw [div_neg2 x z,div_neg2 y z] at h;exact h)
 have c11:=toward_t x y z g (RN.up k0.rn (by decide) (by decide)) (RN.up k1.rn (by decide) (by decide)) (RN.up k2.rn (by decide) (by decide)) hsg
 have c12:CV 36 #[.agg #[.string (ratB x),.string (ratB y),.string (ratB z)],.agg #[.string (ratB (-((-y)*(primF (-x) (-y) (0:Rat))))),.string (ratB ((-x)*(primF (-x) (-y) (0:Rat))))]] (.tuple #[.string ⟨#[48]⟩,.int .i64 0]):=fun w R=>(by have h:=appar_ok x y z (-((-y)*(primF (-x) (-y) (0:Rat)))) ((-x)*(primF (-x) (-y) (0:Rat))) A0.r2 Aw.r2 (dir_ne2 (-x) (-y) (g.elim (fun k=>Or.inl (neg_ne k)) (fun k=>Or.inr (neg_ne k)))) k0.rn.r2 k1.rn.r2 k2.rn.r2 hz k0.rn.rm A0.rm k1.rn.rm Aw.rm Bh.rm Bi.rm Bj.rm k2.rn.rm B4.r2 w R;rw [show ((x*(-((-y)*(primF (-x) (-y) (0:Rat)))))+(y*((-x)*(primF (-x) (-y) (0:Rat))))) / z=0 from by rw [show (x*(-((-y)*(primF (-x) (-y) (0:Rat)))))+(y*((-x)*(primF (-x) (-y) (0:Rat))))=0 by grind,zero_div'],rb_0] at h;exact h)
 have c13:=appar_ok x y z ((-x)*(primF (-x) (-y) (0:Rat))) ((-y)*(primF (-x) (-y) (0:Rat))) Aw.r2 Az.r2 (dir_ne (-x) (-y) (g.elim (fun k=>Or.inl (neg_ne k)) (fun k=>Or.inr (neg_ne k)))) k0.rn.r2 k1.rn.r2 k2.rn.r2 hz k0.rn.rm Aw.rm k1.rn.rm Az.rm Bk.rm Bl.rm Bm.rm k2.rn.rm Bn.r2
 have c14:=fun (w:World) (R:EnvV w)=>rsign_any (((x*((-x)*(primF (-x) (-y) (0:Rat))))+(y*((-y)*(primF (-x) (-y) (0:Rat))))) / z) B5 w R.toEnvR
 have gt:0 < (((x*((-x)*(primF (-x) (-y) (0:Rat))))+(y*((-y)*(primF (-x) (-y) (0:Rat))))) / z).num.sign:=fall_t x y z g (neg_of_sgn hsg)
 have eq1:((ratB x).toList == [48])=false:=by rw [ratB_eq_zero];exact decide_eq_false q1
 have pq1:¬ (ratB x).toList=[48]:=fun h=>q1 ((zero_iff _).1 h)
 have eq2:((ratB z).toList == [48])=false:=by rw [ratB_eq_zero];exact decide_eq_false q2
 have pq2:¬ (ratB z).toList=[48]:=fun h=>q2 ((zero_iff _).1 h)
 obtain ⟨Cy,B6⟩:∃ vq,ratB (((x*((-x)*(primF (-x) (-y) (0:Rat))))+(y*((-y)*(primF (-x) (-y) (0:Rat))))) / z)=vq:=⟨_,rfl⟩
 obtain ⟨Cz,B7⟩:∃ vq,ratB (-((-y)*(primF (-x) (-y) (0:Rat))))=vq:=⟨_,rfl⟩
 obtain ⟨C0,B8⟩:∃ vq,ratB ((-x)*(primF (-x) (-y) (0:Rat)))=vq:=⟨_,rfl⟩
 obtain ⟨Da,B9⟩:∃ vq,ratB ((-y)*(primF (-x) (-y) (0:Rat)))=vq:=⟨_,rfl⟩
 obtain ⟨Db,Ca⟩:∃ vq,ratB (-(x / z))=vq:=⟨_,rfl⟩
 obtain ⟨Dc,Cb⟩:∃ vq,ratB (-(y / z))=vq:=⟨_,rfl⟩
 obtain ⟨A1,Cc⟩:∃ vq,ratB (-x)=vq:=⟨_,rfl⟩
 obtain ⟨A2,Cd⟩:∃ vq,ratB (-y)=vq:=⟨_,rfl⟩
 obtain ⟨A3,Ce⟩:∃ vq,ratB (-z)=vq:=⟨_,rfl⟩
 obtain ⟨Dd,Cf⟩:∃ vq,ratB x=vq:=⟨_,rfl⟩
 obtain ⟨De,Cg⟩:∃ vq,ratB y=vq:=⟨_,rfl⟩
 obtain ⟨Df,Ch⟩:∃ vq,ratB z=vq:=⟨_,rfl⟩
 try simp only [B6,B7,B8,B9,Ca,Cb,Cc,Cd,Ce,Cf,Cg,Ch] at c1 c2 c3 c4 c5 c6 c7 c8 c9 c10 c11 c12 c13 c14 gt eq1 pq1 eq2 pq2 ⊢
 obtain ⟨dg,edg⟩:∃ vq,(((x*((-x)*(primF (-x) (-y) (0:Rat))))+(y*((-y)*(primF (-x) (-y) (0:Rat))))) / z).num.sign=vq:=⟨_,rfl⟩
 try simp only [edg] at c1 c2 c3 c4 c5 c6 c7 c8 c9 c10 c11 c12 c13 c14 gt eq1 pq1 eq2 pq2 ⊢
 have C1:=Lib.hid c1
 have C2:=Lib.hid c2
 have C3:=Lib.hid c3
 have C4:=Lib.hid c4
 have C5:=Lib.hid c5
 have C6:=Lib.hid c6
 have C7:=Lib.hid c7
 have C8:=Lib.hid c8
 have C9:=Lib.hid c9
 have C10:=Lib.hid c10
 have C11:=Lib.hid c11
 have C12:=Lib.hid c12
 have C13:=Lib.hid c13
 have C14:=Lib.hid c14
 clear c1 c2 c3 c4 c5 c6 c7 c8 c9 c10 c11 c12 c13 c14 B6 B7 B8 B9 Ca Cb Cc Cd Ce Cf Cg Ch edg Ap A5 Aq A6 Ar Br Aw Az A0 A7 A8 A9 Ba Bb Bc Bd Be Bs Bt Bu Bv Bw Co Bx Cp By Bf Bz B0 Bg B1 B2 Cq B3 Cr Bh Bi Bj B4 Bk Bl Bm Bn B5 q1 q2 k0 k1 k2 g hz hsg
 have hb:=Below.refl w.heap.size w
 go_enter Tryz.func10,Tryz.ntmps10
 go_upto_region 1 with fail
 refine wp_alloc1 (fun w1 a0 hk=>?_)
 replace hb:=hb.trans (hk.mono hb.size)
 clear hk
 obtain ⟨Bo,Bp,Bq⟩:=ce3 a0
 go_upto_region 2 with (go_at_call 39;with_reducible refine (chVB hb R C1).mono ?_;clear hb;rintro e w1 ⟨rfl,hk,hb⟩;clear Bo Bp Bq;replace a0:=zB hk a0;obtain ⟨Bo,Bp,Bq⟩:=ce3 a0;clear hk)
 clear Bo Bp Bq a0
 refine wp_alloc1 (fun w1 Aa hk=>?_)
 replace hb:=hb.trans (hk.mono hb.size)
 clear hk
 obtain ⟨Ad,Ae,Af⟩:=ce3 Aa
 go_upto_region 4 with (go_at_call 11;with_reducible refine (chVB hb R C2).mono ?_;clear hb;rintro e w1 ⟨rfl,hk,hb⟩;clear Ad Ae Af;replace Aa:=zB hk Aa;obtain ⟨Ad,Ae,Af⟩:=ce3 Aa;clear hk)
 obtain ⟨Cs,Ct,Cu⟩:=cy3 Aa
 have Cv:=rrV C3 R hb
 have Cw:=rrV C4 R hb
 have Cx:=rrV C5 R hb
 have Ci:=qqV C3 R hb
 have Cj:=qqV C4 R hb
 have Ck:=qqV C5 R hb
 refine wp_free1 10 0 (fun i=>if i=10 then Obj.cells #[Value.string ⟨#[]⟩,Value.string ⟨#[]⟩,Value.string ⟨#[]⟩] 24 else Obj.cells #[] 0) (fun i=>if i=10 then Obj.cells #[Value.string A1,Value.string A2,Value.string A3] 24 else Obj.cells #[] 0) (some 4) (by first | assumption | kernel_rfl) (by kernel_rfl) ?lay rfl ?_
 case lay =>
   intro i h1 h2
   obtain rfl:i=10:=by omega
   all_goals exact ⟨_,rfl,rfl,fun a w=>(by first | (go_simp;done) | (go_simp;rfl))⟩
 simp only [List.take_succ_cons,List.take_zero]
 repeat (refine wpB_step (fun K hK=>?_);go_simp;first | (refine hK _ ?_;clear hK K) | (apply Exists.intro;refine ⟨fun _=>?_,hK _ ?_⟩;(first | (with_reducible exact Ci.out _ _) | (with_reducible exact Cj.out _ _) | (with_reducible exact Ck.out _ _));clear hK K))
 refine wpB_nil ?_
 intro As
 refine ⟨?_,?_⟩
 · refine ⟨_,rfl,rfl,rfl,fun cs b h=>(by cases h),fun w hw=>?_⟩
   replace hw:w.heap[As]? = some (Obj.cells #[Value.string ⟨#[]⟩,Value.string ⟨#[]⟩,Value.string ⟨#[]⟩] 24):=hw
   have z0:w.cell? ⟨As,0,none⟩=some (Value.string ⟨#[]⟩):=zA hw
   have y0:w.frozen? ⟨As,0,none⟩=false:=zD hw
   have z1:w.cell? ⟨As,1,none⟩=some (Value.string ⟨#[]⟩):=zA hw
   have y1:w.frozen? ⟨As,1,none⟩=false:=zD hw
   have z2:w.cell? ⟨As,2,none⟩=some (Value.string ⟨#[]⟩):=zA hw
   have y2:w.frozen? ⟨As,2,none⟩=false:=zD hw
   refine ⟨_,?_,(Wrote.set (i:=2) (Wrote.set (i:=1) (Wrote.set (i:=0) (Wrote.refl hw) (Value.string A1)) (Value.string A2)) (Value.string A3))⟩
   go_simp
 intro w1 hk m0 Ac
 clear Ad Ae Af
 replace Aa:=zB hk Aa
 obtain ⟨Ad,Ae,Af⟩:=ce3 Aa
 replace hb:=hb.trans (hk.mono hb.size)
 clear hk
 replace Ac:w1.heap[As]? = some (Obj.cells #[Value.string A1,Value.string A2,Value.string A3] 24):=Ac
 have Ak:w1.cell? ⟨As,0,none⟩=some (Value.string A1):=zA Ac
 have Al:w1.cell? ⟨As,1,none⟩=some (Value.string A2):=zA Ac
 have Am:w1.cell? ⟨As,2,none⟩=some (Value.string A3):=zA Ac
 clear Ci Cj Ck Cv Cw Cx Cs Ct Cu m0
 go_upto_region 6 with (go_at_call 19;with_reducible refine (chVB hb R C6).mono ?_;clear hb;rintro e w1 ⟨rfl,hk,hb⟩;clear Ad Ae Af Ak Al Am;replace Aa:=zB hk Aa;replace Ac:=zB hk Ac;obtain ⟨Ad,Ae,Af⟩:=ce3 Aa;obtain ⟨Ak,Al,Am⟩:=ce3 Ac;clear hk)
 refine wp_alloc1 (fun w1 Ab hk=>?_)
 clear Ad Ae Af Ak Al Am
 replace Aa:=zB hk Aa
 replace Ac:=zB hk Ac
 obtain ⟨Ad,Ae,Af⟩:=ce3 Aa
 obtain ⟨Ak,Al,Am⟩:=ce3 Ac
 replace hb:=hb.trans (hk.mono hb.size)
 clear hk
 obtain ⟨Ah,Ai⟩:=ce2 Ab
 go_upto_region 7 with (go_at_call 19;with_reducible refine (chVB hb R C7).mono ?_;clear hb;rintro e w1 ⟨rfl,hk,hb⟩;clear Ad Ae Af Ah Ai Ak Al Am;replace Aa:=zB hk Aa;replace Ab:=zB hk Ab;replace Ac:=zB hk Ac;obtain ⟨Ad,Ae,Af⟩:=ce3 Aa;obtain ⟨Ah,Ai⟩:=ce2 Ab;obtain ⟨Ak,Al,Am⟩:=ce3 Ac;clear hk)
 refine wp_alloc1 (fun w1 Ag hk=>?_)
 clear Ad Ae Af Ah Ai Ak Al Am
 replace Aa:=zB hk Aa
 replace Ab:=zB hk Ab
 replace Ac:=zB hk Ac
 obtain ⟨Ad,Ae,Af⟩:=ce3 Aa
 obtain ⟨Ah,Ai⟩:=ce2 Ab
 obtain ⟨Ak,Al,Am⟩:=ce3 Ac
 replace hb:=hb.trans (hk.mono hb.size)
 clear hk
 obtain ⟨An,Ao⟩:=ce2 Ag
 go_upto_region 9 with ((first | (go_at_call 40;with_reducible refine (chVB hb R C8).mono ?_) | (go_at_call 32;with_reducible refine (chVB hb R C9).mono ?_));clear hb;rintro e w1 ⟨rfl,hk,hb⟩;clear Ad Ae Af Ah Ai An Ao Ak Al Am;replace Aa:=zB hk Aa;replace Ab:=zB hk Ab;replace Ag:=zB hk Ag;replace Ac:=zB hk Ac;obtain ⟨Ad,Ae,Af⟩:=ce3 Aa;obtain ⟨Ah,Ai⟩:=ce2 Ab;obtain ⟨An,Ao⟩:=ce2 Ag;obtain ⟨Ak,Al,Am⟩:=ce3 Ac;clear hk)
 refine wp_alloc1 (fun w1 Aj hk=>?_)
 clear Ad Ae Af Ah Ai An Ao Ak Al Am
 replace Aa:=zB hk Aa
 replace Ab:=zB hk Ab
 replace Ag:=zB hk Ag
 replace Ac:=zB hk Ac
 obtain ⟨Ad,Ae,Af⟩:=ce3 Aa
 obtain ⟨Ah,Ai⟩:=ce2 Ab
 obtain ⟨An,Ao⟩:=ce2 Ag
 obtain ⟨Ak,Al,Am⟩:=ce3 Ac
 replace hb:=hb.trans (hk.mono hb.size)
 clear hk
 obtain ⟨At,Au⟩:=ce2 Aj
 go_upto_region 10 with (go_at_call 32;with_reducible refine (chVB hb R C10).mono ?_;clear hb;rintro e w1 ⟨rfl,hk,hb⟩;clear Ad Ae Af Ah Ai An Ao At Au Ak Al Am;replace Aa:=zB hk Aa;replace Ab:=zB hk Ab;replace Ag:=zB hk Ag;replace Aj:=zB hk Aj;replace Ac:=zB hk Ac;obtain ⟨Ad,Ae,Af⟩:=ce3 Aa;obtain ⟨Ah,Ai⟩:=ce2 Ab;obtain ⟨An,Ao⟩:=ce2 Ag;obtain ⟨At,Au⟩:=ce2 Aj;obtain ⟨Ak,Al,Am⟩:=ce3 Ac;clear hk)
 clear Ak Al Am Ac
 refine wp_alloc1 (fun w1 Av hk=>?_)
 clear Ad Ae Af Ah Ai An Ao At Au
 replace Aa:=zB hk Aa
 replace Ab:=zB hk Ab
 replace Ag:=zB hk Ag
 replace Aj:=zB hk Aj
 obtain ⟨Ad,Ae,Af⟩:=ce3 Aa
 obtain ⟨Ah,Ai⟩:=ce2 Ab
 obtain ⟨An,Ao⟩:=ce2 Ag
 obtain ⟨At,Au⟩:=ce2 Aj
 replace hb:=hb.trans (hk.mono hb.size)
 clear hk
 obtain ⟨Ax,Ay⟩:=ce2 Av
 go_upto_region 11 with (go_at_call 18;with_reducible refine (chVB hb R C11).mono ?_;clear hb;rintro e w1 ⟨rfl,hk,hb⟩;clear Ad Ae Af Ah Ai An Ao At Au Ax Ay;replace Aa:=zB hk Aa;replace Ab:=zB hk Ab;replace Ag:=zB hk Ag;replace Aj:=zB hk Aj;replace Av:=zB hk Av;obtain ⟨Ad,Ae,Af⟩:=ce3 Aa;obtain ⟨Ah,Ai⟩:=ce2 Ab;obtain ⟨An,Ao⟩:=ce2 Ag;obtain ⟨At,Au⟩:=ce2 Aj;obtain ⟨Ax,Ay⟩:=ce2 Av;clear hk)
 refine wp_alloc1 (fun w1 A4 hk=>?_)
 clear Ad Ae Af Ah Ai An Ao At Au Ax Ay
 replace Aa:=zB hk Aa
 replace Ab:=zB hk Ab
 replace Ag:=zB hk Ag
 replace Aj:=zB hk Aj
 replace Av:=zB hk Av
 obtain ⟨Ad,Ae,Af⟩:=ce3 Aa
 obtain ⟨Ah,Ai⟩:=ce2 Ab
 obtain ⟨An,Ao⟩:=ce2 Ag
 obtain ⟨At,Au⟩:=ce2 Aj
 obtain ⟨Ax,Ay⟩:=ce2 Av
 replace hb:=hb.trans (hk.mono hb.size)
 clear hk
 obtain ⟨Cm,Cn⟩:=ce2 A4
 go_wp2_with ((first | (go_at_call 36;first | with_reducible refine (chVB hb R C12).mono ?_ | with_reducible refine (chVB hb R C13).mono ?_) | (go_at_call 17;with_reducible refine (chVB hb R C14).mono ?_));clear hb;rintro e w1 ⟨rfl,hk,hb⟩;clear Ad Ae Af Ah Ai An Ao At Au Ax Ay Cm Cn;replace Aa:=zB hk Aa;replace Ab:=zB hk Ab;replace Ag:=zB hk Ag;replace Aj:=zB hk Aj;replace Av:=zB hk Av;replace A4:=zB hk A4;obtain ⟨Ad,Ae,Af⟩:=ce3 Aa;obtain ⟨Ah,Ai⟩:=ce2 Ab;obtain ⟨An,Ao⟩:=ce2 Ag;obtain ⟨At,Au⟩:=ce2 Aj;obtain ⟨Ax,Ay⟩:=ce2 Av;obtain ⟨Cm,Cn⟩:=ce2 A4;clear hk)
 first | go_ret | go_ret2 | go_ret3
 exact ⟨rfl,hb⟩
theorem turns_t1  (i0 i1 i2:Int) (x y z:Rat) (k0:IsD i0 x) (k1:IsD i1 y) (k2:IsD i2 z) (g:x≠0∨y≠0) (hz:z≠0) (hsg:z.num.sign < 0) (q1:x=0) (q2:y≠0) (q3:z≠0) (w:World) (R:EnvV w) :
   Calls Tryz.prog 10 #[.agg #[.int .i8 i0,.int .i8 i1,.int .i8 i2]] w (Ret w (.bool true)):=by
 have Ap:RN (-x) 1 1:=(RN_neg k0.rn)
 have A5:=k0.rn.rl (K:=40000)
 have Aq:RN (-y) 1 1:=(RN_neg k1.rn)
 have A6:=k1.rn.rl (K:=40000)
 have Ar:RN (-z) 1 1:=(RN_neg k2.rn)
 have Br:=k2.rn.rl (K:=40000)
 have Aw:=RN_mul (RN_neg k0.rn) (RN_prim (n:=1) (d:=1) ((g.elim (fun k=>Or.inl (neg_ne k)) (fun k=>Or.inr (neg_ne k))).elim Or.inl (fun k=>Or.inr (Or.inl k))) (by decide) (by decide) (RN.up (RN_neg k0.rn) (by decide) (by decide)) (RN.up (RN_neg k1.rn) (by decide) (by decide)) (RN.up rn_0 (by decide) (by decide)))
 have Az:=RN_mul (RN_neg k1.rn) (RN_prim (n:=1) (d:=1) ((g.elim (fun k=>Or.inl (neg_ne k)) (fun k=>Or.inr (neg_ne k))).elim Or.inl (fun k=>Or.inr (Or.inl k))) (by decide) (by decide) (RN.up (RN_neg k0.rn) (by decide) (by decide)) (RN.up (RN_neg k1.rn) (by decide) (by decide)) (RN.up rn_0 (by decide) (by decide)))
 have A0:RN (-((-y)*(primF (-x) (-y) (0:Rat)))) 4 2:=(RN_neg Az)
 have A7:=RN_mul Ap Ap
 have A8:=RN_mul Aq Aq
 have A9:=RN_mul k0.rn k0.rn
 have Ba:=RN_mul k1.rn k1.rn
 have Bb:=RN_add (N:=4) A7 A8
 have Bc:=RN_mul k2.rn k2.rn
 have Bd:=RN_add (N:=4) A9 Ba
 have Be:=RN_mul Ar Ar
 have Bs:=RN_mul Bb Bc
 have Bt:=RN_mul Bd Be
 have Bu:=RN_div Ap k2.rn hz
 have Bv:=RN_div Aq k2.rn hz
 have Bw:=RN_div k0.rn k2.rn hz
 have Co:RN (-(x / z)) 2 2:=(RN_neg Bw)
 have Bx:=RN_div k1.rn k2.rn hz
 have Cp:RN (-(y / z)) 2 2:=(RN_neg Bx)
 have By:=Ap.rl (K:=40000)
 have Bf:RN (-(-x)) 1 1:=(RN_neg Ap)
 have Bz:=RN_div Bf Ar (neg_ne hz)
 have B0:=Aq.rl (K:=40000)
 have Bg:RN (-(-y)) 1 1:=(RN_neg Aq)
 have B1:=RN_div Bg Ar (neg_ne hz)
 have B2:=RN_div Ap Ar (neg_ne hz)
 have Cq:RN (-((-x) / (-z))) 2 2:=(RN_neg B2)
 have B3:=RN_div Aq Ar (neg_ne hz)
 have Cr:RN (-((-y) / (-z))) 2 2:=(RN_neg B3)
 have Bh:=RN_mul k0.rn A0
 have Bi:=RN_mul k1.rn Aw
 have Bj:=RN_add (N:=8) Bh Bi
 have B4:=RN_div Bj k2.rn hz
 have Bk:=RN_mul k0.rn Aw
 have Bl:=RN_mul k1.rn Az
 have Bm:=RN_add (N:=8) Bk Bl
 have Bn:=RN_div Bm k2.rn hz
 have B5:=Bn.rl (K:=100000)
 have c1:=vector_any i0 i1 i2 x y z k0 k1 k2
 have c2:=known15_any
 have c3:=fun (w:World) (R:EnvV w)=>rneg_any x A5 w R.toEnvR
 have c4:=fun (w:World) (R:EnvV w)=>rneg_any y A6 w R.toEnvR
 have c5:=fun (w:World) (R:EnvV w)=>rneg_any z Br w R.toEnvR
 have c6:=strike_t x y z g (RN.up k0.rn (by decide) (by decide)) (RN.up k1.rn (by decide) (by decide)) (RN.up k2.rn (by decide) (by decide)) hsg
 have c7:CV 19 #[.agg #[.string (ratB (-x)),.string (ratB (-y)),.string (ratB (-z))]] (.tuple #[.agg #[.string (ratB (-((-y)*(primF (-x) (-y) (0:Rat))))),.string (ratB ((-x)*(primF (-x) (-y) (0:Rat))))],.int .i64 0]):=fun w R=>strike_f (-x) (-y) (-z) (g.elim (fun k=>Or.inl (neg_ne k)) (fun k=>Or.inr (neg_ne k))) (RN.up (RN_neg k0.rn) (by decide) (by decide)) (RN.up (RN_neg k1.rn) (by decide) (by decide)) (RN.up (RN_neg k2.rn) (by decide) (by decide)) (by rw [sgn_neg2];omega) w R
 have c8:CV 40 #[.agg #[.string (ratB (-x)),.string (ratB (-y)),.string (ratB (-z))],.agg #[.string (ratB x),.string (ratB y),.string (ratB z)]] (.tuple #[.int .i64 0,.int .i64 0]):=fun w R=>(by have h:=flat_ok (-x) (-y) (-z) x y z (Or.inr (Or.inr (neg_ne hz))) Ap.r2 Aq.r2 Ar.r2 (Or.inr (Or.inr hz)) k0.rn.r2 k1.rn.r2 k2.rn.r2 Ap.rm Aq.rm A7.rm A8.rm Ar.rm k0.rn.rm k1.rn.rm A9.rm Ba.rm k2.rn.rm Bb.rm Bc.rm Bd.rm Be.rm Bs.rm Bt.rm w R;rw [flat_0 x y z] at h;exact h)
 have c9:=grad_ok x y z k0.rn.r2 k1.rn.r2 k2.rn.r2 hz A5 Ap.rm k2.rn.rm Bu.r2 A6 Aq.rm Bv.r2
 have c10:CV 32 #[.agg #[.string (ratB (-x)),.string (ratB (-y)),.string (ratB (-z))]] (.tuple #[.agg #[.string (ratB (-(x / z))),.string (ratB (-(y / z)))],.int .i64 0]):=fun w R=>(by have h:=grad_ok (-x) (-y) (-z) Ap.r2 Aq.r2 Ar.r2 (neg_ne hz) By Bf.rm Ar.rm Bz.r2 B0 Bg.rm B1.r2 w R;rw [div_neg2 x z,div_neg2 y z] at h;exact h)
 have c11:=toward_t x y z g (RN.up k0.rn (by decide) (by decide)) (RN.up k1.rn (by decide) (by decide)) (RN.up k2.rn (by decide) (by decide)) hsg
 have c12:CV 36 #[.agg #[.string (ratB x),.string (ratB y),.string (ratB z)],.agg #[.string (ratB (-((-y)*(primF (-x) (-y) (0:Rat))))),.string (ratB ((-x)*(primF (-x) (-y) (0:Rat))))]] (.tuple #[.string ⟨#[48]⟩,.int .i64 0]):=fun w R=>(by have h:=appar_ok x y z (-((-y)*(primF (-x) (-y) (0:Rat)))) ((-x)*(primF (-x) (-y) (0:Rat))) A0.r2 Aw.r2 (dir_ne2 (-x) (-y) (g.elim (fun k=>Or.inl (neg_ne k)) (fun k=>Or.inr (neg_ne k)))) k0.rn.r2 k1.rn.r2 k2.rn.r2 hz k0.rn.rm A0.rm k1.rn.rm Aw.rm Bh.rm Bi.rm Bj.rm k2.rn.rm B4.r2 w R;rw [show ((x*(-((-y)*(primF (-x) (-y) (0:Rat)))))+(y*((-x)*(primF (-x) (-y) (0:Rat))))) / z=0 from by rw [show (x*(-((-y)*(primF (-x) (-y) (0:Rat)))))+(y*((-x)*(primF (-x) (-y) (0:Rat))))=0 by grind,zero_div'],rb_0] at h;exact h)
 have c13:=appar_ok x y z ((-x)*(primF (-x) (-y) (0:Rat))) ((-y)*(primF (-x) (-y) (0:Rat))) Aw.r2 Az.r2 (dir_ne (-x) (-y) (g.elim (fun k=>Or.inl (neg_ne k)) (fun k=>Or.inr (neg_ne k)))) k0.rn.r2 k1.rn.r2 k2.rn.r2 hz k0.rn.rm Aw.rm k1.rn.rm Az.rm Bk.rm Bl.rm Bm.rm k2.rn.rm Bn.r2
 have c14:=fun (w:World) (R:EnvV w)=>rsign_any (((x*((-x)*(primF (-x) (-y) (0:Rat))))+(y*((-y)*(primF (-x) (-y) (0:Rat))))) / z) B5 w R.toEnvR
 have gt:0 < (((x*((-x)*(primF (-x) (-y) (0:Rat))))+(y*((-y)*(primF (-x) (-y) (0:Rat))))) / z).num.sign:=fall_t x y z g (neg_of_sgn hsg)
 have eq1:((ratB x).toList == [48])=true:=by rw [ratB_eq_zero];exact decide_eq_true q1
 have pq1:(ratB x).toList=[48]:=(zero_iff _).2 q1
 have eq2:((ratB y).toList == [48])=false:=by rw [ratB_eq_zero];exact decide_eq_false q2
 have pq2:¬ (ratB y).toList=[48]:=fun h=>q2 ((zero_iff _).1 h)
 have eq3:((ratB z).toList == [48])=false:=by rw [ratB_eq_zero];exact decide_eq_false q3
 have pq3:¬ (ratB z).toList=[48]:=fun h=>q3 ((zero_iff _).1 h)
 obtain ⟨Cy,B6⟩:∃ vq,ratB (((x*((-x)*(primF (-x) (-y) (0:Rat))))+(y*((-y)*(primF (-x) (-y) (0:Rat))))) / z)=vq:=⟨_,rfl⟩
 obtain ⟨Cz,B7⟩:∃ vq,ratB (-((-y)*(primF (-x) (-y) (0:Rat))))=vq:=⟨_,rfl⟩
 obtain ⟨C0,B8⟩:∃ vq,ratB ((-x)*(primF (-x) (-y) (0:Rat)))=vq:=⟨_,rfl⟩
 obtain ⟨Da,B9⟩:∃ vq,ratB ((-y)*(primF (-x) (-y) (0:Rat)))=vq:=⟨_,rfl⟩
 obtain ⟨Db,Ca⟩:∃ vq,ratB (-(x / z))=vq:=⟨_,rfl⟩
 obtain ⟨Dc,Cb⟩:∃ vq,ratB (-(y / z))=vq:=⟨_,rfl⟩
 obtain ⟨A1,Cc⟩:∃ vq,ratB (-x)=vq:=⟨_,rfl⟩
 obtain ⟨A2,Cd⟩:∃ vq,ratB (-y)=vq:=⟨_,rfl⟩
 obtain ⟨A3,Ce⟩:∃ vq,ratB (-z)=vq:=⟨_,rfl⟩
 obtain ⟨Dd,Cf⟩:∃ vq,ratB x=vq:=⟨_,rfl⟩
 obtain ⟨De,Cg⟩:∃ vq,ratB y=vq:=⟨_,rfl⟩
 obtain ⟨Df,Ch⟩:∃ vq,ratB z=vq:=⟨_,rfl⟩
 try simp only [B6,B7,B8,B9,Ca,Cb,Cc,Cd,Ce,Cf,Cg,Ch] at c1 c2 c3 c4 c5 c6 c7 c8 c9 c10 c11 c12 c13 c14 gt eq1 pq1 eq2 pq2 eq3 pq3 ⊢
 obtain ⟨dg,edg⟩:∃ vq,(((x*((-x)*(primF (-x) (-y) (0:Rat))))+(y*((-y)*(primF (-x) (-y) (0:Rat))))) / z).num.sign=vq:=⟨_,rfl⟩
 try simp only [edg] at c1 c2 c3 c4 c5 c6 c7 c8 c9 c10 c11 c12 c13 c14 gt eq1 pq1 eq2 pq2 eq3 pq3 ⊢
 have C1:=Lib.hid c1
 have C2:=Lib.hid c2
 have C3:=Lib.hid c3
 have C4:=Lib.hid c4
 have C5:=Lib.hid c5
 have C6:=Lib.hid c6
 have C7:=Lib.hid c7
 have C8:=Lib.hid c8
 have C9:=Lib.hid c9
 have C10:=Lib.hid c10
 have C11:=Lib.hid c11
 have C12:=Lib.hid c12
 have C13:=Lib.hid c13
 have C14:=Lib.hid c14
 clear c1 c2 c3 c4 c5 c6 c7 c8 c9 c10 c11 c12 c13 c14 B6 B7 B8 B9 Ca Cb Cc Cd Ce Cf Cg Ch edg Ap A5 Aq A6 Ar Br Aw Az A0 A7 A8 A9 Ba Bb Bc Bd Be Bs Bt Bu Bv Bw Co Bx Cp By Bf Bz B0 Bg B1 B2 Cq B3 Cr Bh Bi Bj B4 Bk Bl Bm Bn B5 q1 q2 q3 k0 k1 k2 g hz hsg
 have hb:=Below.refl w.heap.size w
 go_enter Tryz.func10,Tryz.ntmps10
 go_upto_region 1 with fail
 refine wp_alloc1 (fun w1 a0 hk=>?_)
 replace hb:=hb.trans (hk.mono hb.size)
 clear hk
 obtain ⟨Bo,Bp,Bq⟩:=ce3 a0
 go_upto_region 2 with (go_at_call 39;with_reducible refine (chVB hb R C1).mono ?_;clear hb;rintro e w1 ⟨rfl,hk,hb⟩;clear Bo Bp Bq;replace a0:=zB hk a0;obtain ⟨Bo,Bp,Bq⟩:=ce3 a0;clear hk)
 clear Bo Bp Bq a0
 refine wp_alloc1 (fun w1 Aa hk=>?_)
 replace hb:=hb.trans (hk.mono hb.size)
 clear hk
 obtain ⟨Ad,Ae,Af⟩:=ce3 Aa
 go_upto_region 4 with (go_at_call 11;with_reducible refine (chVB hb R C2).mono ?_;clear hb;rintro e w1 ⟨rfl,hk,hb⟩;clear Ad Ae Af;replace Aa:=zB hk Aa;obtain ⟨Ad,Ae,Af⟩:=ce3 Aa;clear hk)
 obtain ⟨Cs,Ct,Cu⟩:=cy3 Aa
 have Cv:=rrV C3 R hb
 have Cw:=rrV C4 R hb
 have Cx:=rrV C5 R hb
 have Ci:=qqV C3 R hb
 have Cj:=qqV C4 R hb
 have Ck:=qqV C5 R hb
 refine wp_free1 10 0 (fun i=>if i=10 then Obj.cells #[Value.string ⟨#[]⟩,Value.string ⟨#[]⟩,Value.string ⟨#[]⟩] 24 else Obj.cells #[] 0) (fun i=>if i=10 then Obj.cells #[Value.string A1,Value.string A2,Value.string A3] 24 else Obj.cells #[] 0) (some 4) (by first | assumption | kernel_rfl) (by kernel_rfl) ?lay rfl ?_
 case lay =>
   intro i h1 h2
   obtain rfl:i=10:=by omega
   all_goals exact ⟨_,rfl,rfl,fun a w=>(by first | (go_simp;done) | (go_simp;rfl))⟩
 simp only [List.take_succ_cons,List.take_zero]
 repeat (refine wpB_step (fun K hK=>?_);go_simp;first | (refine hK _ ?_;clear hK K) | (apply Exists.intro;refine ⟨fun _=>?_,hK _ ?_⟩;(first | (with_reducible exact Ci.out _ _) | (with_reducible exact Cj.out _ _) | (with_reducible exact Ck.out _ _));clear hK K))
 refine wpB_nil ?_
 intro As
 refine ⟨?_,?_⟩
 · refine ⟨_,rfl,rfl,rfl,fun cs b h=>(by cases h),fun w hw=>?_⟩
   replace hw:w.heap[As]? = some (Obj.cells #[Value.string ⟨#[]⟩,Value.string ⟨#[]⟩,Value.string ⟨#[]⟩] 24):=hw
   have z0:w.cell? ⟨As,0,none⟩=some (Value.string ⟨#[]⟩):=zA hw
   have y0:w.frozen? ⟨As,0,none⟩=false:=zD hw
   have z1:w.cell? ⟨As,1,none⟩=some (Value.string ⟨#[]⟩):=zA hw
   have y1:w.frozen? ⟨As,1,none⟩=false:=zD hw
   have z2:w.cell? ⟨As,2,none⟩=some (Value.string ⟨#[]⟩):=zA hw
   have y2:w.frozen? ⟨As,2,none⟩=false:=zD hw
   refine ⟨_,?_,(Wrote.set (i:=2) (Wrote.set (i:=1) (Wrote.set (i:=0) (Wrote.refl hw) (Value.string A1)) (Value.string A2)) (Value.string A3))⟩
   go_simp
 intro w1 hk m0 Ac
 clear Ad Ae Af
 replace Aa:=zB hk Aa
 obtain ⟨Ad,Ae,Af⟩:=ce3 Aa
 replace hb:=hb.trans (hk.mono hb.size)
 clear hk
 replace Ac:w1.heap[As]? = some (Obj.cells #[Value.string A1,Value.string A2,Value.string A3] 24):=Ac
 have Ak:w1.cell? ⟨As,0,none⟩=some (Value.string A1):=zA Ac
 have Al:w1.cell? ⟨As,1,none⟩=some (Value.string A2):=zA Ac
 have Am:w1.cell? ⟨As,2,none⟩=some (Value.string A3):=zA Ac
 clear Ci Cj Ck Cv Cw Cx Cs Ct Cu m0
 go_upto_region 6 with (go_at_call 19;with_reducible refine (chVB hb R C6).mono ?_;clear hb;rintro e w1 ⟨rfl,hk,hb⟩;clear Ad Ae Af Ak Al Am;replace Aa:=zB hk Aa;replace Ac:=zB hk Ac;obtain ⟨Ad,Ae,Af⟩:=ce3 Aa;obtain ⟨Ak,Al,Am⟩:=ce3 Ac;clear hk)
 refine wp_alloc1 (fun w1 Ab hk=>?_)
 clear Ad Ae Af Ak Al Am
 replace Aa:=zB hk Aa
 replace Ac:=zB hk Ac
 obtain ⟨Ad,Ae,Af⟩:=ce3 Aa
 obtain ⟨Ak,Al,Am⟩:=ce3 Ac
 replace hb:=hb.trans (hk.mono hb.size)
 clear hk
 obtain ⟨Ah,Ai⟩:=ce2 Ab
 go_upto_region 7 with (go_at_call 19;with_reducible refine (chVB hb R C7).mono ?_;clear hb;rintro e w1 ⟨rfl,hk,hb⟩;clear Ad Ae Af Ah Ai Ak Al Am;replace Aa:=zB hk Aa;replace Ab:=zB hk Ab;replace Ac:=zB hk Ac;obtain ⟨Ad,Ae,Af⟩:=ce3 Aa;obtain ⟨Ah,Ai⟩:=ce2 Ab;obtain ⟨Ak,Al,Am⟩:=ce3 Ac;clear hk)
 refine wp_alloc1 (fun w1 Ag hk=>?_)
 clear Ad Ae Af Ah Ai Ak Al Am
 replace Aa:=zB hk Aa
 replace Ab:=zB hk Ab
 replace Ac:=zB hk Ac
 obtain ⟨Ad,Ae,Af⟩:=ce3 Aa
 obtain ⟨Ah,Ai⟩:=ce2 Ab
 obtain ⟨Ak,Al,Am⟩:=ce3 Ac
 replace hb:=hb.trans (hk.mono hb.size)
 clear hk
 obtain ⟨An,Ao⟩:=ce2 Ag
 go_upto_region 9 with ((first | (go_at_call 40;with_reducible refine (chVB hb R C8).mono ?_) | (go_at_call 32;with_reducible refine (chVB hb R C9).mono ?_));clear hb;rintro e w1 ⟨rfl,hk,hb⟩;clear Ad Ae Af Ah Ai An Ao Ak Al Am;replace Aa:=zB hk Aa;replace Ab:=zB hk Ab;replace Ag:=zB hk Ag;replace Ac:=zB hk Ac;obtain ⟨Ad,Ae,Af⟩:=ce3 Aa;obtain ⟨Ah,Ai⟩:=ce2 Ab;obtain ⟨An,Ao⟩:=ce2 Ag;obtain ⟨Ak,Al,Am⟩:=ce3 Ac;clear hk)
 refine wp_alloc1 (fun w1 Aj hk=>?_)
 clear Ad Ae Af Ah Ai An Ao Ak Al Am
 replace Aa:=zB hk Aa
 replace Ab:=zB hk Ab
 replace Ag:=zB hk Ag
 replace Ac:=zB hk Ac
 obtain ⟨Ad,Ae,Af⟩:=ce3 Aa
 obtain ⟨Ah,Ai⟩:=ce2 Ab
 obtain ⟨An,Ao⟩:=ce2 Ag
 obtain ⟨Ak,Al,Am⟩:=ce3 Ac
 replace hb:=hb.trans (hk.mono hb.size)
 clear hk
 obtain ⟨At,Au⟩:=ce2 Aj
 go_upto_region 10 with (go_at_call 32;with_reducible refine (chVB hb R C10).mono ?_;clear hb;rintro e w1 ⟨rfl,hk,hb⟩;clear Ad Ae Af Ah Ai An Ao At Au Ak Al Am;replace Aa:=zB hk Aa;replace Ab:=zB hk Ab;replace Ag:=zB hk Ag;replace Aj:=zB hk Aj;replace Ac:=zB hk Ac;obtain ⟨Ad,Ae,Af⟩:=ce3 Aa;obtain ⟨Ah,Ai⟩:=ce2 Ab;obtain ⟨An,Ao⟩:=ce2 Ag;obtain ⟨At,Au⟩:=ce2 Aj;obtain ⟨Ak,Al,Am⟩:=ce3 Ac;clear hk)
 clear Ak Al Am Ac
 refine wp_alloc1 (fun w1 Av hk=>?_)
 clear Ad Ae Af Ah Ai An Ao At Au
 replace Aa:=zB hk Aa
 replace Ab:=zB hk Ab
 replace Ag:=zB hk Ag
 replace Aj:=zB hk Aj
 obtain ⟨Ad,Ae,Af⟩:=ce3 Aa
 obtain ⟨Ah,Ai⟩:=ce2 Ab
 obtain ⟨An,Ao⟩:=ce2 Ag
 obtain ⟨At,Au⟩:=ce2 Aj
 replace hb:=hb.trans (hk.mono hb.size)
 clear hk
 obtain ⟨Ax,Ay⟩:=ce2 Av
 go_upto_region 11 with (go_at_call 18;with_reducible refine (chVB hb R C11).mono ?_;clear hb;rintro e w1 ⟨rfl,hk,hb⟩;clear Ad Ae Af Ah Ai An Ao At Au Ax Ay;replace Aa:=zB hk Aa;replace Ab:=zB hk Ab;replace Ag:=zB hk Ag;replace Aj:=zB hk Aj;replace Av:=zB hk Av;obtain ⟨Ad,Ae,Af⟩:=ce3 Aa;obtain ⟨Ah,Ai⟩:=ce2 Ab;obtain ⟨An,Ao⟩:=ce2 Ag;obtain ⟨At,Au⟩:=ce2 Aj;obtain ⟨Ax,Ay⟩:=ce2 Av;clear hk)
 refine wp_alloc1 (fun w1 A4 hk=>?_)
 clear Ad Ae Af Ah Ai An Ao At Au Ax Ay
 replace Aa:=zB hk Aa
 replace Ab:=zB hk Ab
 replace Ag:=zB hk Ag
 replace Aj:=zB hk Aj
 replace Av:=zB hk Av
 obtain ⟨Ad,Ae,Af⟩:=ce3 Aa
 obtain ⟨Ah,Ai⟩:=ce2 Ab
 obtain ⟨An,Ao⟩:=ce2 Ag
 obtain ⟨At,Au⟩:=ce2 Aj
 obtain ⟨Ax,Ay⟩:=ce2 Av
 replace hb:=hb.trans (hk.mono hb.size)
 clear hk
 obtain ⟨Cm,Cn⟩:=ce2 A4
 go_wp2_with ((first | (go_at_call 36;first | with_reducible refine (chVB hb R C12).mono ?_ | with_reducible refine (chVB hb R C13).mono ?_) | (go_at_call 17;with_reducible refine (chVB hb R C14).mono ?_));clear hb;rintro e w1 ⟨rfl,hk,hb⟩;clear Ad Ae Af Ah Ai An Ao At Au Ax Ay Cm Cn;replace Aa:=zB hk Aa;replace Ab:=zB hk Ab;replace Ag:=zB hk Ag;replace Aj:=zB hk Aj;replace Av:=zB hk Av;replace A4:=zB hk A4;obtain ⟨Ad,Ae,Af⟩:=ce3 Aa;obtain ⟨Ah,Ai⟩:=ce2 Ab;obtain ⟨An,Ao⟩:=ce2 Ag;obtain ⟨At,Au⟩:=ce2 Aj;obtain ⟨Ax,Ay⟩:=ce2 Av;obtain ⟨Cm,Cn⟩:=ce2 A4;clear hk)
 first | go_ret | go_ret2 | go_ret3
 exact ⟨rfl,hb⟩
theorem turns_f0  (i0 i1 i2:Int) (x y z:Rat) (k0:IsD i0 x) (k1:IsD i1 y) (k2:IsD i2 z) (g:x≠0∨y≠0) (hz:z≠0) (hsg:¬ z.num.sign < 0) (q1:x≠0) (q2:z≠0) (w:World) (R:EnvV w) :
   Calls Tryz.prog 10 #[.agg #[.int .i8 i0,.int .i8 i1,.int .i8 i2]] w (Ret w (.bool true)):=by
 have Ap:RN (-x) 1 1:=(RN_neg k0.rn)
 have A5:=k0.rn.rl (K:=40000)
 have Aq:RN (-y) 1 1:=(RN_neg k1.rn)
 have A6:=k1.rn.rl (K:=40000)
 have Ar:RN (-z) 1 1:=(RN_neg k2.rn)
 have Br:=k2.rn.rl (K:=40000)
 have Aw:=RN_mul k0.rn (RN_prim (n:=1) (d:=1) (g.elim Or.inl (fun k=>Or.inr (Or.inl k))) (by decide) (by decide) (RN.up k0.rn (by decide) (by decide)) (RN.up k1.rn (by decide) (by decide)) (RN.up rn_0 (by decide) (by decide)))
 have Az:=RN_mul k1.rn (RN_prim (n:=1) (d:=1) (g.elim Or.inl (fun k=>Or.inr (Or.inl k))) (by decide) (by decide) (RN.up k0.rn (by decide) (by decide)) (RN.up k1.rn (by decide) (by decide)) (RN.up rn_0 (by decide) (by decide)))
 have A0:RN (-(y*(primF x y (0:Rat)))) 4 2:=(RN_neg Az)
 have A7:=RN_mul Ap Ap
 have A8:=RN_mul Aq Aq
 have A9:=RN_mul k0.rn k0.rn
 have Ba:=RN_mul k1.rn k1.rn
 have Bb:=RN_add (N:=4) A7 A8
 have Bc:=RN_mul k2.rn k2.rn
 have Bd:=RN_add (N:=4) A9 Ba
 have Be:=RN_mul Ar Ar
 have Bs:=RN_mul Bb Bc
 have Bt:=RN_mul Bd Be
 have Bu:=RN_div Ap k2.rn hz
 have Bv:=RN_div Aq k2.rn hz
 have Bw:=RN_div k0.rn k2.rn hz
 have Co:RN (-(x / z)) 2 2:=(RN_neg Bw)
 have Bx:=RN_div k1.rn k2.rn hz
 have Cp:RN (-(y / z)) 2 2:=(RN_neg Bx)
 have By:=Ap.rl (K:=40000)
 have Bf:RN (-(-x)) 1 1:=(RN_neg Ap)
 have Bz:=RN_div Bf Ar (neg_ne hz)
 have B0:=Aq.rl (K:=40000)
 have Bg:RN (-(-y)) 1 1:=(RN_neg Aq)
 have B1:=RN_div Bg Ar (neg_ne hz)
 have B2:=RN_div Ap Ar (neg_ne hz)
 have Cq:RN (-((-x) / (-z))) 2 2:=(RN_neg B2)
 have B3:=RN_div Aq Ar (neg_ne hz)
 have Cr:RN (-((-y) / (-z))) 2 2:=(RN_neg B3)
 have Bh:=RN_mul k0.rn A0
 have Bi:=RN_mul k1.rn Aw
 have Bj:=RN_add (N:=8) Bh Bi
 have B4:=RN_div Bj k2.rn hz
 have Bk:=RN_mul k0.rn Aw
 have Bl:=RN_mul k1.rn Az
 have Bm:=RN_add (N:=8) Bk Bl
 have Bn:=RN_div Bm k2.rn hz
 have B5:=Bn.rl (K:=100000)
 have c1:=vector_any i0 i1 i2 x y z k0 k1 k2
 have c2:=known15_any
 have c3:=fun (w:World) (R:EnvV w)=>rneg_any x A5 w R.toEnvR
 have c4:=fun (w:World) (R:EnvV w)=>rneg_any y A6 w R.toEnvR
 have c5:=fun (w:World) (R:EnvV w)=>rneg_any z Br w R.toEnvR
 have c6:=strike_f x y z g (RN.up k0.rn (by decide) (by decide)) (RN.up k1.rn (by decide) (by decide)) (RN.up k2.rn (by decide) (by decide)) hsg
 have c7:CV 19 #[.agg #[.string (ratB (-x)),.string (ratB (-y)),.string (ratB (-z))]] (.tuple #[.agg #[.string (ratB (-(y*(primF x y (0:Rat))))),.string (ratB (x*(primF x y (0:Rat))))],.int .i64 0]):=fun w R=>(by have h:=strike_t (-x) (-y) (-z) (g.elim (fun k=>Or.inl (neg_ne k)) (fun k=>Or.inr (neg_ne k))) (RN.up (RN_neg k0.rn) (by decide) (by decide)) (RN.up (RN_neg k1.rn) (by decide) (by decide)) (RN.up (RN_neg k2.rn) (by decide) (by decide)) (by rw [sgn_neg2];have:=sgp hz hsg;omega) w R;rw [neg_neg' x,neg_neg' y] at h;exact h)
 have c8:CV 40 #[.agg #[.string (ratB (-x)),.string (ratB (-y)),.string (ratB (-z))],.agg #[.string (ratB x),.string (ratB y),.string (ratB z)]] (.tuple #[.int .i64 0,.int .i64 0]):=fun w R=>(by have h:=flat_ok (-x) (-y) (-z) x y z (Or.inr (Or.inr (neg_ne hz))) Ap.r2 Aq.r2 Ar.r2 (Or.inr (Or.inr hz)) k0.rn.r2 k1.rn.r2 k2.rn.r2 Ap.rm Aq.rm A7.rm A8.rm Ar.rm k0.rn.rm k1.rn.rm A9.rm Ba.rm k2.rn.rm Bb.rm Bc.rm Bd.rm Be.rm Bs.rm Bt.rm w R;rw [flat_0 x y z] at h;exact h)
 have c9:=grad_ok x y z k0.rn.r2 k1.rn.r2 k2.rn.r2 hz A5 Ap.rm k2.rn.rm Bu.r2 A6 Aq.rm Bv.r2
 have c10:CV 32 #[.agg #[.string (ratB (-x)),.string (ratB (-y)),.string (ratB (-z))]] (.tuple #[.agg #[.string (ratB (-(x / z))),.string (ratB (-(y / z)))],.int .i64 0]):=fun w R=>(by have h:=grad_ok (-x) (-y) (-z) Ap.r2 Aq.r2 Ar.r2 (neg_ne hz) By Bf.rm Ar.rm Bz.r2 B0 Bg.rm B1.r2 w R;rw [div_neg2 x z,div_neg2 y z] at h;exact h)
 have c11:=toward_f x y z g (RN.up k0.rn (by decide) (by decide)) (RN.up k1.rn (by decide) (by decide)) (RN.up k2.rn (by decide) (by decide)) hsg
 have c12:CV 36 #[.agg #[.string (ratB x),.string (ratB y),.string (ratB z)],.agg #[.string (ratB (-(y*(primF x y (0:Rat))))),.string (ratB (x*(primF x y (0:Rat))))]] (.tuple #[.string ⟨#[48]⟩,.int .i64 0]):=fun w R=>(by have h:=appar_ok x y z (-(y*(primF x y (0:Rat)))) (x*(primF x y (0:Rat))) A0.r2 Aw.r2 (dir_ne2 x y g) k0.rn.r2 k1.rn.r2 k2.rn.r2 hz k0.rn.rm A0.rm k1.rn.rm Aw.rm Bh.rm Bi.rm Bj.rm k2.rn.rm B4.r2 w R;rw [show ((x*(-(y*(primF x y (0:Rat)))))+(y*(x*(primF x y (0:Rat))))) / z=0 from by rw [show (x*(-(y*(primF x y (0:Rat)))))+(y*(x*(primF x y (0:Rat))))=0 by grind,zero_div'],rb_0] at h;exact h)
 have c13:=appar_ok x y z (x*(primF x y (0:Rat))) (y*(primF x y (0:Rat))) Aw.r2 Az.r2 (dir_ne x y g) k0.rn.r2 k1.rn.r2 k2.rn.r2 hz k0.rn.rm Aw.rm k1.rn.rm Az.rm Bk.rm Bl.rm Bm.rm k2.rn.rm Bn.r2
 have c14:=fun (w:World) (R:EnvV w)=>rsign_any (((x*(x*(primF x y (0:Rat))))+(y*(y*(primF x y (0:Rat))))) / z) B5 w R.toEnvR
 have gt:0 < (((x*(x*(primF x y (0:Rat))))+(y*(y*(primF x y (0:Rat))))) / z).num.sign:=fall_f x y z g (pos_sgn (sgp hz hsg))
 have eq1:((ratB x).toList == [48])=false:=by rw [ratB_eq_zero];exact decide_eq_false q1
 have pq1:¬ (ratB x).toList=[48]:=fun h=>q1 ((zero_iff _).1 h)
 have eq2:((ratB z).toList == [48])=false:=by rw [ratB_eq_zero];exact decide_eq_false q2
 have pq2:¬ (ratB z).toList=[48]:=fun h=>q2 ((zero_iff _).1 h)
 obtain ⟨Cy,B6⟩:∃ vq,ratB (((x*(x*(primF x y (0:Rat))))+(y*(y*(primF x y (0:Rat))))) / z)=vq:=⟨_,rfl⟩
 obtain ⟨Cz,B7⟩:∃ vq,ratB (-(y*(primF x y (0:Rat))))=vq:=⟨_,rfl⟩
 obtain ⟨C0,B8⟩:∃ vq,ratB (x*(primF x y (0:Rat)))=vq:=⟨_,rfl⟩
 obtain ⟨Da,B9⟩:∃ vq,ratB (y*(primF x y (0:Rat)))=vq:=⟨_,rfl⟩
 obtain ⟨Db,Ca⟩:∃ vq,ratB (-(x / z))=vq:=⟨_,rfl⟩
 obtain ⟨Dc,Cb⟩:∃ vq,ratB (-(y / z))=vq:=⟨_,rfl⟩
 obtain ⟨A1,Cc⟩:∃ vq,ratB (-x)=vq:=⟨_,rfl⟩
 obtain ⟨A2,Cd⟩:∃ vq,ratB (-y)=vq:=⟨_,rfl⟩
 obtain ⟨A3,Ce⟩:∃ vq,ratB (-z)=vq:=⟨_,rfl⟩
 obtain ⟨Dd,Cf⟩:∃ vq,ratB x=vq:=⟨_,rfl⟩
 obtain ⟨De,Cg⟩:∃ vq,ratB y=vq:=⟨_,rfl⟩
 obtain ⟨Df,Ch⟩:∃ vq,ratB z=vq:=⟨_,rfl⟩
 try simp only [B6,B7,B8,B9,Ca,Cb,Cc,Cd,Ce,Cf,Cg,Ch] at c1 c2 c3 c4 c5 c6 c7 c8 c9 c10 c11 c12 c13 c14 gt eq1 pq1 eq2 pq2 ⊢
 obtain ⟨dg,edg⟩:∃ vq,(((x*(x*(primF x y (0:Rat))))+(y*(y*(primF x y (0:Rat))))) / z).num.sign=vq:=⟨_,rfl⟩
 try simp only [edg] at c1 c2 c3 c4 c5 c6 c7 c8 c9 c10 c11 c12 c13 c14 gt eq1 pq1 eq2 pq2 ⊢
 have C1:=Lib.hid c1
 have C2:=Lib.hid c2
 have C3:=Lib.hid c3
 have C4:=Lib.hid c4
 have C5:=Lib.hid c5
 have C6:=Lib.hid c6
 have C7:=Lib.hid c7
 have C8:=Lib.hid c8
 have C9:=Lib.hid c9
 have C10:=Lib.hid c10
 have C11:=Lib.hid c11
 have C12:=Lib.hid c12
 have C13:=Lib.hid c13
 have C14:=Lib.hid c14
 clear c1 c2 c3 c4 c5 c6 c7 c8 c9 c10 c11 c12 c13 c14 B6 B7 B8 B9 Ca Cb Cc Cd Ce Cf Cg Ch edg Ap A5 Aq A6 Ar Br Aw Az A0 A7 A8 A9 Ba Bb Bc Bd Be Bs Bt Bu Bv Bw Co Bx Cp By Bf Bz B0 Bg B1 B2 Cq B3 Cr Bh Bi Bj B4 Bk Bl Bm Bn B5 q1 q2 k0 k1 k2 g hz hsg
 have hb:=Below.refl w.heap.size w
 go_enter Tryz.func10,Tryz.ntmps10
 go_upto_region 1 with fail
 refine wp_alloc1 (fun w1 a0 hk=>?_)
 replace hb:=hb.trans (hk.mono hb.size)
 clear hk
 obtain ⟨Bo,Bp,Bq⟩:=ce3 a0
 go_upto_region 2 with (go_at_call 39;with_reducible refine (chVB hb R C1).mono ?_;clear hb;rintro e w1 ⟨rfl,hk,hb⟩;clear Bo Bp Bq;replace a0:=zB hk a0;obtain ⟨Bo,Bp,Bq⟩:=ce3 a0;clear hk)
 clear Bo Bp Bq a0
 refine wp_alloc1 (fun w1 Aa hk=>?_)
 replace hb:=hb.trans (hk.mono hb.size)
 clear hk
 obtain ⟨Ad,Ae,Af⟩:=ce3 Aa
 go_upto_region 4 with (go_at_call 11;with_reducible refine (chVB hb R C2).mono ?_;clear hb;rintro e w1 ⟨rfl,hk,hb⟩;clear Ad Ae Af;replace Aa:=zB hk Aa;obtain ⟨Ad,Ae,Af⟩:=ce3 Aa;clear hk)
 obtain ⟨Cs,Ct,Cu⟩:=cy3 Aa
 have Cv:=rrV C3 R hb
 have Cw:=rrV C4 R hb
 have Cx:=rrV C5 R hb
 have Ci:=qqV C3 R hb
 have Cj:=qqV C4 R hb
 have Ck:=qqV C5 R hb
 refine wp_free1 10 0 (fun i=>if i=10 then Obj.cells #[Value.string ⟨#[]⟩,Value.string ⟨#[]⟩,Value.string ⟨#[]⟩] 24 else Obj.cells #[] 0) (fun i=>if i=10 then Obj.cells #[Value.string A1,Value.string A2,Value.string A3] 24 else Obj.cells #[] 0) (some 4) (by first | assumption | kernel_rfl) (by kernel_rfl) ?lay rfl ?_
 case lay =>
   intro i h1 h2
   obtain rfl:i=10:=by omega
   all_goals exact ⟨_,rfl,rfl,fun a w=>(by first | (go_simp;done) | (go_simp;rfl))⟩
 simp only [List.take_succ_cons,List.take_zero]
 repeat (refine wpB_step (fun K hK=>?_);go_simp;first | (refine hK _ ?_;clear hK K) | (apply Exists.intro;refine ⟨fun _=>?_,hK _ ?_⟩;(first | (with_reducible exact Ci.out _ _) | (with_reducible exact Cj.out _ _) | (with_reducible exact Ck.out _ _));clear hK K))
 refine wpB_nil ?_
 intro As
 refine ⟨?_,?_⟩
 · refine ⟨_,rfl,rfl,rfl,fun cs b h=>(by cases h),fun w hw=>?_⟩
   replace hw:w.heap[As]? = some (Obj.cells #[Value.string ⟨#[]⟩,Value.string ⟨#[]⟩,Value.string ⟨#[]⟩] 24):=hw
   have z0:w.cell? ⟨As,0,none⟩=some (Value.string ⟨#[]⟩):=zA hw
   have y0:w.frozen? ⟨As,0,none⟩=false:=zD hw
   have z1:w.cell? ⟨As,1,none⟩=some (Value.string ⟨#[]⟩):=zA hw
   have y1:w.frozen? ⟨As,1,none⟩=false:=zD hw
   have z2:w.cell? ⟨As,2,none⟩=some (Value.string ⟨#[]⟩):=zA hw
   have y2:w.frozen? ⟨As,2,none⟩=false:=zD hw
   refine ⟨_,?_,(Wrote.set (i:=2) (Wrote.set (i:=1) (Wrote.set (i:=0) (Wrote.refl hw) (Value.string A1)) (Value.string A2)) (Value.string A3))⟩
   go_simp
 intro w1 hk m0 Ac
 clear Ad Ae Af
 replace Aa:=zB hk Aa
 obtain ⟨Ad,Ae,Af⟩:=ce3 Aa
 replace hb:=hb.trans (hk.mono hb.size)
 clear hk
 replace Ac:w1.heap[As]? = some (Obj.cells #[Value.string A1,Value.string A2,Value.string A3] 24):=Ac
 have Ak:w1.cell? ⟨As,0,none⟩=some (Value.string A1):=zA Ac
 have Al:w1.cell? ⟨As,1,none⟩=some (Value.string A2):=zA Ac
 have Am:w1.cell? ⟨As,2,none⟩=some (Value.string A3):=zA Ac
 clear Ci Cj Ck Cv Cw Cx Cs Ct Cu m0
 go_upto_region 6 with (go_at_call 19;with_reducible refine (chVB hb R C6).mono ?_;clear hb;rintro e w1 ⟨rfl,hk,hb⟩;clear Ad Ae Af Ak Al Am;replace Aa:=zB hk Aa;replace Ac:=zB hk Ac;obtain ⟨Ad,Ae,Af⟩:=ce3 Aa;obtain ⟨Ak,Al,Am⟩:=ce3 Ac;clear hk)
 refine wp_alloc1 (fun w1 Ab hk=>?_)
 clear Ad Ae Af Ak Al Am
 replace Aa:=zB hk Aa
 replace Ac:=zB hk Ac
 obtain ⟨Ad,Ae,Af⟩:=ce3 Aa
 obtain ⟨Ak,Al,Am⟩:=ce3 Ac
 replace hb:=hb.trans (hk.mono hb.size)
 clear hk
 obtain ⟨Ah,Ai⟩:=ce2 Ab
 go_upto_region 7 with (go_at_call 19;with_reducible refine (chVB hb R C7).mono ?_;clear hb;rintro e w1 ⟨rfl,hk,hb⟩;clear Ad Ae Af Ah Ai Ak Al Am;replace Aa:=zB hk Aa;replace Ab:=zB hk Ab;replace Ac:=zB hk Ac;obtain ⟨Ad,Ae,Af⟩:=ce3 Aa;obtain ⟨Ah,Ai⟩:=ce2 Ab;obtain ⟨Ak,Al,Am⟩:=ce3 Ac;clear hk)
 refine wp_alloc1 (fun w1 Ag hk=>?_)
 clear Ad Ae Af Ah Ai Ak Al Am
 replace Aa:=zB hk Aa
 replace Ab:=zB hk Ab
 replace Ac:=zB hk Ac
 obtain ⟨Ad,Ae,Af⟩:=ce3 Aa
 obtain ⟨Ah,Ai⟩:=ce2 Ab
 obtain ⟨Ak,Al,Am⟩:=ce3 Ac
 replace hb:=hb.trans (hk.mono hb.size)
 clear hk
 obtain ⟨An,Ao⟩:=ce2 Ag
 go_upto_region 9 with ((first | (go_at_call 40;with_reducible refine (chVB hb R C8).mono ?_) | (go_at_call 32;with_reducible refine (chVB hb R C9).mono ?_));clear hb;rintro e w1 ⟨rfl,hk,hb⟩;clear Ad Ae Af Ah Ai An Ao Ak Al Am;replace Aa:=zB hk Aa;replace Ab:=zB hk Ab;replace Ag:=zB hk Ag;replace Ac:=zB hk Ac;obtain ⟨Ad,Ae,Af⟩:=ce3 Aa;obtain ⟨Ah,Ai⟩:=ce2 Ab;obtain ⟨An,Ao⟩:=ce2 Ag;obtain ⟨Ak,Al,Am⟩:=ce3 Ac;clear hk)
 refine wp_alloc1 (fun w1 Aj hk=>?_)
 clear Ad Ae Af Ah Ai An Ao Ak Al Am
 replace Aa:=zB hk Aa
 replace Ab:=zB hk Ab
 replace Ag:=zB hk Ag
 replace Ac:=zB hk Ac
 obtain ⟨Ad,Ae,Af⟩:=ce3 Aa
 obtain ⟨Ah,Ai⟩:=ce2 Ab
 obtain ⟨An,Ao⟩:=ce2 Ag
 obtain ⟨Ak,Al,Am⟩:=ce3 Ac
 replace hb:=hb.trans (hk.mono hb.size)
 clear hk
 obtain ⟨At,Au⟩:=ce2 Aj
 go_upto_region 10 with (go_at_call 32;with_reducible refine (chVB hb R C10).mono ?_;clear hb;rintro e w1 ⟨rfl,hk,hb⟩;clear Ad Ae Af Ah Ai An Ao At Au Ak Al Am;replace Aa:=zB hk Aa;replace Ab:=zB hk Ab;replace Ag:=zB hk Ag;replace Aj:=zB hk Aj;replace Ac:=zB hk Ac;obtain ⟨Ad,Ae,Af⟩:=ce3 Aa;obtain ⟨Ah,Ai⟩:=ce2 Ab;obtain ⟨An,Ao⟩:=ce2 Ag;obtain ⟨At,Au⟩:=ce2 Aj;obtain ⟨Ak,Al,Am⟩:=ce3 Ac;clear hk)
 clear Ak Al Am Ac
 refine wp_alloc1 (fun w1 Av hk=>?_)
 clear Ad Ae Af Ah Ai An Ao At Au
 replace Aa:=zB hk Aa
 replace Ab:=zB hk Ab
 replace Ag:=zB hk Ag
 replace Aj:=zB hk Aj
 obtain ⟨Ad,Ae,Af⟩:=ce3 Aa
 obtain ⟨Ah,Ai⟩:=ce2 Ab
 obtain ⟨An,Ao⟩:=ce2 Ag
 obtain ⟨At,Au⟩:=ce2 Aj
 replace hb:=hb.trans (hk.mono hb.size)
 clear hk
 obtain ⟨Ax,Ay⟩:=ce2 Av
 go_upto_region 11 with (go_at_call 18;with_reducible refine (chVB hb R C11).mono ?_;clear hb;rintro e w1 ⟨rfl,hk,hb⟩;clear Ad Ae Af Ah Ai An Ao At Au Ax Ay;replace Aa:=zB hk Aa;replace Ab:=zB hk Ab;replace Ag:=zB hk Ag;replace Aj:=zB hk Aj;replace Av:=zB hk Av;obtain ⟨Ad,Ae,Af⟩:=ce3 Aa;obtain ⟨Ah,Ai⟩:=ce2 Ab;obtain ⟨An,Ao⟩:=ce2 Ag;obtain ⟨At,Au⟩:=ce2 Aj;obtain ⟨Ax,Ay⟩:=ce2 Av;clear hk)
 refine wp_alloc1 (fun w1 A4 hk=>?_)
 clear Ad Ae Af Ah Ai An Ao At Au Ax Ay
 replace Aa:=zB hk Aa
 replace Ab:=zB hk Ab
 replace Ag:=zB hk Ag
 replace Aj:=zB hk Aj
 replace Av:=zB hk Av
 obtain ⟨Ad,Ae,Af⟩:=ce3 Aa
 obtain ⟨Ah,Ai⟩:=ce2 Ab
 obtain ⟨An,Ao⟩:=ce2 Ag
 obtain ⟨At,Au⟩:=ce2 Aj
 obtain ⟨Ax,Ay⟩:=ce2 Av
 replace hb:=hb.trans (hk.mono hb.size)
 clear hk
 obtain ⟨Cm,Cn⟩:=ce2 A4
 go_wp2_with ((first | (go_at_call 36;first | with_reducible refine (chVB hb R C12).mono ?_ | with_reducible refine (chVB hb R C13).mono ?_) | (go_at_call 17;with_reducible refine (chVB hb R C14).mono ?_));clear hb;rintro e w1 ⟨rfl,hk,hb⟩;clear Ad Ae Af Ah Ai An Ao At Au Ax Ay Cm Cn;replace Aa:=zB hk Aa;replace Ab:=zB hk Ab;replace Ag:=zB hk Ag;replace Aj:=zB hk Aj;replace Av:=zB hk Av;replace A4:=zB hk A4;obtain ⟨Ad,Ae,Af⟩:=ce3 Aa;obtain ⟨Ah,Ai⟩:=ce2 Ab;obtain ⟨An,Ao⟩:=ce2 Ag;obtain ⟨At,Au⟩:=ce2 Aj;obtain ⟨Ax,Ay⟩:=ce2 Av;obtain ⟨Cm,Cn⟩:=ce2 A4;clear hk)
 first | go_ret | go_ret2 | go_ret3
 exact ⟨rfl,hb⟩
theorem turns_f1  (i0 i1 i2:Int) (x y z:Rat) (k0:IsD i0 x) (k1:IsD i1 y) (k2:IsD i2 z) (g:x≠0∨y≠0) (hz:z≠0) (hsg:¬ z.num.sign < 0) (q1:x=0) (q2:y≠0) (q3:z≠0) (w:World) (R:EnvV w) :
   Calls Tryz.prog 10 #[.agg #[.int .i8 i0,.int .i8 i1,.int .i8 i2]] w (Ret w (.bool true)):=by
 have Ap:RN (-x) 1 1:=(RN_neg k0.rn)
 have A5:=k0.rn.rl (K:=40000)
 have Aq:RN (-y) 1 1:=(RN_neg k1.rn)
 have A6:=k1.rn.rl (K:=40000)
 have Ar:RN (-z) 1 1:=(RN_neg k2.rn)
 have Br:=k2.rn.rl (K:=40000)
 have Aw:=RN_mul k0.rn (RN_prim (n:=1) (d:=1) (g.elim Or.inl (fun k=>Or.inr (Or.inl k))) (by decide) (by decide) (RN.up k0.rn (by decide) (by decide)) (RN.up k1.rn (by decide) (by decide)) (RN.up rn_0 (by decide) (by decide)))
 have Az:=RN_mul k1.rn (RN_prim (n:=1) (d:=1) (g.elim Or.inl (fun k=>Or.inr (Or.inl k))) (by decide) (by decide) (RN.up k0.rn (by decide) (by decide)) (RN.up k1.rn (by decide) (by decide)) (RN.up rn_0 (by decide) (by decide)))
 have A0:RN (-(y*(primF x y (0:Rat)))) 4 2:=(RN_neg Az)
 have A7:=RN_mul Ap Ap
 have A8:=RN_mul Aq Aq
 have A9:=RN_mul k0.rn k0.rn
 have Ba:=RN_mul k1.rn k1.rn
 have Bb:=RN_add (N:=4) A7 A8
 have Bc:=RN_mul k2.rn k2.rn
 have Bd:=RN_add (N:=4) A9 Ba
 have Be:=RN_mul Ar Ar
 have Bs:=RN_mul Bb Bc
 have Bt:=RN_mul Bd Be
 have Bu:=RN_div Ap k2.rn hz
 have Bv:=RN_div Aq k2.rn hz
 have Bw:=RN_div k0.rn k2.rn hz
 have Co:RN (-(x / z)) 2 2:=(RN_neg Bw)
 have Bx:=RN_div k1.rn k2.rn hz
 have Cp:RN (-(y / z)) 2 2:=(RN_neg Bx)
 have By:=Ap.rl (K:=40000)
 have Bf:RN (-(-x)) 1 1:=(RN_neg Ap)
 have Bz:=RN_div Bf Ar (neg_ne hz)
 have B0:=Aq.rl (K:=40000)
 have Bg:RN (-(-y)) 1 1:=(RN_neg Aq)
 have B1:=RN_div Bg Ar (neg_ne hz)
 have B2:=RN_div Ap Ar (neg_ne hz)
 have Cq:RN (-((-x) / (-z))) 2 2:=(RN_neg B2)
 have B3:=RN_div Aq Ar (neg_ne hz)
 have Cr:RN (-((-y) / (-z))) 2 2:=(RN_neg B3)
 have Bh:=RN_mul k0.rn A0
 have Bi:=RN_mul k1.rn Aw
 have Bj:=RN_add (N:=8) Bh Bi
 have B4:=RN_div Bj k2.rn hz
 have Bk:=RN_mul k0.rn Aw
 have Bl:=RN_mul k1.rn Az
 have Bm:=RN_add (N:=8) Bk Bl
 have Bn:=RN_div Bm k2.rn hz
 have B5:=Bn.rl (K:=100000)
 have c1:=vector_any i0 i1 i2 x y z k0 k1 k2
 have c2:=known15_any
 have c3:=fun (w:World) (R:EnvV w)=>rneg_any x A5 w R.toEnvR
 have c4:=fun (w:World) (R:EnvV w)=>rneg_any y A6 w R.toEnvR
 have c5:=fun (w:World) (R:EnvV w)=>rneg_any z Br w R.toEnvR
 have c6:=strike_f x y z g (RN.up k0.rn (by decide) (by decide)) (RN.up k1.rn (by decide) (by decide)) (RN.up k2.rn (by decide) (by decide)) hsg
 have c7:CV 19 #[.agg #[.string (ratB (-x)),.string (ratB (-y)),.string (ratB (-z))]] (.tuple #[.agg #[.string (ratB (-(y*(primF x y (0:Rat))))),.string (ratB (x*(primF x y (0:Rat))))],.int .i64 0]):=fun w R=>(by have h:=strike_t (-x) (-y) (-z) (g.elim (fun k=>Or.inl (neg_ne k)) (fun k=>Or.inr (neg_ne k))) (RN.up (RN_neg k0.rn) (by decide) (by decide)) (RN.up (RN_neg k1.rn) (by decide) (by decide)) (RN.up (RN_neg k2.rn) (by decide) (by decide)) (by rw [sgn_neg2];have:=sgp hz hsg;omega) w R;rw [neg_neg' x,neg_neg' y] at h;exact h)
 have c8:CV 40 #[.agg #[.string (ratB (-x)),.string (ratB (-y)),.string (ratB (-z))],.agg #[.string (ratB x),.string (ratB y),.string (ratB z)]] (.tuple #[.int .i64 0,.int .i64 0]):=fun w R=>(by have h:=flat_ok (-x) (-y) (-z) x y z (Or.inr (Or.inr (neg_ne hz))) Ap.r2 Aq.r2 Ar.r2 (Or.inr (Or.inr hz)) k0.rn.r2 k1.rn.r2 k2.rn.r2 Ap.rm Aq.rm A7.rm A8.rm Ar.rm k0.rn.rm k1.rn.rm A9.rm Ba.rm k2.rn.rm Bb.rm Bc.rm Bd.rm Be.rm Bs.rm Bt.rm w R;rw [flat_0 x y z] at h;exact h)
 have c9:=grad_ok x y z k0.rn.r2 k1.rn.r2 k2.rn.r2 hz A5 Ap.rm k2.rn.rm Bu.r2 A6 Aq.rm Bv.r2
 have c10:CV 32 #[.agg #[.string (ratB (-x)),.string (ratB (-y)),.string (ratB (-z))]] (.tuple #[.agg #[.string (ratB (-(x / z))),.string (ratB (-(y / z)))],.int .i64 0]):=fun w R=>(by have h:=grad_ok (-x) (-y) (-z) Ap.r2 Aq.r2 Ar.r2 (neg_ne hz) By Bf.rm Ar.rm Bz.r2 B0 Bg.rm B1.r2 w R;rw [div_neg2 x z,div_neg2 y z] at h;exact h)
 have c11:=toward_f x y z g (RN.up k0.rn (by decide) (by decide)) (RN.up k1.rn (by decide) (by decide)) (RN.up k2.rn (by decide) (by decide)) hsg
 have c12:CV 36 #[.agg #[.string (ratB x),.string (ratB y),.string (ratB z)],.agg #[.string (ratB (-(y*(primF x y (0:Rat))))),.string (ratB (x*(primF x y (0:Rat))))]] (.tuple #[.string ⟨#[48]⟩,.int .i64 0]):=fun w R=>(by have h:=appar_ok x y z (-(y*(primF x y (0:Rat)))) (x*(primF x y (0:Rat))) A0.r2 Aw.r2 (dir_ne2 x y g) k0.rn.r2 k1.rn.r2 k2.rn.r2 hz k0.rn.rm A0.rm k1.rn.rm Aw.rm Bh.rm Bi.rm Bj.rm k2.rn.rm B4.r2 w R;rw [show ((x*(-(y*(primF x y (0:Rat)))))+(y*(x*(primF x y (0:Rat))))) / z=0 from by rw [show (x*(-(y*(primF x y (0:Rat)))))+(y*(x*(primF x y (0:Rat))))=0 by grind,zero_div'],rb_0] at h;exact h)
 have c13:=appar_ok x y z (x*(primF x y (0:Rat))) (y*(primF x y (0:Rat))) Aw.r2 Az.r2 (dir_ne x y g) k0.rn.r2 k1.rn.r2 k2.rn.r2 hz k0.rn.rm Aw.rm k1.rn.rm Az.rm Bk.rm Bl.rm Bm.rm k2.rn.rm Bn.r2
 have c14:=fun (w:World) (R:EnvV w)=>rsign_any (((x*(x*(primF x y (0:Rat))))+(y*(y*(primF x y (0:Rat))))) / z) B5 w R.toEnvR
 have gt:0 < (((x*(x*(primF x y (0:Rat))))+(y*(y*(primF x y (0:Rat))))) / z).num.sign:=fall_f x y z g (pos_sgn (sgp hz hsg))
 have eq1:((ratB x).toList == [48])=true:=by rw [ratB_eq_zero];exact decide_eq_true q1
 have pq1:(ratB x).toList=[48]:=(zero_iff _).2 q1
 have eq2:((ratB y).toList == [48])=false:=by rw [ratB_eq_zero];exact decide_eq_false q2
 have pq2:¬ (ratB y).toList=[48]:=fun h=>q2 ((zero_iff _).1 h)
 have eq3:((ratB z).toList == [48])=false:=by rw [ratB_eq_zero];exact decide_eq_false q3
 have pq3:¬ (ratB z).toList=[48]:=fun h=>q3 ((zero_iff _).1 h)
 obtain ⟨Cy,B6⟩:∃ vq,ratB (((x*(x*(primF x y (0:Rat))))+(y*(y*(primF x y (0:Rat))))) / z)=vq:=⟨_,rfl⟩
 obtain ⟨Cz,B7⟩:∃ vq,ratB (-(y*(primF x y (0:Rat))))=vq:=⟨_,rfl⟩
 obtain ⟨C0,B8⟩:∃ vq,ratB (x*(primF x y (0:Rat)))=vq:=⟨_,rfl⟩
 obtain ⟨Da,B9⟩:∃ vq,ratB (y*(primF x y (0:Rat)))=vq:=⟨_,rfl⟩
 obtain ⟨Db,Ca⟩:∃ vq,ratB (-(x / z))=vq:=⟨_,rfl⟩
 obtain ⟨Dc,Cb⟩:∃ vq,ratB (-(y / z))=vq:=⟨_,rfl⟩
 obtain ⟨A1,Cc⟩:∃ vq,ratB (-x)=vq:=⟨_,rfl⟩
 obtain ⟨A2,Cd⟩:∃ vq,ratB (-y)=vq:=⟨_,rfl⟩
 obtain ⟨A3,Ce⟩:∃ vq,ratB (-z)=vq:=⟨_,rfl⟩
 obtain ⟨Dd,Cf⟩:∃ vq,ratB x=vq:=⟨_,rfl⟩
 obtain ⟨De,Cg⟩:∃ vq,ratB y=vq:=⟨_,rfl⟩
 obtain ⟨Df,Ch⟩:∃ vq,ratB z=vq:=⟨_,rfl⟩
 try simp only [B6,B7,B8,B9,Ca,Cb,Cc,Cd,Ce,Cf,Cg,Ch] at c1 c2 c3 c4 c5 c6 c7 c8 c9 c10 c11 c12 c13 c14 gt eq1 pq1 eq2 pq2 eq3 pq3 ⊢
 obtain ⟨dg,edg⟩:∃ vq,(((x*(x*(primF x y (0:Rat))))+(y*(y*(primF x y (0:Rat))))) / z).num.sign=vq:=⟨_,rfl⟩
 try simp only [edg] at c1 c2 c3 c4 c5 c6 c7 c8 c9 c10 c11 c12 c13 c14 gt eq1 pq1 eq2 pq2 eq3 pq3 ⊢
 have C1:=Lib.hid c1
 have C2:=Lib.hid c2
 have C3:=Lib.hid c3
 have C4:=Lib.hid c4
 have C5:=Lib.hid c5
 have C6:=Lib.hid c6
 have C7:=Lib.hid c7
 have C8:=Lib.hid c8
 have C9:=Lib.hid c9
 have C10:=Lib.hid c10
 have C11:=Lib.hid c11
 have C12:=Lib.hid c12
 have C13:=Lib.hid c13
 have C14:=Lib.hid c14
 clear c1 c2 c3 c4 c5 c6 c7 c8 c9 c10 c11 c12 c13 c14 B6 B7 B8 B9 Ca Cb Cc Cd Ce Cf Cg Ch edg Ap A5 Aq A6 Ar Br Aw Az A0 A7 A8 A9 Ba Bb Bc Bd Be Bs Bt Bu Bv Bw Co Bx Cp By Bf Bz B0 Bg B1 B2 Cq B3 Cr Bh Bi Bj B4 Bk Bl Bm Bn B5 q1 q2 q3 k0 k1 k2 g hz hsg
 have hb:=Below.refl w.heap.size w
 go_enter Tryz.func10,Tryz.ntmps10
 go_upto_region 1 with fail
 refine wp_alloc1 (fun w1 a0 hk=>?_)
 replace hb:=hb.trans (hk.mono hb.size)
 clear hk
 obtain ⟨Bo,Bp,Bq⟩:=ce3 a0
 go_upto_region 2 with (go_at_call 39;with_reducible refine (chVB hb R C1).mono ?_;clear hb;rintro e w1 ⟨rfl,hk,hb⟩;clear Bo Bp Bq;replace a0:=zB hk a0;obtain ⟨Bo,Bp,Bq⟩:=ce3 a0;clear hk)
 clear Bo Bp Bq a0
 refine wp_alloc1 (fun w1 Aa hk=>?_)
 replace hb:=hb.trans (hk.mono hb.size)
 clear hk
 obtain ⟨Ad,Ae,Af⟩:=ce3 Aa
 go_upto_region 4 with (go_at_call 11;with_reducible refine (chVB hb R C2).mono ?_;clear hb;rintro e w1 ⟨rfl,hk,hb⟩;clear Ad Ae Af;replace Aa:=zB hk Aa;obtain ⟨Ad,Ae,Af⟩:=ce3 Aa;clear hk)
 obtain ⟨Cs,Ct,Cu⟩:=cy3 Aa
 have Cv:=rrV C3 R hb
 have Cw:=rrV C4 R hb
 have Cx:=rrV C5 R hb
 have Ci:=qqV C3 R hb
 have Cj:=qqV C4 R hb
 have Ck:=qqV C5 R hb
 refine wp_free1 10 0 (fun i=>if i=10 then Obj.cells #[Value.string ⟨#[]⟩,Value.string ⟨#[]⟩,Value.string ⟨#[]⟩] 24 else Obj.cells #[] 0) (fun i=>if i=10 then Obj.cells #[Value.string A1,Value.string A2,Value.string A3] 24 else Obj.cells #[] 0) (some 4) (by first | assumption | kernel_rfl) (by kernel_rfl) ?lay rfl ?_
 case lay =>
   intro i h1 h2
   obtain rfl:i=10:=by omega
   all_goals exact ⟨_,rfl,rfl,fun a w=>(by first | (go_simp;done) | (go_simp;rfl))⟩
 simp only [List.take_succ_cons,List.take_zero]
 repeat (refine wpB_step (fun K hK=>?_);go_simp;first | (refine hK _ ?_;clear hK K) | (apply Exists.intro;refine ⟨fun _=>?_,hK _ ?_⟩;(first | (with_reducible exact Ci.out _ _) | (with_reducible exact Cj.out _ _) | (with_reducible exact Ck.out _ _));clear hK K))
 refine wpB_nil ?_
 intro As
 refine ⟨?_,?_⟩
 · refine ⟨_,rfl,rfl,rfl,fun cs b h=>(by cases h),fun w hw=>?_⟩
   replace hw:w.heap[As]? = some (Obj.cells #[Value.string ⟨#[]⟩,Value.string ⟨#[]⟩,Value.string ⟨#[]⟩] 24):=hw
   have z0:w.cell? ⟨As,0,none⟩=some (Value.string ⟨#[]⟩):=zA hw
   have y0:w.frozen? ⟨As,0,none⟩=false:=zD hw
   have z1:w.cell? ⟨As,1,none⟩=some (Value.string ⟨#[]⟩):=zA hw
   have y1:w.frozen? ⟨As,1,none⟩=false:=zD hw
   have z2:w.cell? ⟨As,2,none⟩=some (Value.string ⟨#[]⟩):=zA hw
   have y2:w.frozen? ⟨As,2,none⟩=false:=zD hw
   refine ⟨_,?_,(Wrote.set (i:=2) (Wrote.set (i:=1) (Wrote.set (i:=0) (Wrote.refl hw) (Value.string A1)) (Value.string A2)) (Value.string A3))⟩
   go_simp
 intro w1 hk m0 Ac
 clear Ad Ae Af
 replace Aa:=zB hk Aa
 obtain ⟨Ad,Ae,Af⟩:=ce3 Aa
 replace hb:=hb.trans (hk.mono hb.size)
 clear hk
 replace Ac:w1.heap[As]? = some (Obj.cells #[Value.string A1,Value.string A2,Value.string A3] 24):=Ac
 have Ak:w1.cell? ⟨As,0,none⟩=some (Value.string A1):=zA Ac
 have Al:w1.cell? ⟨As,1,none⟩=some (Value.string A2):=zA Ac
 have Am:w1.cell? ⟨As,2,none⟩=some (Value.string A3):=zA Ac
 clear Ci Cj Ck Cv Cw Cx Cs Ct Cu m0
 go_upto_region 6 with (go_at_call 19;with_reducible refine (chVB hb R C6).mono ?_;clear hb;rintro e w1 ⟨rfl,hk,hb⟩;clear Ad Ae Af Ak Al Am;replace Aa:=zB hk Aa;replace Ac:=zB hk Ac;obtain ⟨Ad,Ae,Af⟩:=ce3 Aa;obtain ⟨Ak,Al,Am⟩:=ce3 Ac;clear hk)
 refine wp_alloc1 (fun w1 Ab hk=>?_)
 clear Ad Ae Af Ak Al Am
 replace Aa:=zB hk Aa
 replace Ac:=zB hk Ac
 obtain ⟨Ad,Ae,Af⟩:=ce3 Aa
 obtain ⟨Ak,Al,Am⟩:=ce3 Ac
 replace hb:=hb.trans (hk.mono hb.size)
 clear hk
 obtain ⟨Ah,Ai⟩:=ce2 Ab
 go_upto_region 7 with (go_at_call 19;with_reducible refine (chVB hb R C7).mono ?_;clear hb;rintro e w1 ⟨rfl,hk,hb⟩;clear Ad Ae Af Ah Ai Ak Al Am;replace Aa:=zB hk Aa;replace Ab:=zB hk Ab;replace Ac:=zB hk Ac;obtain ⟨Ad,Ae,Af⟩:=ce3 Aa;obtain ⟨Ah,Ai⟩:=ce2 Ab;obtain ⟨Ak,Al,Am⟩:=ce3 Ac;clear hk)
 refine wp_alloc1 (fun w1 Ag hk=>?_)
 clear Ad Ae Af Ah Ai Ak Al Am
 replace Aa:=zB hk Aa
 replace Ab:=zB hk Ab
 replace Ac:=zB hk Ac
 obtain ⟨Ad,Ae,Af⟩:=ce3 Aa
 obtain ⟨Ah,Ai⟩:=ce2 Ab
 obtain ⟨Ak,Al,Am⟩:=ce3 Ac
 replace hb:=hb.trans (hk.mono hb.size)
 clear hk
 obtain ⟨An,Ao⟩:=ce2 Ag
 go_upto_region 9 with ((first | (go_at_call 40;with_reducible refine (chVB hb R C8).mono ?_) | (go_at_call 32;with_reducible refine (chVB hb R C9).mono ?_));clear hb;rintro e w1 ⟨rfl,hk,hb⟩;clear Ad Ae Af Ah Ai An Ao Ak Al Am;replace Aa:=zB hk Aa;replace Ab:=zB hk Ab;replace Ag:=zB hk Ag;replace Ac:=zB hk Ac;obtain ⟨Ad,Ae,Af⟩:=ce3 Aa;obtain ⟨Ah,Ai⟩:=ce2 Ab;obtain ⟨An,Ao⟩:=ce2 Ag;obtain ⟨Ak,Al,Am⟩:=ce3 Ac;clear hk)
 refine wp_alloc1 (fun w1 Aj hk=>?_)
 clear Ad Ae Af Ah Ai An Ao Ak Al Am
 replace Aa:=zB hk Aa
 replace Ab:=zB hk Ab
 replace Ag:=zB hk Ag
 replace Ac:=zB hk Ac
 obtain ⟨Ad,Ae,Af⟩:=ce3 Aa
 obtain ⟨Ah,Ai⟩:=ce2 Ab
 obtain ⟨An,Ao⟩:=ce2 Ag
 obtain ⟨Ak,Al,Am⟩:=ce3 Ac
 replace hb:=hb.trans (hk.mono hb.size)
 clear hk
 obtain ⟨At,Au⟩:=ce2 Aj
 go_upto_region 10 with (go_at_call 32;with_reducible refine (chVB hb R C10).mono ?_;clear hb;rintro e w1 ⟨rfl,hk,hb⟩;clear Ad Ae Af Ah Ai An Ao At Au Ak Al Am;replace Aa:=zB hk Aa;replace Ab:=zB hk Ab;replace Ag:=zB hk Ag;replace Aj:=zB hk Aj;replace Ac:=zB hk Ac;obtain ⟨Ad,Ae,Af⟩:=ce3 Aa;obtain ⟨Ah,Ai⟩:=ce2 Ab;obtain ⟨An,Ao⟩:=ce2 Ag;obtain ⟨At,Au⟩:=ce2 Aj;obtain ⟨Ak,Al,Am⟩:=ce3 Ac;clear hk)
 clear Ak Al Am Ac
 refine wp_alloc1 (fun w1 Av hk=>?_)
 clear Ad Ae Af Ah Ai An Ao At Au
 replace Aa:=zB hk Aa
 replace Ab:=zB hk Ab
 replace Ag:=zB hk Ag
 replace Aj:=zB hk Aj
 obtain ⟨Ad,Ae,Af⟩:=ce3 Aa
 obtain ⟨Ah,Ai⟩:=ce2 Ab
 obtain ⟨An,Ao⟩:=ce2 Ag
 obtain ⟨At,Au⟩:=ce2 Aj
 replace hb:=hb.trans (hk.mono hb.size)
 clear hk
 obtain ⟨Ax,Ay⟩:=ce2 Av
 go_upto_region 11 with (go_at_call 18;with_reducible refine (chVB hb R C11).mono ?_;clear hb;rintro e w1 ⟨rfl,hk,hb⟩;clear Ad Ae Af Ah Ai An Ao At Au Ax Ay;replace Aa:=zB hk Aa;replace Ab:=zB hk Ab;replace Ag:=zB hk Ag;replace Aj:=zB hk Aj;replace Av:=zB hk Av;obtain ⟨Ad,Ae,Af⟩:=ce3 Aa;obtain ⟨Ah,Ai⟩:=ce2 Ab;obtain ⟨An,Ao⟩:=ce2 Ag;obtain ⟨At,Au⟩:=ce2 Aj;obtain ⟨Ax,Ay⟩:=ce2 Av;clear hk)
 refine wp_alloc1 (fun w1 A4 hk=>?_)
 clear Ad Ae Af Ah Ai An Ao At Au Ax Ay
 replace Aa:=zB hk Aa
 replace Ab:=zB hk Ab
 replace Ag:=zB hk Ag
 replace Aj:=zB hk Aj
 replace Av:=zB hk Av
 obtain ⟨Ad,Ae,Af⟩:=ce3 Aa
 obtain ⟨Ah,Ai⟩:=ce2 Ab
 obtain ⟨An,Ao⟩:=ce2 Ag
 obtain ⟨At,Au⟩:=ce2 Aj
 obtain ⟨Ax,Ay⟩:=ce2 Av
 replace hb:=hb.trans (hk.mono hb.size)
 clear hk
 obtain ⟨Cm,Cn⟩:=ce2 A4
 go_wp2_with ((first | (go_at_call 36;first | with_reducible refine (chVB hb R C12).mono ?_ | with_reducible refine (chVB hb R C13).mono ?_) | (go_at_call 17;with_reducible refine (chVB hb R C14).mono ?_));clear hb;rintro e w1 ⟨rfl,hk,hb⟩;clear Ad Ae Af Ah Ai An Ao At Au Ax Ay Cm Cn;replace Aa:=zB hk Aa;replace Ab:=zB hk Ab;replace Ag:=zB hk Ag;replace Aj:=zB hk Aj;replace Av:=zB hk Av;replace A4:=zB hk A4;obtain ⟨Ad,Ae,Af⟩:=ce3 Aa;obtain ⟨Ah,Ai⟩:=ce2 Ab;obtain ⟨An,Ao⟩:=ce2 Ag;obtain ⟨At,Au⟩:=ce2 Aj;obtain ⟨Ax,Ay⟩:=ce2 Av;obtain ⟨Cm,Cn⟩:=ce2 A4;clear hk)
 first | go_ret | go_ret2 | go_ret3
 exact ⟨rfl,hb⟩
theorem lawTurns (i0 i1 i2:Int) (b0 : -128≤i0∧i0≤127) (b1 : -128≤i1∧i1≤127) (b2 : -128≤i2∧i2≤127) (w:World) (R:EnvV w) :
   Calls Tryz.prog 10 #[.agg #[.int .i8 i0,.int .i8 i1,.int .i8 i2]] w (Ret w (.bool true)):=by
 obtain ⟨x,k0⟩:∃ x,IsD i0 x:=⟨_,b0,rfl⟩
 obtain ⟨y,k1⟩:∃ x,IsD i1 x:=⟨_,b1,rfl⟩
 obtain ⟨z,k2⟩:∃ x,IsD i2 x:=⟨_,b2,rfl⟩
 by_cases q0:x=0
 · by_cases q1:y=0
   · exact turns_0 i0 i1 i2 x y z k0 k1 k2 q0 q1 w R
   · by_cases hz:z=0
     · exact turns_2 i0 i1 i2 x y z k0 k1 k2 q0 q1 hz w R
     · by_cases hsg:z.num.sign < 0
       · exact turns_t1 i0 i1 i2 x y z k0 k1 k2 (Or.inr q1) hz hsg q0 q1 hz w R
       · exact turns_f1 i0 i1 i2 x y z k0 k1 k2 (Or.inr q1) hz hsg q0 q1 hz w R
 · by_cases hz:z=0
   · exact turns_1 i0 i1 i2 x y z k0 k1 k2 q0 hz w R
   · by_cases hsg:z.num.sign < 0
     · exact turns_t0 i0 i1 i2 x y z k0 k1 k2 (Or.inl q0) hz hsg q0 hz w R
     · exact turns_f0 i0 i1 i2 x y z k0 k1 k2 (Or.inl q0) hz hsg q0 hz w R
end Go.Proofs.YtejfiegmdllfbaaGreatDoor.Kl
