import Derived.Test.YtejfiegmdllfbaaGreatDoorKlACompassAtE
import Derived.Test.YtejfiegmdllfbaaGreatDoorKlBAtK
namespace Go.Proofs.YtejfiegmdllfbaaGreatDoor.Kl
open Go Go.RowKit
set_option maxRecDepth 100000
set_option maxHeartbeats 8000000
theorem sgn_neg (a:Rat):(-a).num.sign = -a.num.sign:=by show (-a.num).sign=_;rw [Int.sign_neg]
theorem sgn_iff (a:Rat):a.num.sign=(if a < 0 then -1 else if a=0 then 0 else 1):=sign_rat a
theorem sgn_3 (a:Rat):(a*3).num.sign=a.num.sign:=by
 rw [sgn_iff,sgn_iff]
 by_cases h:a < 0
 · rw [if_pos h,if_pos (by grind)]
 · by_cases g:a=0
   · subst g;decide +kernel
   · rw [if_neg h,if_neg g,if_neg (by grind),if_neg (by grind)]
theorem rot_3 (x y:Rat):∀ n,rot (x*3) (y*3) n=((rot x y n).1*3,(rot x y n).2*3)
 | 0=>rfl
 | n+1=>by
   have h:=rot_3 x y n
   show (-(rot (x*3) (y*3) n).2,(rot (x*3) (y*3) n).1)=(-(rot x y n).2*3,(rot x y n).1*3)
   rw [h];refine Prod.ext ?_ rfl;show -((rot x y n).2*3) = -(rot x y n).2*3;grind
theorem div_3 (a b:Rat):(a*3) / (b*3)=a / b:=by
 by_cases h:b=0
 · subst h;rw [Rat.zero_mul,Rat.div_def,Rat.div_def,Rat.inv_zero,Rat.mul_zero,Rat.mul_zero]
 · rw [Rat.div_def,Rat.div_def,Rat.inv_mul_rev]
   have h3:(3:Rat)*(3:Rat)⁻¹=1:=by decide +kernel
   grind
theorem rn_3' : RN (3:Rat) 1 1:=by unfold RN;decide +kernel
def At (x y:Rat) (j:Nat):Prop:=j≤3∧0≤(rot x y j).1.num.sign∧0 < (rot x y j).2.num.sign
theorem quad_at (x y:Rat) (j:Nat) (nx:RN x 30 30) (ny:RN y 30 30) (h:At x y j) (w:World) (R:EnvV w) :
   Calls Tryz.prog 65 #[.agg #[.string (ratB x),.string (ratB y)]] w (Ret w (.tuple #[.int .i64 (2*j),.string (ratB (rot x y j).2),.string (ratB (rot x y j).1)])):=by
 obtain ⟨hj,h1,h2⟩:=h
 match j,hj,h1,h2 with
 | 0,_,h1,h2=>exact quad_A x y nx ny h1 h2 w R
 | 1,_,h1,h2 =>
   have h1':0≤(-y).num.sign:=h1
   rw [sgn_neg] at h1'
   exact quad_B x y nx ny h2 (by omega) w R
 | 2,_,h1,h2 =>
   have h1':0≤(-x).num.sign:=h1
   have h2':0 < (-y).num.sign:=h2
   rw [sgn_neg] at h1' h2'
   by_cases h0:x.num.sign=0
   · exact quad_C0 x y nx ny h0 (by omega) w R
   · exact quad_C1 x y nx ny (by omega) (by omega) w R
 | 3,_,h1,h2 =>
   have h1':0≤(-(-y)).num.sign:=h1
   have h2':0 < (-x).num.sign:=h2
   rw [sgn_neg,sgn_neg] at h1'
   rw [sgn_neg] at h2'
   have h:=quad_D x y nx ny (by omega) (by omega) w R
   have e:(rot x y 3).1=y:=by show -(-y)=y;grind
   rw [e];exact h
 | j+4,hj,_,_=>omega
theorem at_ex (x y:Rat) (hz:x≠0∨y≠0):∃ j,At x y j∧∀ i,i < j→(rot x y i).1.num.sign < 0∨(0≤(rot x y i).1.num.sign∧(rot x y i).2.num.sign≤0):=by
 have r0:(rot x y 0).1.num.sign=x.num.sign∧(rot x y 0).2.num.sign=y.num.sign:=⟨rfl,rfl⟩
 have r1:(rot x y 1).1.num.sign = -y.num.sign∧(rot x y 1).2.num.sign=x.num.sign:=⟨sgn_neg y,rfl⟩
 have r2:(rot x y 2).1.num.sign = -x.num.sign∧(rot x y 2).2.num.sign = -y.num.sign:=⟨sgn_neg x,sgn_neg y⟩
 have r3:(rot x y 3).1.num.sign=y.num.sign∧(rot x y 3).2.num.sign = -x.num.sign:=⟨by show (-(-y)).num.sign=_;rw [sgn_neg,sgn_neg];omega,sgn_neg x⟩
 have nz:x.num.sign≠0∨y.num.sign≠0:=by
   rcases hz with h | h
   · exact Or.inl (fun k=>h (Rat.num_eq_zero.1 (Int.sign_eq_zero_iff_zero.1 k)))
   · exact Or.inr (fun k=>h (Rat.num_eq_zero.1 (Int.sign_eq_zero_iff_zero.1 k)))
 generalize x.num.sign=sx at *
 generalize y.num.sign=sy at *
 by_cases hA:0≤sx∧0 < sy
 · exact ⟨0,⟨by omega,by omega,by omega⟩,fun i hi=>by omega⟩
 by_cases hB:0 < sx
 · refine ⟨1,⟨by omega,by omega,by omega⟩,fun i hi=>?_⟩
   obtain rfl:i=0:=by omega
   omega
 by_cases hC:sy < 0
 · refine ⟨2,⟨by omega,by omega,by omega⟩,fun i hi=>?_⟩
   obtain rfl | rfl:i=0∨i=1:=by omega
   · omega
   · omega
 · refine ⟨3,⟨by omega,by omega,by omega⟩,fun i hi=>?_⟩
   obtain rfl | rfl | rfl:i=0∨i=1∨i=2:=by omega
   · omega
   · omega
   · omega
theorem pos_ne {q:Rat} (h:0 < q.num.sign):q≠0:=fun k=>by subst k;exact absurd h (by decide)
theorem RN_rot30 {x y:Rat} (nx:RN x 30 30) (ny:RN y 30 30):∀ n,RN (rot x y n).1 30 30∧RN (rot x y n).2 30 30
 | 0=>⟨nx,ny⟩
 | n+1=>⟨RN_neg (RN_rot30 nx ny n).2,(RN_rot30 nx ny n).1⟩
theorem of_at (x y:Rat) (j:Nat) (nx:RN x 30 30) (ny:RN y 30 30) (hz:x≠0∨y≠0) (h:At x y j) (o:Int) (t:Rat)
   (hr:(((rot x y j).1 - (rot x y j).2).num.sign < 0∧o=2*j∧t=(rot x y j).1 / (rot x y j).2)∨(0≤((rot x y j).1 - (rot x y j).2).num.sign∧(rot x y j).1≠0∧o=2*j+1∧t=(rot x y j).2 / (rot x y j).1)) (w:World) (R:EnvV w) :
   Calls Tryz.prog 26 #[.agg #[.string (ratB x),.string (ratB y)]] w (Ret w (.tuple #[.agg #[.int .i64 o,.string (ratB t)],.int .i64 0])):=by
 have nr:=RN_rot30 nx ny j
 have hk:0≤(2*j:Int)∧(2*j:Int)≤6:=by have:=h.1;omega
 rcases hr with ⟨hs,rfl,rfl⟩ | ⟨hs,hq,rfl,rfl⟩
 · exact of_lt x y _ _ _ (fun w R=>quad_at x y j nx ny h w R) hz nx ny nr.2 nr.1 hk (pos_ne h.2.2) hs w R
 · exact of_ge x y _ _ _ (fun w R=>quad_at x y j nx ny h w R) hz nx ny nr.2 nr.1 hk hq hs w R
theorem all_three (x y:Rat) (nx:RN x 24 24) (ny:RN y 24 24) (hz:x≠0∨y≠0):∃ (o:Int) (t:Rat),
   (CV 26 #[.agg #[.string (ratB x),.string (ratB y)]] (.tuple #[.agg #[.int .i64 o,.string (ratB t)],.int .i64 0])) ∧
   (CV 26 #[.agg #[.string (ratB (x*(3:Rat))),.string (ratB (y*(3:Rat)))]] (.tuple #[.agg #[.int .i64 o,.string (ratB t)],.int .i64 0])) ∧
   (CV 28 #[.agg #[.string (ratB x),.string (ratB y)]] (.agg #[.int .i64 o,.string (ratB t)])):=by
 obtain ⟨j,hj,hn⟩:=at_ex x y hz
 have ux:RN x 30 30:=RN.up nx (by decide) (by decide)
 have uy:RN y 30 30:=RN.up ny (by decide) (by decide)
 have vx:RN (x*3) 30 30:=RN.up (RN_mul nx rn_3') (by decide) (by decide)
 have vy:RN (y*3) 30 30:=RN.up (RN_mul ny rn_3') (by decide) (by decide)
 have hz3:x*3≠0∨y*3≠0:=hz.elim (fun h=>Or.inl (fun k=>h (by grind))) (fun h=>Or.inr (fun k=>h (by grind)))
 have h3:At (x*3) (y*3) j:=by
   unfold At;rw [rot_3]
   exact ⟨hj.1,by show 0≤((rot x y j).1*3).num.sign;rw [sgn_3];exact hj.2.1,by show 0 < ((rot x y j).2*3).num.sign;rw [sgn_3];exact hj.2.2⟩
 have e1:(rot (x*3) (y*3) j).1=(rot x y j).1*3:=by rw [rot_3]
 have e2:(rot (x*3) (y*3) j).2=(rot x y j).2*3:=by rw [rot_3]
 have es:((rot (x*3) (y*3) j).1 - (rot (x*3) (y*3) j).2).num.sign=((rot x y j).1 - (rot x y j).2).num.sign:=by
   rw [e1,e2,show (rot x y j).1*3 - (rot x y j).2*3=((rot x y j).1 - (rot x y j).2)*3 by grind,sgn_3]
 have hne:0≤((rot x y j).1 - (rot x y j).2).num.sign→(rot x y j).1≠0:=fun h k=>by
   rw [k,show (0:Rat) - (rot x y j).2 = -(rot x y j).2 by grind,sgn_neg] at h
   have:=hj.2.2
   omega
 by_cases hs:((rot x y j).1 - (rot x y j).2).num.sign < 0
 · refine ⟨2*j,(rot x y j).1 / (rot x y j).2,fun w R=>of_at x y j ux uy hz hj _ _ (Or.inl ⟨hs,rfl,rfl⟩) w R,fun w R=>of_at _ _ j vx vy hz3 h3 _ _ (Or.inl ⟨by rw [es];exact hs,rfl,?_⟩) w R,fun w R=>compass_w x y j hj.1 nx ny hn hj.2.1 hj.2.2 _ _ (Or.inl ⟨hs,rfl,rfl⟩) w R⟩
   rw [e1,e2,div_3]
 · have hs':0≤((rot x y j).1 - (rot x y j).2).num.sign:=by omega
   have h1:=hne hs'
   refine ⟨2*j+1,(rot x y j).2 / (rot x y j).1,fun w R=>of_at x y j ux uy hz hj _ _ (Or.inr ⟨hs',h1,rfl,rfl⟩) w R,fun w R=>of_at _ _ j vx vy hz3 h3 _ _ (Or.inr ⟨by rw [es];exact hs',?_,rfl,?_⟩) w R,fun w R=>compass_w x y j hj.1 nx ny hn hj.2.1 hj.2.2 _ _ (Or.inr ⟨hs',h1,rfl,rfl⟩) w R⟩
   · rw [e1];grind
   · rw [e1,e2,div_3]
theorem comp_long  (s0 s1:ByteArray) (hl:¬ (s0.size≤24∧s1.size≤24)) (ms0:s0.size≤9223372036854775807) (ms1:s1.size≤9223372036854775807) (w:World) (R:EnvV w) :
   Calls Tryz.prog 5 #[.agg #[.string s0,.string s1]] w (Ret w (.bool true)):=by
 have c1:=known15_any
 have c2:=short2 s0 s1 false ⟨(fun h=>by cases h),fun k=>absurd k hl⟩ ms0 ms1
 have C1:=Lib.hid c1
 have C2:=Lib.hid c2
 clear c1 c2 hl ms0 ms1
 have hb:=Below.refl w.heap.size w
 go_enter Tryz.func5,Tryz.ntmps5
 go_upto_region 1 with fail
 refine wp_alloc1 (fun w1 a0 hk=>?_)
 replace hb:=hb.trans (hk.mono hb.size)
 clear hk
 obtain ⟨Aa,Ab⟩:=ce2 a0
 go_wp2_with ((first | (go_at_call 11;first | with_reducible refine (chVB hb R C1).mono ?_ | with_reducible refine (chVB hb R C1).mono ?_) | (go_at_call 12;with_reducible refine (zL hb (C2.out _ (R.below hb))).mono ?_));clear hb;rintro e w1 ⟨rfl,hk,hb⟩;clear Aa Ab;replace a0:=zB hk a0;obtain ⟨Aa,Ab⟩:=ce2 a0;clear hk)
 first | go_ret | go_ret2 | go_ret3
 exact ⟨rfl,hb⟩
theorem comp_err  (s0 s1:ByteArray) (v:Int) (hv:NErr s0 s1 ⟨#[48]⟩ v) (zs0:s0.size≤100000) (zs1:s1.size≤100000) (hs:s0.size≤24∧s1.size≤24) (w:World) (R:EnvV w) :
   Calls Tryz.prog 5 #[.agg #[.string s0,.string s1]] w (Ret w (.bool true)):=by
 have c1:=known15_any
 have c2:∀ w,EnvV w→Calls Tryz.prog 12 #[.slice (some ⟨w.heap.size,0,none⟩) 2 2] (w.alloc (Obj.cells #[Value.string s0,Value.string s1] 22)) (Ret w (.bool true)):=fun w R=>short2 s0 s1 true ⟨fun _=>hs,fun _=>rfl⟩ (Nat.le_trans hs.1 (by decide)) (Nat.le_trans hs.2 (by decide)) w R
 have c3:=fun (w:World) (R:EnvV w)=>of_err s0 s1 v (fun w R=>cdir_err s0 s1 v hv zs0 zs1 w R) hv.ne w R
 have c4:=ldir_err s0 s1 v hv zs0 zs1
 have eqv:(v == 0)=false:=beq_eq_false_iff_ne.2 hv.ne
 have pqv:¬ v=0:=hv.ne
 have C1:=Lib.hid c1
 have C2:=Lib.hid c2
 have C3:=Lib.hid c3
 have C4:=Lib.hid c4
 clear c1 c2 c3 c4 hv zs0 zs1 hs
 have hb:=Below.refl w.heap.size w
 go_enter Tryz.func5,Tryz.ntmps5
 go_upto_region 1 with fail
 refine wp_alloc1 (fun w1 a0 hk=>?_)
 replace hb:=hb.trans (hk.mono hb.size)
 clear hk
 obtain ⟨Aa,Ab⟩:=ce2 a0
 go_upto_region 4 with ((first | (go_at_call 11;with_reducible refine (chVB hb R C1).mono ?_) | (go_at_call 12;with_reducible refine (zL hb (C2.out _ (R.below hb))).mono ?_) | (go_at_call 26;with_reducible refine (chVB hb R C3).mono ?_));clear hb;rintro e w1 ⟨rfl,hk,hb⟩;clear Aa Ab;replace a0:=zB hk a0;obtain ⟨Aa,Ab⟩:=ce2 a0;clear hk)
 refine wp_alloc1 (fun w1 Ac hk=>?_)
 clear Aa Ab
 replace a0:=zB hk a0
 obtain ⟨Aa,Ab⟩:=ce2 a0
 replace hb:=hb.trans (hk.mono hb.size)
 clear hk
 obtain ⟨Ad,Ae⟩:=ce2 Ac
 go_wp2_with (go_at_call 27;with_reducible refine (chVB hb R C4).mono ?_;clear hb;rintro e w1 ⟨rfl,hk,hb⟩;clear Aa Ab Ad Ae;replace a0:=zB hk a0;replace Ac:=zB hk Ac;obtain ⟨Aa,Ab⟩:=ce2 a0;obtain ⟨Ad,Ae⟩:=ce2 Ac;clear hk)
 first | go_ret | go_ret2 | go_ret3
 exact ⟨rfl,hb⟩
theorem comp_ok  (x y:Rat) (nx:RN x 24 24) (ny:RN y 24 24) (hz:x≠0∨y≠0) (k:Int) (t:ByteArray) (co:CV 26 #[.agg #[.string (ratB x),.string (ratB y)]] (.tuple #[.agg #[.int .i64 k,.string t],.int .i64 0])) (cm:CV 26 #[.agg #[.string (ratB (x*(3:Rat))),.string (ratB (y*(3:Rat)))]] (.tuple #[.agg #[.int .i64 k,.string t],.int .i64 0])) (cc:CV 28 #[.agg #[.string (ratB x),.string (ratB y)]] (.agg #[.int .i64 k,.string t])) (hs:(ratB x).size≤24∧(ratB y).size≤24) (w:World) (R:EnvV w) :
   Calls Tryz.prog 5 #[.agg #[.string (ratB x),.string (ratB y)]] w (Ret w (.bool true)):=by
 have Aw:=RN_mul nx rn_3
 have Ax:=RN_mul ny rn_3
 have c1:=known15_any
 have c2:∀ w,EnvV w→Calls Tryz.prog 12 #[.slice (some ⟨w.heap.size,0,none⟩) 2 2] (w.alloc (Obj.cells #[Value.string (ratB x),Value.string (ratB y)] 22)) (Ret w (.bool true)):=fun w R=>short2 (ratB x) (ratB y) true ⟨fun _=>hs,fun _=>rfl⟩ (Nat.le_trans hs.1 (by decide)) (Nat.le_trans hs.2 (by decide)) w R
 have c3:=co
 have c4:=ldir_ok x y (nx.rl (K:=200)) (ny.rl (K:=200)) hz
 have c5:CV 23 #[.string (ratB x),.string ⟨#[51]⟩] (.string (ratB (x*(3:Rat)))):=fun w R=>(by have h:=rmul_any x (3:Rat) nx.rm (RN.rl (K:=10000) rn_3) w R.toEnvR;simp only [rb_3] at h;exact h)
 have c6:CV 23 #[.string (ratB y),.string ⟨#[51]⟩] (.string (ratB (y*(3:Rat)))):=fun w R=>(by have h:=rmul_any y (3:Rat) ny.rm (RN.rl (K:=10000) rn_3) w R.toEnvR;simp only [rb_3] at h;exact h)
 have c7:=cm
 have c8:=cc
 obtain ⟨A3,Al⟩:∃ vq,ratB (x*(3:Rat))=vq:=⟨_,rfl⟩
 obtain ⟨A4,Am⟩:∃ vq,ratB (y*(3:Rat))=vq:=⟨_,rfl⟩
 obtain ⟨A5,An⟩:∃ vq,ratB x=vq:=⟨_,rfl⟩
 obtain ⟨A6,Ao⟩:∃ vq,ratB y=vq:=⟨_,rfl⟩
 try simp only [Al,Am,An,Ao] at c1 c2 c3 c4 c5 c6 c7 c8 ⊢
 have C1:=Lib.hid c1
 have C2:=Lib.hid c2
 have C3:=Lib.hid c3
 have C4:=Lib.hid c4
 have C5:=Lib.hid c5
 have C6:=Lib.hid c6
 have C7:=Lib.hid c7
 have C8:=Lib.hid c8
 clear c1 c2 c3 c4 c5 c6 c7 c8 Al Am An Ao Aw Ax nx ny hz co cm cc hs
 have hb:=Below.refl w.heap.size w
 go_enter Tryz.func5,Tryz.ntmps5
 go_upto_region 1 with fail
 refine wp_alloc1 (fun w1 a0 hk=>?_)
 replace hb:=hb.trans (hk.mono hb.size)
 clear hk
 obtain ⟨Ab,Ac⟩:=ce2 a0
 go_upto_region 4 with ((first | (go_at_call 11;with_reducible refine (chVB hb R C1).mono ?_) | (go_at_call 12;with_reducible refine (zL hb (C2.out _ (R.below hb))).mono ?_) | (go_at_call 26;with_reducible refine (chVB hb R C3).mono ?_));clear hb;rintro e w1 ⟨rfl,hk,hb⟩;clear Ab Ac;replace a0:=zB hk a0;obtain ⟨Ab,Ac⟩:=ce2 a0;clear hk)
 refine wp_alloc1 (fun w1 Aa hk=>?_)
 clear Ab Ac
 replace a0:=zB hk a0
 obtain ⟨Ab,Ac⟩:=ce2 a0
 replace hb:=hb.trans (hk.mono hb.size)
 clear hk
 obtain ⟨Af,Ag⟩:=ce2 Aa
 go_upto_region 7 with (go_at_call 27;with_reducible refine (chVB hb R C4).mono ?_;clear hb;rintro e w1 ⟨rfl,hk,hb⟩;clear Ab Ac Af Ag;replace a0:=zB hk a0;replace Aa:=zB hk Aa;obtain ⟨Ab,Ac⟩:=ce2 a0;obtain ⟨Af,Ag⟩:=ce2 Aa;clear hk)
 obtain ⟨Ah,Ai⟩:=cy2 a0
 obtain ⟨Aj,Ak⟩:=cy2 Aa
 have Ay:=rrV C5 R hb
 have Az:=rrV C6 R hb
 have A0:=rrV C7 R hb
 have Ap:=qqV C5 R hb
 have Aq:=qqV C6 R hb
 have Ar:=qqV C7 R hb
 refine wp_free1 11 1 (fun i=>if i=11 then Obj.cells #[Value.int .i64 0,Value.string ⟨#[]⟩] 40 else Obj.cells #[] 0) (fun i=>if i=11 then Obj.cells #[Value.int .i64 k,Value.string t] 40 else Obj.cells #[] 0) (some 6) (by first | assumption | kernel_rfl) (by kernel_rfl) ?lay rfl ?_
 case lay =>
   intro i h1 h2
   obtain rfl:i=11:=by omega
   all_goals exact ⟨_,rfl,rfl,fun a w=>(by first | (go_simp;done) | (go_simp;rfl))⟩
 simp only [List.take_succ_cons,List.take_zero]
 repeat (refine wpB_step (fun K hK=>?_);go_simp;first | (refine hK _ ?_;clear hK K) | (apply Exists.intro;refine ⟨fun _=>?_,hK _ ?_⟩;(first | (with_reducible exact Ap.out _ _) | (with_reducible exact Aq.out _ _) | (with_reducible exact Ar.out _ _));clear hK K))
 refine wpB_nil ?_
 intro Ad
 refine ⟨?_,?_⟩
 · refine ⟨_,rfl,rfl,rfl,fun cs b h=>(by cases h),fun w hw=>?_⟩
   replace hw:w.heap[Ad]? = some (Obj.cells #[Value.int .i64 0,Value.string ⟨#[]⟩] 40):=hw
   have z0:w.cell? ⟨Ad,0,none⟩=some (Value.int .i64 0):=zA hw
   have y0:w.frozen? ⟨Ad,0,none⟩=false:=zD hw
   have z1:w.cell? ⟨Ad,1,none⟩=some (Value.string ⟨#[]⟩):=zA hw
   have y1:w.frozen? ⟨Ad,1,none⟩=false:=zD hw
   refine ⟨_,?_,(Wrote.set (i:=1) (Wrote.set (i:=0) (Wrote.refl hw) (Value.int .i64 k)) (Value.string t))⟩
   go_simp
 refine ⟨_,(Value.int .i64 0),rfl,Or.inl ⟨rfl,fun p=>?_⟩,?_⟩
 · go_simp
   try exact ⟨rfl,rfl⟩
 intro w1 hk m0 Ae
 clear Ab Ac Af Ag
 replace a0:=zB hk a0
 replace Aa:=zB hk Aa
 obtain ⟨Ab,Ac⟩:=ce2 a0
 obtain ⟨Af,Ag⟩:=ce2 Aa
 replace hb:=hb.trans (hk.mono hb.size)
 clear hk
 replace Ae:w1.heap[Ad]? = some (Obj.cells #[Value.int .i64 k,Value.string t] 40):=Ae
 have As:w1.cell? ⟨Ad,0,none⟩=some (Value.int .i64 k):=zA Ae
 have Au:w1.cell? ⟨Ad,1,none⟩=some (Value.string t):=zA Ae
 clear Ap Aq Ar Ay Az A0 Ah Ai Aj Ak m0
 go_upto_region 8 with fail
 obtain ⟨Ah,Ai⟩:=cy2 a0
 obtain ⟨Aj,Ak⟩:=cy2 Aa
 obtain ⟨A1,A2⟩:=cy2 Ae
 have Av:=rrV C8 R hb
 refine wp_region_quiet_below (by first | assumption | kernel_rfl) (by kernel_rfl) ?_
 repeat (quiet_step (first | (with_reducible exact Av.out _ _)))
 refine wpQuiet_nil ?_
 intro w1 hw'
 obtain ⟨hk,hb⟩:=zQ hb hw'
 clear Ab Ac Af Ag As Au
 replace a0:=zB hk a0
 replace Aa:=zB hk Aa
 replace Ae:=zB hk Ae
 obtain ⟨Ab,Ac⟩:=ce2 a0
 obtain ⟨Af,Ag⟩:=ce2 Aa
 obtain ⟨As,Au⟩:=ce2 Ae
 clear Av Ah Ai Aj Ak A1 A2
 clear hk hw'
 go_wp2
 first | go_ret | go_ret2 | go_ret3
 exact ⟨rfl,hb⟩
theorem lawCompass (s0 s1:ByteArray) (ms0:s0.size≤9223372036854775807) (ms1:s1.size≤9223372036854775807) (w:World) (R:EnvV w) :
   Calls Tryz.prog 5 #[.agg #[.string s0,.string s1]] w (Ret w (.bool true)):=by
 by_cases hs:s0.size≤24∧s1.size≤24
 case neg=>exact comp_long s0 s1 hs ms0 ms1 w R
 rcases dir_cases s0 s1 hs.1 hs.2 with ⟨v,hv⟩ | ⟨x,y,rfl,rfl,nx,ny,hz⟩
 · exact comp_err s0 s1 v hv (by omega) (by omega) hs w R
 · obtain ⟨k,t,h1,h2,h3⟩:=all_three x y nx ny hz
   exact comp_ok x y nx ny hz k (ratB t) h1 h2 h3 hs w R
end Go.Proofs.YtejfiegmdllfbaaGreatDoor.Kl
