import Derived.Test.YtpennccflalobaaGreatDoorKlVPointsVB
import Derived.Test.YtpennccflalobaaGreatDoorKlBVEZ
namespace Go.Proofs.YtpennccflalobaaGreatDoor.Kl
open Go Go.RowKit
set_option maxRecDepth 100000
set_option maxHeartbeats 8000000
theorem through_1 (a b x y:Rat) (q0:a=x) (q1:b≠y) (r1:RL a 200) (r2:RL b 200) (r3:RL x 200) (r4:RL y 200) (r5:RL a 10000) (r6:RL x 10000) (r7:RL b 10000) (r8:RL y 10000) (r9:RL (a - x) 40000) (r10:RL (b - y) 10000) (r11:RL ((b - y)*a) 10000) (r12:RL (-(a - x)) 10000) (r13:RL ((0:Rat)+((b - y)*a)) 10000) (r14:RL ((-(a - x))*b) 10000) (r15:RL (((0:Rat)+((b - y)*a))+((-(a - x))*b)) 10000) (r16:RL ((-1:Rat)*(0:Rat)) 10000) (r17:RL (b - y) 200) (r18:RL (-(a - x)) 200) (r19:RL ((((b - y)*a)+((-(a - x))*b)) - (0:Rat)) 200) (w:World) (R:EnvV w) :
   Calls Tryz.prog 54 #[.agg #[.string (ratB a),.string (ratB b)],.agg #[.string (ratB x),.string (ratB y)]] w (Ret w (.tuple #[.agg #[.string (ratB (b - y)),.string (ratB (x - a)),.string (ratB (((b - y)*a)+((x - a)*b)))],.int .i64 0])):=by
 have c1:=fun (w:World) (R:EnvV w)=>checkPts2 a b x y r1 r2 r3 r4 w R.toEnvR
 have c2:=fun (w:World) (R:EnvV w)=>way_any x y a b r5 r6 r7 r8 w R.toEnvR
 have c3:=fun (w:World) (R:EnvV w)=>rneg_any (a - x) r9 w R.toEnvR
 have c4:CV 103 #[.agg #[.string (ratB (b - y)),.string (ratB (-(a - x))),.string ⟨#[48]⟩],.agg #[.string (ratB a),.string (ratB b)]] (.string (ratB ((((b - y)*a)+((-(a - x))*b)) - (0:Rat)))):=fun w R=>(by have h:=level2_any (b - y) (-(a - x)) (0:Rat) a b r10 r5 r11 r12 r7 r13 r14 (RN.rl (K:=10000) rn_0) r15 r16 w R;simp only [rb_0] at h;exact h)
 have c5:∀ w,EnvV w→Calls Tryz.prog 104 #[.agg #[.string (ratB (b - y)),.string (ratB (-(a - x))),.string (ratB ((((b - y)*a)+((-(a - x))*b)) - (0:Rat)))],.slice (some ⟨w.heap.size,0,none⟩) 3 3] (w.alloc (Obj.cells #[Value.string (ratB (b - y)),Value.string (ratB (-(a - x))),Value.string (ratB ((((b - y)*a)+((-(a - x))*b)) - (0:Rat)))] 22)) (Ret w (.tuple #[.agg #[.string (ratB (b - y)),.string (ratB (x - a)),.string (ratB (((b - y)*a)+((x - a)*b)))],.int .i64 0])):=fun w R=>(resL (ratB (b - y)) (ratB (-(a - x))) (ratB ((((b - y)*a)+((-(a - x))*b)) - (0:Rat))) (ratB (b - y)) (ratB (-(a - x))) (ratB ((((b - y)*a)+((-(a - x))*b)) - (0:Rat))) (by intro t ht;simp only [List.mem_cons,List.not_mem_nil,or_false] at ht;rcases ht with rfl | rfl | rfl;exact ⟨_,rfl,r17⟩;exact ⟨_,rfl,r18⟩;exact ⟨_,rfl,r19⟩) w R.toEnvR).mono (fun e w' h=>⟨h.1.trans (by rw [q_thr2,q_thr1]),h.2⟩)
 have eq0:((ratB a).toList == (ratB x).toList)=true:=by rw [q0];exact beq_self_eq_true _
 have pq0:(ratB a).toList=(ratB x).toList:=by rw [q0]
 have eq1:((ratB b).toList == (ratB y).toList)=false:=beq_eq_false_iff_ne.2 (fun g=>q1 (ratB_li g))
 have pq1:¬ (ratB b).toList=(ratB y).toList:=fun g=>q1 (ratB_li g)
 have C1:=Lib.hid c1
 have C2:=Lib.hid c2
 have C3:=Lib.hid c3
 have C4:=Lib.hid c4
 have C5:=Lib.hid c5
 clear c1 c2 c3 c4 c5 q0 q1 r1 r2 r3 r4 r5 r6 r7 r8 r9 r10 r11 r12 r13 r14 r15 r16 r17 r18 r19
 have hb:=Below.refl w.heap.size w
 go_enter Tryz.func54,Tryz.ntmps54
 go_upto_region 1 with fail
 refine wp_alloc3 (fun w1 a0 a1 a2 hk=>?_)
 replace hb:=hb.trans (hk.mono hb.size)
 clear hk
 obtain ⟨Al,Am⟩:=ce2 a0
 obtain ⟨Aq,Ar⟩:=ce2 a1
 obtain ⟨Ad,Ag,Ae,Ah,Af,Ai⟩:=cf3 a2
 go_upto_region 7 with ((first | (go_at_call 95;with_reducible refine (zL hb (C1.out _ (R.below hb))).mono ?_) | (go_at_call 99;with_reducible refine (chVB hb R C2).mono ?_));clear hb;rintro e w1 ⟨rfl,hk,hb⟩;clear Al Am Aq Ar Ad Ae Af Ag Ah Ai;replace a0:=zB hk a0;replace a1:=zB hk a1;replace a2:=zB hk a2;obtain ⟨Al,Am⟩:=ce2 a0;obtain ⟨Aq,Ar⟩:=ce2 a1;obtain ⟨Ad,Ag,Ae,Ah,Af,Ai⟩:=cf3 a2;clear hk)
 clear Aq Ar a1
 refine wp_alloc1 (fun w1 Ab hk=>?_)
 clear Al Am Ad Ae Af Ag Ah Ai
 replace a0:=zB hk a0
 replace a2:=zB hk a2
 obtain ⟨Al,Am⟩:=ce2 a0
 obtain ⟨Ad,Ag,Ae,Ah,Af,Ai⟩:=cf3 a2
 replace hb:=hb.trans (hk.mono hb.size)
 clear hk
 obtain ⟨Aj,Ak⟩:=ce2 Ab
 obtain ⟨At,Au⟩:=cy2 a0
 obtain ⟨Av,Aw,Ax⟩:=cy3 a2
 obtain ⟨Ay,Az⟩:=cy2 Ab
 have A0:=rrV C3 R hb
 have As:=qqV C3 R hb
 refine wp_free1 6 0 (fun i=>if i=6 then Obj.cells #[Value.string ⟨#[]⟩,Value.string ⟨#[]⟩,Value.string ⟨#[]⟩] 81 else Obj.cells #[] 0) (fun i=>if i=6 then Obj.cells #[Value.string (ratB (b - y)),Value.string (ratB (-(a - x))),Value.string ⟨#[48]⟩] 81 else Obj.cells #[] 0) (some 8) (by first | assumption | kernel_rfl) (by kernel_rfl) ?lay rfl ?_
 case lay =>
   intro i h1 h2
   obtain rfl:i=6:=by omega
   all_goals exact ⟨_,rfl,rfl,fun a w=>(by first | (go_simp;done) | (go_simp;rfl))⟩
 simp only [List.take_succ_cons,List.take_zero]
 repeat (refine wpB_step (fun K hK=>?_);go_simp;first | (refine hK _ ?_;clear hK K) | (apply Exists.intro;refine ⟨fun _=>?_,hK _ ?_⟩;(first | (with_reducible exact As.out _ _));clear hK K))
 refine wpB_nil ?_
 intro Ac
 refine ⟨?_,?_⟩
 · refine ⟨_,rfl,rfl,rfl,fun cs b h=>(by cases h),fun w hw=>?_⟩
   replace hw:w.heap[Ac]? = some (Obj.cells #[Value.string ⟨#[]⟩,Value.string ⟨#[]⟩,Value.string ⟨#[]⟩] 81):=hw
   have z0:w.cell? ⟨Ac,0,none⟩=some (Value.string ⟨#[]⟩):=zA hw
   have y0:w.frozen? ⟨Ac,0,none⟩=false:=zD hw
   have z1:w.cell? ⟨Ac,1,none⟩=some (Value.string ⟨#[]⟩):=zA hw
   have y1:w.frozen? ⟨Ac,1,none⟩=false:=zD hw
   have z2:w.cell? ⟨Ac,2,none⟩=some (Value.string ⟨#[]⟩):=zA hw
   have y2:w.frozen? ⟨Ac,2,none⟩=false:=zD hw
   refine ⟨_,?_,(Wrote.set (i:=2) (Wrote.set (i:=1) (Wrote.set (i:=0) (Wrote.refl hw) (Value.string (ratB (b - y)))) (Value.string (ratB (-(a - x))))) (Value.string ⟨#[48]⟩))⟩
   go_simp
 intro w1 hk m0 Aa
 have mb7_0:w.heap.size≤Ac:=Nat.le_trans hb.size m0
 have mc7_0_0:=Nat.lt_of_lt_of_le (Array.getElem?_eq_some_iff.1 a0).1 m0
 have mc7_0_2:=Nat.lt_of_lt_of_le (Array.getElem?_eq_some_iff.1 a2).1 m0
 have mc7_0_g7_0:=Nat.lt_of_lt_of_le (Array.getElem?_eq_some_iff.1 Ab).1 m0
 clear Al Am Ad Ae Af Ag Ah Ai Aj Ak
 replace a0:=zB hk a0
 replace a2:=zB hk a2
 replace Ab:=zB hk Ab
 obtain ⟨Al,Am⟩:=ce2 a0
 obtain ⟨Ad,Ag,Ae,Ah,Af,Ai⟩:=cf3 a2
 obtain ⟨Aj,Ak⟩:=ce2 Ab
 replace hb:=hb.trans (hk.mono hb.size)
 clear hk
 replace Aa:w1.heap[Ac]? = some (Obj.cells #[Value.string (ratB (b - y)),Value.string (ratB (-(a - x))),Value.string ⟨#[48]⟩] 81):=Aa
 have An:w1.cell? ⟨Ac,0,none⟩=some (Value.string (ratB (b - y))):=zA Aa
 have Ao:w1.cell? ⟨Ac,1,none⟩=some (Value.string (ratB (-(a - x)))):=zA Aa
 have Ap:w1.cell? ⟨Ac,2,none⟩=some (Value.string ⟨#[48]⟩):=zA Aa
 have fv7_0_0:w1.frozen? ⟨Ac,0,none⟩=false:=zD Aa
 have fv7_0_1:w1.frozen? ⟨Ac,1,none⟩=false:=zD Aa
 have fv7_0_2:w1.frozen? ⟨Ac,2,none⟩=false:=zD Aa
 clear As A0 At Au Av Aw Ax Ay Az m0
 go_upto_region 9 with (first | (go_at_call 103;with_reducible refine (chVB hb R C4).mono ?_;clear hb;rintro e w1 ⟨rfl,hk,hb⟩;clear Al Am Ad Ae Af Ag Ah Ai Aj Ak An Ao Ap fv7_0_0 fv7_0_1 fv7_0_2;replace a0:=zB hk a0;replace a2:=zB hk a2;replace Ab:=zB hk Ab;replace Aa:=zB hk Aa;obtain ⟨Al,Am⟩:=ce2 a0;obtain ⟨Ad,Ag,Ae,Ah,Af,Ai⟩:=cf3 a2;obtain ⟨Aj,Ak⟩:=ce2 Ab;obtain ⟨An,fv7_0_0,Ao,fv7_0_1,Ap,fv7_0_2⟩:=cf3 Aa;clear hk) | (go_at_call 104;with_reducible refine (zL hb (C5.out _ (R.below hb))).mono ?_;clear hb;rintro e w1 ⟨rfl,hk,hb⟩;clear Ad Ae Af Ag Ah Ai Aj Ak An Ao Ap fv7_0_0 fv7_0_1 fv7_0_2;replace a2:=zB hk a2;replace Ab:=zB hk Ab;replace Aa:=zB hk Aa;obtain ⟨Ad,Ag,Ae,Ah,Af,Ai⟩:=cf3 a2;obtain ⟨Aj,Ak⟩:=ce2 Ab;obtain ⟨An,fv7_0_0,Ao,fv7_0_1,Ap,fv7_0_2⟩:=cf3 Aa;clear hk))
 refine wp_store3_2 hb mb7_0 Aa (fun w1 hb Aa hj=>?_)
 replace a2:=(hj _ (by omega)).trans a2
 replace Ab:=(hj _ (by omega)).trans Ab
 clear Aj Ak
 clear hj An Ao Ap fv7_0_0 fv7_0_1 fv7_0_2 Ad Ae Af Ag Ah Ai
 obtain ⟨Ad,Ag,Ae,Ah,Af,Ai⟩:=cf3 a2
 have An:w1.cell? ⟨Ac,0,none⟩=some (Value.string (ratB (b - y))):=zA Aa
 have Ao:w1.cell? ⟨Ac,1,none⟩=some (Value.string (ratB (-(a - x)))):=zA Aa
 have Ap:w1.cell? ⟨Ac,2,none⟩=some (Value.string (ratB ((((b - y)*a)+((-(a - x))*b)) - (0:Rat)))):=zA Aa
 have fv7_0_0:w1.frozen? ⟨Ac,0,none⟩=false:=zD Aa
 have fv7_0_1:w1.frozen? ⟨Ac,1,none⟩=false:=zD Aa
 have fv7_0_2:w1.frozen? ⟨Ac,2,none⟩=false:=zD Aa
 obtain ⟨Aj,Ak⟩:=ce2 Ab
 go_wp2_with (first | (go_at_call 103;with_reducible refine (chVB hb R C4).mono ?_;clear hb;rintro e w1 ⟨rfl,hk,hb⟩;clear Al Am Ad Ae Af Ag Ah Ai Aj Ak An Ao Ap fv7_0_0 fv7_0_1 fv7_0_2;replace a0:=zB hk a0;replace a2:=zB hk a2;replace Ab:=zB hk Ab;replace Aa:=zB hk Aa;obtain ⟨Al,Am⟩:=ce2 a0;obtain ⟨Ad,Ag,Ae,Ah,Af,Ai⟩:=cf3 a2;obtain ⟨Aj,Ak⟩:=ce2 Ab;obtain ⟨An,fv7_0_0,Ao,fv7_0_1,Ap,fv7_0_2⟩:=cf3 Aa;clear hk) | (go_at_call 104;with_reducible refine (zL hb (C5.out _ (R.below hb))).mono ?_;clear hb;rintro e w1 ⟨rfl,hk,hb⟩;clear Ad Ae Af Ag Ah Ai Aj Ak An Ao Ap fv7_0_0 fv7_0_1 fv7_0_2;replace a2:=zB hk a2;replace Ab:=zB hk Ab;replace Aa:=zB hk Aa;obtain ⟨Ad,Ag,Ae,Ah,Af,Ai⟩:=cf3 a2;obtain ⟨Aj,Ak⟩:=ce2 Ab;obtain ⟨An,fv7_0_0,Ao,fv7_0_1,Ap,fv7_0_2⟩:=cf3 Aa;clear hk))
 refine bodyPost_ret (v:=.tuple #[.agg #[.string (ratB (b - y)),.string (ratB (x - a)),.string (ratB (((b - y)*a)+((x - a)*b)))],.int .i64 0]) (by simp [results,Tryz.results54,go_sem,Ad,Ae,Af]) rfl ⟨rfl,?_⟩
 repeat' (first | exact hb | refine Below.setCell ?_ (by first | exact Nat.le_refl _ | (dsimp only;omega)) _)
theorem through_2 (a b x y:Rat) (q0:a=x) (q1:b=y) (r1:RL a 200) (r2:RL b 200) (r3:RL x 200) (r4:RL y 200) (w:World) (R:EnvV w) :
   Calls Tryz.prog 54 #[.agg #[.string (ratB a),.string (ratB b)],.agg #[.string (ratB x),.string (ratB y)]] w (Ret w (.tuple #[.agg #[.string ⟨#[]⟩,.string ⟨#[]⟩,.string ⟨#[]⟩],.int .i64 17])):=by
 have c1:=fun (w:World) (R:EnvV w)=>checkPts2 a b x y r1 r2 r3 r4 w R.toEnvR
 have eq0:((ratB a).toList == (ratB x).toList)=true:=by rw [q0];exact beq_self_eq_true _
 have pq0:(ratB a).toList=(ratB x).toList:=by rw [q0]
 have eq1:((ratB b).toList == (ratB y).toList)=true:=by rw [q1];exact beq_self_eq_true _
 have pq1:(ratB b).toList=(ratB y).toList:=by rw [q1]
 have C1:=Lib.hid c1
 clear c1 q0 q1 r1 r2 r3 r4
 have hb:=Below.refl w.heap.size w
 go_enter Tryz.func54,Tryz.ntmps54
 go_upto_region 1 with fail
 refine wp_alloc3 (fun w1 a0 a1 a2 hk=>?_)
 replace hb:=hb.trans (hk.mono hb.size)
 clear hk
 obtain ⟨Ad,Ae⟩:=ce2 a0
 obtain ⟨Af,Ag⟩:=ce2 a1
 obtain ⟨Aa,Ah,Ab,Ai,Ac,Aj⟩:=cf3 a2
 go_wp2_with (go_at_call 95;with_reducible refine (zL hb (C1.out _ (R.below hb))).mono ?_;clear hb;rintro e w1 ⟨rfl,hk,hb⟩;clear Ad Ae Af Ag Aa Ab Ac Ah Ai Aj;replace a0:=zB hk a0;replace a1:=zB hk a1;replace a2:=zB hk a2;obtain ⟨Ad,Ae⟩:=ce2 a0;obtain ⟨Af,Ag⟩:=ce2 a1;obtain ⟨Aa,Ah,Ab,Ai,Ac,Aj⟩:=cf3 a2;clear hk)
 refine bodyPost_ret (v:=.tuple #[.agg #[.string ⟨#[]⟩,.string ⟨#[]⟩,.string ⟨#[]⟩],.int .i64 17]) (by simp [results,Tryz.results54,go_sem,Aa,Ab,Ac]) rfl ⟨rfl,?_⟩
 repeat' (first | exact hb | refine Below.setCell ?_ (by first | exact Nat.le_refl _ | (dsimp only;omega)) _)
end Go.Proofs.YtpennccflalobaaGreatDoor.Kl
