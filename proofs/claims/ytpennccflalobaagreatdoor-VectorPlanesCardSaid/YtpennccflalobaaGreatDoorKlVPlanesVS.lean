import Derived.Test.YtpennccflalobaaGreatDoorKlVPlanesVMZ
namespace Go.Proofs.YtpennccflalobaaGreatDoor.Kl
open Go Go.RowKit
set_option maxRecDepth 100000
set_option maxHeartbeats 8000000
theorem spanned_0 (a b c x y z p q s:Rat) (n0:(((y - b)*(s - c)) - ((z - c)*(q - b)))≠0) (r1:RL a 200) (r2:RL b 200) (r3:RL c 200) (r4:RL x 200) (r5:RL y 200) (r6:RL z 200) (r7:RL p 200) (r8:RL q 200) (r9:RL s 200) (r10:RL x 10000) (r11:RL a 10000) (r12:RL y 10000) (r13:RL b 10000) (r14:RL z 10000) (r15:RL c 10000) (r16:RL p 10000) (r17:RL q 10000) (r18:RL s 10000) (r19:RL (y - b) 10000) (r20:RL (s - c) 10000) (r21:RL (z - c) 10000) (r22:RL (q - b) 10000) (r23:RL ((y - b)*(s - c)) 10000) (r24:RL ((z - c)*(q - b)) 10000) (r25:RL (p - a) 10000) (r26:RL (x - a) 10000) (r27:RL ((z - c)*(p - a)) 10000) (r28:RL ((x - a)*(s - c)) 10000) (r29:RL ((x - a)*(q - b)) 10000) (r30:RL ((y - b)*(p - a)) 10000) (r31:RL (((y - b)*(s - c)) - ((z - c)*(q - b))) 10000) (r32:RL ((((y - b)*(s - c)) - ((z - c)*(q - b)))*a) 10000) (r33:RL (((z - c)*(p - a)) - ((x - a)*(s - c))) 10000) (r34:RL ((0:Rat)+((((y - b)*(s - c)) - ((z - c)*(q - b)))*a)) 10000) (r35:RL ((((z - c)*(p - a)) - ((x - a)*(s - c)))*b) 10000) (r36:RL (((x - a)*(q - b)) - ((y - b)*(p - a))) 10000) (r37:RL (((0:Rat)+((((y - b)*(s - c)) - ((z - c)*(q - b)))*a))+((((z - c)*(p - a)) - ((x - a)*(s - c)))*b)) 10000) (r38:RL ((((x - a)*(q - b)) - ((y - b)*(p - a)))*c) 10000) (r39:RL (((y - b)*(s - c)) - ((z - c)*(q - b))) 200) (r40:RL (((z - c)*(p - a)) - ((x - a)*(s - c))) 200) (r41:RL (((x - a)*(q - b)) - ((y - b)*(p - a))) 200) (r42:RL ((((((y - b)*(s - c)) - ((z - c)*(q - b)))*a)+((((z - c)*(p - a)) - ((x - a)*(s - c)))*b))+((((x - a)*(q - b)) - ((y - b)*(p - a)))*c)) 200) (w:World) (R:EnvV w) :
   Calls Tryz.prog 62 #[.agg #[.string (ratB a),.string (ratB b),.string (ratB c)],.agg #[.string (ratB x),.string (ratB y),.string (ratB z)],.agg #[.string (ratB p),.string (ratB q),.string (ratB s)]] w (Ret w (.tuple #[.agg #[.string (ratB (((y - b)*(s - c)) - ((z - c)*(q - b)))),.string (ratB (((z - c)*(p - a)) - ((x - a)*(s - c)))),.string (ratB (((x - a)*(q - b)) - ((y - b)*(p - a)))),.string (ratB ((((((y - b)*(s - c)) - ((z - c)*(q - b)))*a)+((((z - c)*(p - a)) - ((x - a)*(s - c)))*b))+((((x - a)*(q - b)) - ((y - b)*(p - a)))*c)))],.int .i64 0])):=by
 have c1:=fun (w:World) (R:EnvV w)=>vcheck_ok a b c r1 r2 r3 w R.toEnvR
 have c2:=fun (w:World) (R:EnvV w)=>vcheck_ok x y z r4 r5 r6 w R.toEnvR
 have c3:=fun (w:World) (R:EnvV w)=>vcheck_ok p q s r7 r8 r9 w R.toEnvR
 have c4:=fun (w:World) (R:EnvV w)=>orErr3 0 0 0 0 (by decide) w R.toEnvR
 have c5:=fun (w:World) (R:EnvV w)=>each_Sub x y z a b c r10 r11 r12 r13 r14 r15 w R.toEnvR
 have c6:=fun (w:World) (R:EnvV w)=>each_Sub p q s a b c r16 r11 r17 r13 r18 r15 w R.toEnvR
 have c7:=fun (w:World) (R:EnvV w)=>cross_any (x - a) (y - b) (z - c) (p - a) (q - b) (s - c) r19 r20 r21 r22 r23 r24 r25 r26 r27 r28 r29 r30 w R.toEnvR
 have c8:=fun (w:World) (R:EnvV w)=>dot_any (((y - b)*(s - c)) - ((z - c)*(q - b))) (((z - c)*(p - a)) - ((x - a)*(s - c))) (((x - a)*(q - b)) - ((y - b)*(p - a))) a b c r31 r11 r32 r33 r13 r34 r35 r36 r15 r37 r38 w R.toEnvR
 have c9:∀ w,EnvV w→Calls Tryz.prog 112 #[.agg #[.string (ratB (((y - b)*(s - c)) - ((z - c)*(q - b)))),.string (ratB (((z - c)*(p - a)) - ((x - a)*(s - c)))),.string (ratB (((x - a)*(q - b)) - ((y - b)*(p - a)))),.string (ratB ((((((y - b)*(s - c)) - ((z - c)*(q - b)))*a)+((((z - c)*(p - a)) - ((x - a)*(s - c)))*b))+((((x - a)*(q - b)) - ((y - b)*(p - a)))*c)))],.slice (some ⟨w.heap.size,0,none⟩) 4 4] (w.alloc (Obj.cells #[Value.string (ratB (((y - b)*(s - c)) - ((z - c)*(q - b)))),Value.string (ratB (((z - c)*(p - a)) - ((x - a)*(s - c)))),Value.string (ratB (((x - a)*(q - b)) - ((y - b)*(p - a)))),Value.string (ratB ((((((y - b)*(s - c)) - ((z - c)*(q - b)))*a)+((((z - c)*(p - a)) - ((x - a)*(s - c)))*b))+((((x - a)*(q - b)) - ((y - b)*(p - a)))*c)))] 22)) (Ret w (.tuple #[.agg #[.string (ratB (((y - b)*(s - c)) - ((z - c)*(q - b)))),.string (ratB (((z - c)*(p - a)) - ((x - a)*(s - c)))),.string (ratB (((x - a)*(q - b)) - ((y - b)*(p - a)))),.string (ratB ((((((y - b)*(s - c)) - ((z - c)*(q - b)))*a)+((((z - c)*(p - a)) - ((x - a)*(s - c)))*b))+((((x - a)*(q - b)) - ((y - b)*(p - a)))*c)))],.int .i64 0])):=fun w R=>resPl (ratB (((y - b)*(s - c)) - ((z - c)*(q - b)))) (ratB (((z - c)*(p - a)) - ((x - a)*(s - c)))) (ratB (((x - a)*(q - b)) - ((y - b)*(p - a)))) (ratB ((((((y - b)*(s - c)) - ((z - c)*(q - b)))*a)+((((z - c)*(p - a)) - ((x - a)*(s - c)))*b))+((((x - a)*(q - b)) - ((y - b)*(p - a)))*c))) (ratB (((y - b)*(s - c)) - ((z - c)*(q - b)))) (ratB (((z - c)*(p - a)) - ((x - a)*(s - c)))) (ratB (((x - a)*(q - b)) - ((y - b)*(p - a)))) (ratB ((((((y - b)*(s - c)) - ((z - c)*(q - b)))*a)+((((z - c)*(p - a)) - ((x - a)*(s - c)))*b))+((((x - a)*(q - b)) - ((y - b)*(p - a)))*c))) (by intro t ht;simp only [List.mem_cons,List.not_mem_nil,or_false] at ht;rcases ht with rfl | rfl | rfl | rfl;exact ⟨_,rfl,r39⟩;exact ⟨_,rfl,r40⟩;exact ⟨_,rfl,r41⟩;exact ⟨_,rfl,r42⟩) w R.toEnvR
 have e0:((ratB (((y - b)*(s - c)) - ((z - c)*(q - b)))).toList == [48])=false:=by rw [ratB_eq_zero];exact decide_eq_false n0
 have p0:¬ (ratB (((y - b)*(s - c)) - ((z - c)*(q - b)))).toList=[48]:=fun h=>n0 ((zero_iff _).1 h)
 obtain ⟨t0,et0⟩:∃ v,ratB (((y - b)*(s - c)) - ((z - c)*(q - b)))=v:=⟨_,rfl⟩
 try simp only [et0] at c1 c2 c3 c4 c5 c6 c7 c8 c9 e0 p0 ⊢
 obtain ⟨t1,et1⟩:∃ v,ratB (((z - c)*(p - a)) - ((x - a)*(s - c)))=v:=⟨_,rfl⟩
 try simp only [et1] at c1 c2 c3 c4 c5 c6 c7 c8 c9 e0 p0 ⊢
 obtain ⟨t2,et2⟩:∃ v,ratB (((x - a)*(q - b)) - ((y - b)*(p - a)))=v:=⟨_,rfl⟩
 try simp only [et2] at c1 c2 c3 c4 c5 c6 c7 c8 c9 e0 p0 ⊢
 have C1:=Lib.hid c1
 have C2:=Lib.hid c2
 have C3:=Lib.hid c3
 have C4:=Lib.hid c4
 have C5:=Lib.hid c5
 have C6:=Lib.hid c6
 have C7:=Lib.hid c7
 have C8:=Lib.hid c8
 have C9:=Lib.hid c9
 clear c1 c2 c3 c4 c5 c6 c7 c8 c9 et0 et1 et2 n0 r1 r2 r3 r4 r5 r6 r7 r8 r9 r10 r11 r12 r13 r14 r15 r16 r17 r18 r19 r20 r21 r22 r23 r24 r25 r26 r27 r28 r29 r30 r31 r32 r33 r34 r35 r36 r37 r38 r39 r40 r41 r42
 have hb:=Below.refl w.heap.size w
 have Aa:w.cell? ⟨0,0,none⟩=some (Value.string ⟨#[48]⟩):=R.z0
 have Ab:w.cell? ⟨0,1,none⟩=some (Value.string ⟨#[48]⟩):=R.z1
 have Ac:w.cell? ⟨0,2,none⟩=some (Value.string ⟨#[48]⟩):=R.z2
 go_enter Tryz.func62,Tryz.ntmps62
 go_upto_region 1 with fail
 refine wp_alloc4 (fun w1 a0 a1 a2 a3 hk=>?_)
 replace Aa:=zC hk Aa
 replace Ab:=zC hk Ab
 replace Ac:=zC hk Ac
 replace hb:=hb.trans (hk.mono hb.size)
 clear hk
 obtain ⟨Ap,Aq,Ar⟩:=ce3 a0
 obtain ⟨As,At,Au⟩:=ce3 a1
 obtain ⟨Av,Aw,Ax⟩:=ce3 a2
 obtain ⟨Af,Ak,Ag,Al,Ah,Am,Ai,An⟩:=cf4 a3
 go_upto_region 1 with fail
 have Ay:=zR Aa
 have Az:=zR Ab
 have A0:=zR Ac
 obtain ⟨A1,A2,A3⟩:=cy3 a0
 obtain ⟨Bb,Bc,Bd⟩:=cy3 a1
 obtain ⟨Be,Bf,Bg⟩:=cy3 a2
 obtain ⟨A4,A5,A6,A7⟩:=cy4 a3
 have Bh:=rrV C1 R hb
 have Bi:=rrV C2 R hb
 have Bj:=rrV C3 R hb
 refine wp_region_tail_below 6 (by first | assumption | kernel_rfl) (by kernel_rfl) ?_
 simp only [List.take_succ_cons,List.take_zero,List.drop_succ_cons,List.drop_zero]
 repeat (quiet_step (first | (with_reducible exact Bh.out _ _) | (with_reducible exact Bi.out _ _) | (with_reducible exact Bj.out _ _)))
 refine wpQuiet_nil ?_
 intro w1 hw'
 obtain ⟨hk,hb⟩:=zQ hb hw'
 replace Aa:=zC hk Aa
 replace Ab:=zC hk Ab
 replace Ac:=zC hk Ac
 clear Ap Aq Ar As At Au Av Aw Ax Af Ag Ah Ai Ak Al Am An
 replace a0:=zB hk a0
 replace a1:=zB hk a1
 replace a2:=zB hk a2
 replace a3:=zB hk a3
 obtain ⟨Ap,Aq,Ar⟩:=ce3 a0
 obtain ⟨As,At,Au⟩:=ce3 a1
 obtain ⟨Av,Aw,Ax⟩:=ce3 a2
 obtain ⟨Af,Ak,Ag,Al,Ah,Am,Ai,An⟩:=cf4 a3
 clear Bh Bi Bj Ay Az A0 A1 A2 A3 Bb Bc Bd Be Bf Bg A4 A5 A6 A7
 clear hk hw'
 go_upto_region 4 with (go_at_call 69;with_reducible refine (zL hb (C4.out _ (R.below hb))).mono ?_;clear hb;rintro e w1 ⟨rfl,hk,hb⟩;replace Aa:=zC hk Aa;replace Ab:=zC hk Ab;replace Ac:=zC hk Ac;clear Ap Aq Ar As At Au Av Aw Ax Af Ag Ah Ai Ak Al Am An;replace a0:=zB hk a0;replace a1:=zB hk a1;replace a2:=zB hk a2;replace a3:=zB hk a3;obtain ⟨Ap,Aq,Ar⟩:=ce3 a0;obtain ⟨As,At,Au⟩:=ce3 a1;obtain ⟨Av,Aw,Ax⟩:=ce3 a2;obtain ⟨Af,Ak,Ag,Al,Ah,Am,Ai,An⟩:=cf4 a3;clear hk)
 have Ay:=zR Aa
 have Az:=zR Ab
 have A0:=zR Ac
 obtain ⟨A1,A2,A3⟩:=cy3 a0
 obtain ⟨Bb,Bc,Bd⟩:=cy3 a1
 obtain ⟨Be,Bf,Bg⟩:=cy3 a2
 obtain ⟨A4,A5,A6,A7⟩:=cy4 a3
 have Bs:=rrV C5 R hb
 have Bt:=rrV C6 R hb
 have Bu:=rrV C7 R hb
 have Bk:=qqV C5 R hb
 have Bl:=qqV C6 R hb
 have Bm:=qqV C7 R hb
 refine wp_free1 7 0 (fun i=>if i=7 then Obj.cells #[Value.string ⟨#[]⟩,Value.string ⟨#[]⟩,Value.string ⟨#[]⟩] 24 else Obj.cells #[] 0) (fun i=>if i=7 then Obj.cells #[Value.string t0,Value.string t1,Value.string t2] 24 else Obj.cells #[] 0) (some 9) (by first | assumption | kernel_rfl) (by kernel_rfl) ?lay rfl ?_
 case lay =>
   intro i h1 h2
   obtain rfl:i=7:=by omega
   all_goals exact ⟨_,rfl,rfl,fun a w=>(by first | (go_simp;done) | (go_simp;rfl))⟩
 simp only [List.take_succ_cons,List.take_zero]
 repeat (refine wpB_step (fun K hK=>?_);go_simp;first | (refine hK _ ?_;clear hK K) | (apply Exists.intro;refine ⟨fun _=>?_,hK _ ?_⟩;(first | (with_reducible exact Bk.out _ _) | (with_reducible exact Bl.out _ _) | (with_reducible exact Bm.out _ _));clear hK K))
 refine wpB_nil ?_
 intro Aj
 refine ⟨?_,?_⟩
 · refine ⟨_,rfl,rfl,rfl,fun cs b h=>(by cases h),fun w hw=>?_⟩
   replace hw:w.heap[Aj]? = some (Obj.cells #[Value.string ⟨#[]⟩,Value.string ⟨#[]⟩,Value.string ⟨#[]⟩] 24):=hw
   have z0:w.cell? ⟨Aj,0,none⟩=some (Value.string ⟨#[]⟩):=zA hw
   have y0:w.frozen? ⟨Aj,0,none⟩=false:=zD hw
   have z1:w.cell? ⟨Aj,1,none⟩=some (Value.string ⟨#[]⟩):=zA hw
   have y1:w.frozen? ⟨Aj,1,none⟩=false:=zD hw
   have z2:w.cell? ⟨Aj,2,none⟩=some (Value.string ⟨#[]⟩):=zA hw
   have y2:w.frozen? ⟨Aj,2,none⟩=false:=zD hw
   refine ⟨_,?_,(Wrote.set (i:=2) (Wrote.set (i:=1) (Wrote.set (i:=0) (Wrote.refl hw) (Value.string t0)) (Value.string t1)) (Value.string t2))⟩
   go_simp
 intro w1 hk m0 Ae
 replace Aa:=zC hk Aa
 replace Ab:=zC hk Ab
 replace Ac:=zC hk Ac
 clear Ap Aq Ar As At Au Av Aw Ax Af Ag Ah Ai Ak Al Am An
 replace a0:=zB hk a0
 replace a1:=zB hk a1
 replace a2:=zB hk a2
 replace a3:=zB hk a3
 obtain ⟨Ap,Aq,Ar⟩:=ce3 a0
 obtain ⟨As,At,Au⟩:=ce3 a1
 obtain ⟨Av,Aw,Ax⟩:=ce3 a2
 obtain ⟨Af,Ak,Ag,Al,Ah,Am,Ai,An⟩:=cf4 a3
 replace hb:=hb.trans (hk.mono hb.size)
 clear hk
 replace Ae:w1.heap[Aj]? = some (Obj.cells #[Value.string t0,Value.string t1,Value.string t2] 24):=Ae
 have A8:w1.cell? ⟨Aj,0,none⟩=some (Value.string t0):=zA Ae
 have A9:w1.cell? ⟨Aj,1,none⟩=some (Value.string t1):=zA Ae
 have Ba:w1.cell? ⟨Aj,2,none⟩=some (Value.string t2):=zA Ae
 clear Bk Bl Bm Bs Bt Bu Ay Az A0 A1 A2 A3 Bb Bc Bd Be Bf Bg A4 A5 A6 A7 m0
 go_upto_region 7 with fail
 clear As At Au a1 Av Aw Ax a2
 have Ay:=zR Aa
 have Az:=zR Ab
 have A0:=zR Ac
 obtain ⟨A1,A2,A3⟩:=cy3 a0
 obtain ⟨A4,A5,A6,A7⟩:=cy4 a3
 obtain ⟨Bv,Bw,Bx⟩:=cy3 Ae
 have By:=rrV C8 R hb
 have Bn:=qqV C8 R hb
 refine wp_free1 5 0 (fun i=>if i=5 then Obj.cells #[Value.string ⟨#[]⟩,Value.string ⟨#[]⟩,Value.string ⟨#[]⟩,Value.string ⟨#[]⟩] 28 else Obj.cells #[] 0) (fun i=>if i=5 then Obj.cells #[Value.string t0,Value.string t1,Value.string t2,Value.string (ratB ((((((y - b)*(s - c)) - ((z - c)*(q - b)))*a)+((((z - c)*(p - a)) - ((x - a)*(s - c)))*b))+((((x - a)*(q - b)) - ((y - b)*(p - a)))*c)))] 28 else Obj.cells #[] 0) (some 10) (by first | assumption | kernel_rfl) (by kernel_rfl) ?lay rfl ?_
 case lay =>
   intro i h1 h2
   obtain rfl:i=5:=by omega
   all_goals exact ⟨_,rfl,rfl,fun a w=>(by first | (go_simp;done) | (go_simp;rfl))⟩
 simp only [List.take_succ_cons,List.take_zero]
 repeat (refine wpB_step (fun K hK=>?_);go_simp;first | (refine hK _ ?_;clear hK K) | (apply Exists.intro;refine ⟨fun _=>?_,hK _ ?_⟩;(first | (with_reducible exact Bn.out _ _));clear hK K))
 refine wpB_nil ?_
 intro Ad
 refine ⟨?_,?_⟩
 · refine ⟨_,rfl,rfl,rfl,fun cs b h=>(by cases h),fun w hw=>?_⟩
   replace hw:w.heap[Ad]? = some (Obj.cells #[Value.string ⟨#[]⟩,Value.string ⟨#[]⟩,Value.string ⟨#[]⟩,Value.string ⟨#[]⟩] 28):=hw
   have z0:w.cell? ⟨Ad,0,none⟩=some (Value.string ⟨#[]⟩):=zA hw
   have y0:w.frozen? ⟨Ad,0,none⟩=false:=zD hw
   have z1:w.cell? ⟨Ad,1,none⟩=some (Value.string ⟨#[]⟩):=zA hw
   have y1:w.frozen? ⟨Ad,1,none⟩=false:=zD hw
   have z2:w.cell? ⟨Ad,2,none⟩=some (Value.string ⟨#[]⟩):=zA hw
   have y2:w.frozen? ⟨Ad,2,none⟩=false:=zD hw
   have z3:w.cell? ⟨Ad,3,none⟩=some (Value.string ⟨#[]⟩):=zA hw
   have y3:w.frozen? ⟨Ad,3,none⟩=false:=zD hw
   refine ⟨_,?_,(Wrote.set (i:=3) (Wrote.set (i:=2) (Wrote.set (i:=1) (Wrote.set (i:=0) (Wrote.refl hw) (Value.string t0)) (Value.string t1)) (Value.string t2)) (Value.string (ratB ((((((y - b)*(s - c)) - ((z - c)*(q - b)))*a)+((((z - c)*(p - a)) - ((x - a)*(s - c)))*b))+((((x - a)*(q - b)) - ((y - b)*(p - a)))*c)))))⟩
   go_simp
 intro w1 hk m0 Ao
 replace Aa:=zC hk Aa
 replace Ab:=zC hk Ab
 replace Ac:=zC hk Ac
 clear Ap Aq Ar Af Ag Ah Ai Ak Al Am An A8 A9 Ba
 replace a0:=zB hk a0
 replace a3:=zB hk a3
 replace Ae:=zB hk Ae
 obtain ⟨Ap,Aq,Ar⟩:=ce3 a0
 obtain ⟨Af,Ak,Ag,Al,Ah,Am,Ai,An⟩:=cf4 a3
 obtain ⟨A8,A9,Ba⟩:=ce3 Ae
 replace hb:=hb.trans (hk.mono hb.size)
 clear hk
 replace Ao:w1.heap[Ad]? = some (Obj.cells #[Value.string t0,Value.string t1,Value.string t2,Value.string (ratB ((((((y - b)*(s - c)) - ((z - c)*(q - b)))*a)+((((z - c)*(p - a)) - ((x - a)*(s - c)))*b))+((((x - a)*(q - b)) - ((y - b)*(p - a)))*c)))] 28):=Ao
 have Bo:w1.cell? ⟨Ad,0,none⟩=some (Value.string t0):=zA Ao
 have Bp:w1.cell? ⟨Ad,1,none⟩=some (Value.string t1):=zA Ao
 have Bq:w1.cell? ⟨Ad,2,none⟩=some (Value.string t2):=zA Ao
 have Br:w1.cell? ⟨Ad,3,none⟩=some (Value.string (ratB ((((((y - b)*(s - c)) - ((z - c)*(q - b)))*a)+((((z - c)*(p - a)) - ((x - a)*(s - c)))*b))+((((x - a)*(q - b)) - ((y - b)*(p - a)))*c)))):=zA Ao
 clear Bn By Ay Az A0 A1 A2 A3 A4 A5 A6 A7 Bv Bw Bx m0
 go_wp2_with (go_at_call 112;with_reducible refine (zL hb (C9.out _ (R.below hb))).mono ?_;clear hb;rintro e w1 ⟨rfl,hk,hb⟩;replace Aa:=zC hk Aa;replace Ab:=zC hk Ab;replace Ac:=zC hk Ac;clear Af Ag Ah Ai Ak Al Am An A8 A9 Ba Bo Bp Bq Br;replace a3:=zB hk a3;replace Ae:=zB hk Ae;replace Ao:=zB hk Ao;obtain ⟨Af,Ak,Ag,Al,Ah,Am,Ai,An⟩:=cf4 a3;obtain ⟨A8,A9,Ba⟩:=ce3 Ae;obtain ⟨Bo,Bp,Bq,Br⟩:=ce4 Ao;clear hk)
 refine bodyPost_ret (v:=.tuple #[.agg #[.string t0,.string t1,.string t2,.string (ratB ((((((y - b)*(s - c)) - ((z - c)*(q - b)))*a)+((((z - c)*(p - a)) - ((x - a)*(s - c)))*b))+((((x - a)*(q - b)) - ((y - b)*(p - a)))*c)))],.int .i64 0]) (by simp [results,Tryz.results62,go_sem,Af,Ag,Ah,Ai]) rfl ⟨rfl,?_⟩
 repeat' (first | exact hb | refine Below.setCell ?_ (by first | exact Nat.le_refl _ | (dsimp only;omega)) _)
theorem spanned_1 (a b c x y z p q s:Rat) (z0:(((y - b)*(s - c)) - ((z - c)*(q - b)))=0) (n1:(((z - c)*(p - a)) - ((x - a)*(s - c)))≠0) (r1:RL a 200) (r2:RL b 200) (r3:RL c 200) (r4:RL x 200) (r5:RL y 200) (r6:RL z 200) (r7:RL p 200) (r8:RL q 200) (r9:RL s 200) (r10:RL x 10000) (r11:RL a 10000) (r12:RL y 10000) (r13:RL b 10000) (r14:RL z 10000) (r15:RL c 10000) (r16:RL p 10000) (r17:RL q 10000) (r18:RL s 10000) (r19:RL (y - b) 10000) (r20:RL (s - c) 10000) (r21:RL (z - c) 10000) (r22:RL (q - b) 10000) (r23:RL ((y - b)*(s - c)) 10000) (r24:RL ((z - c)*(q - b)) 10000) (r25:RL (p - a) 10000) (r26:RL (x - a) 10000) (r27:RL ((z - c)*(p - a)) 10000) (r28:RL ((x - a)*(s - c)) 10000) (r29:RL ((x - a)*(q - b)) 10000) (r30:RL ((y - b)*(p - a)) 10000) (r31:RL (((y - b)*(s - c)) - ((z - c)*(q - b))) 10000) (r32:RL ((((y - b)*(s - c)) - ((z - c)*(q - b)))*a) 10000) (r33:RL (((z - c)*(p - a)) - ((x - a)*(s - c))) 10000) (r34:RL ((0:Rat)+((((y - b)*(s - c)) - ((z - c)*(q - b)))*a)) 10000) (r35:RL ((((z - c)*(p - a)) - ((x - a)*(s - c)))*b) 10000) (r36:RL (((x - a)*(q - b)) - ((y - b)*(p - a))) 10000) (r37:RL (((0:Rat)+((((y - b)*(s - c)) - ((z - c)*(q - b)))*a))+((((z - c)*(p - a)) - ((x - a)*(s - c)))*b)) 10000) (r38:RL ((((x - a)*(q - b)) - ((y - b)*(p - a)))*c) 10000) (r39:RL (((y - b)*(s - c)) - ((z - c)*(q - b))) 200) (r40:RL (((z - c)*(p - a)) - ((x - a)*(s - c))) 200) (r41:RL (((x - a)*(q - b)) - ((y - b)*(p - a))) 200) (r42:RL ((((((y - b)*(s - c)) - ((z - c)*(q - b)))*a)+((((z - c)*(p - a)) - ((x - a)*(s - c)))*b))+((((x - a)*(q - b)) - ((y - b)*(p - a)))*c)) 200) (w:World) (R:EnvV w) :
   Calls Tryz.prog 62 #[.agg #[.string (ratB a),.string (ratB b),.string (ratB c)],.agg #[.string (ratB x),.string (ratB y),.string (ratB z)],.agg #[.string (ratB p),.string (ratB q),.string (ratB s)]] w (Ret w (.tuple #[.agg #[.string (ratB (((y - b)*(s - c)) - ((z - c)*(q - b)))),.string (ratB (((z - c)*(p - a)) - ((x - a)*(s - c)))),.string (ratB (((x - a)*(q - b)) - ((y - b)*(p - a)))),.string (ratB ((((((y - b)*(s - c)) - ((z - c)*(q - b)))*a)+((((z - c)*(p - a)) - ((x - a)*(s - c)))*b))+((((x - a)*(q - b)) - ((y - b)*(p - a)))*c)))],.int .i64 0])):=by
 have c1:=fun (w:World) (R:EnvV w)=>vcheck_ok a b c r1 r2 r3 w R.toEnvR
 have c2:=fun (w:World) (R:EnvV w)=>vcheck_ok x y z r4 r5 r6 w R.toEnvR
 have c3:=fun (w:World) (R:EnvV w)=>vcheck_ok p q s r7 r8 r9 w R.toEnvR
 have c4:=fun (w:World) (R:EnvV w)=>orErr3 0 0 0 0 (by decide) w R.toEnvR
 have c5:=fun (w:World) (R:EnvV w)=>each_Sub x y z a b c r10 r11 r12 r13 r14 r15 w R.toEnvR
 have c6:=fun (w:World) (R:EnvV w)=>each_Sub p q s a b c r16 r11 r17 r13 r18 r15 w R.toEnvR
 have c7:=fun (w:World) (R:EnvV w)=>cross_any (x - a) (y - b) (z - c) (p - a) (q - b) (s - c) r19 r20 r21 r22 r23 r24 r25 r26 r27 r28 r29 r30 w R.toEnvR
 have c8:=fun (w:World) (R:EnvV w)=>dot_any (((y - b)*(s - c)) - ((z - c)*(q - b))) (((z - c)*(p - a)) - ((x - a)*(s - c))) (((x - a)*(q - b)) - ((y - b)*(p - a))) a b c r31 r11 r32 r33 r13 r34 r35 r36 r15 r37 r38 w R.toEnvR
 have c9:∀ w,EnvV w→Calls Tryz.prog 112 #[.agg #[.string (ratB (((y - b)*(s - c)) - ((z - c)*(q - b)))),.string (ratB (((z - c)*(p - a)) - ((x - a)*(s - c)))),.string (ratB (((x - a)*(q - b)) - ((y - b)*(p - a)))),.string (ratB ((((((y - b)*(s - c)) - ((z - c)*(q - b)))*a)+((((z - c)*(p - a)) - ((x - a)*(s - c)))*b))+((((x - a)*(q - b)) - ((y - b)*(p - a)))*c)))],.slice (some ⟨w.heap.size,0,none⟩) 4 4] (w.alloc (Obj.cells #[Value.string (ratB (((y - b)*(s - c)) - ((z - c)*(q - b)))),Value.string (ratB (((z - c)*(p - a)) - ((x - a)*(s - c)))),Value.string (ratB (((x - a)*(q - b)) - ((y - b)*(p - a)))),Value.string (ratB ((((((y - b)*(s - c)) - ((z - c)*(q - b)))*a)+((((z - c)*(p - a)) - ((x - a)*(s - c)))*b))+((((x - a)*(q - b)) - ((y - b)*(p - a)))*c)))] 22)) (Ret w (.tuple #[.agg #[.string (ratB (((y - b)*(s - c)) - ((z - c)*(q - b)))),.string (ratB (((z - c)*(p - a)) - ((x - a)*(s - c)))),.string (ratB (((x - a)*(q - b)) - ((y - b)*(p - a)))),.string (ratB ((((((y - b)*(s - c)) - ((z - c)*(q - b)))*a)+((((z - c)*(p - a)) - ((x - a)*(s - c)))*b))+((((x - a)*(q - b)) - ((y - b)*(p - a)))*c)))],.int .i64 0])):=fun w R=>resPl (ratB (((y - b)*(s - c)) - ((z - c)*(q - b)))) (ratB (((z - c)*(p - a)) - ((x - a)*(s - c)))) (ratB (((x - a)*(q - b)) - ((y - b)*(p - a)))) (ratB ((((((y - b)*(s - c)) - ((z - c)*(q - b)))*a)+((((z - c)*(p - a)) - ((x - a)*(s - c)))*b))+((((x - a)*(q - b)) - ((y - b)*(p - a)))*c))) (ratB (((y - b)*(s - c)) - ((z - c)*(q - b)))) (ratB (((z - c)*(p - a)) - ((x - a)*(s - c)))) (ratB (((x - a)*(q - b)) - ((y - b)*(p - a)))) (ratB ((((((y - b)*(s - c)) - ((z - c)*(q - b)))*a)+((((z - c)*(p - a)) - ((x - a)*(s - c)))*b))+((((x - a)*(q - b)) - ((y - b)*(p - a)))*c))) (by intro t ht;simp only [List.mem_cons,List.not_mem_nil,or_false] at ht;rcases ht with rfl | rfl | rfl | rfl;exact ⟨_,rfl,r39⟩;exact ⟨_,rfl,r40⟩;exact ⟨_,rfl,r41⟩;exact ⟨_,rfl,r42⟩) w R.toEnvR
 have e0:((ratB (((y - b)*(s - c)) - ((z - c)*(q - b)))).toList == [48])=true:=by rw [ratB_eq_zero];exact decide_eq_true z0
 have p0:(ratB (((y - b)*(s - c)) - ((z - c)*(q - b)))).toList=[48]:=(zero_iff _).2 z0
 have e1:((ratB (((z - c)*(p - a)) - ((x - a)*(s - c)))).toList == [48])=false:=by rw [ratB_eq_zero];exact decide_eq_false n1
 have p1:¬ (ratB (((z - c)*(p - a)) - ((x - a)*(s - c)))).toList=[48]:=fun h=>n1 ((zero_iff _).1 h)
 obtain ⟨t0,et0⟩:∃ v,ratB (((y - b)*(s - c)) - ((z - c)*(q - b)))=v:=⟨_,rfl⟩
 try simp only [et0] at c1 c2 c3 c4 c5 c6 c7 c8 c9 e0 p0 e1 p1 ⊢
 obtain ⟨t1,et1⟩:∃ v,ratB (((z - c)*(p - a)) - ((x - a)*(s - c)))=v:=⟨_,rfl⟩
 try simp only [et1] at c1 c2 c3 c4 c5 c6 c7 c8 c9 e0 p0 e1 p1 ⊢
 obtain ⟨t2,et2⟩:∃ v,ratB (((x - a)*(q - b)) - ((y - b)*(p - a)))=v:=⟨_,rfl⟩
 try simp only [et2] at c1 c2 c3 c4 c5 c6 c7 c8 c9 e0 p0 e1 p1 ⊢
 have C1:=Lib.hid c1
 have C2:=Lib.hid c2
 have C3:=Lib.hid c3
 have C4:=Lib.hid c4
 have C5:=Lib.hid c5
 have C6:=Lib.hid c6
 have C7:=Lib.hid c7
 have C8:=Lib.hid c8
 have C9:=Lib.hid c9
 clear c1 c2 c3 c4 c5 c6 c7 c8 c9 et0 et1 et2 z0 n1 r1 r2 r3 r4 r5 r6 r7 r8 r9 r10 r11 r12 r13 r14 r15 r16 r17 r18 r19 r20 r21 r22 r23 r24 r25 r26 r27 r28 r29 r30 r31 r32 r33 r34 r35 r36 r37 r38 r39 r40 r41 r42
 have hb:=Below.refl w.heap.size w
 have Aa:w.cell? ⟨0,0,none⟩=some (Value.string ⟨#[48]⟩):=R.z0
 have Ab:w.cell? ⟨0,1,none⟩=some (Value.string ⟨#[48]⟩):=R.z1
 have Ac:w.cell? ⟨0,2,none⟩=some (Value.string ⟨#[48]⟩):=R.z2
 go_enter Tryz.func62,Tryz.ntmps62
 go_upto_region 1 with fail
 refine wp_alloc4 (fun w1 a0 a1 a2 a3 hk=>?_)
 replace Aa:=zC hk Aa
 replace Ab:=zC hk Ab
 replace Ac:=zC hk Ac
 replace hb:=hb.trans (hk.mono hb.size)
 clear hk
 obtain ⟨Ap,Aq,Ar⟩:=ce3 a0
 obtain ⟨As,At,Au⟩:=ce3 a1
 obtain ⟨Av,Aw,Ax⟩:=ce3 a2
 obtain ⟨Af,Ak,Ag,Al,Ah,Am,Ai,An⟩:=cf4 a3
 go_upto_region 1 with fail
 have Ay:=zR Aa
 have Az:=zR Ab
 have A0:=zR Ac
 obtain ⟨A1,A2,A3⟩:=cy3 a0
 obtain ⟨Bb,Bc,Bd⟩:=cy3 a1
 obtain ⟨Be,Bf,Bg⟩:=cy3 a2
 obtain ⟨A4,A5,A6,A7⟩:=cy4 a3
 have Bh:=rrV C1 R hb
 have Bi:=rrV C2 R hb
 have Bj:=rrV C3 R hb
 refine wp_region_tail_below 6 (by first | assumption | kernel_rfl) (by kernel_rfl) ?_
 simp only [List.take_succ_cons,List.take_zero,List.drop_succ_cons,List.drop_zero]
 repeat (quiet_step (first | (with_reducible exact Bh.out _ _) | (with_reducible exact Bi.out _ _) | (with_reducible exact Bj.out _ _)))
 refine wpQuiet_nil ?_
 intro w1 hw'
 obtain ⟨hk,hb⟩:=zQ hb hw'
 replace Aa:=zC hk Aa
 replace Ab:=zC hk Ab
 replace Ac:=zC hk Ac
 clear Ap Aq Ar As At Au Av Aw Ax Af Ag Ah Ai Ak Al Am An
 replace a0:=zB hk a0
 replace a1:=zB hk a1
 replace a2:=zB hk a2
 replace a3:=zB hk a3
 obtain ⟨Ap,Aq,Ar⟩:=ce3 a0
 obtain ⟨As,At,Au⟩:=ce3 a1
 obtain ⟨Av,Aw,Ax⟩:=ce3 a2
 obtain ⟨Af,Ak,Ag,Al,Ah,Am,Ai,An⟩:=cf4 a3
 clear Bh Bi Bj Ay Az A0 A1 A2 A3 Bb Bc Bd Be Bf Bg A4 A5 A6 A7
 clear hk hw'
 go_upto_region 4 with (go_at_call 69;with_reducible refine (zL hb (C4.out _ (R.below hb))).mono ?_;clear hb;rintro e w1 ⟨rfl,hk,hb⟩;replace Aa:=zC hk Aa;replace Ab:=zC hk Ab;replace Ac:=zC hk Ac;clear Ap Aq Ar As At Au Av Aw Ax Af Ag Ah Ai Ak Al Am An;replace a0:=zB hk a0;replace a1:=zB hk a1;replace a2:=zB hk a2;replace a3:=zB hk a3;obtain ⟨Ap,Aq,Ar⟩:=ce3 a0;obtain ⟨As,At,Au⟩:=ce3 a1;obtain ⟨Av,Aw,Ax⟩:=ce3 a2;obtain ⟨Af,Ak,Ag,Al,Ah,Am,Ai,An⟩:=cf4 a3;clear hk)
 have Ay:=zR Aa
 have Az:=zR Ab
 have A0:=zR Ac
 obtain ⟨A1,A2,A3⟩:=cy3 a0
 obtain ⟨Bb,Bc,Bd⟩:=cy3 a1
 obtain ⟨Be,Bf,Bg⟩:=cy3 a2
 obtain ⟨A4,A5,A6,A7⟩:=cy4 a3
 have Bs:=rrV C5 R hb
 have Bt:=rrV C6 R hb
 have Bu:=rrV C7 R hb
 have Bk:=qqV C5 R hb
 have Bl:=qqV C6 R hb
 have Bm:=qqV C7 R hb
 refine wp_free1 7 0 (fun i=>if i=7 then Obj.cells #[Value.string ⟨#[]⟩,Value.string ⟨#[]⟩,Value.string ⟨#[]⟩] 24 else Obj.cells #[] 0) (fun i=>if i=7 then Obj.cells #[Value.string t0,Value.string t1,Value.string t2] 24 else Obj.cells #[] 0) (some 9) (by first | assumption | kernel_rfl) (by kernel_rfl) ?lay rfl ?_
 case lay =>
   intro i h1 h2
   obtain rfl:i=7:=by omega
   all_goals exact ⟨_,rfl,rfl,fun a w=>(by first | (go_simp;done) | (go_simp;rfl))⟩
 simp only [List.take_succ_cons,List.take_zero]
 repeat (refine wpB_step (fun K hK=>?_);go_simp;first | (refine hK _ ?_;clear hK K) | (apply Exists.intro;refine ⟨fun _=>?_,hK _ ?_⟩;(first | (with_reducible exact Bk.out _ _) | (with_reducible exact Bl.out _ _) | (with_reducible exact Bm.out _ _));clear hK K))
 refine wpB_nil ?_
 intro Aj
 refine ⟨?_,?_⟩
 · refine ⟨_,rfl,rfl,rfl,fun cs b h=>(by cases h),fun w hw=>?_⟩
   replace hw:w.heap[Aj]? = some (Obj.cells #[Value.string ⟨#[]⟩,Value.string ⟨#[]⟩,Value.string ⟨#[]⟩] 24):=hw
   have z0:w.cell? ⟨Aj,0,none⟩=some (Value.string ⟨#[]⟩):=zA hw
   have y0:w.frozen? ⟨Aj,0,none⟩=false:=zD hw
   have z1:w.cell? ⟨Aj,1,none⟩=some (Value.string ⟨#[]⟩):=zA hw
   have y1:w.frozen? ⟨Aj,1,none⟩=false:=zD hw
   have z2:w.cell? ⟨Aj,2,none⟩=some (Value.string ⟨#[]⟩):=zA hw
   have y2:w.frozen? ⟨Aj,2,none⟩=false:=zD hw
   refine ⟨_,?_,(Wrote.set (i:=2) (Wrote.set (i:=1) (Wrote.set (i:=0) (Wrote.refl hw) (Value.string t0)) (Value.string t1)) (Value.string t2))⟩
   go_simp
 intro w1 hk m0 Ae
 replace Aa:=zC hk Aa
 replace Ab:=zC hk Ab
 replace Ac:=zC hk Ac
 clear Ap Aq Ar As At Au Av Aw Ax Af Ag Ah Ai Ak Al Am An
 replace a0:=zB hk a0
 replace a1:=zB hk a1
 replace a2:=zB hk a2
 replace a3:=zB hk a3
 obtain ⟨Ap,Aq,Ar⟩:=ce3 a0
 obtain ⟨As,At,Au⟩:=ce3 a1
 obtain ⟨Av,Aw,Ax⟩:=ce3 a2
 obtain ⟨Af,Ak,Ag,Al,Ah,Am,Ai,An⟩:=cf4 a3
 replace hb:=hb.trans (hk.mono hb.size)
 clear hk
 replace Ae:w1.heap[Aj]? = some (Obj.cells #[Value.string t0,Value.string t1,Value.string t2] 24):=Ae
 have A8:w1.cell? ⟨Aj,0,none⟩=some (Value.string t0):=zA Ae
 have A9:w1.cell? ⟨Aj,1,none⟩=some (Value.string t1):=zA Ae
 have Ba:w1.cell? ⟨Aj,2,none⟩=some (Value.string t2):=zA Ae
 clear Bk Bl Bm Bs Bt Bu Ay Az A0 A1 A2 A3 Bb Bc Bd Be Bf Bg A4 A5 A6 A7 m0
 go_upto_region 7 with fail
 clear As At Au a1 Av Aw Ax a2
 have Ay:=zR Aa
 have Az:=zR Ab
 have A0:=zR Ac
 obtain ⟨A1,A2,A3⟩:=cy3 a0
 obtain ⟨A4,A5,A6,A7⟩:=cy4 a3
 obtain ⟨Bv,Bw,Bx⟩:=cy3 Ae
 have By:=rrV C8 R hb
 have Bn:=qqV C8 R hb
 refine wp_free1 5 0 (fun i=>if i=5 then Obj.cells #[Value.string ⟨#[]⟩,Value.string ⟨#[]⟩,Value.string ⟨#[]⟩,Value.string ⟨#[]⟩] 28 else Obj.cells #[] 0) (fun i=>if i=5 then Obj.cells #[Value.string t0,Value.string t1,Value.string t2,Value.string (ratB ((((((y - b)*(s - c)) - ((z - c)*(q - b)))*a)+((((z - c)*(p - a)) - ((x - a)*(s - c)))*b))+((((x - a)*(q - b)) - ((y - b)*(p - a)))*c)))] 28 else Obj.cells #[] 0) (some 10) (by first | assumption | kernel_rfl) (by kernel_rfl) ?lay rfl ?_
 case lay =>
   intro i h1 h2
   obtain rfl:i=5:=by omega
   all_goals exact ⟨_,rfl,rfl,fun a w=>(by first | (go_simp;done) | (go_simp;rfl))⟩
 simp only [List.take_succ_cons,List.take_zero]
 repeat (refine wpB_step (fun K hK=>?_);go_simp;first | (refine hK _ ?_;clear hK K) | (apply Exists.intro;refine ⟨fun _=>?_,hK _ ?_⟩;(first | (with_reducible exact Bn.out _ _));clear hK K))
 refine wpB_nil ?_
 intro Ad
 refine ⟨?_,?_⟩
 · refine ⟨_,rfl,rfl,rfl,fun cs b h=>(by cases h),fun w hw=>?_⟩
   replace hw:w.heap[Ad]? = some (Obj.cells #[Value.string ⟨#[]⟩,Value.string ⟨#[]⟩,Value.string ⟨#[]⟩,Value.string ⟨#[]⟩] 28):=hw
   have z0:w.cell? ⟨Ad,0,none⟩=some (Value.string ⟨#[]⟩):=zA hw
   have y0:w.frozen? ⟨Ad,0,none⟩=false:=zD hw
   have z1:w.cell? ⟨Ad,1,none⟩=some (Value.string ⟨#[]⟩):=zA hw
   have y1:w.frozen? ⟨Ad,1,none⟩=false:=zD hw
   have z2:w.cell? ⟨Ad,2,none⟩=some (Value.string ⟨#[]⟩):=zA hw
   have y2:w.frozen? ⟨Ad,2,none⟩=false:=zD hw
   have z3:w.cell? ⟨Ad,3,none⟩=some (Value.string ⟨#[]⟩):=zA hw
   have y3:w.frozen? ⟨Ad,3,none⟩=false:=zD hw
   refine ⟨_,?_,(Wrote.set (i:=3) (Wrote.set (i:=2) (Wrote.set (i:=1) (Wrote.set (i:=0) (Wrote.refl hw) (Value.string t0)) (Value.string t1)) (Value.string t2)) (Value.string (ratB ((((((y - b)*(s - c)) - ((z - c)*(q - b)))*a)+((((z - c)*(p - a)) - ((x - a)*(s - c)))*b))+((((x - a)*(q - b)) - ((y - b)*(p - a)))*c)))))⟩
   go_simp
 intro w1 hk m0 Ao
 replace Aa:=zC hk Aa
 replace Ab:=zC hk Ab
 replace Ac:=zC hk Ac
 clear Ap Aq Ar Af Ag Ah Ai Ak Al Am An A8 A9 Ba
 replace a0:=zB hk a0
 replace a3:=zB hk a3
 replace Ae:=zB hk Ae
 obtain ⟨Ap,Aq,Ar⟩:=ce3 a0
 obtain ⟨Af,Ak,Ag,Al,Ah,Am,Ai,An⟩:=cf4 a3
 obtain ⟨A8,A9,Ba⟩:=ce3 Ae
 replace hb:=hb.trans (hk.mono hb.size)
 clear hk
 replace Ao:w1.heap[Ad]? = some (Obj.cells #[Value.string t0,Value.string t1,Value.string t2,Value.string (ratB ((((((y - b)*(s - c)) - ((z - c)*(q - b)))*a)+((((z - c)*(p - a)) - ((x - a)*(s - c)))*b))+((((x - a)*(q - b)) - ((y - b)*(p - a)))*c)))] 28):=Ao
 have Bo:w1.cell? ⟨Ad,0,none⟩=some (Value.string t0):=zA Ao
 have Bp:w1.cell? ⟨Ad,1,none⟩=some (Value.string t1):=zA Ao
 have Bq:w1.cell? ⟨Ad,2,none⟩=some (Value.string t2):=zA Ao
 have Br:w1.cell? ⟨Ad,3,none⟩=some (Value.string (ratB ((((((y - b)*(s - c)) - ((z - c)*(q - b)))*a)+((((z - c)*(p - a)) - ((x - a)*(s - c)))*b))+((((x - a)*(q - b)) - ((y - b)*(p - a)))*c)))):=zA Ao
 clear Bn By Ay Az A0 A1 A2 A3 A4 A5 A6 A7 Bv Bw Bx m0
 go_wp2_with (go_at_call 112;with_reducible refine (zL hb (C9.out _ (R.below hb))).mono ?_;clear hb;rintro e w1 ⟨rfl,hk,hb⟩;replace Aa:=zC hk Aa;replace Ab:=zC hk Ab;replace Ac:=zC hk Ac;clear Af Ag Ah Ai Ak Al Am An A8 A9 Ba Bo Bp Bq Br;replace a3:=zB hk a3;replace Ae:=zB hk Ae;replace Ao:=zB hk Ao;obtain ⟨Af,Ak,Ag,Al,Ah,Am,Ai,An⟩:=cf4 a3;obtain ⟨A8,A9,Ba⟩:=ce3 Ae;obtain ⟨Bo,Bp,Bq,Br⟩:=ce4 Ao;clear hk)
 refine bodyPost_ret (v:=.tuple #[.agg #[.string t0,.string t1,.string t2,.string (ratB ((((((y - b)*(s - c)) - ((z - c)*(q - b)))*a)+((((z - c)*(p - a)) - ((x - a)*(s - c)))*b))+((((x - a)*(q - b)) - ((y - b)*(p - a)))*c)))],.int .i64 0]) (by simp [results,Tryz.results62,go_sem,Af,Ag,Ah,Ai]) rfl ⟨rfl,?_⟩
 repeat' (first | exact hb | refine Below.setCell ?_ (by first | exact Nat.le_refl _ | (dsimp only;omega)) _)
theorem spanned_2 (a b c x y z p q s:Rat) (z0:(((y - b)*(s - c)) - ((z - c)*(q - b)))=0) (z1:(((z - c)*(p - a)) - ((x - a)*(s - c)))=0) (n2:(((x - a)*(q - b)) - ((y - b)*(p - a)))≠0) (r1:RL a 200) (r2:RL b 200) (r3:RL c 200) (r4:RL x 200) (r5:RL y 200) (r6:RL z 200) (r7:RL p 200) (r8:RL q 200) (r9:RL s 200) (r10:RL x 10000) (r11:RL a 10000) (r12:RL y 10000) (r13:RL b 10000) (r14:RL z 10000) (r15:RL c 10000) (r16:RL p 10000) (r17:RL q 10000) (r18:RL s 10000) (r19:RL (y - b) 10000) (r20:RL (s - c) 10000) (r21:RL (z - c) 10000) (r22:RL (q - b) 10000) (r23:RL ((y - b)*(s - c)) 10000) (r24:RL ((z - c)*(q - b)) 10000) (r25:RL (p - a) 10000) (r26:RL (x - a) 10000) (r27:RL ((z - c)*(p - a)) 10000) (r28:RL ((x - a)*(s - c)) 10000) (r29:RL ((x - a)*(q - b)) 10000) (r30:RL ((y - b)*(p - a)) 10000) (r31:RL (((y - b)*(s - c)) - ((z - c)*(q - b))) 10000) (r32:RL ((((y - b)*(s - c)) - ((z - c)*(q - b)))*a) 10000) (r33:RL (((z - c)*(p - a)) - ((x - a)*(s - c))) 10000) (r34:RL ((0:Rat)+((((y - b)*(s - c)) - ((z - c)*(q - b)))*a)) 10000) (r35:RL ((((z - c)*(p - a)) - ((x - a)*(s - c)))*b) 10000) (r36:RL (((x - a)*(q - b)) - ((y - b)*(p - a))) 10000) (r37:RL (((0:Rat)+((((y - b)*(s - c)) - ((z - c)*(q - b)))*a))+((((z - c)*(p - a)) - ((x - a)*(s - c)))*b)) 10000) (r38:RL ((((x - a)*(q - b)) - ((y - b)*(p - a)))*c) 10000) (r39:RL (((y - b)*(s - c)) - ((z - c)*(q - b))) 200) (r40:RL (((z - c)*(p - a)) - ((x - a)*(s - c))) 200) (r41:RL (((x - a)*(q - b)) - ((y - b)*(p - a))) 200) (r42:RL ((((((y - b)*(s - c)) - ((z - c)*(q - b)))*a)+((((z - c)*(p - a)) - ((x - a)*(s - c)))*b))+((((x - a)*(q - b)) - ((y - b)*(p - a)))*c)) 200) (w:World) (R:EnvV w) :
   Calls Tryz.prog 62 #[.agg #[.string (ratB a),.string (ratB b),.string (ratB c)],.agg #[.string (ratB x),.string (ratB y),.string (ratB z)],.agg #[.string (ratB p),.string (ratB q),.string (ratB s)]] w (Ret w (.tuple #[.agg #[.string (ratB (((y - b)*(s - c)) - ((z - c)*(q - b)))),.string (ratB (((z - c)*(p - a)) - ((x - a)*(s - c)))),.string (ratB (((x - a)*(q - b)) - ((y - b)*(p - a)))),.string (ratB ((((((y - b)*(s - c)) - ((z - c)*(q - b)))*a)+((((z - c)*(p - a)) - ((x - a)*(s - c)))*b))+((((x - a)*(q - b)) - ((y - b)*(p - a)))*c)))],.int .i64 0])):=by
 have c1:=fun (w:World) (R:EnvV w)=>vcheck_ok a b c r1 r2 r3 w R.toEnvR
 have c2:=fun (w:World) (R:EnvV w)=>vcheck_ok x y z r4 r5 r6 w R.toEnvR
 have c3:=fun (w:World) (R:EnvV w)=>vcheck_ok p q s r7 r8 r9 w R.toEnvR
 have c4:=fun (w:World) (R:EnvV w)=>orErr3 0 0 0 0 (by decide) w R.toEnvR
 have c5:=fun (w:World) (R:EnvV w)=>each_Sub x y z a b c r10 r11 r12 r13 r14 r15 w R.toEnvR
 have c6:=fun (w:World) (R:EnvV w)=>each_Sub p q s a b c r16 r11 r17 r13 r18 r15 w R.toEnvR
 have c7:=fun (w:World) (R:EnvV w)=>cross_any (x - a) (y - b) (z - c) (p - a) (q - b) (s - c) r19 r20 r21 r22 r23 r24 r25 r26 r27 r28 r29 r30 w R.toEnvR
 have c8:=fun (w:World) (R:EnvV w)=>dot_any (((y - b)*(s - c)) - ((z - c)*(q - b))) (((z - c)*(p - a)) - ((x - a)*(s - c))) (((x - a)*(q - b)) - ((y - b)*(p - a))) a b c r31 r11 r32 r33 r13 r34 r35 r36 r15 r37 r38 w R.toEnvR
 have c9:∀ w,EnvV w→Calls Tryz.prog 112 #[.agg #[.string (ratB (((y - b)*(s - c)) - ((z - c)*(q - b)))),.string (ratB (((z - c)*(p - a)) - ((x - a)*(s - c)))),.string (ratB (((x - a)*(q - b)) - ((y - b)*(p - a)))),.string (ratB ((((((y - b)*(s - c)) - ((z - c)*(q - b)))*a)+((((z - c)*(p - a)) - ((x - a)*(s - c)))*b))+((((x - a)*(q - b)) - ((y - b)*(p - a)))*c)))],.slice (some ⟨w.heap.size,0,none⟩) 4 4] (w.alloc (Obj.cells #[Value.string (ratB (((y - b)*(s - c)) - ((z - c)*(q - b)))),Value.string (ratB (((z - c)*(p - a)) - ((x - a)*(s - c)))),Value.string (ratB (((x - a)*(q - b)) - ((y - b)*(p - a)))),Value.string (ratB ((((((y - b)*(s - c)) - ((z - c)*(q - b)))*a)+((((z - c)*(p - a)) - ((x - a)*(s - c)))*b))+((((x - a)*(q - b)) - ((y - b)*(p - a)))*c)))] 22)) (Ret w (.tuple #[.agg #[.string (ratB (((y - b)*(s - c)) - ((z - c)*(q - b)))),.string (ratB (((z - c)*(p - a)) - ((x - a)*(s - c)))),.string (ratB (((x - a)*(q - b)) - ((y - b)*(p - a)))),.string (ratB ((((((y - b)*(s - c)) - ((z - c)*(q - b)))*a)+((((z - c)*(p - a)) - ((x - a)*(s - c)))*b))+((((x - a)*(q - b)) - ((y - b)*(p - a)))*c)))],.int .i64 0])):=fun w R=>resPl (ratB (((y - b)*(s - c)) - ((z - c)*(q - b)))) (ratB (((z - c)*(p - a)) - ((x - a)*(s - c)))) (ratB (((x - a)*(q - b)) - ((y - b)*(p - a)))) (ratB ((((((y - b)*(s - c)) - ((z - c)*(q - b)))*a)+((((z - c)*(p - a)) - ((x - a)*(s - c)))*b))+((((x - a)*(q - b)) - ((y - b)*(p - a)))*c))) (ratB (((y - b)*(s - c)) - ((z - c)*(q - b)))) (ratB (((z - c)*(p - a)) - ((x - a)*(s - c)))) (ratB (((x - a)*(q - b)) - ((y - b)*(p - a)))) (ratB ((((((y - b)*(s - c)) - ((z - c)*(q - b)))*a)+((((z - c)*(p - a)) - ((x - a)*(s - c)))*b))+((((x - a)*(q - b)) - ((y - b)*(p - a)))*c))) (by intro t ht;simp only [List.mem_cons,List.not_mem_nil,or_false] at ht;rcases ht with rfl | rfl | rfl | rfl;exact ⟨_,rfl,r39⟩;exact ⟨_,rfl,r40⟩;exact ⟨_,rfl,r41⟩;exact ⟨_,rfl,r42⟩) w R.toEnvR
 have e0:((ratB (((y - b)*(s - c)) - ((z - c)*(q - b)))).toList == [48])=true:=by rw [ratB_eq_zero];exact decide_eq_true z0
 have p0:(ratB (((y - b)*(s - c)) - ((z - c)*(q - b)))).toList=[48]:=(zero_iff _).2 z0
 have e1:((ratB (((z - c)*(p - a)) - ((x - a)*(s - c)))).toList == [48])=true:=by rw [ratB_eq_zero];exact decide_eq_true z1
 have p1:(ratB (((z - c)*(p - a)) - ((x - a)*(s - c)))).toList=[48]:=(zero_iff _).2 z1
 have e2:((ratB (((x - a)*(q - b)) - ((y - b)*(p - a)))).toList == [48])=false:=by rw [ratB_eq_zero];exact decide_eq_false n2
 have p2:¬ (ratB (((x - a)*(q - b)) - ((y - b)*(p - a)))).toList=[48]:=fun h=>n2 ((zero_iff _).1 h)
 obtain ⟨t0,et0⟩:∃ v,ratB (((y - b)*(s - c)) - ((z - c)*(q - b)))=v:=⟨_,rfl⟩
 try simp only [et0] at c1 c2 c3 c4 c5 c6 c7 c8 c9 e0 p0 e1 p1 e2 p2 ⊢
 obtain ⟨t1,et1⟩:∃ v,ratB (((z - c)*(p - a)) - ((x - a)*(s - c)))=v:=⟨_,rfl⟩
 try simp only [et1] at c1 c2 c3 c4 c5 c6 c7 c8 c9 e0 p0 e1 p1 e2 p2 ⊢
 obtain ⟨t2,et2⟩:∃ v,ratB (((x - a)*(q - b)) - ((y - b)*(p - a)))=v:=⟨_,rfl⟩
 try simp only [et2] at c1 c2 c3 c4 c5 c6 c7 c8 c9 e0 p0 e1 p1 e2 p2 ⊢
 have C1:=Lib.hid c1
 have C2:=Lib.hid c2
 have C3:=Lib.hid c3
 have C4:=Lib.hid c4
 have C5:=Lib.hid c5
 have C6:=Lib.hid c6
 have C7:=Lib.hid c7
 have C8:=Lib.hid c8
 have C9:=Lib.hid c9
 clear c1 c2 c3 c4 c5 c6 c7 c8 c9 et0 et1 et2 z0 z1 n2 r1 r2 r3 r4 r5 r6 r7 r8 r9 r10 r11 r12 r13 r14 r15 r16 r17 r18 r19 r20 r21 r22 r23 r24 r25 r26 r27 r28 r29 r30 r31 r32 r33 r34 r35 r36 r37 r38 r39 r40 r41 r42
 have hb:=Below.refl w.heap.size w
 have Aa:w.cell? ⟨0,0,none⟩=some (Value.string ⟨#[48]⟩):=R.z0
 have Ab:w.cell? ⟨0,1,none⟩=some (Value.string ⟨#[48]⟩):=R.z1
 have Ac:w.cell? ⟨0,2,none⟩=some (Value.string ⟨#[48]⟩):=R.z2
 go_enter Tryz.func62,Tryz.ntmps62
 go_upto_region 1 with fail
 refine wp_alloc4 (fun w1 a0 a1 a2 a3 hk=>?_)
 replace Aa:=zC hk Aa
 replace Ab:=zC hk Ab
 replace Ac:=zC hk Ac
 replace hb:=hb.trans (hk.mono hb.size)
 clear hk
 obtain ⟨Ap,Aq,Ar⟩:=ce3 a0
 obtain ⟨As,At,Au⟩:=ce3 a1
 obtain ⟨Av,Aw,Ax⟩:=ce3 a2
 obtain ⟨Af,Ak,Ag,Al,Ah,Am,Ai,An⟩:=cf4 a3
 go_upto_region 1 with fail
 have Ay:=zR Aa
 have Az:=zR Ab
 have A0:=zR Ac
 obtain ⟨A1,A2,A3⟩:=cy3 a0
 obtain ⟨Bb,Bc,Bd⟩:=cy3 a1
 obtain ⟨Be,Bf,Bg⟩:=cy3 a2
 obtain ⟨A4,A5,A6,A7⟩:=cy4 a3
 have Bh:=rrV C1 R hb
 have Bi:=rrV C2 R hb
 have Bj:=rrV C3 R hb
 refine wp_region_tail_below 6 (by first | assumption | kernel_rfl) (by kernel_rfl) ?_
 simp only [List.take_succ_cons,List.take_zero,List.drop_succ_cons,List.drop_zero]
 repeat (quiet_step (first | (with_reducible exact Bh.out _ _) | (with_reducible exact Bi.out _ _) | (with_reducible exact Bj.out _ _)))
 refine wpQuiet_nil ?_
 intro w1 hw'
 obtain ⟨hk,hb⟩:=zQ hb hw'
 replace Aa:=zC hk Aa
 replace Ab:=zC hk Ab
 replace Ac:=zC hk Ac
 clear Ap Aq Ar As At Au Av Aw Ax Af Ag Ah Ai Ak Al Am An
 replace a0:=zB hk a0
 replace a1:=zB hk a1
 replace a2:=zB hk a2
 replace a3:=zB hk a3
 obtain ⟨Ap,Aq,Ar⟩:=ce3 a0
 obtain ⟨As,At,Au⟩:=ce3 a1
 obtain ⟨Av,Aw,Ax⟩:=ce3 a2
 obtain ⟨Af,Ak,Ag,Al,Ah,Am,Ai,An⟩:=cf4 a3
 clear Bh Bi Bj Ay Az A0 A1 A2 A3 Bb Bc Bd Be Bf Bg A4 A5 A6 A7
 clear hk hw'
 go_upto_region 4 with (go_at_call 69;with_reducible refine (zL hb (C4.out _ (R.below hb))).mono ?_;clear hb;rintro e w1 ⟨rfl,hk,hb⟩;replace Aa:=zC hk Aa;replace Ab:=zC hk Ab;replace Ac:=zC hk Ac;clear Ap Aq Ar As At Au Av Aw Ax Af Ag Ah Ai Ak Al Am An;replace a0:=zB hk a0;replace a1:=zB hk a1;replace a2:=zB hk a2;replace a3:=zB hk a3;obtain ⟨Ap,Aq,Ar⟩:=ce3 a0;obtain ⟨As,At,Au⟩:=ce3 a1;obtain ⟨Av,Aw,Ax⟩:=ce3 a2;obtain ⟨Af,Ak,Ag,Al,Ah,Am,Ai,An⟩:=cf4 a3;clear hk)
 have Ay:=zR Aa
 have Az:=zR Ab
 have A0:=zR Ac
 obtain ⟨A1,A2,A3⟩:=cy3 a0
 obtain ⟨Bb,Bc,Bd⟩:=cy3 a1
 obtain ⟨Be,Bf,Bg⟩:=cy3 a2
 obtain ⟨A4,A5,A6,A7⟩:=cy4 a3
 have Bs:=rrV C5 R hb
 have Bt:=rrV C6 R hb
 have Bu:=rrV C7 R hb
 have Bk:=qqV C5 R hb
 have Bl:=qqV C6 R hb
 have Bm:=qqV C7 R hb
 refine wp_free1 7 0 (fun i=>if i=7 then Obj.cells #[Value.string ⟨#[]⟩,Value.string ⟨#[]⟩,Value.string ⟨#[]⟩] 24 else Obj.cells #[] 0) (fun i=>if i=7 then Obj.cells #[Value.string t0,Value.string t1,Value.string t2] 24 else Obj.cells #[] 0) (some 9) (by first | assumption | kernel_rfl) (by kernel_rfl) ?lay rfl ?_
 case lay =>
   intro i h1 h2
   obtain rfl:i=7:=by omega
   all_goals exact ⟨_,rfl,rfl,fun a w=>(by first | (go_simp;done) | (go_simp;rfl))⟩
 simp only [List.take_succ_cons,List.take_zero]
 repeat (refine wpB_step (fun K hK=>?_);go_simp;first | (refine hK _ ?_;clear hK K) | (apply Exists.intro;refine ⟨fun _=>?_,hK _ ?_⟩;(first | (with_reducible exact Bk.out _ _) | (with_reducible exact Bl.out _ _) | (with_reducible exact Bm.out _ _));clear hK K))
 refine wpB_nil ?_
 intro Aj
 refine ⟨?_,?_⟩
 · refine ⟨_,rfl,rfl,rfl,fun cs b h=>(by cases h),fun w hw=>?_⟩
   replace hw:w.heap[Aj]? = some (Obj.cells #[Value.string ⟨#[]⟩,Value.string ⟨#[]⟩,Value.string ⟨#[]⟩] 24):=hw
   have z0:w.cell? ⟨Aj,0,none⟩=some (Value.string ⟨#[]⟩):=zA hw
   have y0:w.frozen? ⟨Aj,0,none⟩=false:=zD hw
   have z1:w.cell? ⟨Aj,1,none⟩=some (Value.string ⟨#[]⟩):=zA hw
   have y1:w.frozen? ⟨Aj,1,none⟩=false:=zD hw
   have z2:w.cell? ⟨Aj,2,none⟩=some (Value.string ⟨#[]⟩):=zA hw
   have y2:w.frozen? ⟨Aj,2,none⟩=false:=zD hw
   refine ⟨_,?_,(Wrote.set (i:=2) (Wrote.set (i:=1) (Wrote.set (i:=0) (Wrote.refl hw) (Value.string t0)) (Value.string t1)) (Value.string t2))⟩
   go_simp
 intro w1 hk m0 Ae
 replace Aa:=zC hk Aa
 replace Ab:=zC hk Ab
 replace Ac:=zC hk Ac
 clear Ap Aq Ar As At Au Av Aw Ax Af Ag Ah Ai Ak Al Am An
 replace a0:=zB hk a0
 replace a1:=zB hk a1
 replace a2:=zB hk a2
 replace a3:=zB hk a3
 obtain ⟨Ap,Aq,Ar⟩:=ce3 a0
 obtain ⟨As,At,Au⟩:=ce3 a1
 obtain ⟨Av,Aw,Ax⟩:=ce3 a2
 obtain ⟨Af,Ak,Ag,Al,Ah,Am,Ai,An⟩:=cf4 a3
 replace hb:=hb.trans (hk.mono hb.size)
 clear hk
 replace Ae:w1.heap[Aj]? = some (Obj.cells #[Value.string t0,Value.string t1,Value.string t2] 24):=Ae
 have A8:w1.cell? ⟨Aj,0,none⟩=some (Value.string t0):=zA Ae
 have A9:w1.cell? ⟨Aj,1,none⟩=some (Value.string t1):=zA Ae
 have Ba:w1.cell? ⟨Aj,2,none⟩=some (Value.string t2):=zA Ae
 clear Bk Bl Bm Bs Bt Bu Ay Az A0 A1 A2 A3 Bb Bc Bd Be Bf Bg A4 A5 A6 A7 m0
 go_upto_region 7 with fail
 clear As At Au a1 Av Aw Ax a2
 have Ay:=zR Aa
 have Az:=zR Ab
 have A0:=zR Ac
 obtain ⟨A1,A2,A3⟩:=cy3 a0
 obtain ⟨A4,A5,A6,A7⟩:=cy4 a3
 obtain ⟨Bv,Bw,Bx⟩:=cy3 Ae
 have By:=rrV C8 R hb
 have Bn:=qqV C8 R hb
 refine wp_free1 5 0 (fun i=>if i=5 then Obj.cells #[Value.string ⟨#[]⟩,Value.string ⟨#[]⟩,Value.string ⟨#[]⟩,Value.string ⟨#[]⟩] 28 else Obj.cells #[] 0) (fun i=>if i=5 then Obj.cells #[Value.string t0,Value.string t1,Value.string t2,Value.string (ratB ((((((y - b)*(s - c)) - ((z - c)*(q - b)))*a)+((((z - c)*(p - a)) - ((x - a)*(s - c)))*b))+((((x - a)*(q - b)) - ((y - b)*(p - a)))*c)))] 28 else Obj.cells #[] 0) (some 10) (by first | assumption | kernel_rfl) (by kernel_rfl) ?lay rfl ?_
 case lay =>
   intro i h1 h2
   obtain rfl:i=5:=by omega
   all_goals exact ⟨_,rfl,rfl,fun a w=>(by first | (go_simp;done) | (go_simp;rfl))⟩
 simp only [List.take_succ_cons,List.take_zero]
 repeat (refine wpB_step (fun K hK=>?_);go_simp;first | (refine hK _ ?_;clear hK K) | (apply Exists.intro;refine ⟨fun _=>?_,hK _ ?_⟩;(first | (with_reducible exact Bn.out _ _));clear hK K))
 refine wpB_nil ?_
 intro Ad
 refine ⟨?_,?_⟩
 · refine ⟨_,rfl,rfl,rfl,fun cs b h=>(by cases h),fun w hw=>?_⟩
   replace hw:w.heap[Ad]? = some (Obj.cells #[Value.string ⟨#[]⟩,Value.string ⟨#[]⟩,Value.string ⟨#[]⟩,Value.string ⟨#[]⟩] 28):=hw
   have z0:w.cell? ⟨Ad,0,none⟩=some (Value.string ⟨#[]⟩):=zA hw
   have y0:w.frozen? ⟨Ad,0,none⟩=false:=zD hw
   have z1:w.cell? ⟨Ad,1,none⟩=some (Value.string ⟨#[]⟩):=zA hw
   have y1:w.frozen? ⟨Ad,1,none⟩=false:=zD hw
   have z2:w.cell? ⟨Ad,2,none⟩=some (Value.string ⟨#[]⟩):=zA hw
   have y2:w.frozen? ⟨Ad,2,none⟩=false:=zD hw
   have z3:w.cell? ⟨Ad,3,none⟩=some (Value.string ⟨#[]⟩):=zA hw
   have y3:w.frozen? ⟨Ad,3,none⟩=false:=zD hw
   refine ⟨_,?_,(Wrote.set (i:=3) (Wrote.set (i:=2) (Wrote.set (i:=1) (Wrote.set (i:=0) (Wrote.refl hw) (Value.string t0)) (Value.string t1)) (Value.string t2)) (Value.string (ratB ((((((y - b)*(s - c)) - ((z - c)*(q - b)))*a)+((((z - c)*(p - a)) - ((x - a)*(s - c)))*b))+((((x - a)*(q - b)) - ((y - b)*(p - a)))*c)))))⟩
   go_simp
 intro w1 hk m0 Ao
 replace Aa:=zC hk Aa
 replace Ab:=zC hk Ab
 replace Ac:=zC hk Ac
 clear Ap Aq Ar Af Ag Ah Ai Ak Al Am An A8 A9 Ba
 replace a0:=zB hk a0
 replace a3:=zB hk a3
 replace Ae:=zB hk Ae
 obtain ⟨Ap,Aq,Ar⟩:=ce3 a0
 obtain ⟨Af,Ak,Ag,Al,Ah,Am,Ai,An⟩:=cf4 a3
 obtain ⟨A8,A9,Ba⟩:=ce3 Ae
 replace hb:=hb.trans (hk.mono hb.size)
 clear hk
 replace Ao:w1.heap[Ad]? = some (Obj.cells #[Value.string t0,Value.string t1,Value.string t2,Value.string (ratB ((((((y - b)*(s - c)) - ((z - c)*(q - b)))*a)+((((z - c)*(p - a)) - ((x - a)*(s - c)))*b))+((((x - a)*(q - b)) - ((y - b)*(p - a)))*c)))] 28):=Ao
 have Bo:w1.cell? ⟨Ad,0,none⟩=some (Value.string t0):=zA Ao
 have Bp:w1.cell? ⟨Ad,1,none⟩=some (Value.string t1):=zA Ao
 have Bq:w1.cell? ⟨Ad,2,none⟩=some (Value.string t2):=zA Ao
 have Br:w1.cell? ⟨Ad,3,none⟩=some (Value.string (ratB ((((((y - b)*(s - c)) - ((z - c)*(q - b)))*a)+((((z - c)*(p - a)) - ((x - a)*(s - c)))*b))+((((x - a)*(q - b)) - ((y - b)*(p - a)))*c)))):=zA Ao
 clear Bn By Ay Az A0 A1 A2 A3 A4 A5 A6 A7 Bv Bw Bx m0
 go_wp2_with (go_at_call 112;with_reducible refine (zL hb (C9.out _ (R.below hb))).mono ?_;clear hb;rintro e w1 ⟨rfl,hk,hb⟩;replace Aa:=zC hk Aa;replace Ab:=zC hk Ab;replace Ac:=zC hk Ac;clear Af Ag Ah Ai Ak Al Am An A8 A9 Ba Bo Bp Bq Br;replace a3:=zB hk a3;replace Ae:=zB hk Ae;replace Ao:=zB hk Ao;obtain ⟨Af,Ak,Ag,Al,Ah,Am,Ai,An⟩:=cf4 a3;obtain ⟨A8,A9,Ba⟩:=ce3 Ae;obtain ⟨Bo,Bp,Bq,Br⟩:=ce4 Ao;clear hk)
 refine bodyPost_ret (v:=.tuple #[.agg #[.string t0,.string t1,.string t2,.string (ratB ((((((y - b)*(s - c)) - ((z - c)*(q - b)))*a)+((((z - c)*(p - a)) - ((x - a)*(s - c)))*b))+((((x - a)*(q - b)) - ((y - b)*(p - a)))*c)))],.int .i64 0]) (by simp [results,Tryz.results62,go_sem,Af,Ag,Ah,Ai]) rfl ⟨rfl,?_⟩
 repeat' (first | exact hb | refine Below.setCell ?_ (by first | exact Nat.le_refl _ | (dsimp only;omega)) _)
theorem spanned_3 (a b c x y z p q s:Rat) (z0:(((y - b)*(s - c)) - ((z - c)*(q - b)))=0) (z1:(((z - c)*(p - a)) - ((x - a)*(s - c)))=0) (z2:(((x - a)*(q - b)) - ((y - b)*(p - a)))=0) (r1:RL a 200) (r2:RL b 200) (r3:RL c 200) (r4:RL x 200) (r5:RL y 200) (r6:RL z 200) (r7:RL p 200) (r8:RL q 200) (r9:RL s 200) (r10:RL x 10000) (r11:RL a 10000) (r12:RL y 10000) (r13:RL b 10000) (r14:RL z 10000) (r15:RL c 10000) (r16:RL p 10000) (r17:RL q 10000) (r18:RL s 10000) (r19:RL (y - b) 10000) (r20:RL (s - c) 10000) (r21:RL (z - c) 10000) (r22:RL (q - b) 10000) (r23:RL ((y - b)*(s - c)) 10000) (r24:RL ((z - c)*(q - b)) 10000) (r25:RL (p - a) 10000) (r26:RL (x - a) 10000) (r27:RL ((z - c)*(p - a)) 10000) (r28:RL ((x - a)*(s - c)) 10000) (r29:RL ((x - a)*(q - b)) 10000) (r30:RL ((y - b)*(p - a)) 10000) (w:World) (R:EnvV w) :
   Calls Tryz.prog 62 #[.agg #[.string (ratB a),.string (ratB b),.string (ratB c)],.agg #[.string (ratB x),.string (ratB y),.string (ratB z)],.agg #[.string (ratB p),.string (ratB q),.string (ratB s)]] w (Ret w (.tuple #[.agg #[.string ⟨#[]⟩,.string ⟨#[]⟩,.string ⟨#[]⟩,.string ⟨#[]⟩],.int .i64 18])):=by
 have c1:=fun (w:World) (R:EnvV w)=>vcheck_ok a b c r1 r2 r3 w R.toEnvR
 have c2:=fun (w:World) (R:EnvV w)=>vcheck_ok x y z r4 r5 r6 w R.toEnvR
 have c3:=fun (w:World) (R:EnvV w)=>vcheck_ok p q s r7 r8 r9 w R.toEnvR
 have c4:=fun (w:World) (R:EnvV w)=>orErr3 0 0 0 0 (by decide) w R.toEnvR
 have c5:=fun (w:World) (R:EnvV w)=>each_Sub x y z a b c r10 r11 r12 r13 r14 r15 w R.toEnvR
 have c6:=fun (w:World) (R:EnvV w)=>each_Sub p q s a b c r16 r11 r17 r13 r18 r15 w R.toEnvR
 have c7:=fun (w:World) (R:EnvV w)=>cross_any (x - a) (y - b) (z - c) (p - a) (q - b) (s - c) r19 r20 r21 r22 r23 r24 r25 r26 r27 r28 r29 r30 w R.toEnvR
 have e0:((ratB (((y - b)*(s - c)) - ((z - c)*(q - b)))).toList == [48])=true:=by rw [ratB_eq_zero];exact decide_eq_true z0
 have p0:(ratB (((y - b)*(s - c)) - ((z - c)*(q - b)))).toList=[48]:=(zero_iff _).2 z0
 have e1:((ratB (((z - c)*(p - a)) - ((x - a)*(s - c)))).toList == [48])=true:=by rw [ratB_eq_zero];exact decide_eq_true z1
 have p1:(ratB (((z - c)*(p - a)) - ((x - a)*(s - c)))).toList=[48]:=(zero_iff _).2 z1
 have e2:((ratB (((x - a)*(q - b)) - ((y - b)*(p - a)))).toList == [48])=true:=by rw [ratB_eq_zero];exact decide_eq_true z2
 have p2:(ratB (((x - a)*(q - b)) - ((y - b)*(p - a)))).toList=[48]:=(zero_iff _).2 z2
 obtain ⟨t0,et0⟩:∃ v,ratB (((y - b)*(s - c)) - ((z - c)*(q - b)))=v:=⟨_,rfl⟩
 try simp only [et0] at c1 c2 c3 c4 c5 c6 c7 e0 p0 e1 p1 e2 p2 ⊢
 obtain ⟨t1,et1⟩:∃ v,ratB (((z - c)*(p - a)) - ((x - a)*(s - c)))=v:=⟨_,rfl⟩
 try simp only [et1] at c1 c2 c3 c4 c5 c6 c7 e0 p0 e1 p1 e2 p2 ⊢
 obtain ⟨t2,et2⟩:∃ v,ratB (((x - a)*(q - b)) - ((y - b)*(p - a)))=v:=⟨_,rfl⟩
 try simp only [et2] at c1 c2 c3 c4 c5 c6 c7 e0 p0 e1 p1 e2 p2 ⊢
 have C1:=Lib.hid c1
 have C2:=Lib.hid c2
 have C3:=Lib.hid c3
 have C4:=Lib.hid c4
 have C5:=Lib.hid c5
 have C6:=Lib.hid c6
 have C7:=Lib.hid c7
 clear c1 c2 c3 c4 c5 c6 c7 et0 et1 et2 z0 z1 z2 r1 r2 r3 r4 r5 r6 r7 r8 r9 r10 r11 r12 r13 r14 r15 r16 r17 r18 r19 r20 r21 r22 r23 r24 r25 r26 r27 r28 r29 r30
 have hb:=Below.refl w.heap.size w
 have Ab:w.cell? ⟨0,0,none⟩=some (Value.string ⟨#[48]⟩):=R.z0
 have Ac:w.cell? ⟨0,1,none⟩=some (Value.string ⟨#[48]⟩):=R.z1
 have Ad:w.cell? ⟨0,2,none⟩=some (Value.string ⟨#[48]⟩):=R.z2
 go_enter Tryz.func62,Tryz.ntmps62
 go_upto_region 1 with fail
 refine wp_alloc4 (fun w1 a0 a1 a2 a3 hk=>?_)
 replace Ab:=zC hk Ab
 replace Ac:=zC hk Ac
 replace Ad:=zC hk Ad
 replace hb:=hb.trans (hk.mono hb.size)
 clear hk
 obtain ⟨Ai,Aj,Ak⟩:=ce3 a0
 obtain ⟨Al,Am,An⟩:=ce3 a1
 obtain ⟨Ao,Ap,Aq⟩:=ce3 a2
 obtain ⟨Ae,Ar,Af,As,Ag,At,Ah,Au⟩:=cf4 a3
 go_upto_region 1 with fail
 have Aw:=zR Ab
 have Ax:=zR Ac
 have Ay:=zR Ad
 obtain ⟨Az,A0,A1⟩:=cy3 a0
 obtain ⟨A2,A3,A4⟩:=cy3 a1
 obtain ⟨A5,A6,A7⟩:=cy3 a2
 obtain ⟨A8,A9,Ba,Bb⟩:=cy4 a3
 have Bc:=rrV C1 R hb
 have Bd:=rrV C2 R hb
 have Be:=rrV C3 R hb
 refine wp_region_tail_below 6 (by first | assumption | kernel_rfl) (by kernel_rfl) ?_
 simp only [List.take_succ_cons,List.take_zero,List.drop_succ_cons,List.drop_zero]
 repeat (quiet_step (first | (with_reducible exact Bc.out _ _) | (with_reducible exact Bd.out _ _) | (with_reducible exact Be.out _ _)))
 refine wpQuiet_nil ?_
 intro w1 hw'
 obtain ⟨hk,hb⟩:=zQ hb hw'
 replace Ab:=zC hk Ab
 replace Ac:=zC hk Ac
 replace Ad:=zC hk Ad
 clear Ai Aj Ak Al Am An Ao Ap Aq Ae Af Ag Ah Ar As At Au
 replace a0:=zB hk a0
 replace a1:=zB hk a1
 replace a2:=zB hk a2
 replace a3:=zB hk a3
 obtain ⟨Ai,Aj,Ak⟩:=ce3 a0
 obtain ⟨Al,Am,An⟩:=ce3 a1
 obtain ⟨Ao,Ap,Aq⟩:=ce3 a2
 obtain ⟨Ae,Ar,Af,As,Ag,At,Ah,Au⟩:=cf4 a3
 clear Bc Bd Be Aw Ax Ay Az A0 A1 A2 A3 A4 A5 A6 A7 A8 A9 Ba Bb
 clear hk hw'
 go_upto_region 4 with (go_at_call 69;with_reducible refine (zL hb (C4.out _ (R.below hb))).mono ?_;clear hb;rintro e w1 ⟨rfl,hk,hb⟩;replace Ab:=zC hk Ab;replace Ac:=zC hk Ac;replace Ad:=zC hk Ad;clear Ai Aj Ak Al Am An Ao Ap Aq Ae Af Ag Ah Ar As At Au;replace a0:=zB hk a0;replace a1:=zB hk a1;replace a2:=zB hk a2;replace a3:=zB hk a3;obtain ⟨Ai,Aj,Ak⟩:=ce3 a0;obtain ⟨Al,Am,An⟩:=ce3 a1;obtain ⟨Ao,Ap,Aq⟩:=ce3 a2;obtain ⟨Ae,Ar,Af,As,Ag,At,Ah,Au⟩:=cf4 a3;clear hk)
 have Aw:=zR Ab
 have Ax:=zR Ac
 have Ay:=zR Ad
 obtain ⟨Az,A0,A1⟩:=cy3 a0
 obtain ⟨A2,A3,A4⟩:=cy3 a1
 obtain ⟨A5,A6,A7⟩:=cy3 a2
 obtain ⟨A8,A9,Ba,Bb⟩:=cy4 a3
 have Bi:=rrV C5 R hb
 have Bj:=rrV C6 R hb
 have Bk:=rrV C7 R hb
 have Bf:=qqV C5 R hb
 have Bg:=qqV C6 R hb
 have Bh:=qqV C7 R hb
 refine wp_free1 7 0 (fun i=>if i=7 then Obj.cells #[Value.string ⟨#[]⟩,Value.string ⟨#[]⟩,Value.string ⟨#[]⟩] 24 else Obj.cells #[] 0) (fun i=>if i=7 then Obj.cells #[Value.string t0,Value.string t1,Value.string t2] 24 else Obj.cells #[] 0) (some 9) (by first | assumption | kernel_rfl) (by kernel_rfl) ?lay rfl ?_
 case lay =>
   intro i h1 h2
   obtain rfl:i=7:=by omega
   all_goals exact ⟨_,rfl,rfl,fun a w=>(by first | (go_simp;done) | (go_simp;rfl))⟩
 simp only [List.take_succ_cons,List.take_zero]
 repeat (refine wpB_step (fun K hK=>?_);go_simp;first | (refine hK _ ?_;clear hK K) | (apply Exists.intro;refine ⟨fun _=>?_,hK _ ?_⟩;(first | (with_reducible exact Bf.out _ _) | (with_reducible exact Bg.out _ _) | (with_reducible exact Bh.out _ _));clear hK K))
 refine wpB_nil ?_
 intro Aa
 refine ⟨?_,?_⟩
 · refine ⟨_,rfl,rfl,rfl,fun cs b h=>(by cases h),fun w hw=>?_⟩
   replace hw:w.heap[Aa]? = some (Obj.cells #[Value.string ⟨#[]⟩,Value.string ⟨#[]⟩,Value.string ⟨#[]⟩] 24):=hw
   have z0:w.cell? ⟨Aa,0,none⟩=some (Value.string ⟨#[]⟩):=zA hw
   have y0:w.frozen? ⟨Aa,0,none⟩=false:=zD hw
   have z1:w.cell? ⟨Aa,1,none⟩=some (Value.string ⟨#[]⟩):=zA hw
   have y1:w.frozen? ⟨Aa,1,none⟩=false:=zD hw
   have z2:w.cell? ⟨Aa,2,none⟩=some (Value.string ⟨#[]⟩):=zA hw
   have y2:w.frozen? ⟨Aa,2,none⟩=false:=zD hw
   refine ⟨_,?_,(Wrote.set (i:=2) (Wrote.set (i:=1) (Wrote.set (i:=0) (Wrote.refl hw) (Value.string t0)) (Value.string t1)) (Value.string t2))⟩
   go_simp
 intro w1 hk m0 Av
 replace Ab:=zC hk Ab
 replace Ac:=zC hk Ac
 replace Ad:=zC hk Ad
 clear Ai Aj Ak Al Am An Ao Ap Aq Ae Af Ag Ah Ar As At Au
 replace a0:=zB hk a0
 replace a1:=zB hk a1
 replace a2:=zB hk a2
 replace a3:=zB hk a3
 obtain ⟨Ai,Aj,Ak⟩:=ce3 a0
 obtain ⟨Al,Am,An⟩:=ce3 a1
 obtain ⟨Ao,Ap,Aq⟩:=ce3 a2
 obtain ⟨Ae,Ar,Af,As,Ag,At,Ah,Au⟩:=cf4 a3
 replace hb:=hb.trans (hk.mono hb.size)
 clear hk
 replace Av:w1.heap[Aa]? = some (Obj.cells #[Value.string t0,Value.string t1,Value.string t2] 24):=Av
 have Bl:w1.cell? ⟨Aa,0,none⟩=some (Value.string t0):=zA Av
 have Bm:w1.cell? ⟨Aa,1,none⟩=some (Value.string t1):=zA Av
 have Bn:w1.cell? ⟨Aa,2,none⟩=some (Value.string t2):=zA Av
 clear Bf Bg Bh Bi Bj Bk Aw Ax Ay Az A0 A1 A2 A3 A4 A5 A6 A7 A8 A9 Ba Bb m0
 go_wp2
 refine bodyPost_ret (v:=.tuple #[.agg #[.string ⟨#[]⟩,.string ⟨#[]⟩,.string ⟨#[]⟩,.string ⟨#[]⟩],.int .i64 18]) (by simp [results,Tryz.results62,go_sem,Ae,Af,Ag,Ah]) rfl ⟨rfl,?_⟩
 repeat' (first | exact hb | refine Below.setCell ?_ (by first | exact Nat.le_refl _ | (dsimp only;omega)) _)
end Go.Proofs.YtpennccflalobaaGreatDoor.Kl
