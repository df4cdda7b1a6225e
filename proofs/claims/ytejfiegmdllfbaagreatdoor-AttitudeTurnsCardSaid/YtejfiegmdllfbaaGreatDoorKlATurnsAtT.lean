import Derived.Test.YtejfiegmdllfbaaGreatDoorKlATurnsAtP
namespace Go.Proofs.YtejfiegmdllfbaaGreatDoor.Kl
open Go Go.RowKit
set_option maxRecDepth 100000
set_option maxHeartbeats 8000000
theorem flat_ok (a b c x y z:Rat) (r1:a≠0∨b≠0∨c≠0) (r2:RL a 200) (r3:RL b 200) (r4:RL c 200) (r5:x≠0∨y≠0∨z≠0) (r6:RL x 200) (r7:RL y 200) (r8:RL z 200) (r9:RL a 10000) (r10:RL b 10000) (r11:RL (a*a) 10000) (r12:RL (b*b) 10000) (r13:RL c 10000) (r14:RL x 10000) (r15:RL y 10000) (r16:RL (x*x) 10000) (r17:RL (y*y) 10000) (r18:RL z 10000) (r19:RL ((a*a)+(b*b)) 10000) (r20:RL (z*z) 10000) (r21:RL ((x*x)+(y*y)) 10000) (r22:RL (c*c) 10000) (r23:RL (((a*a)+(b*b))*(z*z)) 10000) (r24:RL (((x*x)+(y*y))*(c*c)) 10000) (w:World) (R:EnvV w) :
   Calls Tryz.prog 40 #[.agg #[.string (ratB a),.string (ratB b),.string (ratB c)],.agg #[.string (ratB x),.string (ratB y),.string (ratB z)]] w (Ret w (.tuple #[.int .i64 ((((a*a)+(b*b))*(z*z)) - (((x*x)+(y*y))*(c*c))).num.sign,.int .i64 0])):=by
 have c1:=acheck_ok a b c r1 r2 r3 r4
 have c2:=acheck_ok x y z r5 r6 r7 r8
 have c3:=fun (w:World) (R:EnvV w)=>orErr2 0 0 0 (by decide) w R.toEnvR
 have c4:=rise_any a b c r9 r10 r11 r12 r13
 have c5:=rise_any x y z r14 r15 r16 r17 r18
 have c6:=fun (w:World) (R:EnvV w)=>rmul_any ((a*a)+(b*b)) (z*z) r19 r20 w R.toEnvR
 have c7:=fun (w:World) (R:EnvV w)=>rmul_any ((x*x)+(y*y)) (c*c) r21 r22 w R.toEnvR
 have c8:=fun (w:World) (R:EnvV w)=>rcompare_any (((a*a)+(b*b))*(z*z)) (((x*x)+(y*y))*(c*c)) r23 r24 w R.toEnvR
 obtain ⟨A0,Ag⟩:∃ vq,ratB (((a*a)+(b*b))*(z*z))=vq:=⟨_,rfl⟩
 obtain ⟨A1,Ah⟩:∃ vq,ratB (((x*x)+(y*y))*(c*c))=vq:=⟨_,rfl⟩
 obtain ⟨A2,Ai⟩:∃ vq,ratB ((a*a)+(b*b))=vq:=⟨_,rfl⟩
 obtain ⟨A3,Aj⟩:∃ vq,ratB ((x*x)+(y*y))=vq:=⟨_,rfl⟩
 obtain ⟨A4,Ak⟩:∃ vq,ratB (c*c)=vq:=⟨_,rfl⟩
 obtain ⟨A5,Al⟩:∃ vq,ratB (z*z)=vq:=⟨_,rfl⟩
 obtain ⟨A6,Am⟩:∃ vq,ratB a=vq:=⟨_,rfl⟩
 obtain ⟨A7,An⟩:∃ vq,ratB b=vq:=⟨_,rfl⟩
 obtain ⟨A8,Ao⟩:∃ vq,ratB c=vq:=⟨_,rfl⟩
 obtain ⟨A9,Ap⟩:∃ vq,ratB x=vq:=⟨_,rfl⟩
 obtain ⟨Ba,Aq⟩:∃ vq,ratB y=vq:=⟨_,rfl⟩
 obtain ⟨Bb,Ar⟩:∃ vq,ratB z=vq:=⟨_,rfl⟩
 try simp only [Ag,Ah,Ai,Aj,Ak,Al,Am,An,Ao,Ap,Aq,Ar] at c1 c2 c3 c4 c5 c6 c7 c8 ⊢
 have C1:=Lib.hid c1
 have C2:=Lib.hid c2
 have C3:=Lib.hid c3
 have C4:=Lib.hid c4
 have C5:=Lib.hid c5
 have C6:=Lib.hid c6
 have C7:=Lib.hid c7
 have C8:=Lib.hid c8
 clear c1 c2 c3 c4 c5 c6 c7 c8 Ag Ah Ai Aj Ak Al Am An Ao Ap Aq Ar r1 r2 r3 r4 r5 r6 r7 r8 r9 r10 r11 r12 r13 r14 r15 r16 r17 r18 r19 r20 r21 r22 r23 r24
 have hb:=Below.refl w.heap.size w
 go_enter Tryz.func40,Tryz.ntmps40
 go_upto_region 1 with fail
 refine wp_alloc2 (fun w1 a0 a1 hk=>?_)
 replace hb:=hb.trans (hk.mono hb.size)
 clear hk
 obtain ⟨Ad,Ae,Af⟩:=ce3 a0
 obtain ⟨Aa,Ab,Ac⟩:=ce3 a1
 go_upto_region 1 with fail
 obtain ⟨Au,Av,Aw⟩:=cy3 a0
 obtain ⟨Ax,Ay,Az⟩:=cy3 a1
 have As:=rrV C1 R hb
 have At:=rrV C2 R hb
 refine wp_region_tail_below 4 (by first | assumption | kernel_rfl) (by kernel_rfl) ?_
 simp only [List.take_succ_cons,List.take_zero,List.drop_succ_cons,List.drop_zero]
 repeat (quiet_step (first | (with_reducible exact As.out _ _) | (with_reducible exact At.out _ _)))
 refine wpQuiet_nil ?_
 intro w1 hw'
 obtain ⟨hk,hb⟩:=zQ hb hw'
 clear Ad Ae Af Aa Ab Ac
 replace a0:=zB hk a0
 replace a1:=zB hk a1
 obtain ⟨Ad,Ae,Af⟩:=ce3 a0
 obtain ⟨Aa,Ab,Ac⟩:=ce3 a1
 clear As At Au Av Aw Ax Ay Az
 clear hk hw'
 go_wp2_with (first | ((first | (go_at_call 68;with_reducible refine (zL hb (C3.out _ (R.below hb))).mono ?_) | (go_at_call 84;with_reducible refine (chVB hb R C4).mono ?_));clear hb;rintro e w1 ⟨rfl,hk,hb⟩;clear Ad Ae Af Aa Ab Ac;replace a0:=zB hk a0;replace a1:=zB hk a1;obtain ⟨Ad,Ae,Af⟩:=ce3 a0;obtain ⟨Aa,Ab,Ac⟩:=ce3 a1;clear hk) | (go_at_call 84;with_reducible refine (chVB hb R C5).mono ?_;clear hb;rintro e w1 ⟨rfl,hk,hb⟩;clear Aa Ab Ac;replace a1:=zB hk a1;obtain ⟨Aa,Ab,Ac⟩:=ce3 a1;clear hk) | ((first | (go_at_call 23;first | with_reducible refine (chVB hb R C6).mono ?_ | with_reducible refine (chVB hb R C7).mono ?_) | (go_at_call 31;with_reducible refine (chVB hb R C8).mono ?_));clear hb;rintro e w1 ⟨rfl,hk,hb⟩;clear hk))
 first | go_ret | go_ret2 | go_ret3
 exact ⟨rfl,hb⟩
theorem whole_k  (n:Int) (x:Rat) (hn : -9≤n∧n≤9) (hx:Rat.divInt n 1=x) (w:World) (R:EnvV w) :
   Calls Tryz.prog 82 #[.int .i64 n] w (Ret w (.string (ratB x))):=by
 have c1:CV 116 #[.int .i64 n,.int .i64 1] (.tuple #[.string (ratB x),.int .i64 0]):=fun w R=>(by have h:=rof_any n 1 (by omega) (by omega) (by decide) (by decide) (by decide) w R.toEnvR;rw [hx] at h;exact h)
 obtain ⟨Ab,Aa⟩:∃ vq,ratB x=vq:=⟨_,rfl⟩
 try simp only [Aa] at c1 ⊢
 have C1:=Lib.hid c1
 clear c1 Aa hn hx
 have hb:=Below.refl w.heap.size w
 go_enter Tryz.func82,Tryz.ntmps82
 go_wp2_with (go_at_call 116;with_reducible refine (chVB hb R C1).mono ?_;clear hb;rintro e w1 ⟨rfl,hk,hb⟩;clear hk)
 first | go_ret | go_ret2 | go_ret3
 exact ⟨rfl,hb⟩
def IsD (i:Int) (x:Rat):Prop:=(-128≤i∧i≤127)∧Rat.divInt (i.tmod 10) 1=x
theorem tmod10 (i:Int) : -9≤i.tmod 10∧i.tmod 10≤9:=by
 have h:=Int.natAbs_tmod i 10
 have h2:=Nat.mod_lt i.natAbs (show 0 < (10:Int).natAbs by decide)
 have h3:(10:Int).natAbs=10:=rfl
 omega
theorem IsD.rn {i:Int} {x:Rat} (h:IsD i x):RN x 1 1:=h.2 ▸ RN_mk (i.tmod 10) 1 1 1 (by decide) (by decide) (by decide) (dlen_le _ 1 (by decide) (by have:=tmod10 i;omega)) (by decide +kernel)
theorem vector_any  (i0 i1 i2:Int) (x0 x1 x2:Rat) (k0:IsD i0 x0) (k1:IsD i1 x1) (k2:IsD i2 x2) (w:World) (R:EnvV w) :
   Calls Tryz.prog 39 #[.agg #[.int .i8 i0,.int .i8 i1,.int .i8 i2]] w (Ret w (.agg #[.string (ratB x0),.string (ratB x1),.string (ratB x2)])):=by
 have c1:=whole_k (i0.tmod 10) x0 (tmod10 i0) k0.2
 have c2:=whole_k (i1.tmod 10) x1 (tmod10 i1) k1.2
 have c3:=whole_k (i2.tmod 10) x2 (tmod10 i2) k2.2
 have gb0 : -128≤i0∧i0≤127:=k0.1
 have gt0 : -9≤i0.tmod 10∧i0.tmod 10≤9:=tmod10 i0
 have gw0:IntKind.i64.wrap (i0.tmod 10)=i0.tmod 10:=IntWalk.i64_in _ (by have:=tmod10 i0;omega)
 have gv0:IntKind.i64.wrap i0=i0:=IntWalk.i64_in _ (by have:=k0.1;omega)
 have gb1 : -128≤i1∧i1≤127:=k1.1
 have gt1 : -9≤i1.tmod 10∧i1.tmod 10≤9:=tmod10 i1
 have gw1:IntKind.i64.wrap (i1.tmod 10)=i1.tmod 10:=IntWalk.i64_in _ (by have:=tmod10 i1;omega)
 have gv1:IntKind.i64.wrap i1=i1:=IntWalk.i64_in _ (by have:=k1.1;omega)
 have gb2 : -128≤i2∧i2≤127:=k2.1
 have gt2 : -9≤i2.tmod 10∧i2.tmod 10≤9:=tmod10 i2
 have gw2:IntKind.i64.wrap (i2.tmod 10)=i2.tmod 10:=IntWalk.i64_in _ (by have:=tmod10 i2;omega)
 have gv2:IntKind.i64.wrap i2=i2:=IntWalk.i64_in _ (by have:=k2.1;omega)
 obtain ⟨Ap,Ad⟩:∃ vq,ratB x0=vq:=⟨_,rfl⟩
 obtain ⟨Aq,Ae⟩:∃ vq,ratB x1=vq:=⟨_,rfl⟩
 obtain ⟨Ar,Af⟩:∃ vq,ratB x2=vq:=⟨_,rfl⟩
 try simp only [Ad,Ae,Af] at c1 c2 c3 gb0 gt0 gw0 gv0 gb1 gt1 gw1 gv1 gb2 gt2 gw2 gv2 ⊢
 have C1:=Lib.hid c1
 have C2:=Lib.hid c2
 have C3:=Lib.hid c3
 clear c1 c2 c3 Ad Ae Af k0 k1 k2
 have hb:=Below.refl w.heap.size w
 go_enter Tryz.func39,Tryz.ntmps39
 go_upto_region 1 with fail
 refine wp_alloc2 (fun w1 a0 a1 hk=>?_)
 replace hb:=hb.trans (hk.mono hb.size)
 clear hk
 obtain ⟨Ag,Ah,Ai⟩:=ce3 a0
 obtain ⟨Aa,Aj,Ab,Ak,Ac,Al⟩:=cf3 a1
 go_upto_region 1 with fail
 obtain ⟨As,At,Au⟩:=cy3 a0
 obtain ⟨Av,Aw,Ax⟩:=cy3 a1
 have Am:=rrV C1 R hb
 have An:=rrV C2 R hb
 have Ao:=rrV C3 R hb
 refine wp_region_tail_below 16 (by first | assumption | kernel_rfl) (by kernel_rfl) ?_
 simp only [List.take_succ_cons,List.take_zero,List.drop_succ_cons,List.drop_zero]
 repeat (quiet_step (first | (with_reducible exact Am.out _ _) | (with_reducible exact An.out _ _) | (with_reducible exact Ao.out _ _)))
 refine wpQuiet_nil ?_
 intro w1 hw'
 obtain ⟨hk,hb⟩:=zQ hb hw'
 clear Ag Ah Ai Aa Ab Ac Aj Ak Al
 replace a0:=zB hk a0
 replace a1:=zB hk a1
 obtain ⟨Ag,Ah,Ai⟩:=ce3 a0
 obtain ⟨Aa,Aj,Ab,Ak,Ac,Al⟩:=cf3 a1
 clear Am An Ao As At Au Av Aw Ax
 clear hk hw'
 go_wp2
 refine bodyPost_ret (v:=.agg #[.string Ap,.string Aq,.string Ar]) (by simp [results,Tryz.results39,go_sem,Aa,Ab,Ac]) rfl ⟨rfl,?_⟩
 repeat' (first | exact hb | refine Below.setCell ?_ (by first | exact Nat.le_refl _ | (dsimp only;omega)) _)
end Go.Proofs.YtejfiegmdllfbaaGreatDoor.Kl
