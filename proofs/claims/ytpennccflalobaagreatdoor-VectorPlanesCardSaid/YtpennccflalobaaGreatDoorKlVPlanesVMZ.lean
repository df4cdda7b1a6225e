import Derived.Test.YtpennccflalobaaGreatDoorKlVPlanesRatCZ
import Derived.Test.YtpennccflalobaaGreatDoorKlVPlanesFree2
import Derived.Test.YtpennccflalobaaGreatDoorKlBVEZ
namespace Go.Proofs.YtpennccflalobaaGreatDoor.Kl
open Go Go.RowKit
set_option maxRecDepth 100000
set_option maxHeartbeats 8000000
theorem RN_field (a b:Int) (_ha : -32768≤a∧a≤32767) (_hb:0≤b∧b≤255):RN (fieldQ a b) 5 3:=
 RN_mk _ _ 5 3 (by decide) (by decide) (by omega) (dlen_le _ 5 (by decide) (by omega)) (dlen_le _ 3 (by decide) (by omega))
end Go.Proofs.YtpennccflalobaaGreatDoor.Kl
namespace Go.Proofs.YtpennccflalobaaGreatDoor.Kl
open Go Go.RowKit
set_option maxRecDepth 100000
set_option maxHeartbeats 8000000
set_option maxRecDepth 512 in
theorem orErr3 (a0 a1 a2:Int) (v:Int) (hv:firstNZ [a0,a1,a2]=v) (w:World) (_R:EnvR w) :
   Calls Tryz.prog 69 #[.slice (some ⟨w.heap.size,0,none⟩) 3 3] (w.alloc (Obj.cells #[Value.int .i64 a0,Value.int .i64 a1,Value.int .i64 a2] 31)) (Ret w (.int .i64 v)):=by
 have hba:Below w.heap.size w (w.alloc (Obj.cells #[Value.int .i64 a0,Value.int .i64 a1,Value.int .i64 a2] 31)):=(Below.refl _ _).alloc (Nat.le_refl _) _
 refine (orErr_w w.heap.size 3 3 [a0,a1,a2] rfl (by decide) v hv _ ?_).mono fun e w' h=>⟨h.1,hba.trans (h.2.mono hba.size)⟩
 intro j t h
 match j,h with
 | 0,h=>injection h with h;subst h;simp [go_sem]
 | 1,h=>injection h with h;subst h;simp [go_sem]
 | 2,h=>injection h with h;subst h;simp [go_sem]
 | j+3,h=>simp at h
end Go.Proofs.YtpennccflalobaaGreatDoor.Kl
namespace Go.Proofs.YtpennccflalobaaGreatDoor.Kl
open Go Go.RowKit
set_option maxRecDepth 100000
set_option maxHeartbeats 8000000
theorem resPl_w (w:World) (R:EnvR w) (s0 s1 s2 s3:ByteArray) (blk n c:Nat) (h:∀ w0:World,Below w.heap.size w w0→EnvR w0→Calls Tryz.prog 123 #[.slice (some ⟨blk,0,none⟩) n c,.func (Fn.func 124) #[] #[]] w0 fun e w' => e = .returned (.bool false)∧Below w0.heap.size w0 w') :
   Calls Tryz.prog 112 #[.agg #[.string s0,.string s1,.string s2,.string s3],.slice (some ⟨blk,0,none⟩) n c] w (Ret w (.tuple #[.agg #[.string s0,.string s1,.string s2,.string s3],.int .i64 0])):=by
 have H:=Lib.hid h
 clear h
 have hb:=Below.refl w.heap.size w
 go_enter Tryz.func112,Tryz.ntmps112
 go_upto_region 1 with fail
 refine wp_alloc2 (fun w1 a0 a1 hk=>?_)
 replace hb:=hb.trans (hk.mono hb.size)
 clear hk
 obtain ⟨Ae,Af,Ag,Ah⟩:=ce4 a0
 obtain ⟨Aa,Ai,Ab,Aj,Ac,Ak,Ad,Al⟩:=cf4 a1
 go_wp2_with (go_at_call 123;(with_reducible refine (zK hb (H.out _ hb (R.below hb))).mono ?_);clear hb;rintro e w1 ⟨rfl,hk,hb⟩;replace Ai:=zF hk a1 Ai;replace Aj:=zF hk a1 Aj;replace Ak:=zF hk a1 Ak;replace Al:=zF hk a1 Al;replace Ae:=zC hk Ae;replace Af:=zC hk Af;replace Ag:=zC hk Ag;replace Ah:=zC hk Ah;replace Aa:=zC hk Aa;replace Ab:=zC hk Ab;replace Ac:=zC hk Ac;replace Ad:=zC hk Ad;clear hk)
 refine bodyPost_ret (v:=.tuple #[.agg #[.string s0,.string s1,.string s2,.string s3],.int .i64 0]) (by simp [results,Tryz.results112,go_sem,Aa,Ab,Ac,Ad]) rfl ⟨rfl,?_⟩
 repeat' (first | exact hb | refine Below.setCell ?_ (by first | exact Nat.le_refl _ | (dsimp only;omega)) _)
set_option maxRecDepth 512 in
theorem resPl (s0 s1 s2 s3 t0 t1 t2 t3:ByteArray) (hm:∀ t,t ∈ [t0,t1,t2,t3]→∃ q:Rat,t=ratB q∧RL q 200) (w:World) (R:EnvR w) :
   Calls Tryz.prog 112 #[.agg #[.string s0,.string s1,.string s2,.string s3],.slice (some ⟨w.heap.size,0,none⟩) 4 4] (w.alloc (Obj.cells #[Value.string t0,Value.string t1,Value.string t2,Value.string t3] 22)) (Ret w (.tuple #[.agg #[.string s0,.string s1,.string s2,.string s3],.int .i64 0])):=by
 have hba:Below w.heap.size w (w.alloc (Obj.cells #[Value.string t0,Value.string t1,Value.string t2,Value.string t3] 22)):=(Below.refl _ _).alloc (Nat.le_refl _) _
 refine (resPl_w _ (R.below hba) s0 s1 s2 s3 w.heap.size 4 4 (fun w0 hb R0=>containsLong_w w.heap.size 4 4 [t0,t1,t2,t3] rfl (by decide) w0 R0 hm ?_)).mono fun e w' h=>⟨h.1,hba.trans (h.2.mono hba.size)⟩
 intro j t h
 refine zC hb ?_
 match j,h with
 | 0,h=>injection h with h;subst h;simp [go_sem]
 | 1,h=>injection h with h;subst h;simp [go_sem]
 | 2,h=>injection h with h;subst h;simp [go_sem]
 | 3,h=>injection h with h;subst h;simp [go_sem]
 | j+4,h=>simp at h
theorem q_subm (a b:Rat):a+b * -1=a - b:=by grind
theorem refVAdd (a b c x y z:Rat) (r1:RL a 400) (r2:RL x 400) (r3:RL b 400) (r4:RL y 400) (r5:RL c 400) (r6:RL z 400) (w:World) (R:EnvR w) :
   Calls Tryz.prog 33 #[.agg #[.string (ratB a),.string (ratB b),.string (ratB c)],.agg #[.string (ratB x),.string (ratB y),.string (ratB z)]] w (Ret w (.agg #[.string (ratB (a+x)),.string (ratB (b+y)),.string (ratB (c+z))])):=by
 have c1:=fun (w:World) (R:EnvR w)=>refRAdd_any a x w R r1 r2
 have c2:=fun (w:World) (R:EnvR w)=>refRAdd_any b y w R r3 r4
 have c3:=fun (w:World) (R:EnvR w)=>refRAdd_any c z w R r5 r6
 have C1:=Lib.hid c1
 have C2:=Lib.hid c2
 have C3:=Lib.hid c3
 clear c1 c2 c3 r1 r2 r3 r4 r5 r6
 have hb:=Below.refl w.heap.size w
 go_enter Tryz.func33,Tryz.ntmps33
 go_upto_region 1 with fail
 refine wp_alloc3 (fun w1 a0 a1 a2 hk=>?_)
 replace hb:=hb.trans (hk.mono hb.size)
 clear hk
 obtain ⟨Ad,Ae,Af⟩:=ce3 a0
 obtain ⟨Ag,Ah,Ai⟩:=ce3 a1
 obtain ⟨Aa,Aj,Ab,Ak,Ac,Al⟩:=cf3 a2
 go_upto_region 1 with fail
 obtain ⟨Ap,Aq,Ar⟩:=cy3 a0
 obtain ⟨As,At,Au⟩:=cy3 a1
 obtain ⟨Av,Aw,Ax⟩:=cy3 a2
 have Am:=rrR C1 R hb
 have An:=rrR C2 R hb
 have Ao:=rrR C3 R hb
 refine wp_region_tail_below 16 (by first | assumption | kernel_rfl) (by kernel_rfl) ?_
 simp only [List.take_succ_cons,List.take_zero,List.drop_succ_cons,List.drop_zero]
 repeat (quiet_step (first | (with_reducible exact Am.out _ _) | (with_reducible exact An.out _ _) | (with_reducible exact Ao.out _ _)))
 refine wpQuiet_nil ?_
 intro w1 hw'
 obtain ⟨hk,hb⟩:=zQ hb hw'
 clear Ad Ae Af Ag Ah Ai Aa Ab Ac Aj Ak Al
 replace a0:=zB hk a0
 replace a1:=zB hk a1
 replace a2:=zB hk a2
 obtain ⟨Ad,Ae,Af⟩:=ce3 a0
 obtain ⟨Ag,Ah,Ai⟩:=ce3 a1
 obtain ⟨Aa,Aj,Ab,Ak,Ac,Al⟩:=cf3 a2
 clear Am An Ao Ap Aq Ar As At Au Av Aw Ax
 clear hk hw'
 go_wp2
 refine bodyPost_ret (v:=.agg #[.string (ratB (a+x)),.string (ratB (b+y)),.string (ratB (c+z))]) (by simp [results,Tryz.results33,go_sem,Aa,Ab,Ac]) rfl ⟨rfl,?_⟩
 repeat' (first | exact hb | refine Below.setCell ?_ (by first | exact Nat.le_refl _ | (dsimp only;omega)) _)
theorem refVScale (a b c k:Rat) (r1:RL a 400) (r2:RL k 400) (r3:RL b 400) (r4:RL c 400) (w:World) (R:EnvR w) :
   Calls Tryz.prog 35 #[.agg #[.string (ratB a),.string (ratB b),.string (ratB c)],.string (ratB k)] w (Ret w (.agg #[.string (ratB (a*k)),.string (ratB (b*k)),.string (ratB (c*k))])):=by
 have c1:=fun (w:World) (R:EnvR w)=>refRMul_any a k w R r1 r2
 have c2:=fun (w:World) (R:EnvR w)=>refRMul_any b k w R r3 r2
 have c3:=fun (w:World) (R:EnvR w)=>refRMul_any c k w R r4 r2
 have C1:=Lib.hid c1
 have C2:=Lib.hid c2
 have C3:=Lib.hid c3
 clear c1 c2 c3 r1 r2 r3 r4
 have hb:=Below.refl w.heap.size w
 go_enter Tryz.func35,Tryz.ntmps35
 go_upto_region 1 with fail
 refine wp_alloc2 (fun w1 a0 a1 hk=>?_)
 replace hb:=hb.trans (hk.mono hb.size)
 clear hk
 obtain ⟨Ad,Ae,Af⟩:=ce3 a0
 obtain ⟨Aa,Ag,Ab,Ah,Ac,Ai⟩:=cf3 a1
 go_upto_region 1 with fail
 obtain ⟨Am,An,Ao⟩:=cy3 a0
 obtain ⟨Ap,Aq,Ar⟩:=cy3 a1
 have Aj:=rrR C1 R hb
 have Ak:=rrR C2 R hb
 have Al:=rrR C3 R hb
 refine wp_region_tail_below 13 (by first | assumption | kernel_rfl) (by kernel_rfl) ?_
 simp only [List.take_succ_cons,List.take_zero,List.drop_succ_cons,List.drop_zero]
 repeat (quiet_step (first | (with_reducible exact Aj.out _ _) | (with_reducible exact Ak.out _ _) | (with_reducible exact Al.out _ _)))
 refine wpQuiet_nil ?_
 intro w1 hw'
 obtain ⟨hk,hb⟩:=zQ hb hw'
 clear Ad Ae Af Aa Ab Ac Ag Ah Ai
 replace a0:=zB hk a0
 replace a1:=zB hk a1
 obtain ⟨Ad,Ae,Af⟩:=ce3 a0
 obtain ⟨Aa,Ag,Ab,Ah,Ac,Ai⟩:=cf3 a1
 clear Aj Ak Al Am An Ao Ap Aq Ar
 clear hk hw'
 go_wp2
 refine bodyPost_ret (v:=.agg #[.string (ratB (a*k)),.string (ratB (b*k)),.string (ratB (c*k))]) (by simp [results,Tryz.results35,go_sem,Aa,Ab,Ac]) rfl ⟨rfl,?_⟩
 repeat' (first | exact hb | refine Below.setCell ?_ (by first | exact Nat.le_refl _ | (dsimp only;omega)) _)
theorem refVSub (a b c x y z:Rat) (r1:RL x 400) (r2:RL y 400) (r3:RL z 400) (r4:RL a 400) (r5:RL (x*(-1:Rat)) 400) (r6:RL b 400) (r7:RL (y*(-1:Rat)) 400) (r8:RL c 400) (r9:RL (z*(-1:Rat)) 400) (w:World) (R:EnvR w) :
   Calls Tryz.prog 34 #[.agg #[.string (ratB a),.string (ratB b),.string (ratB c)],.agg #[.string (ratB x),.string (ratB y),.string (ratB z)]] w (Ret w (.agg #[.string (ratB (a - x)),.string (ratB (b - y)),.string (ratB (c - z))])):=by
 have c1:CR 35 #[.agg #[.string (ratB x),.string (ratB y),.string (ratB z)],.string ⟨#[45,49]⟩] (.agg #[.string (ratB (x*(-1:Rat))),.string (ratB (y*(-1:Rat))),.string (ratB (z*(-1:Rat)))]):=fun w R=>(by have h:=refVScale x y z (-1:Rat) r1 (RN.rl (K:=400) rn_m1) r2 r3 w R;simp only [rb_m1] at h;exact h)
 have c2:CR 33 #[.agg #[.string (ratB a),.string (ratB b),.string (ratB c)],.agg #[.string (ratB (x*(-1:Rat))),.string (ratB (y*(-1:Rat))),.string (ratB (z*(-1:Rat)))]] (.agg #[.string (ratB (a - x)),.string (ratB (b - y)),.string (ratB (c - z))]):=fun w R=>(by have h:=refVAdd a b c (x*(-1:Rat)) (y*(-1:Rat)) (z*(-1:Rat)) r4 r5 r6 r7 r8 r9 w R;rwa [q_subm,q_subm,q_subm] at h)
 have C1:=Lib.hid c1
 have C2:=Lib.hid c2
 clear c1 c2 r1 r2 r3 r4 r5 r6 r7 r8 r9
 have hb:=Below.refl w.heap.size w
 go_enter Tryz.func34,Tryz.ntmps34
 go_upto_region 1 with fail
 refine wp_alloc3 (fun w1 a0 a1 a2 hk=>?_)
 replace hb:=hb.trans (hk.mono hb.size)
 clear hk
 obtain ⟨Ad,Ae,Af⟩:=ce3 a0
 obtain ⟨Ag,Ah,Ai⟩:=ce3 a1
 obtain ⟨Aa,Aj,Ab,Ak,Ac,Al⟩:=cf3 a2
 go_upto_region 1 with fail
 obtain ⟨Ao,Ap,Aq⟩:=cy3 a0
 obtain ⟨Ar,As,At⟩:=cy3 a1
 obtain ⟨Au,Av,Aw⟩:=cy3 a2
 have Am:=rrR C1 R hb
 have An:=rrR C2 R hb
 refine wp_region_tail_below 4 (by first | assumption | kernel_rfl) (by kernel_rfl) ?_
 simp only [List.take_succ_cons,List.take_zero,List.drop_succ_cons,List.drop_zero]
 repeat (quiet_step (first | (with_reducible exact Am.out _ _) | (with_reducible exact An.out _ _)))
 refine wpQuiet_nil ?_
 intro w1 hw'
 obtain ⟨hk,hb⟩:=zQ hb hw'
 clear Ad Ae Af Ag Ah Ai Aa Ab Ac Aj Ak Al
 replace a0:=zB hk a0
 replace a1:=zB hk a1
 replace a2:=zB hk a2
 obtain ⟨Ad,Ae,Af⟩:=ce3 a0
 obtain ⟨Ag,Ah,Ai⟩:=ce3 a1
 obtain ⟨Aa,Aj,Ab,Ak,Ac,Al⟩:=cf3 a2
 clear Am An Ao Ap Aq Ar As At Au Av Aw
 clear hk hw'
 go_wp2
 refine bodyPost_ret (v:=.agg #[.string (ratB (a - x)),.string (ratB (b - y)),.string (ratB (c - z))]) (by simp [results,Tryz.results34,go_sem,Aa,Ab,Ac]) rfl ⟨rfl,?_⟩
 repeat' (first | exact hb | refine Below.setCell ?_ (by first | exact Nat.le_refl _ | (dsimp only;omega)) _)
theorem refVDot (a b c x y z:Rat) (r1:RL a 400) (r2:RL x 400) (r3:RL b 400) (r4:RL y 400) (r5:RL c 400) (r6:RL z 400) (r7:RL (b*y) 400) (r8:RL (c*z) 400) (r9:RL (a*x) 400) (r10:RL ((b*y)+(c*z)) 400) (w:World) (R:EnvR w) :
   Calls Tryz.prog 36 #[.agg #[.string (ratB a),.string (ratB b),.string (ratB c)],.agg #[.string (ratB x),.string (ratB y),.string (ratB z)]] w (Ret w (.string (ratB ((a*x)+((b*y)+(c*z)))))):=by
 have c1:=fun (w:World) (R:EnvR w)=>refRMul_any a x w R r1 r2
 have c2:=fun (w:World) (R:EnvR w)=>refRMul_any b y w R r3 r4
 have c3:=fun (w:World) (R:EnvR w)=>refRMul_any c z w R r5 r6
 have c4:=fun (w:World) (R:EnvR w)=>refRAdd_any (b*y) (c*z) w R r7 r8
 have c5:=fun (w:World) (R:EnvR w)=>refRAdd_any (a*x) ((b*y)+(c*z)) w R r9 r10
 have C1:=Lib.hid c1
 have C2:=Lib.hid c2
 have C3:=Lib.hid c3
 have C4:=Lib.hid c4
 have C5:=Lib.hid c5
 clear c1 c2 c3 c4 c5 r1 r2 r3 r4 r5 r6 r7 r8 r9 r10
 have hb:=Below.refl w.heap.size w
 go_enter Tryz.func36,Tryz.ntmps36
 go_upto_region 1 with fail
 refine wp_alloc2 (fun w1 a0 a1 hk=>?_)
 replace hb:=hb.trans (hk.mono hb.size)
 clear hk
 obtain ⟨Aa,Ab,Ac⟩:=ce3 a0
 obtain ⟨Ad,Ae,Af⟩:=ce3 a1
 go_upto_region 1 with fail
 obtain ⟨Al,Am,An⟩:=cy3 a0
 obtain ⟨Ao,Ap,Aq⟩:=cy3 a1
 have Ag:=rrR C1 R hb
 have Ah:=rrR C2 R hb
 have Ai:=rrR C3 R hb
 have Aj:=rrR C4 R hb
 have Ak:=rrR C5 R hb
 refine wp_region_quiet_below (by first | assumption | kernel_rfl) (by kernel_rfl) ?_
 repeat (quiet_step (first | (with_reducible exact Ag.out _ _) | (with_reducible exact Ah.out _ _) | (with_reducible exact Ai.out _ _) | (with_reducible exact Aj.out _ _) | (with_reducible exact Ak.out _ _)))
 refine wpQuiet_nil ?_
 intro w1 hw'
 obtain ⟨hk,hb⟩:=zQ hb hw'
 clear Aa Ab Ac Ad Ae Af
 replace a0:=zB hk a0
 replace a1:=zB hk a1
 obtain ⟨Aa,Ab,Ac⟩:=ce3 a0
 obtain ⟨Ad,Ae,Af⟩:=ce3 a1
 clear Ag Ah Ai Aj Ak Al Am An Ao Ap Aq
 clear hk hw'
 go_wp2
 first | go_ret | go_ret2 | go_ret3
 exact ⟨rfl,hb⟩
theorem refMinor (a b c k:Rat) (r1:RL a 400) (r2:RL b 400) (r3:RL c 400) (r4:RL k 400) (r5:RL (a*b) 400) (r6:RL (c*k) 400) (w:World) (R:EnvR w) :
   Calls Tryz.prog 86 #[.string (ratB a),.string (ratB b),.string (ratB c),.string (ratB k)] w (Ret w (.string (ratB ((a*b) - (c*k))))):=by
 have c1:=fun (w:World) (R:EnvR w)=>refRMul_any a b w R r1 r2
 have c2:=fun (w:World) (R:EnvR w)=>refRMul_any c k w R r3 r4
 have c3:=refRSub_any (a*b) (c*k) r5 r6
 have C1:=Lib.hid c1
 have C2:=Lib.hid c2
 have C3:=Lib.hid c3
 clear c1 c2 c3 r1 r2 r3 r4 r5 r6
 have hb:=Below.refl w.heap.size w
 go_enter Tryz.func86,Tryz.ntmps86
 go_wp2_with ((first | (go_at_call 58;first | with_reducible refine (chRB hb R C1).mono ?_ | with_reducible refine (chRB hb R C2).mono ?_) | (go_at_call 55;with_reducible refine (chRB hb R C3).mono ?_));clear hb;rintro e w1 ⟨rfl,hk,hb⟩;clear hk)
 first | go_ret | go_ret2 | go_ret3
 exact ⟨rfl,hb⟩
theorem refVCross (a b c x y z:Rat) (r1:RL b 400) (r2:RL z 400) (r3:RL c 400) (r4:RL y 400) (r5:RL (b*z) 400) (r6:RL (c*y) 400) (r7:RL x 400) (r8:RL a 400) (r9:RL (c*x) 400) (r10:RL (a*z) 400) (r11:RL (a*y) 400) (r12:RL (b*x) 400) (w:World) (R:EnvR w) :
   Calls Tryz.prog 37 #[.agg #[.string (ratB a),.string (ratB b),.string (ratB c)],.agg #[.string (ratB x),.string (ratB y),.string (ratB z)]] w (Ret w (.agg #[.string (ratB ((b*z) - (c*y))),.string (ratB ((c*x) - (a*z))),.string (ratB ((a*y) - (b*x)))])):=by
 have c1:=refMinor b z c y r1 r2 r3 r4 r5 r6
 have c2:=refMinor c x a z r3 r7 r8 r2 r9 r10
 have c3:=refMinor a y b x r8 r4 r1 r7 r11 r12
 have C1:=Lib.hid c1
 have C2:=Lib.hid c2
 have C3:=Lib.hid c3
 clear c1 c2 c3 r1 r2 r3 r4 r5 r6 r7 r8 r9 r10 r11 r12
 have hb:=Below.refl w.heap.size w
 go_enter Tryz.func37,Tryz.ntmps37
 go_upto_region 1 with fail
 refine wp_alloc3 (fun w1 a0 a1 a2 hk=>?_)
 replace hb:=hb.trans (hk.mono hb.size)
 clear hk
 obtain ⟨Ad,Ae,Af⟩:=ce3 a0
 obtain ⟨Ag,Ah,Ai⟩:=ce3 a1
 obtain ⟨Aa,Aj,Ab,Ak,Ac,Al⟩:=cf3 a2
 go_upto_region 1 with fail
 obtain ⟨Ap,Aq,Ar⟩:=cy3 a0
 obtain ⟨As,At,Au⟩:=cy3 a1
 obtain ⟨Av,Aw,Ax⟩:=cy3 a2
 have Am:=rrR C1 R hb
 have An:=rrR C2 R hb
 have Ao:=rrR C3 R hb
 refine wp_region_tail_below 28 (by first | assumption | kernel_rfl) (by kernel_rfl) ?_
 simp only [List.take_succ_cons,List.take_zero,List.drop_succ_cons,List.drop_zero]
 repeat (quiet_step (first | (with_reducible exact Am.out _ _) | (with_reducible exact An.out _ _) | (with_reducible exact Ao.out _ _)))
 refine wpQuiet_nil ?_
 intro w1 hw'
 obtain ⟨hk,hb⟩:=zQ hb hw'
 clear Ad Ae Af Ag Ah Ai Aa Ab Ac Aj Ak Al
 replace a0:=zB hk a0
 replace a1:=zB hk a1
 replace a2:=zB hk a2
 obtain ⟨Ad,Ae,Af⟩:=ce3 a0
 obtain ⟨Ag,Ah,Ai⟩:=ce3 a1
 obtain ⟨Aa,Aj,Ab,Ak,Ac,Al⟩:=cf3 a2
 clear Am An Ao Ap Aq Ar As At Au Av Aw Ax
 clear hk hw'
 go_wp2
 refine bodyPost_ret (v:=.agg #[.string (ratB ((b*z) - (c*y))),.string (ratB ((c*x) - (a*z))),.string (ratB ((a*y) - (b*x)))]) (by simp [results,Tryz.results37,go_sem,Aa,Ab,Ac]) rfl ⟨rfl,?_⟩
 repeat' (first | exact hb | refine Below.setCell ?_ (by first | exact Nat.le_refl _ | (dsimp only;omega)) _)
theorem each_Sub (a b c x y z:Rat) (r1:RL a 10000) (r2:RL x 10000) (r3:RL b 10000) (r4:RL y 10000) (r5:RL c 10000) (r6:RL z 10000) (w:World) (R:EnvR w) :
   Calls Tryz.prog 92 #[.agg #[.string (ratB a),.string (ratB b),.string (ratB c)],.agg #[.string (ratB x),.string (ratB y),.string (ratB z)],.func (Fn.func 73) #[] #[]] w (Ret w (.agg #[.string (ratB (a - x)),.string (ratB (b - y)),.string (ratB (c - z))])):=by
 have c1:=rsub_any a x r1 r2
 have c2:=rsub_any b y r3 r4
 have c3:=rsub_any c z r5 r6
 have C1:=Lib.hid c1
 have C2:=Lib.hid c2
 have C3:=Lib.hid c3
 clear c1 c2 c3 r1 r2 r3 r4 r5 r6
 have hb:=Below.refl w.heap.size w
 go_enter Tryz.func92,Tryz.ntmps92
 go_upto_region 1 with fail
 refine wp_alloc3 (fun w1 a0 a1 a2 hk=>?_)
 replace hb:=hb.trans (hk.mono hb.size)
 clear hk
 obtain ⟨Ad,Ae,Af⟩:=ce3 a0
 obtain ⟨Ag,Ah,Ai⟩:=ce3 a1
 obtain ⟨Aa,Aj,Ab,Ak,Ac,Al⟩:=cf3 a2
 go_upto_region 1 with fail
 obtain ⟨Ap,Aq,Ar⟩:=cy3 a0
 obtain ⟨As,At,Au⟩:=cy3 a1
 obtain ⟨Av,Aw,Ax⟩:=cy3 a2
 have Am:=rrR C1 R hb
 have An:=rrR C2 R hb
 have Ao:=rrR C3 R hb
 refine wp_region_tail_below 19 (by first | assumption | kernel_rfl) (by kernel_rfl) ?_
 simp only [List.take_succ_cons,List.take_zero,List.drop_succ_cons,List.drop_zero]
 repeat (quiet_step (first | (with_reducible exact Am.out _ _) | (with_reducible exact An.out _ _) | (with_reducible exact Ao.out _ _)))
 refine wpQuiet_nil ?_
 intro w1 hw'
 obtain ⟨hk,hb⟩:=zQ hb hw'
 clear Ad Ae Af Ag Ah Ai Aa Ab Ac Aj Ak Al
 replace a0:=zB hk a0
 replace a1:=zB hk a1
 replace a2:=zB hk a2
 obtain ⟨Ad,Ae,Af⟩:=ce3 a0
 obtain ⟨Ag,Ah,Ai⟩:=ce3 a1
 obtain ⟨Aa,Aj,Ab,Ak,Ac,Al⟩:=cf3 a2
 clear Am An Ao Ap Aq Ar As At Au Av Aw Ax
 clear hk hw'
 go_wp2
 refine bodyPost_ret (v:=.agg #[.string (ratB (a - x)),.string (ratB (b - y)),.string (ratB (c - z))]) (by simp [results,Tryz.results92,go_sem,Aa,Ab,Ac]) rfl ⟨rfl,?_⟩
 repeat' (first | exact hb | refine Below.setCell ?_ (by first | exact Nat.le_refl _ | (dsimp only;omega)) _)
theorem refPBeyond (a b c d x y z:Rat) (r1:RL a 400) (r2:RL x 400) (r3:RL b 400) (r4:RL y 400) (r5:RL c 400) (r6:RL z 400) (r7:RL (b*y) 400) (r8:RL (c*z) 400) (r9:RL (a*x) 400) (r10:RL ((b*y)+(c*z)) 400) (r11:RL ((a*x)+((b*y)+(c*z))) 400) (r12:RL d 400) (w:World) (R:EnvR w) :
   Calls Tryz.prog 64 #[.agg #[.string (ratB a),.string (ratB b),.string (ratB c),.string (ratB d)],.agg #[.string (ratB x),.string (ratB y),.string (ratB z)]] w (Ret w (.string (ratB (((a*x)+((b*y)+(c*z))) - d)))):=by
 have c1:=refVDot a b c x y z r1 r2 r3 r4 r5 r6 r7 r8 r9 r10
 have c2:=refRSub_any ((a*x)+((b*y)+(c*z))) d r11 r12
 have C1:=Lib.hid c1
 have C2:=Lib.hid c2
 clear c1 c2 r1 r2 r3 r4 r5 r6 r7 r8 r9 r10 r11 r12
 have hb:=Below.refl w.heap.size w
 go_enter Tryz.func64,Tryz.ntmps64
 go_upto_region 1 with fail
 refine wp_alloc2 (fun w1 a0 a1 hk=>?_)
 replace hb:=hb.trans (hk.mono hb.size)
 clear hk
 obtain ⟨Aa,Ab,Ac,Ad⟩:=ce4 a0
 obtain ⟨Ae,Af,Ag⟩:=ce3 a1
 go_upto_region 1 with fail
 obtain ⟨Aj,Ak,Al,Am⟩:=cy4 a0
 obtain ⟨An,Ao,Ap⟩:=cy3 a1
 have Ah:=rrR C1 R hb
 have Ai:=rrR C2 R hb
 refine wp_region_quiet_below (by first | assumption | kernel_rfl) (by kernel_rfl) ?_
 repeat (quiet_step (first | (with_reducible exact Ah.out _ _) | (with_reducible exact Ai.out _ _)))
 refine wpQuiet_nil ?_
 intro w1 hw'
 obtain ⟨hk,hb⟩:=zQ hb hw'
 clear Aa Ab Ac Ad Ae Af Ag
 replace a0:=zB hk a0
 replace a1:=zB hk a1
 obtain ⟨Aa,Ab,Ac,Ad⟩:=ce4 a0
 obtain ⟨Ae,Af,Ag⟩:=ce3 a1
 clear Ah Ai Aj Ak Al Am An Ao Ap
 clear hk hw'
 go_wp2
 first | go_ret | go_ret2 | go_ret3
 exact ⟨rfl,hb⟩
theorem side_any (a b c d x y z:Rat) (r1:RL a 200) (r2:RL b 200) (r3:RL c 200) (r4:RL d 200) (r5:a≠0∨b≠0∨c≠0) (r6:RL x 200) (r7:RL y 200) (r8:RL z 200) (r9:RL a 10000) (r10:RL x 10000) (r11:RL (a*x) 10000) (r12:RL b 10000) (r13:RL y 10000) (r14:RL ((0:Rat)+(a*x)) 10000) (r15:RL (b*y) 10000) (r16:RL c 10000) (r17:RL z 10000) (r18:RL (((0:Rat)+(a*x))+(b*y)) 10000) (r19:RL (c*z) 10000) (r20:RL (((a*x)+(b*y))+(c*z)) 10000) (r21:RL d 10000) (w:World) (R:EnvV w) :
   Calls Tryz.prog 27 #[.agg #[.string (ratB a),.string (ratB b),.string (ratB c),.string (ratB d)],.agg #[.string (ratB x),.string (ratB y),.string (ratB z)]] w (Ret w (.tuple #[.int .i64 ((((a*x)+(b*y))+(c*z)) - d).num.sign,.int .i64 0])):=by
 have c1:=checkPlane_ok a b c d r1 r2 r3 r4 r5
 have c2:=fun (w:World) (R:EnvV w)=>vcheck_ok x y z r6 r7 r8 w R.toEnvR
 have c3:=fun (w:World) (R:EnvV w)=>orErr2 0 0 0 (by decide) w R.toEnvR
 have c4:=fun (w:World) (R:EnvV w)=>dot_any a b c x y z r9 r10 r11 r12 r13 r14 r15 r16 r17 r18 r19 w R.toEnvR
 have c5:=fun (w:World) (R:EnvV w)=>rcompare_any (((a*x)+(b*y))+(c*z)) d r20 r21 w R.toEnvR
 have C1:=Lib.hid c1
 have C2:=Lib.hid c2
 have C3:=Lib.hid c3
 have C4:=Lib.hid c4
 have C5:=Lib.hid c5
 clear c1 c2 c3 c4 c5 r1 r2 r3 r4 r5 r6 r7 r8 r9 r10 r11 r12 r13 r14 r15 r16 r17 r18 r19 r20 r21
 have hb:=Below.refl w.heap.size w
 have Aa:w.cell? ⟨0,0,none⟩=some (Value.string ⟨#[48]⟩):=R.z0
 have Ab:w.cell? ⟨0,1,none⟩=some (Value.string ⟨#[48]⟩):=R.z1
 have Ac:w.cell? ⟨0,2,none⟩=some (Value.string ⟨#[48]⟩):=R.z2
 go_enter Tryz.func27,Tryz.ntmps27
 go_upto_region 1 with fail
 refine wp_alloc2 (fun w1 a0 a1 hk=>?_)
 replace Aa:=zC hk Aa
 replace Ab:=zC hk Ab
 replace Ac:=zC hk Ac
 replace hb:=hb.trans (hk.mono hb.size)
 clear hk
 obtain ⟨Ad,Ae,Af,Ag⟩:=ce4 a0
 obtain ⟨Ah,Ai,Aj⟩:=ce3 a1
 go_upto_region 1 with fail
 have Ak:=zR Aa
 have Al:=zR Ab
 have Am:=zR Ac
 obtain ⟨An,Ao,Ap,Aq⟩:=cy4 a0
 obtain ⟨Ar,As,At⟩:=cy3 a1
 have Au:=rrV C1 R hb
 have Av:=rrV C2 R hb
 refine wp_region_tail_below 4 (by first | assumption | kernel_rfl) (by kernel_rfl) ?_
 simp only [List.take_succ_cons,List.take_zero,List.drop_succ_cons,List.drop_zero]
 repeat (quiet_step (first | (with_reducible exact Au.out _ _) | (with_reducible exact Av.out _ _)))
 refine wpQuiet_nil ?_
 intro w1 hw'
 obtain ⟨hk,hb⟩:=zQ hb hw'
 replace Aa:=zC hk Aa
 replace Ab:=zC hk Ab
 replace Ac:=zC hk Ac
 clear Ad Ae Af Ag Ah Ai Aj
 replace a0:=zB hk a0
 replace a1:=zB hk a1
 obtain ⟨Ad,Ae,Af,Ag⟩:=ce4 a0
 obtain ⟨Ah,Ai,Aj⟩:=ce3 a1
 clear Au Av Ak Al Am An Ao Ap Aq Ar As At
 clear hk hw'
 go_upto_region 4 with (go_at_call 69;with_reducible refine (zL hb (C3.out _ (R.below hb))).mono ?_;clear hb;rintro e w1 ⟨rfl,hk,hb⟩;replace Aa:=zC hk Aa;replace Ab:=zC hk Ab;replace Ac:=zC hk Ac;clear Ad Ae Af Ag Ah Ai Aj;replace a0:=zB hk a0;replace a1:=zB hk a1;obtain ⟨Ad,Ae,Af,Ag⟩:=ce4 a0;obtain ⟨Ah,Ai,Aj⟩:=ce3 a1;clear hk)
 have Ak:=zR Aa
 have Al:=zR Ab
 have Am:=zR Ac
 obtain ⟨An,Ao,Ap,Aq⟩:=cy4 a0
 obtain ⟨Ar,As,At⟩:=cy3 a1
 have Aw:=rrV C4 R hb
 have Ax:=rrV C5 R hb
 refine wp_region_quiet_below (by first | assumption | kernel_rfl) (by kernel_rfl) ?_
 repeat (quiet_step (first | (with_reducible exact Aw.out _ _) | (with_reducible exact Ax.out _ _)))
 refine wpQuiet_nil ?_
 intro w1 hw'
 obtain ⟨hk,hb⟩:=zQ hb hw'
 replace Aa:=zC hk Aa
 replace Ab:=zC hk Ab
 replace Ac:=zC hk Ac
 clear Ad Ae Af Ag Ah Ai Aj
 replace a0:=zB hk a0
 replace a1:=zB hk a1
 obtain ⟨Ad,Ae,Af,Ag⟩:=ce4 a0
 obtain ⟨Ah,Ai,Aj⟩:=ce3 a1
 clear Aw Ax Ak Al Am An Ao Ap Aq Ar As At
 clear hk hw'
 go_wp2
 first | go_ret | go_ret2 | go_ret3
 exact ⟨rfl,hb⟩
theorem pierce_any (a b c d x y z u v t:Rat) (r1:RL a 200) (r2:RL b 200) (r3:RL c 200) (r4:RL d 200) (r5:a≠0∨b≠0∨c≠0) (r6:RL x 200) (r7:RL y 200) (r8:RL z 200) (r9:RL u 200) (r10:RL v 200) (r11:RL t 200) (r12:RL a 10000) (r13:RL x 10000) (r14:RL (a*x) 10000) (r15:RL b 10000) (r16:RL y 10000) (r17:RL ((0:Rat)+(a*x)) 10000) (r18:RL (b*y) 10000) (r19:RL c 10000) (r20:RL z 10000) (r21:RL (((0:Rat)+(a*x))+(b*y)) 10000) (r22:RL (c*z) 10000) (r23:RL d 10000) (r24:RL (((a*x)+(b*y))+(c*z)) 10000) (r25:RL u 10000) (r26:RL (a*u) 10000) (r27:RL v 10000) (r28:RL ((0:Rat)+(a*u)) 10000) (r29:RL (b*v) 10000) (r30:RL t 10000) (r31:RL (((0:Rat)+(a*u))+(b*v)) 10000) (r32:RL (c*t) 10000) (r33:(((a*u)+(b*v))+(c*t))≠0) (r34:RL (d - (((a*x)+(b*y))+(c*z))) 10000) (r35:RL (((a*u)+(b*v))+(c*t)) 10000) (r36:RL ((d - (((a*x)+(b*y))+(c*z))) / (((a*u)+(b*v))+(c*t))) 200) (w:World) (R:EnvV w) :
   Calls Tryz.prog 63 #[.agg #[.string (ratB a),.string (ratB b),.string (ratB c),.string (ratB d)],.agg #[.string (ratB x),.string (ratB y),.string (ratB z)],.agg #[.string (ratB u),.string (ratB v),.string (ratB t)]] w (Ret w (.tuple #[.string (ratB ((d - (((a*x)+(b*y))+(c*z))) / (((a*u)+(b*v))+(c*t)))),.int .i64 0])):=by
 have c1:=checkPlane_ok a b c d r1 r2 r3 r4 r5
 have c2:=fun (w:World) (R:EnvV w)=>vcheck_ok x y z r6 r7 r8 w R.toEnvR
 have c3:=fun (w:World) (R:EnvV w)=>vcheck_ok u v t r9 r10 r11 w R.toEnvR
 have c4:=fun (w:World) (R:EnvV w)=>orErr3 0 0 0 0 (by decide) w R.toEnvR
 have c5:=fun (w:World) (R:EnvV w)=>dot_any a b c x y z r12 r13 r14 r15 r16 r17 r18 r19 r20 r21 r22 w R.toEnvR
 have c6:=fun (w:World) (R:EnvV w)=>rsub_any d (((a*x)+(b*y))+(c*z)) r23 r24 w R.toEnvR
 have c7:=fun (w:World) (R:EnvV w)=>dot_any a b c u v t r12 r25 r26 r15 r27 r28 r29 r19 r30 r31 r32 w R.toEnvR
 have c8:=fun (w:World) (R:EnvV w)=>rdiv_any (d - (((a*x)+(b*y))+(c*z))) (((a*u)+(b*v))+(c*t)) r34 r35 r33 w R.toEnvR
 have c9:∀ w,EnvV w→Calls Tryz.prog 75 #[.string (ratB ((d - (((a*x)+(b*y))+(c*z))) / (((a*u)+(b*v))+(c*t)))),.slice (some ⟨w.heap.size,0,none⟩) 1 1] (w.alloc (Obj.cells #[Value.string (ratB ((d - (((a*x)+(b*y))+(c*z))) / (((a*u)+(b*v))+(c*t))))] 22)) (Ret w (.tuple #[.string (ratB ((d - (((a*x)+(b*y))+(c*z))) / (((a*u)+(b*v))+(c*t)))),.int .i64 0])):=fun w R=>resR (ratB ((d - (((a*x)+(b*y))+(c*z))) / (((a*u)+(b*v))+(c*t)))) (ratB ((d - (((a*x)+(b*y))+(c*z))) / (((a*u)+(b*v))+(c*t)))) (by intro t ht;simp only [List.mem_cons,List.not_mem_nil,or_false] at ht;subst ht;exact ⟨_,rfl,r36⟩) w R.toEnvR
 have C1:=Lib.hid c1
 have C2:=Lib.hid c2
 have C3:=Lib.hid c3
 have C4:=Lib.hid c4
 have C5:=Lib.hid c5
 have C6:=Lib.hid c6
 have C7:=Lib.hid c7
 have C8:=Lib.hid c8
 have C9:=Lib.hid c9
 clear c1 c2 c3 c4 c5 c6 c7 c8 c9 r1 r2 r3 r4 r5 r6 r7 r8 r9 r10 r11 r12 r13 r14 r15 r16 r17 r18 r19 r20 r21 r22 r23 r24 r25 r26 r27 r28 r29 r30 r31 r32 r33 r34 r35 r36
 have hb:=Below.refl w.heap.size w
 have Aa:w.cell? ⟨0,0,none⟩=some (Value.string ⟨#[48]⟩):=R.z0
 have Ab:w.cell? ⟨0,1,none⟩=some (Value.string ⟨#[48]⟩):=R.z1
 have Ac:w.cell? ⟨0,2,none⟩=some (Value.string ⟨#[48]⟩):=R.z2
 go_enter Tryz.func63,Tryz.ntmps63
 go_upto_region 1 with fail
 refine wp_alloc3 (fun w1 a0 a1 a2 hk=>?_)
 replace Aa:=zC hk Aa
 replace Ab:=zC hk Ab
 replace Ac:=zC hk Ac
 replace hb:=hb.trans (hk.mono hb.size)
 clear hk
 obtain ⟨Ad,Ae,Af,Ag⟩:=ce4 a0
 obtain ⟨Ah,Ai,Aj⟩:=ce3 a1
 obtain ⟨Ak,Al,Am⟩:=ce3 a2
 go_upto_region 1 with fail
 have An:=zR Aa
 have Ao:=zR Ab
 have Ap:=zR Ac
 obtain ⟨Aq,Ar,As,At⟩:=cy4 a0
 obtain ⟨Au,Av,Aw⟩:=cy3 a1
 obtain ⟨Ax,Ay,Az⟩:=cy3 a2
 have A0:=rrV C1 R hb
 have A1:=rrV C2 R hb
 have A2:=rrV C3 R hb
 refine wp_region_tail_below 6 (by first | assumption | kernel_rfl) (by kernel_rfl) ?_
 simp only [List.take_succ_cons,List.take_zero,List.drop_succ_cons,List.drop_zero]
 repeat (quiet_step (first | (with_reducible exact A0.out _ _) | (with_reducible exact A1.out _ _) | (with_reducible exact A2.out _ _)))
 refine wpQuiet_nil ?_
 intro w1 hw'
 obtain ⟨hk,hb⟩:=zQ hb hw'
 replace Aa:=zC hk Aa
 replace Ab:=zC hk Ab
 replace Ac:=zC hk Ac
 clear Ad Ae Af Ag Ah Ai Aj Ak Al Am
 replace a0:=zB hk a0
 replace a1:=zB hk a1
 replace a2:=zB hk a2
 obtain ⟨Ad,Ae,Af,Ag⟩:=ce4 a0
 obtain ⟨Ah,Ai,Aj⟩:=ce3 a1
 obtain ⟨Ak,Al,Am⟩:=ce3 a2
 clear A0 A1 A2 An Ao Ap Aq Ar As At Au Av Aw Ax Ay Az
 clear hk hw'
 go_upto_region 4 with (go_at_call 69;with_reducible refine (zL hb (C4.out _ (R.below hb))).mono ?_;clear hb;rintro e w1 ⟨rfl,hk,hb⟩;replace Aa:=zC hk Aa;replace Ab:=zC hk Ab;replace Ac:=zC hk Ac;clear Ad Ae Af Ag Ah Ai Aj Ak Al Am;replace a0:=zB hk a0;replace a1:=zB hk a1;replace a2:=zB hk a2;obtain ⟨Ad,Ae,Af,Ag⟩:=ce4 a0;obtain ⟨Ah,Ai,Aj⟩:=ce3 a1;obtain ⟨Ak,Al,Am⟩:=ce3 a2;clear hk)
 have An:=zR Aa
 have Ao:=zR Ab
 have Ap:=zR Ac
 obtain ⟨Aq,Ar,As,At⟩:=cy4 a0
 obtain ⟨Au,Av,Aw⟩:=cy3 a1
 obtain ⟨Ax,Ay,Az⟩:=cy3 a2
 have A3:=rrV C5 R hb
 have A4:=rrV C6 R hb
 have A5:=rrV C7 R hb
 have A6:=rrV C8 R hb
 refine wp_region_quiet_below (by first | assumption | kernel_rfl) (by kernel_rfl) ?_
 repeat (quiet_step (first | (with_reducible exact A3.out _ _) | (with_reducible exact A4.out _ _) | (with_reducible exact A5.out _ _) | (with_reducible exact A6.out _ _)))
 refine wpQuiet_nil ?_
 intro w1 hw'
 obtain ⟨hk,hb⟩:=zQ hb hw'
 replace Aa:=zC hk Aa
 replace Ab:=zC hk Ab
 replace Ac:=zC hk Ac
 clear Ad Ae Af Ag Ah Ai Aj Ak Al Am
 replace a0:=zB hk a0
 replace a1:=zB hk a1
 replace a2:=zB hk a2
 obtain ⟨Ad,Ae,Af,Ag⟩:=ce4 a0
 obtain ⟨Ah,Ai,Aj⟩:=ce3 a1
 obtain ⟨Ak,Al,Am⟩:=ce3 a2
 clear A3 A4 A5 A6 An Ao Ap Aq Ar As At Au Av Aw Ax Ay Az
 clear hk hw'
 go_wp2_with (go_at_call 75;with_reducible refine (zL hb (C9.out _ (R.below hb))).mono ?_;clear hb;rintro e w1 ⟨rfl,hk,hb⟩;replace Aa:=zC hk Aa;replace Ab:=zC hk Ab;replace Ac:=zC hk Ac;clear hk)
 first | go_ret | go_ret2 | go_ret3
 exact ⟨rfl,hb⟩
end Go.Proofs.YtpennccflalobaaGreatDoor.Kl
