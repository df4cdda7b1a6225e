import Derived.Test.YtpennccflalobaaGreatDoorKlVSumsRatCZ
import Derived.Test.YtpennccflalobaaGreatDoorKlBVKZ
namespace Go.Proofs.YtpennccflalobaaGreatDoor.Kl
open Go Go.RowKit
set_option maxRecDepth 100000
set_option maxHeartbeats 8000000
theorem RN_field (a b:Int) (_ha : -32768≤a∧a≤32767) (_hb:0≤b∧b≤255):RN (fieldQ a b) 5 3:=
 RN_mk _ _ 5 3 (by decide) (by decide) (by omega) (dlen_le _ 5 (by decide) (by omega)) (dlen_le _ 3 (by decide) (by omega))
theorem firstErr_w (blk n c:Nat) (ts:List Int) (hn:ts.length=n) (_hnb:n≤20) (v:Int) (hv:firstNZ ts=v) (w:World) (hc:∀ (j:Nat) (t:Int),ts[j]? = some t→w.cell? ⟨blk,j,none⟩=some (.int .i64 t)) :
   Calls Tryz.prog 21 #[.slice (some ⟨blk,0,none⟩) n c] w (Ret w (.int .i64 v)):=by
 have HC:=Lib.hid hc
 have HV:=Lib.hid hv
 have HN:=Lib.hid hn
 clear hc hv hn
 go_enter Tryz.func21,Tryz.ntmps21
 go_wp2
 go_loopw [3] (fun i wr=>∃ k:Nat,k≤n∧i = .int .i64 k∧(∀ t,t ∈ ts.take k→t=0)∧Below w.heap.size w wr) (fun i _=>n - (intOf i).toNat)
 case atStart=>exact ⟨0,Nat.zero_le _,rfl,by simp,Below.refl _ _⟩
 case round =>
   obtain ⟨k,hk,rfl,hall,hb⟩:=hrel
   have HA:=Lib.hid hall
   clear hall
   by_cases hlt:k < n
   · obtain ⟨t,ht⟩:∃ t,ts[k]? = some t:=⟨_,List.getElem?_eq_getElem (by rw [HN.out];exact hlt)⟩
     have x0:wr.cell? ⟨blk,k,none⟩=some (.int .i64 t):=zC hb (HC.out k t ht)
     have HT:=Lib.hid ht
     clear ht
     by_cases hz:t=0
     · have HF:=Lib.hid hz
       go_wp2
       go_roundw
       case rel =>
         refine ⟨k+1,by omega,by go_num,fun u hu=>?_,hb⟩
         rw [List.take_add_one,HT.out] at hu
         rcases List.mem_append.1 hu with h | h
         · exact HA.out u h
         · have:u=t:=by simpa using h
           rw [this];exact HF.out
       case measure=>simp [intOf];omega
     · have HF2:t=v:=(firstNZ_at ts k t HA.out HT.out hz).symm.trans HV.out
       have HG:=Lib.hid HF2
       clear HF2
       go_wp2
       go_ret
       exact ⟨retI HG.out,hb⟩
   · have ek:k=n:=by omega
     have HG:Hid (0=v):=Lib.hid (by rw [← HV.out];symm;exact firstNZ_zero ts (fun t ht=>HA.out t (by rw [List.take_of_length_le (by rw [HN.out];omega)];exact ht)))
     go_wp2
     go_ret
     exact ⟨retI HG.out,hb⟩
set_option maxRecDepth 512 in
theorem firstErr7 (a0 a1 a2 a3 a4 a5 a6:Int) (v:Int) (hv:firstNZ [a0,a1,a2,a3,a4,a5,a6]=v) (w:World) (_R:EnvR w) :
   Calls Tryz.prog 21 #[.slice (some ⟨w.heap.size,0,none⟩) 7 7] (w.alloc (Obj.cells #[Value.int .i64 a0,Value.int .i64 a1,Value.int .i64 a2,Value.int .i64 a3,Value.int .i64 a4,Value.int .i64 a5,Value.int .i64 a6] 31)) (Ret w (.int .i64 v)):=by
 have hba:Below w.heap.size w (w.alloc (Obj.cells #[Value.int .i64 a0,Value.int .i64 a1,Value.int .i64 a2,Value.int .i64 a3,Value.int .i64 a4,Value.int .i64 a5,Value.int .i64 a6] 31)):=(Below.refl _ _).alloc (Nat.le_refl _) _
 refine (firstErr_w w.heap.size 7 7 [a0,a1,a2,a3,a4,a5,a6] rfl (by decide) v hv _ ?_).mono fun e w' h=>⟨h.1,hba.trans (h.2.mono hba.size)⟩
 intro j t h
 match j,h with
 | 0,h=>injection h with h;subst h;simp [go_sem]
 | 1,h=>injection h with h;subst h;simp [go_sem]
 | 2,h=>injection h with h;subst h;simp [go_sem]
 | 3,h=>injection h with h;subst h;simp [go_sem]
 | 4,h=>injection h with h;subst h;simp [go_sem]
 | 5,h=>injection h with h;subst h;simp [go_sem]
 | 6,h=>injection h with h;subst h;simp [go_sem]
 | j+7,h=>simp at h
theorem q_subm (a b:Rat):a+b * -1=a - b:=by grind
theorem refVAdd (a b c x y z:Rat) (r1:RL a 400) (r2:RL x 400) (r3:RL b 400) (r4:RL y 400) (r5:RL c 400) (r6:RL z 400) (w:World) (R:EnvR w) :
   Calls Tryz.prog 33 #[.agg #[.string (ratB a),.string (ratB b),.string (ratB c)],.agg #[.string (ratB x),.string (ratB y),.string (ratB z)]] w (Ret w (.agg #[.string (ratB (a+x)),.string (ratB (b+y)),.string (ratB (c+z))])):=by
 have c1:=fun (w:World) (R:EnvR w)=>refRAdd_any a x w R r1 r2
 have c2:=fun (w:World) (R:EnvR w)=>refRAdd_any b y w R r3 r4
 have c3:=fun (w:World) (R:EnvR w)=>refRAdd_any c z w R r5 r6
 have C1:=Lib.hid c1
 have C2:=Lib.hid c2
 have C3:=Lib.hid c3
 clear c1 c2 c3 r1 r2 r3 r4 r5 r6
 have hb:=Below.refl w.heap.size w
 go_enter Tryz.func33,Tryz.ntmps33
 go_upto_region 1 with fail
 refine wp_alloc3 (fun w1 a0 a1 a2 hk=>?_)
 replace hb:=hb.trans (hk.mono hb.size)
 clear hk
 obtain ⟨Ad,Ae,Af⟩:=ce3 a0
 obtain ⟨Ag,Ah,Ai⟩:=ce3 a1
 obtain ⟨Aa,Aj,Ab,Ak,Ac,Al⟩:=cf3 a2
 go_upto_region 1 with fail
 obtain ⟨Ap,Aq,Ar⟩:=cy3 a0
 obtain ⟨As,At,Au⟩:=cy3 a1
 obtain ⟨Av,Aw,Ax⟩:=cy3 a2
 have Am:=rrR C1 R hb
 have An:=rrR C2 R hb
 have Ao:=rrR C3 R hb
 refine wp_region_tail_below 16 (by first | assumption | kernel_rfl) (by kernel_rfl) ?_
 simp only [List.take_succ_cons,List.take_zero,List.drop_succ_cons,List.drop_zero]
 repeat (quiet_step (first | (with_reducible exact Am.out _ _) | (with_reducible exact An.out _ _) | (with_reducible exact Ao.out _ _)))
 refine wpQuiet_nil ?_
 intro w1 hw'
 obtain ⟨hk,hb⟩:=zQ hb hw'
 clear Ad Ae Af Ag Ah Ai Aa Ab Ac Aj Ak Al
 replace a0:=zB hk a0
 replace a1:=zB hk a1
 replace a2:=zB hk a2
 obtain ⟨Ad,Ae,Af⟩:=ce3 a0
 obtain ⟨Ag,Ah,Ai⟩:=ce3 a1
 obtain ⟨Aa,Aj,Ab,Ak,Ac,Al⟩:=cf3 a2
 clear Am An Ao Ap Aq Ar As At Au Av Aw Ax
 clear hk hw'
 go_wp2
 refine bodyPost_ret (v:=.agg #[.string (ratB (a+x)),.string (ratB (b+y)),.string (ratB (c+z))]) (by simp [results,Tryz.results33,go_sem,Aa,Ab,Ac]) rfl ⟨rfl,?_⟩
 repeat' (first | exact hb | refine Below.setCell ?_ (by first | exact Nat.le_refl _ | (dsimp only;omega)) _)
theorem refVScale (a b c k:Rat) (r1:RL a 400) (r2:RL k 400) (r3:RL b 400) (r4:RL c 400) (w:World) (R:EnvR w) :
   Calls Tryz.prog 35 #[.agg #[.string (ratB a),.string (ratB b),.string (ratB c)],.string (ratB k)] w (Ret w (.agg #[.string (ratB (a*k)),.string (ratB (b*k)),.string (ratB (c*k))])):=by
 have c1:=fun (w:World) (R:EnvR w)=>refRMul_any a k w R r1 r2
 have c2:=fun (w:World) (R:EnvR w)=>refRMul_any b k w R r3 r2
 have c3:=fun (w:World) (R:EnvR w)=>refRMul_any c k w R r4 r2
 have C1:=Lib.hid c1
 have C2:=Lib.hid c2
 have C3:=Lib.hid c3
 clear c1 c2 c3 r1 r2 r3 r4
 have hb:=Below.refl w.heap.size w
 go_enter Tryz.func35,Tryz.ntmps35
 go_upto_region 1 with fail
 refine wp_alloc2 (fun w1 a0 a1 hk=>?_)
 replace hb:=hb.trans (hk.mono hb.size)
 clear hk
 obtain ⟨Ad,Ae,Af⟩:=ce3 a0
 obtain ⟨Aa,Ag,Ab,Ah,Ac,Ai⟩:=cf3 a1
 go_upto_region 1 with fail
 obtain ⟨Am,An,Ao⟩:=cy3 a0
 obtain ⟨Ap,Aq,Ar⟩:=cy3 a1
 have Aj:=rrR C1 R hb
 have Ak:=rrR C2 R hb
 have Al:=rrR C3 R hb
 refine wp_region_tail_below 13 (by first | assumption | kernel_rfl) (by kernel_rfl) ?_
 simp only [List.take_succ_cons,List.take_zero,List.drop_succ_cons,List.drop_zero]
 repeat (quiet_step (first | (with_reducible exact Aj.out _ _) | (with_reducible exact Ak.out _ _) | (with_reducible exact Al.out _ _)))
 refine wpQuiet_nil ?_
 intro w1 hw'
 obtain ⟨hk,hb⟩:=zQ hb hw'
 clear Ad Ae Af Aa Ab Ac Ag Ah Ai
 replace a0:=zB hk a0
 replace a1:=zB hk a1
 obtain ⟨Ad,Ae,Af⟩:=ce3 a0
 obtain ⟨Aa,Ag,Ab,Ah,Ac,Ai⟩:=cf3 a1
 clear Aj Ak Al Am An Ao Ap Aq Ar
 clear hk hw'
 go_wp2
 refine bodyPost_ret (v:=.agg #[.string (ratB (a*k)),.string (ratB (b*k)),.string (ratB (c*k))]) (by simp [results,Tryz.results35,go_sem,Aa,Ab,Ac]) rfl ⟨rfl,?_⟩
 repeat' (first | exact hb | refine Below.setCell ?_ (by first | exact Nat.le_refl _ | (dsimp only;omega)) _)
theorem refVSub (a b c x y z:Rat) (r1:RL x 400) (r2:RL y 400) (r3:RL z 400) (r4:RL a 400) (r5:RL (x*(-1:Rat)) 400) (r6:RL b 400) (r7:RL (y*(-1:Rat)) 400) (r8:RL c 400) (r9:RL (z*(-1:Rat)) 400) (w:World) (R:EnvR w) :
   Calls Tryz.prog 34 #[.agg #[.string (ratB a),.string (ratB b),.string (ratB c)],.agg #[.string (ratB x),.string (ratB y),.string (ratB z)]] w (Ret w (.agg #[.string (ratB (a - x)),.string (ratB (b - y)),.string (ratB (c - z))])):=by
 have c1:CR 35 #[.agg #[.string (ratB x),.string (ratB y),.string (ratB z)],.string ⟨#[45,49]⟩] (.agg #[.string (ratB (x*(-1:Rat))),.string (ratB (y*(-1:Rat))),.string (ratB (z*(-1:Rat)))]):=fun w R=>(by have h:=refVScale x y z (-1:Rat) r1 (RN.rl (K:=400) rn_m1) r2 r3 w R;simp only [rb_m1] at h;exact h)
 have c2:CR 33 #[.agg #[.string (ratB a),.string (ratB b),.string (ratB c)],.agg #[.string (ratB (x*(-1:Rat))),.string (ratB (y*(-1:Rat))),.string (ratB (z*(-1:Rat)))]] (.agg #[.string (ratB (a - x)),.string (ratB (b - y)),.string (ratB (c - z))]):=fun w R=>(by have h:=refVAdd a b c (x*(-1:Rat)) (y*(-1:Rat)) (z*(-1:Rat)) r4 r5 r6 r7 r8 r9 w R;rwa [q_subm,q_subm,q_subm] at h)
 have C1:=Lib.hid c1
 have C2:=Lib.hid c2
 clear c1 c2 r1 r2 r3 r4 r5 r6 r7 r8 r9
 have hb:=Below.refl w.heap.size w
 go_enter Tryz.func34,Tryz.ntmps34
 go_upto_region 1 with fail
 refine wp_alloc3 (fun w1 a0 a1 a2 hk=>?_)
 replace hb:=hb.trans (hk.mono hb.size)
 clear hk
 obtain ⟨Ad,Ae,Af⟩:=ce3 a0
 obtain ⟨Ag,Ah,Ai⟩:=ce3 a1
 obtain ⟨Aa,Aj,Ab,Ak,Ac,Al⟩:=cf3 a2
 go_upto_region 1 with fail
 obtain ⟨Ao,Ap,Aq⟩:=cy3 a0
 obtain ⟨Ar,As,At⟩:=cy3 a1
 obtain ⟨Au,Av,Aw⟩:=cy3 a2
 have Am:=rrR C1 R hb
 have An:=rrR C2 R hb
 refine wp_region_tail_below 4 (by first | assumption | kernel_rfl) (by kernel_rfl) ?_
 simp only [List.take_succ_cons,List.take_zero,List.drop_succ_cons,List.drop_zero]
 repeat (quiet_step (first | (with_reducible exact Am.out _ _) | (with_reducible exact An.out _ _)))
 refine wpQuiet_nil ?_
 intro w1 hw'
 obtain ⟨hk,hb⟩:=zQ hb hw'
 clear Ad Ae Af Ag Ah Ai Aa Ab Ac Aj Ak Al
 replace a0:=zB hk a0
 replace a1:=zB hk a1
 replace a2:=zB hk a2
 obtain ⟨Ad,Ae,Af⟩:=ce3 a0
 obtain ⟨Ag,Ah,Ai⟩:=ce3 a1
 obtain ⟨Aa,Aj,Ab,Ak,Ac,Al⟩:=cf3 a2
 clear Am An Ao Ap Aq Ar As At Au Av Aw
 clear hk hw'
 go_wp2
 refine bodyPost_ret (v:=.agg #[.string (ratB (a - x)),.string (ratB (b - y)),.string (ratB (c - z))]) (by simp [results,Tryz.results34,go_sem,Aa,Ab,Ac]) rfl ⟨rfl,?_⟩
 repeat' (first | exact hb | refine Below.setCell ?_ (by first | exact Nat.le_refl _ | (dsimp only;omega)) _)
theorem refVDot (a b c x y z:Rat) (r1:RL a 400) (r2:RL x 400) (r3:RL b 400) (r4:RL y 400) (r5:RL c 400) (r6:RL z 400) (r7:RL (b*y) 400) (r8:RL (c*z) 400) (r9:RL (a*x) 400) (r10:RL ((b*y)+(c*z)) 400) (w:World) (R:EnvR w) :
   Calls Tryz.prog 36 #[.agg #[.string (ratB a),.string (ratB b),.string (ratB c)],.agg #[.string (ratB x),.string (ratB y),.string (ratB z)]] w (Ret w (.string (ratB ((a*x)+((b*y)+(c*z)))))):=by
 have c1:=fun (w:World) (R:EnvR w)=>refRMul_any a x w R r1 r2
 have c2:=fun (w:World) (R:EnvR w)=>refRMul_any b y w R r3 r4
 have c3:=fun (w:World) (R:EnvR w)=>refRMul_any c z w R r5 r6
 have c4:=fun (w:World) (R:EnvR w)=>refRAdd_any (b*y) (c*z) w R r7 r8
 have c5:=fun (w:World) (R:EnvR w)=>refRAdd_any (a*x) ((b*y)+(c*z)) w R r9 r10
 have C1:=Lib.hid c1
 have C2:=Lib.hid c2
 have C3:=Lib.hid c3
 have C4:=Lib.hid c4
 have C5:=Lib.hid c5
 clear c1 c2 c3 c4 c5 r1 r2 r3 r4 r5 r6 r7 r8 r9 r10
 have hb:=Below.refl w.heap.size w
 go_enter Tryz.func36,Tryz.ntmps36
 go_upto_region 1 with fail
 refine wp_alloc2 (fun w1 a0 a1 hk=>?_)
 replace hb:=hb.trans (hk.mono hb.size)
 clear hk
 obtain ⟨Aa,Ab,Ac⟩:=ce3 a0
 obtain ⟨Ad,Ae,Af⟩:=ce3 a1
 go_upto_region 1 with fail
 obtain ⟨Al,Am,An⟩:=cy3 a0
 obtain ⟨Ao,Ap,Aq⟩:=cy3 a1
 have Ag:=rrR C1 R hb
 have Ah:=rrR C2 R hb
 have Ai:=rrR C3 R hb
 have Aj:=rrR C4 R hb
 have Ak:=rrR C5 R hb
 refine wp_region_quiet_below (by first | assumption | kernel_rfl) (by kernel_rfl) ?_
 repeat (quiet_step (first | (with_reducible exact Ag.out _ _) | (with_reducible exact Ah.out _ _) | (with_reducible exact Ai.out _ _) | (with_reducible exact Aj.out _ _) | (with_reducible exact Ak.out _ _)))
 refine wpQuiet_nil ?_
 intro w1 hw'
 obtain ⟨hk,hb⟩:=zQ hb hw'
 clear Aa Ab Ac Ad Ae Af
 replace a0:=zB hk a0
 replace a1:=zB hk a1
 obtain ⟨Aa,Ab,Ac⟩:=ce3 a0
 obtain ⟨Ad,Ae,Af⟩:=ce3 a1
 clear Ag Ah Ai Aj Ak Al Am An Ao Ap Aq
 clear hk hw'
 go_wp2
 first | go_ret | go_ret2 | go_ret3
 exact ⟨rfl,hb⟩
theorem refMinor (a b c k:Rat) (r1:RL a 400) (r2:RL b 400) (r3:RL c 400) (r4:RL k 400) (r5:RL (a*b) 400) (r6:RL (c*k) 400) (w:World) (R:EnvR w) :
   Calls Tryz.prog 86 #[.string (ratB a),.string (ratB b),.string (ratB c),.string (ratB k)] w (Ret w (.string (ratB ((a*b) - (c*k))))):=by
 have c1:=fun (w:World) (R:EnvR w)=>refRMul_any a b w R r1 r2
 have c2:=fun (w:World) (R:EnvR w)=>refRMul_any c k w R r3 r4
 have c3:=refRSub_any (a*b) (c*k) r5 r6
 have C1:=Lib.hid c1
 have C2:=Lib.hid c2
 have C3:=Lib.hid c3
 clear c1 c2 c3 r1 r2 r3 r4 r5 r6
 have hb:=Below.refl w.heap.size w
 go_enter Tryz.func86,Tryz.ntmps86
 go_wp2_with ((first | (go_at_call 58;first | with_reducible refine (chRB hb R C1).mono ?_ | with_reducible refine (chRB hb R C2).mono ?_) | (go_at_call 55;with_reducible refine (chRB hb R C3).mono ?_));clear hb;rintro e w1 ⟨rfl,hk,hb⟩;clear hk)
 first | go_ret | go_ret2 | go_ret3
 exact ⟨rfl,hb⟩
theorem refVCross (a b c x y z:Rat) (r1:RL b 400) (r2:RL z 400) (r3:RL c 400) (r4:RL y 400) (r5:RL (b*z) 400) (r6:RL (c*y) 400) (r7:RL x 400) (r8:RL a 400) (r9:RL (c*x) 400) (r10:RL (a*z) 400) (r11:RL (a*y) 400) (r12:RL (b*x) 400) (w:World) (R:EnvR w) :
   Calls Tryz.prog 37 #[.agg #[.string (ratB a),.string (ratB b),.string (ratB c)],.agg #[.string (ratB x),.string (ratB y),.string (ratB z)]] w (Ret w (.agg #[.string (ratB ((b*z) - (c*y))),.string (ratB ((c*x) - (a*z))),.string (ratB ((a*y) - (b*x)))])):=by
 have c1:=refMinor b z c y r1 r2 r3 r4 r5 r6
 have c2:=refMinor c x a z r3 r7 r8 r2 r9 r10
 have c3:=refMinor a y b x r8 r4 r1 r7 r11 r12
 have C1:=Lib.hid c1
 have C2:=Lib.hid c2
 have C3:=Lib.hid c3
 clear c1 c2 c3 r1 r2 r3 r4 r5 r6 r7 r8 r9 r10 r11 r12
 have hb:=Below.refl w.heap.size w
 go_enter Tryz.func37,Tryz.ntmps37
 go_upto_region 1 with fail
 refine wp_alloc3 (fun w1 a0 a1 a2 hk=>?_)
 replace hb:=hb.trans (hk.mono hb.size)
 clear hk
 obtain ⟨Ad,Ae,Af⟩:=ce3 a0
 obtain ⟨Ag,Ah,Ai⟩:=ce3 a1
 obtain ⟨Aa,Aj,Ab,Ak,Ac,Al⟩:=cf3 a2
 go_upto_region 1 with fail
 obtain ⟨Ap,Aq,Ar⟩:=cy3 a0
 obtain ⟨As,At,Au⟩:=cy3 a1
 obtain ⟨Av,Aw,Ax⟩:=cy3 a2
 have Am:=rrR C1 R hb
 have An:=rrR C2 R hb
 have Ao:=rrR C3 R hb
 refine wp_region_tail_below 28 (by first | assumption | kernel_rfl) (by kernel_rfl) ?_
 simp only [List.take_succ_cons,List.take_zero,List.drop_succ_cons,List.drop_zero]
 repeat (quiet_step (first | (with_reducible exact Am.out _ _) | (with_reducible exact An.out _ _) | (with_reducible exact Ao.out _ _)))
 refine wpQuiet_nil ?_
 intro w1 hw'
 obtain ⟨hk,hb⟩:=zQ hb hw'
 clear Ad Ae Af Ag Ah Ai Aa Ab Ac Aj Ak Al
 replace a0:=zB hk a0
 replace a1:=zB hk a1
 replace a2:=zB hk a2
 obtain ⟨Ad,Ae,Af⟩:=ce3 a0
 obtain ⟨Ag,Ah,Ai⟩:=ce3 a1
 obtain ⟨Aa,Aj,Ab,Ak,Ac,Al⟩:=cf3 a2
 clear Am An Ao Ap Aq Ar As At Au Av Aw Ax
 clear hk hw'
 go_wp2
 refine bodyPost_ret (v:=.agg #[.string (ratB ((b*z) - (c*y))),.string (ratB ((c*x) - (a*z))),.string (ratB ((a*y) - (b*x)))]) (by simp [results,Tryz.results37,go_sem,Aa,Ab,Ac]) rfl ⟨rfl,?_⟩
 repeat' (first | exact hb | refine Below.setCell ?_ (by first | exact Nat.le_refl _ | (dsimp only;omega)) _)
end Go.Proofs.YtpennccflalobaaGreatDoor.Kl
