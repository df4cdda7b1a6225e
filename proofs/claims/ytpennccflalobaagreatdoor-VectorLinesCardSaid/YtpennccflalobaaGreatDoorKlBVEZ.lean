import Derived.Test.YtpennccflalobaaGreatDoorKlBVKZ
namespace Go.Proofs.YtpennccflalobaaGreatDoor.Kl
open Go Go.RowKit
set_option maxRecDepth 100000
set_option maxHeartbeats 8000000
theorem vcheck_ok (a b c:Rat) (r1:RL a 200) (r2:RL b 200) (r3:RL c 200) (w:World) (R:EnvR w) :
   Calls Tryz.prog 15 #[.agg #[.string (ratB a),.string (ratB b),.string (ratB c)]] w (Ret w (.int .i64 0)):=by
 have c1:∀ w,EnvR w→Calls Tryz.prog 67 #[.slice (some ⟨w.heap.size,0,none⟩) 3 3] (w.alloc (Obj.cells #[Value.string (ratB a),Value.string (ratB b),Value.string (ratB c)] 22)) (Ret w (.int .i64 0)):=fun w R=>numCheck3 (ratB a) (ratB b) (ratB c) 0 (fun _=>rfl) (fun h=>absurd ⟨isRat_of r1,isRat_of r2,isRat_of r3⟩ h) (Nat.le_trans (size_of_RL r1) (by decide)) (Nat.le_trans (size_of_RL r2) (by decide)) (Nat.le_trans (size_of_RL r3) (by decide)) w R
 have C1:=Lib.hid c1
 clear c1 r1 r2 r3
 have hb:=Below.refl w.heap.size w
 go_enter Tryz.func15,Tryz.ntmps15
 go_upto_region 1 with fail
 refine wp_alloc1 (fun w1 a0 hk=>?_)
 replace hb:=hb.trans (hk.mono hb.size)
 clear hk
 obtain ⟨Aa,Ab,Ac⟩:=ce3 a0
 go_wp2_with (go_at_call 67;with_reducible refine (zL hb (C1.out _ (R.below hb))).mono ?_;clear hb;rintro e w1 ⟨rfl,hk,hb⟩;clear Aa Ab Ac;replace a0:=zB hk a0;obtain ⟨Aa,Ab,Ac⟩:=ce3 a0;clear hk)
 first | go_ret | go_ret2 | go_ret3
 exact ⟨rfl,hb⟩
theorem pcheck_ok (a b:Rat) (r1:RL a 200) (r2:RL b 200) (w:World) (R:EnvR w) :
   Calls Tryz.prog 17 #[.agg #[.string (ratB a),.string (ratB b)]] w (Ret w (.int .i64 0)):=by
 have c1:∀ w,EnvR w→Calls Tryz.prog 67 #[.slice (some ⟨w.heap.size,0,none⟩) 2 2] (w.alloc (Obj.cells #[Value.string (ratB a),Value.string (ratB b)] 22)) (Ret w (.int .i64 0)):=fun w R=>numCheck2 (ratB a) (ratB b) 0 (fun _=>rfl) (fun h=>absurd ⟨isRat_of r1,isRat_of r2⟩ h) (Nat.le_trans (size_of_RL r1) (by decide)) (Nat.le_trans (size_of_RL r2) (by decide)) w R
 have C1:=Lib.hid c1
 clear c1 r1 r2
 have hb:=Below.refl w.heap.size w
 go_enter Tryz.func17,Tryz.ntmps17
 go_upto_region 1 with fail
 refine wp_alloc1 (fun w1 a0 hk=>?_)
 replace hb:=hb.trans (hk.mono hb.size)
 clear hk
 obtain ⟨Aa,Ab⟩:=ce2 a0
 go_wp2_with (go_at_call 67;with_reducible refine (zL hb (C1.out _ (R.below hb))).mono ?_;clear hb;rintro e w1 ⟨rfl,hk,hb⟩;clear Aa Ab;replace a0:=zB hk a0;obtain ⟨Aa,Ab⟩:=ce2 a0;clear hk)
 first | go_ret | go_ret2 | go_ret3
 exact ⟨rfl,hb⟩
theorem result_V (a b c:Rat) (r1:RL a 200) (r2:RL b 200) (r3:RL c 200) (w:World) (R:EnvR w) :
   Calls Tryz.prog 76 #[.agg #[.string (ratB a),.string (ratB b),.string (ratB c)]] w (Ret w (.tuple #[.agg #[.string (ratB a),.string (ratB b),.string (ratB c)],.int .i64 0])):=by
 have c1:∀ w,EnvR w→Calls Tryz.prog 125 #[.agg #[.string (ratB a),.string (ratB b),.string (ratB c)],.slice (some ⟨w.heap.size,0,none⟩) 3 3] (w.alloc (Obj.cells #[Value.string (ratB a),Value.string (ratB b),Value.string (ratB c)] 22)) (Ret w (.tuple #[.agg #[.string (ratB a),.string (ratB b),.string (ratB c)],.int .i64 0])):=fun w R=>resV (ratB a) (ratB b) (ratB c) (ratB a) (ratB b) (ratB c) (by intro t ht;simp only [List.mem_cons,List.not_mem_nil,or_false] at ht;rcases ht with rfl | rfl | rfl;exact ⟨_,rfl,r1⟩;exact ⟨_,rfl,r2⟩;exact ⟨_,rfl,r3⟩) w R
 have C1:=Lib.hid c1
 clear c1 r1 r2 r3
 have hb:=Below.refl w.heap.size w
 go_enter Tryz.func76,Tryz.ntmps76
 go_upto_region 1 with fail
 refine wp_alloc2 (fun w1 a0 a1 hk=>?_)
 replace hb:=hb.trans (hk.mono hb.size)
 clear hk
 obtain ⟨Ad,Ae,Af⟩:=ce3 a0
 obtain ⟨Aa,Ag,Ab,Ah,Ac,Ai⟩:=cf3 a1
 go_wp2_with (go_at_call 125;with_reducible refine (zL hb (C1.out _ (R.below hb))).mono ?_;clear hb;rintro e w1 ⟨rfl,hk,hb⟩;clear Ad Ae Af Aa Ab Ac Ag Ah Ai;replace a0:=zB hk a0;replace a1:=zB hk a1;obtain ⟨Ad,Ae,Af⟩:=ce3 a0;obtain ⟨Aa,Ag,Ab,Ah,Ac,Ai⟩:=cf3 a1;clear hk)
 refine bodyPost_ret (v:=.tuple #[.agg #[.string (ratB a),.string (ratB b),.string (ratB c)],.int .i64 0]) (by simp [results,Tryz.results76,go_sem,Aa,Ab,Ac]) rfl ⟨rfl,?_⟩
 repeat' (first | exact hb | refine Below.setCell ?_ (by first | exact Nat.le_refl _ | (dsimp only;omega)) _)
theorem each_Mul (a b c x y z:Rat) (r1:RL a 10000) (r2:RL x 10000) (r3:RL b 10000) (r4:RL y 10000) (r5:RL c 10000) (r6:RL z 10000) (w:World) (R:EnvR w) :
   Calls Tryz.prog 92 #[.agg #[.string (ratB a),.string (ratB b),.string (ratB c)],.agg #[.string (ratB x),.string (ratB y),.string (ratB z)],.func (Fn.func 84) #[] #[]] w (Ret w (.agg #[.string (ratB (a*x)),.string (ratB (b*y)),.string (ratB (c*z))])):=by
 have c1:=rmul_any a x r1 r2
 have c2:=rmul_any b y r3 r4
 have c3:=rmul_any c z r5 r6
 have C1:=Lib.hid c1
 have C2:=Lib.hid c2
 have C3:=Lib.hid c3
 clear c1 c2 c3 r1 r2 r3 r4 r5 r6
 have hb:=Below.refl w.heap.size w
 go_enter Tryz.func92,Tryz.ntmps92
 go_upto_region 1 with fail
 refine wp_alloc3 (fun w1 a0 a1 a2 hk=>?_)
 replace hb:=hb.trans (hk.mono hb.size)
 clear hk
 obtain ⟨Ad,Ae,Af⟩:=ce3 a0
 obtain ⟨Ag,Ah,Ai⟩:=ce3 a1
 obtain ⟨Aa,Aj,Ab,Ak,Ac,Al⟩:=cf3 a2
 go_upto_region 1 with fail
 obtain ⟨Ap,Aq,Ar⟩:=cy3 a0
 obtain ⟨As,At,Au⟩:=cy3 a1
 obtain ⟨Av,Aw,Ax⟩:=cy3 a2
 have Am:=rrR C1 R hb
 have An:=rrR C2 R hb
 have Ao:=rrR C3 R hb
 refine wp_region_tail_below 19 (by first | assumption | kernel_rfl) (by kernel_rfl) ?_
 simp only [List.take_succ_cons,List.take_zero,List.drop_succ_cons,List.drop_zero]
 repeat (quiet_step (first | (with_reducible exact Am.out _ _) | (with_reducible exact An.out _ _) | (with_reducible exact Ao.out _ _)))
 refine wpQuiet_nil ?_
 intro w1 hw'
 obtain ⟨hk,hb⟩:=zQ hb hw'
 clear Ad Ae Af Ag Ah Ai Aa Ab Ac Aj Ak Al
 replace a0:=zB hk a0
 replace a1:=zB hk a1
 replace a2:=zB hk a2
 obtain ⟨Ad,Ae,Af⟩:=ce3 a0
 obtain ⟨Ag,Ah,Ai⟩:=ce3 a1
 obtain ⟨Aa,Aj,Ab,Ak,Ac,Al⟩:=cf3 a2
 clear Am An Ao Ap Aq Ar As At Au Av Aw Ax
 clear hk hw'
 go_wp2
 refine bodyPost_ret (v:=.agg #[.string (ratB (a*x)),.string (ratB (b*y)),.string (ratB (c*z))]) (by simp [results,Tryz.results92,go_sem,Aa,Ab,Ac]) rfl ⟨rfl,?_⟩
 repeat' (first | exact hb | refine Below.setCell ?_ (by first | exact Nat.le_refl _ | (dsimp only;omega)) _)
theorem vcross_any (a b c x y z:Rat) (r1:RL a 200) (r2:RL b 200) (r3:RL c 200) (r4:RL x 200) (r5:RL y 200) (r6:RL z 200) (r7:RL b 10000) (r8:RL z 10000) (r9:RL c 10000) (r10:RL y 10000) (r11:RL (b*z) 10000) (r12:RL (c*y) 10000) (r13:RL x 10000) (r14:RL a 10000) (r15:RL (c*x) 10000) (r16:RL (a*z) 10000) (r17:RL (a*y) 10000) (r18:RL (b*x) 10000) (r19:RL ((b*z) - (c*y)) 200) (r20:RL ((c*x) - (a*z)) 200) (r21:RL ((a*y) - (b*x)) 200) (w:World) (R:EnvR w) :
   Calls Tryz.prog 25 #[.agg #[.string (ratB a),.string (ratB b),.string (ratB c)],.agg #[.string (ratB x),.string (ratB y),.string (ratB z)]] w (Ret w (.tuple #[.agg #[.string (ratB ((b*z) - (c*y))),.string (ratB ((c*x) - (a*z))),.string (ratB ((a*y) - (b*x)))],.int .i64 0])):=by
 have c1:=vcheck_ok a b c r1 r2 r3
 have c2:=vcheck_ok x y z r4 r5 r6
 have c3:=orErr2 0 0 0 (by decide)
 have c4:=cross_any a b c x y z r7 r8 r9 r10 r11 r12 r13 r14 r15 r16 r17 r18
 have c5:=result_V ((b*z) - (c*y)) ((c*x) - (a*z)) ((a*y) - (b*x)) r19 r20 r21
 have C1:=Lib.hid c1
 have C2:=Lib.hid c2
 have C3:=Lib.hid c3
 have C4:=Lib.hid c4
 have C5:=Lib.hid c5
 clear c1 c2 c3 c4 c5 r1 r2 r3 r4 r5 r6 r7 r8 r9 r10 r11 r12 r13 r14 r15 r16 r17 r18 r19 r20 r21
 have hb:=Below.refl w.heap.size w
 go_enter Tryz.func25,Tryz.ntmps25
 go_upto_region 1 with fail
 refine wp_alloc3 (fun w1 a0 a1 a2 hk=>?_)
 replace hb:=hb.trans (hk.mono hb.size)
 clear hk
 obtain ⟨Ad,Ae,Af⟩:=ce3 a0
 obtain ⟨Ag,Ah,Ai⟩:=ce3 a1
 obtain ⟨Aa,Aj,Ab,Ak,Ac,Al⟩:=cf3 a2
 go_upto_region 1 with fail
 obtain ⟨Ao,Ap,Aq⟩:=cy3 a0
 obtain ⟨Ar,As,At⟩:=cy3 a1
 obtain ⟨Au,Av,Aw⟩:=cy3 a2
 have Am:=rrR C1 R hb
 have An:=rrR C2 R hb
 refine wp_region_tail_below 4 (by first | assumption | kernel_rfl) (by kernel_rfl) ?_
 simp only [List.take_succ_cons,List.take_zero,List.drop_succ_cons,List.drop_zero]
 repeat (quiet_step (first | (with_reducible exact Am.out _ _) | (with_reducible exact An.out _ _)))
 refine wpQuiet_nil ?_
 intro w1 hw'
 obtain ⟨hk,hb⟩:=zQ hb hw'
 clear Ad Ae Af Ag Ah Ai Aa Ab Ac Aj Ak Al
 replace a0:=zB hk a0
 replace a1:=zB hk a1
 replace a2:=zB hk a2
 obtain ⟨Ad,Ae,Af⟩:=ce3 a0
 obtain ⟨Ag,Ah,Ai⟩:=ce3 a1
 obtain ⟨Aa,Aj,Ab,Ak,Ac,Al⟩:=cf3 a2
 clear Am An Ao Ap Aq Ar As At Au Av Aw
 clear hk hw'
 go_wp2_with ((first | (go_at_call 69;with_reducible refine (zL hb (C3.out _ (R.below hb))).mono ?_) | (go_at_call 77;with_reducible refine (chRB hb R C4).mono ?_) | (go_at_call 76;with_reducible refine (chRB hb R C5).mono ?_));clear hb;rintro e w1 ⟨rfl,hk,hb⟩;clear Ad Ae Af Ag Ah Ai Aa Ab Ac Aj Ak Al;replace a0:=zB hk a0;replace a1:=zB hk a1;replace a2:=zB hk a2;obtain ⟨Ad,Ae,Af⟩:=ce3 a0;obtain ⟨Ag,Ah,Ai⟩:=ce3 a1;obtain ⟨Aa,Aj,Ab,Ak,Ac,Al⟩:=cf3 a2;clear hk)
 refine bodyPost_ret (v:=.tuple #[.agg #[.string (ratB ((b*z) - (c*y))),.string (ratB ((c*x) - (a*z))),.string (ratB ((a*y) - (b*x)))],.int .i64 0]) (by simp [results,Tryz.results25,go_sem,Aa,Ab,Ac]) rfl ⟨rfl,?_⟩
 repeat' (first | exact hb | refine Below.setCell ?_ (by first | exact Nat.le_refl _ | (dsimp only;omega)) _)
theorem checkPts_w (blk n c:Nat) (ps:List (Rat × Rat)) (hn:ps.length=n) (_hnb:n≤10) (hr:∀ p,p ∈ ps→RL p.1 200∧RL p.2 200) (w:World) (R:EnvR w)
   (hc:∀ (j:Nat) (p:Rat × Rat),ps[j]? = some p→w.cell? ⟨blk,j*2,none⟩=some (.string (ratB p.1))∧w.cell? ⟨blk,j*2+1,none⟩=some (.string (ratB p.2))) :
   Calls Tryz.prog 95 #[.slice (some ⟨blk,0,none⟩) n c] w (Ret w (.int .i64 0)):=by
 have HC:=Lib.hid hc
 have HR:=Lib.hid hr
 have HN:=Lib.hid hn
 clear hc hr hn
 go_enter Tryz.func95,Tryz.ntmps95
 go_wp2
 go_loopw [8] (fun i wr=>∃ k:Nat,k≤n∧i = .int .i64 k∧Below w.heap.size w wr) (fun i _=>n - (intOf i).toNat)
 case atStart=>exact ⟨0,Nat.zero_le _,rfl,Below.refl _ _⟩
 case round =>
   obtain ⟨k,hk,rfl,hb⟩:=hrel
   by_cases hlt:k < n
   · obtain ⟨⟨p,q⟩,ht⟩:∃ t,ps[k]? = some t:=⟨_,List.getElem?_eq_getElem (by rw [HN.out];exact hlt)⟩
     have x0:wr.cell? ⟨blk,k*2,none⟩=some (.string (ratB p)):=zC hb (HC.out k _ ht).1
     have x1:wr.cell? ⟨blk,k*2+1,none⟩=some (.string (ratB q)):=zC hb (HC.out k _ ht).2
     have hpq:=HR.out _ (List.mem_of_getElem? ht)
     have CR:=Lib.hid (fun (w:World) (R:EnvR w)=>pcheck_ok p q hpq.1 hpq.2 w R)
     clear ht hpq
     go_wp2_with (go_at_call 17;(refine calls_alloc1 (fun w1 a9 hk=>?_));replace hb:=hb.trans (hk.mono hb.size);clear hk a9;(with_reducible refine (zK hb (CR.out _ (R.below hb))).mono ?_);clear hb;rintro e w1 ⟨rfl,hk2,hb⟩;clear hk2)
     go_roundw
     case rel=>exact ⟨k+1,by omega,by go_num,hb⟩
     case measure=>simp [intOf];omega
   · have ek:k=n:=by omega
     go_wp2
     go_ret
     exact ⟨rfl,hb⟩
set_option maxRecDepth 512 in
theorem checkPts2 (p0 p1 p2 p3:Rat) (rp0:RL p0 200) (rp1:RL p1 200) (rp2:RL p2 200) (rp3:RL p3 200) (w:World) (R:EnvR w) :
   Calls Tryz.prog 95 #[.slice (some ⟨w.heap.size,0,none⟩) 2 2] (w.alloc (Obj.cells #[Value.string (ratB p0),Value.string (ratB p1),Value.string (ratB p2),Value.string (ratB p3)] 30)) (Ret w (.int .i64 0)):=by
 have hba:Below w.heap.size w (w.alloc (Obj.cells #[Value.string (ratB p0),Value.string (ratB p1),Value.string (ratB p2),Value.string (ratB p3)] 30)):=(Below.refl _ _).alloc (Nat.le_refl _) _
 refine (checkPts_w w.heap.size 2 2 [(p0,p1),(p2,p3)] rfl (by decide) (by simp;exact ⟨⟨rp0,rp1⟩,⟨rp2,rp3⟩⟩) _ (R.below hba) ?_).mono fun e w' h=>⟨h.1,hba.trans (h.2.mono hba.size)⟩
 intro j t h
 match j,h with
 | 0,h=>injection h with h;subst h;simp [go_sem]
 | 1,h=>injection h with h;subst h;simp [go_sem]
 | j+2,h=>simp at h
set_option maxRecDepth 512 in
theorem checkPts3 (p0 p1 p2 p3 p4 p5:Rat) (rp0:RL p0 200) (rp1:RL p1 200) (rp2:RL p2 200) (rp3:RL p3 200) (rp4:RL p4 200) (rp5:RL p5 200) (w:World) (R:EnvR w) :
   Calls Tryz.prog 95 #[.slice (some ⟨w.heap.size,0,none⟩) 3 3] (w.alloc (Obj.cells #[Value.string (ratB p0),Value.string (ratB p1),Value.string (ratB p2),Value.string (ratB p3),Value.string (ratB p4),Value.string (ratB p5)] 30)) (Ret w (.int .i64 0)):=by
 have hba:Below w.heap.size w (w.alloc (Obj.cells #[Value.string (ratB p0),Value.string (ratB p1),Value.string (ratB p2),Value.string (ratB p3),Value.string (ratB p4),Value.string (ratB p5)] 30)):=(Below.refl _ _).alloc (Nat.le_refl _) _
 refine (checkPts_w w.heap.size 3 3 [(p0,p1),(p2,p3),(p4,p5)] rfl (by decide) (by simp;exact ⟨⟨rp0,rp1⟩,⟨rp2,rp3⟩,⟨rp4,rp5⟩⟩) _ (R.below hba) ?_).mono fun e w' h=>⟨h.1,hba.trans (h.2.mono hba.size)⟩
 intro j t h
 match j,h with
 | 0,h=>injection h with h;subst h;simp [go_sem]
 | 1,h=>injection h with h;subst h;simp [go_sem]
 | 2,h=>injection h with h;subst h;simp [go_sem]
 | j+3,h=>simp at h
theorem varea_any (a b c d x y:Rat) (r1:RL a 200) (r2:RL b 200) (r3:RL c 200) (r4:RL d 200) (r5:RL x 200) (r6:RL y 200) (r7:RL c 10000) (r8:RL a 10000) (r9:RL d 10000) (r10:RL b 10000) (r11:RL x 10000) (r12:RL y 10000) (r13:RL (c - a) 10000) (r14:RL (y - b) 10000) (r15:RL (d - b) 10000) (r16:RL (x - a) 10000) (r17:RL ((c - a)*(y - b)) 10000) (r18:RL ((d - b)*(x - a)) 10000) (r19:RL (((c - a)*(y - b)) - ((d - b)*(x - a))) 200) (w:World) (R:EnvR w) :
   Calls Tryz.prog 46 #[.agg #[.string (ratB a),.string (ratB b)],.agg #[.string (ratB c),.string (ratB d)],.agg #[.string (ratB x),.string (ratB y)]] w (Ret w (.tuple #[.string (ratB (((c - a)*(y - b)) - ((d - b)*(x - a)))),.int .i64 0])):=by
 have c1:=checkPts3 a b c d x y r1 r2 r3 r4 r5 r6
 have c2:=area_any a b c d x y r7 r8 r9 r10 r11 r12 r13 r14 r15 r16 r17 r18
 have c3:∀ w,EnvR w→Calls Tryz.prog 75 #[.string (ratB (((c - a)*(y - b)) - ((d - b)*(x - a)))),.slice (some ⟨w.heap.size,0,none⟩) 1 1] (w.alloc (Obj.cells #[Value.string (ratB (((c - a)*(y - b)) - ((d - b)*(x - a))))] 22)) (Ret w (.tuple #[.string (ratB (((c - a)*(y - b)) - ((d - b)*(x - a)))),.int .i64 0])):=fun w R=>resR (ratB (((c - a)*(y - b)) - ((d - b)*(x - a)))) (ratB (((c - a)*(y - b)) - ((d - b)*(x - a)))) (by intro t ht;simp only [List.mem_cons,List.not_mem_nil,or_false] at ht;subst ht;exact ⟨_,rfl,r19⟩) w R
 have C1:=Lib.hid c1
 have C2:=Lib.hid c2
 have C3:=Lib.hid c3
 clear c1 c2 c3 r1 r2 r3 r4 r5 r6 r7 r8 r9 r10 r11 r12 r13 r14 r15 r16 r17 r18 r19
 have hb:=Below.refl w.heap.size w
 go_enter Tryz.func46,Tryz.ntmps46
 go_upto_region 1 with fail
 refine wp_alloc3 (fun w1 a0 a1 a2 hk=>?_)
 replace hb:=hb.trans (hk.mono hb.size)
 clear hk
 obtain ⟨Aa,Ab⟩:=ce2 a0
 obtain ⟨Ac,Ad⟩:=ce2 a1
 obtain ⟨Ae,Af⟩:=ce2 a2
 go_wp2_with (first | ((first | (go_at_call 95;with_reducible refine (zL hb (C1.out _ (R.below hb))).mono ?_) | (go_at_call 97;with_reducible refine (chRB hb R C2).mono ?_));clear hb;rintro e w1 ⟨rfl,hk,hb⟩;clear Aa Ab Ac Ad Ae Af;replace a0:=zB hk a0;replace a1:=zB hk a1;replace a2:=zB hk a2;obtain ⟨Aa,Ab⟩:=ce2 a0;obtain ⟨Ac,Ad⟩:=ce2 a1;obtain ⟨Ae,Af⟩:=ce2 a2;clear hk) | (go_at_call 75;with_reducible refine (zL hb (C3.out _ (R.below hb))).mono ?_;clear hb;rintro e w1 ⟨rfl,hk,hb⟩;clear hk))
 first | go_ret | go_ret2 | go_ret3
 exact ⟨rfl,hb⟩
structure EnvV (w:World):Prop extends EnvR w where
 z0:w.cell? ⟨0,0,none⟩=some (.string ⟨#[48]⟩)
 z1:w.cell? ⟨0,1,none⟩=some (.string ⟨#[48]⟩)
 z2:w.cell? ⟨0,2,none⟩=some (.string ⟨#[48]⟩)
theorem EnvV.below {w w':World} (h:EnvV w) (hb:Below w.heap.size w w'):EnvV w':=
 ⟨h.toEnvR.below hb,zC hb h.z0,zC hb h.z1,zC hb h.z2⟩
@[reducible] def CV (f : FuncId) (args : Array Value) (v : Value) : Prop := ∀ w, EnvV w → Calls Tryz.prog f args w (Ret w v)
theorem qqV {f:FuncId} {args:Array Value} {v:Value} {w0 w:World} (C:Hid (∀ w,EnvV w→Calls Tryz.prog f args w (Ret w v))) (R:EnvV w0) (hb:Below w0.heap.size w0 w):Hid (∀ d os,Calls Tryz.prog f args (Sort.grow (redrawn w d) os) fun e w' => e = .returned v∧Since (Sort.grow (redrawn w d) os) w'):=Lib.hid (fun d os=>(C.out (Sort.grow (redrawn w d) os) (R.below (hb.trans ((below_regrown w d os).mono hb.size)))).mono (fun _ _ h=>⟨h.1,h.2⟩))
theorem rrV {f:FuncId} {args:Array Value} {v:Value} {w0 w:World} (C:Hid (∀ w,EnvV w→Calls Tryz.prog f args w (Ret w v))) (R:EnvV w0) (hb:Below w0.heap.size w0 w):Hid (∀ d os,Calls Tryz.prog f args (Sort.grow (redrawn w d) os) fun e w'' => e = .returned v∧∃ p:Regrown,w''=Sort.grow (redrawn w p.d) p.os):=Lib.hid (fun d os=>Calls.regrown_of (C.out (Sort.grow (redrawn w d) os) (R.below (hb.trans ((below_regrown w d os).mono hb.size)))))
theorem chVB {f:FuncId} {args:Array Value} {v:Value} {w0 w:World} (hb:Below w0.heap.size w0 w) (R:EnvV w0) (C:Hid (∀ w,EnvV w→Calls Tryz.prog f args w (Ret w v))):Calls Tryz.prog f args w fun e w' => e = .returned v∧Below w.heap.size w w'∧Below w0.heap.size w0 w':=zK hb (C.out _ (R.below hb))
theorem zero_iff (q:Rat):((ratB q).toList=[48])↔q=0:=by
 have:=ratB_eq_zero q
 rw [← beq_iff_eq,this,decide_eq_true_iff]
theorem checkPlane_0 (a b c d:Rat) (n0:a≠0) (r1:RL a 200) (r2:RL b 200) (r3:RL c 200) (r4:RL d 200) (w:World) (R:EnvV w) :
   Calls Tryz.prog 19 #[.agg #[.string (ratB a),.string (ratB b),.string (ratB c),.string (ratB d)]] w (Ret w (.int .i64 0)):=by
 have c1:=fun (w:World) (R:EnvV w)=>vcheck_ok a b c r1 r2 r3 w R.toEnvR
 have c2:CV 70 #[.string (ratB d)] (.int .i64 0):=fun w R=>rcheck_any _ 0 (.inl ⟨isRat_of r4,rfl⟩) (Nat.le_trans (size_of_RL r4) (by decide)) w R.toEnvR
 have c3:=fun (w:World) (R:EnvV w)=>orErr2 0 0 0 (by decide) w R.toEnvR
 have e0:((ratB a).toList == [48])=false:=by rw [ratB_eq_zero];exact decide_eq_false n0
 have p0:¬ (ratB a).toList=[48]:=fun h=>n0 ((zero_iff _).1 h)
 have C1:=Lib.hid c1
 have C2:=Lib.hid c2
 have C3:=Lib.hid c3
 clear c1 c2 c3 n0 r1 r2 r3 r4
 have hb:=Below.refl w.heap.size w
 have Aa:w.cell? ⟨0,0,none⟩=some (Value.string ⟨#[48]⟩):=R.z0
 have Ab:w.cell? ⟨0,1,none⟩=some (Value.string ⟨#[48]⟩):=R.z1
 have Ac:w.cell? ⟨0,2,none⟩=some (Value.string ⟨#[48]⟩):=R.z2
 go_enter Tryz.func19,Tryz.ntmps19
 go_upto_region 1 with fail
 refine wp_alloc1 (fun w1 a0 hk=>?_)
 replace Aa:=zC hk Aa
 replace Ab:=zC hk Ab
 replace Ac:=zC hk Ac
 replace hb:=hb.trans (hk.mono hb.size)
 clear hk
 obtain ⟨Ad,Ae,Af,Ag⟩:=ce4 a0
 go_upto_region 1 with fail
 have Aj:=zR Aa
 have Ak:=zR Ab
 have Al:=zR Ac
 obtain ⟨Am,An,Ao,Ap⟩:=cy4 a0
 have Ah:=rrV C1 R hb
 have Ai:=rrV C2 R hb
 refine wp_region_tail_below 6 (by first | assumption | kernel_rfl) (by kernel_rfl) ?_
 simp only [List.take_succ_cons,List.take_zero,List.drop_succ_cons,List.drop_zero]
 repeat (quiet_step (first | (with_reducible exact Ah.out _ _) | (with_reducible exact Ai.out _ _)))
 refine wpQuiet_nil ?_
 intro w1 hw'
 obtain ⟨hk,hb⟩:=zQ hb hw'
 replace Aa:=zC hk Aa
 replace Ab:=zC hk Ab
 replace Ac:=zC hk Ac
 clear Ad Ae Af Ag
 replace a0:=zB hk a0
 obtain ⟨Ad,Ae,Af,Ag⟩:=ce4 a0
 clear Ah Ai Aj Ak Al Am An Ao Ap
 clear hk hw'
 go_wp2_with (go_at_call 69;with_reducible refine (zL hb (C3.out _ (R.below hb))).mono ?_;clear hb;rintro e w1 ⟨rfl,hk,hb⟩;replace Aa:=zC hk Aa;replace Ab:=zC hk Ab;replace Ac:=zC hk Ac;clear Ad Ae Af Ag;replace a0:=zB hk a0;obtain ⟨Ad,Ae,Af,Ag⟩:=ce4 a0;clear hk)
 first | go_ret | go_ret2 | go_ret3
 exact ⟨rfl,hb⟩
theorem checkPlane_1 (a b c d:Rat) (z0:a=0) (n1:b≠0) (r1:RL a 200) (r2:RL b 200) (r3:RL c 200) (r4:RL d 200) (w:World) (R:EnvV w) :
   Calls Tryz.prog 19 #[.agg #[.string (ratB a),.string (ratB b),.string (ratB c),.string (ratB d)]] w (Ret w (.int .i64 0)):=by
 have c1:=fun (w:World) (R:EnvV w)=>vcheck_ok a b c r1 r2 r3 w R.toEnvR
 have c2:CV 70 #[.string (ratB d)] (.int .i64 0):=fun w R=>rcheck_any _ 0 (.inl ⟨isRat_of r4,rfl⟩) (Nat.le_trans (size_of_RL r4) (by decide)) w R.toEnvR
 have c3:=fun (w:World) (R:EnvV w)=>orErr2 0 0 0 (by decide) w R.toEnvR
 have e0:((ratB a).toList == [48])=true:=by rw [ratB_eq_zero];exact decide_eq_true z0
 have p0:(ratB a).toList=[48]:=(zero_iff _).2 z0
 have e1:((ratB b).toList == [48])=false:=by rw [ratB_eq_zero];exact decide_eq_false n1
 have p1:¬ (ratB b).toList=[48]:=fun h=>n1 ((zero_iff _).1 h)
 have C1:=Lib.hid c1
 have C2:=Lib.hid c2
 have C3:=Lib.hid c3
 clear c1 c2 c3 z0 n1 r1 r2 r3 r4
 have hb:=Below.refl w.heap.size w
 have Aa:w.cell? ⟨0,0,none⟩=some (Value.string ⟨#[48]⟩):=R.z0
 have Ab:w.cell? ⟨0,1,none⟩=some (Value.string ⟨#[48]⟩):=R.z1
 have Ac:w.cell? ⟨0,2,none⟩=some (Value.string ⟨#[48]⟩):=R.z2
 go_enter Tryz.func19,Tryz.ntmps19
 go_upto_region 1 with fail
 refine wp_alloc1 (fun w1 a0 hk=>?_)
 replace Aa:=zC hk Aa
 replace Ab:=zC hk Ab
 replace Ac:=zC hk Ac
 replace hb:=hb.trans (hk.mono hb.size)
 clear hk
 obtain ⟨Ad,Ae,Af,Ag⟩:=ce4 a0
 go_upto_region 1 with fail
 have Aj:=zR Aa
 have Ak:=zR Ab
 have Al:=zR Ac
 obtain ⟨Am,An,Ao,Ap⟩:=cy4 a0
 have Ah:=rrV C1 R hb
 have Ai:=rrV C2 R hb
 refine wp_region_tail_below 6 (by first | assumption | kernel_rfl) (by kernel_rfl) ?_
 simp only [List.take_succ_cons,List.take_zero,List.drop_succ_cons,List.drop_zero]
 repeat (quiet_step (first | (with_reducible exact Ah.out _ _) | (with_reducible exact Ai.out _ _)))
 refine wpQuiet_nil ?_
 intro w1 hw'
 obtain ⟨hk,hb⟩:=zQ hb hw'
 replace Aa:=zC hk Aa
 replace Ab:=zC hk Ab
 replace Ac:=zC hk Ac
 clear Ad Ae Af Ag
 replace a0:=zB hk a0
 obtain ⟨Ad,Ae,Af,Ag⟩:=ce4 a0
 clear Ah Ai Aj Ak Al Am An Ao Ap
 clear hk hw'
 go_wp2_with (go_at_call 69;with_reducible refine (zL hb (C3.out _ (R.below hb))).mono ?_;clear hb;rintro e w1 ⟨rfl,hk,hb⟩;replace Aa:=zC hk Aa;replace Ab:=zC hk Ab;replace Ac:=zC hk Ac;clear Ad Ae Af Ag;replace a0:=zB hk a0;obtain ⟨Ad,Ae,Af,Ag⟩:=ce4 a0;clear hk)
 first | go_ret | go_ret2 | go_ret3
 exact ⟨rfl,hb⟩
theorem checkPlane_2 (a b c d:Rat) (z0:a=0) (z1:b=0) (n2:c≠0) (r1:RL a 200) (r2:RL b 200) (r3:RL c 200) (r4:RL d 200) (w:World) (R:EnvV w) :
   Calls Tryz.prog 19 #[.agg #[.string (ratB a),.string (ratB b),.string (ratB c),.string (ratB d)]] w (Ret w (.int .i64 0)):=by
 have c1:=fun (w:World) (R:EnvV w)=>vcheck_ok a b c r1 r2 r3 w R.toEnvR
 have c2:CV 70 #[.string (ratB d)] (.int .i64 0):=fun w R=>rcheck_any _ 0 (.inl ⟨isRat_of r4,rfl⟩) (Nat.le_trans (size_of_RL r4) (by decide)) w R.toEnvR
 have c3:=fun (w:World) (R:EnvV w)=>orErr2 0 0 0 (by decide) w R.toEnvR
 have e0:((ratB a).toList == [48])=true:=by rw [ratB_eq_zero];exact decide_eq_true z0
 have p0:(ratB a).toList=[48]:=(zero_iff _).2 z0
 have e1:((ratB b).toList == [48])=true:=by rw [ratB_eq_zero];exact decide_eq_true z1
 have p1:(ratB b).toList=[48]:=(zero_iff _).2 z1
 have e2:((ratB c).toList == [48])=false:=by rw [ratB_eq_zero];exact decide_eq_false n2
 have p2:¬ (ratB c).toList=[48]:=fun h=>n2 ((zero_iff _).1 h)
 have C1:=Lib.hid c1
 have C2:=Lib.hid c2
 have C3:=Lib.hid c3
 clear c1 c2 c3 z0 z1 n2 r1 r2 r3 r4
 have hb:=Below.refl w.heap.size w
 have Aa:w.cell? ⟨0,0,none⟩=some (Value.string ⟨#[48]⟩):=R.z0
 have Ab:w.cell? ⟨0,1,none⟩=some (Value.string ⟨#[48]⟩):=R.z1
 have Ac:w.cell? ⟨0,2,none⟩=some (Value.string ⟨#[48]⟩):=R.z2
 go_enter Tryz.func19,Tryz.ntmps19
 go_upto_region 1 with fail
 refine wp_alloc1 (fun w1 a0 hk=>?_)
 replace Aa:=zC hk Aa
 replace Ab:=zC hk Ab
 replace Ac:=zC hk Ac
 replace hb:=hb.trans (hk.mono hb.size)
 clear hk
 obtain ⟨Ad,Ae,Af,Ag⟩:=ce4 a0
 go_upto_region 1 with fail
 have Aj:=zR Aa
 have Ak:=zR Ab
 have Al:=zR Ac
 obtain ⟨Am,An,Ao,Ap⟩:=cy4 a0
 have Ah:=rrV C1 R hb
 have Ai:=rrV C2 R hb
 refine wp_region_tail_below 6 (by first | assumption | kernel_rfl) (by kernel_rfl) ?_
 simp only [List.take_succ_cons,List.take_zero,List.drop_succ_cons,List.drop_zero]
 repeat (quiet_step (first | (with_reducible exact Ah.out _ _) | (with_reducible exact Ai.out _ _)))
 refine wpQuiet_nil ?_
 intro w1 hw'
 obtain ⟨hk,hb⟩:=zQ hb hw'
 replace Aa:=zC hk Aa
 replace Ab:=zC hk Ab
 replace Ac:=zC hk Ac
 clear Ad Ae Af Ag
 replace a0:=zB hk a0
 obtain ⟨Ad,Ae,Af,Ag⟩:=ce4 a0
 clear Ah Ai Aj Ak Al Am An Ao Ap
 clear hk hw'
 go_wp2_with (go_at_call 69;with_reducible refine (zL hb (C3.out _ (R.below hb))).mono ?_;clear hb;rintro e w1 ⟨rfl,hk,hb⟩;replace Aa:=zC hk Aa;replace Ab:=zC hk Ab;replace Ac:=zC hk Ac;clear Ad Ae Af Ag;replace a0:=zB hk a0;obtain ⟨Ad,Ae,Af,Ag⟩:=ce4 a0;clear hk)
 first | go_ret | go_ret2 | go_ret3
 exact ⟨rfl,hb⟩
theorem checkPlane_ok (a b c d:Rat) (r1:RL a 200) (r2:RL b 200) (r3:RL c 200) (r4:RL d 200) (nz:a≠0∨b≠0∨c≠0) (w:World) (R:EnvV w) :
   Calls Tryz.prog 19 #[.agg #[.string (ratB a),.string (ratB b),.string (ratB c),.string (ratB d)]] w (Ret w (.int .i64 0)):=by
 by_cases z0:a=0
 · skip
   by_cases z1:b=0
   · skip
     by_cases z2:c=0
     · skip
       exact absurd nz (by simp [z0,z1,z2])
     · exact checkPlane_2 a b c d z0 z1 z2 r1 r2 r3 r4 w R
   · exact checkPlane_1 a b c d z0 z1 r1 r2 r3 r4 w R
 · exact checkPlane_0 a b c d z0 r1 r2 r3 r4 w R
theorem meet_any (a b c x y z:Rat) (r1:RL a 10000) (r2:RL y 10000) (r3:RL b 10000) (r4:RL x 10000) (r5:RL (a*y) 10000) (r6:RL (b*x) 10000) (r7:RL c 10000) (r8:RL z 10000) (r9:RL (c*y) 10000) (r10:RL (b*z) 10000) (r11:((a*y) - (b*x))≠0) (r12:RL ((c*y) - (b*z)) 10000) (r13:RL ((a*y) - (b*x)) 10000) (r14:RL (a*z) 10000) (r15:RL (c*x) 10000) (r16:RL ((a*z) - (c*x)) 10000) (w:World) (R:EnvV w) :
   Calls Tryz.prog 107 #[.agg #[.string (ratB a),.string (ratB b),.string (ratB c)],.agg #[.string (ratB x),.string (ratB y),.string (ratB z)]] w (Ret w (.tuple #[.agg #[.string (ratB (((c*y) - (b*z)) / ((a*y) - (b*x)))),.string (ratB (((a*z) - (c*x)) / ((a*y) - (b*x))))],.bool true])):=by
 have c1:=fun (w:World) (R:EnvV w)=>det_any a b x y r1 r2 r3 r4 r5 r6 w R.toEnvR
 have c2:=fun (w:World) (R:EnvV w)=>det_any c b z y r7 r2 r3 r8 r9 r10 w R.toEnvR
 have c3:=fun (w:World) (R:EnvV w)=>rdiv_any ((c*y) - (b*z)) ((a*y) - (b*x)) r12 r13 r11 w R.toEnvR
 have c4:=fun (w:World) (R:EnvV w)=>det_any a c x z r1 r8 r7 r4 r14 r15 w R.toEnvR
 have c5:=fun (w:World) (R:EnvV w)=>rdiv_any ((a*z) - (c*x)) ((a*y) - (b*x)) r16 r13 r11 w R.toEnvR
 have C1:=Lib.hid c1
 have C2:=Lib.hid c2
 have C3:=Lib.hid c3
 have C4:=Lib.hid c4
 have C5:=Lib.hid c5
 clear c1 c2 c3 c4 c5 r1 r2 r3 r4 r5 r6 r7 r8 r9 r10 r11 r12 r13 r14 r15 r16
 have hb:=Below.refl w.heap.size w
 have Aa:w.cell? ⟨0,0,none⟩=some (Value.string ⟨#[48]⟩):=R.z0
 have Ab:w.cell? ⟨0,1,none⟩=some (Value.string ⟨#[48]⟩):=R.z1
 have Ac:w.cell? ⟨0,2,none⟩=some (Value.string ⟨#[48]⟩):=R.z2
 go_enter Tryz.func107,Tryz.ntmps107
 go_upto_region 1 with fail
 refine wp_alloc3 (fun w1 a0 a1 a2 hk=>?_)
 replace Aa:=zC hk Aa
 replace Ab:=zC hk Ab
 replace Ac:=zC hk Ac
 replace hb:=hb.trans (hk.mono hb.size)
 clear hk
 obtain ⟨Af,Ag,Ah⟩:=ce3 a0
 obtain ⟨Ai,Aj,Ak⟩:=ce3 a1
 obtain ⟨Ad,Al,Ae,Am⟩:=cf2 a2
 go_wp2_with ((first | (go_at_call 126;first | with_reducible refine (chVB hb R C1).mono ?_ | with_reducible refine (chVB hb R C2).mono ?_ | with_reducible refine (chVB hb R C4).mono ?_) | (go_at_call 111;first | with_reducible refine (chVB hb R C3).mono ?_ | with_reducible refine (chVB hb R C5).mono ?_));clear hb;rintro e w1 ⟨rfl,hk,hb⟩;replace Aa:=zC hk Aa;replace Ab:=zC hk Ab;replace Ac:=zC hk Ac;clear Af Ag Ah Ai Aj Ak Ad Ae Al Am;replace a0:=zB hk a0;replace a1:=zB hk a1;replace a2:=zB hk a2;obtain ⟨Af,Ag,Ah⟩:=ce3 a0;obtain ⟨Ai,Aj,Ak⟩:=ce3 a1;obtain ⟨Ad,Al,Ae,Am⟩:=cf2 a2;clear hk)
 refine bodyPost_ret (v:=.tuple #[.agg #[.string (ratB (((c*y) - (b*z)) / ((a*y) - (b*x)))),.string (ratB (((a*z) - (c*x)) / ((a*y) - (b*x))))],.bool true]) (by simp [results,Tryz.results107,go_sem,Ad,Ae]) rfl ⟨rfl,?_⟩
 repeat' (first | exact hb | refine Below.setCell ?_ (by first | exact Nat.le_refl _ | (dsimp only;omega)) _)
theorem ratB_li {p q:Rat} (h:(ratB p).toList=(ratB q).toList):p=q:=by
 rw [Lib.toList_data,Lib.toList_data] at h
 exact ratS_inj h
theorem q_thr1 (a x:Rat) : -(a - x)=x - a:=by grind
theorem q_thr2 (a b x y:Rat):(b - y)*a + -(a - x)*b - 0=(b - y)*a+(x - a)*b:=by grind
theorem wp_store3_2 {P:Program} {c:Code} {Q:Exit→Act→World→Prop} {a:Act} {w w1:World} {B:Nat} {T:TypeId} {u0 u1 u2 v2:Value}
   (hb:Below w.heap.size w w1) (hB:w.heap.size≤B) (h:w1.heap[B]? = some (Obj.cells #[u0,u1,u2] T))
   (k:∀ w2:World,Below w.heap.size w w2→w2.heap[B]? = some (Obj.cells #[u0,u1,v2] T)→(∀ j,j≠B→w2.heap[j]? = w1.heap[j]?)→Code.wp P c Q a w2) :
   Code.wp P c Q a (w1.setCell ⟨B,2,none⟩ v2):=by
 refine k _ (Below.setCell hb hB _) ?_ (fun j hj=>?_)
 · exact setCell_here h v2
 · rw [Below.heap_setCell _ _ _ _ hj]
theorem q_lev (a b c x y:Rat):a*x+b*y + -1*c=a*x+b*y - c:=by grind
theorem level2_any (a b c x y:Rat) (r1:RL a 10000) (r2:RL x 10000) (r3:RL (a*x) 10000) (r4:RL b 10000) (r5:RL y 10000) (r6:RL ((0:Rat)+(a*x)) 10000) (r7:RL (b*y) 10000) (r8:RL c 10000) (r9:RL (((0:Rat)+(a*x))+(b*y)) 10000) (r10:RL ((-1:Rat)*c) 10000) (w:World) (R:EnvV w) :
   Calls Tryz.prog 103 #[.agg #[.string (ratB a),.string (ratB b),.string (ratB c)],.agg #[.string (ratB x),.string (ratB y)]] w (Ret w (.string (ratB (((a*x)+(b*y)) - c)))):=by
 have c1:CV 74 #[.agg #[.string (ratB a),.string (ratB b),.string ⟨#[45,49]⟩],.agg #[.string (ratB x),.string (ratB y),.string (ratB c)]] (.string (ratB (((a*x)+(b*y)) - c))):=fun w R=>(by have h:=(by have h:=dot_any a b (-1:Rat) x y c r1 r2 r3 r4 r5 r6 r7 (RN.rl (K:=10000) rn_m1) r8 r9 r10 w R.toEnvR;simp only [rb_m1] at h;exact h);rwa [q_lev] at h)
 have C1:=Lib.hid c1
 clear c1 r1 r2 r3 r4 r5 r6 r7 r8 r9 r10
 have hb:=Below.refl w.heap.size w
 go_enter Tryz.func103,Tryz.ntmps103
 go_upto_region 1 with fail
 refine wp_alloc2 (fun w1 a0 a1 hk=>?_)
 replace hb:=hb.trans (hk.mono hb.size)
 clear hk
 obtain ⟨Aa,Ab,Ac⟩:=ce3 a0
 obtain ⟨Ad,Ae⟩:=ce2 a1
 go_wp2_with (go_at_call 74;with_reducible refine (chVB hb R C1).mono ?_;clear hb;rintro e w1 ⟨rfl,hk,hb⟩;clear Aa Ab Ac Ad Ae;replace a0:=zB hk a0;replace a1:=zB hk a1;obtain ⟨Aa,Ab,Ac⟩:=ce3 a0;obtain ⟨Ad,Ae⟩:=ce2 a1;clear hk)
 first | go_ret | go_ret2 | go_ret3
 exact ⟨rfl,hb⟩
theorem through_0 (a b x y:Rat) (q0:a≠x) (r1:RL a 200) (r2:RL b 200) (r3:RL x 200) (r4:RL y 200) (r5:RL a 10000) (r6:RL x 10000) (r7:RL b 10000) (r8:RL y 10000) (r9:RL (a - x) 40000) (r10:RL (b - y) 10000) (r11:RL ((b - y)*a) 10000) (r12:RL (-(a - x)) 10000) (r13:RL ((0:Rat)+((b - y)*a)) 10000) (r14:RL ((-(a - x))*b) 10000) (r15:RL (((0:Rat)+((b - y)*a))+((-(a - x))*b)) 10000) (r16:RL ((-1:Rat)*(0:Rat)) 10000) (r17:RL (b - y) 200) (r18:RL (-(a - x)) 200) (r19:RL ((((b - y)*a)+((-(a - x))*b)) - (0:Rat)) 200) (w:World) (R:EnvV w) :
   Calls Tryz.prog 54 #[.agg #[.string (ratB a),.string (ratB b)],.agg #[.string (ratB x),.string (ratB y)]] w (Ret w (.tuple #[.agg #[.string (ratB (b - y)),.string (ratB (x - a)),.string (ratB (((b - y)*a)+((x - a)*b)))],.int .i64 0])):=by
 have c1:=fun (w:World) (R:EnvV w)=>checkPts2 a b x y r1 r2 r3 r4 w R.toEnvR
 have c2:=fun (w:World) (R:EnvV w)=>way_any x y a b r5 r6 r7 r8 w R.toEnvR
 have c3:=fun (w:World) (R:EnvV w)=>rneg_any (a - x) r9 w R.toEnvR
 have c4:CV 103 #[.agg #[.string (ratB (b - y)),.string (ratB (-(a - x))),.string ⟨#[48]⟩],.agg #[.string (ratB a),.string (ratB b)]] (.string (ratB ((((b - y)*a)+((-(a - x))*b)) - (0:Rat)))):=fun w R=>(by have h:=level2_any (b - y) (-(a - x)) (0:Rat) a b r10 r5 r11 r12 r7 r13 r14 (RN.rl (K:=10000) rn_0) r15 r16 w R;simp only [rb_0] at h;exact h)
 have c5:∀ w,EnvV w→Calls Tryz.prog 104 #[.agg #[.string (ratB (b - y)),.string (ratB (-(a - x))),.string (ratB ((((b - y)*a)+((-(a - x))*b)) - (0:Rat)))],.slice (some ⟨w.heap.size,0,none⟩) 3 3] (w.alloc (Obj.cells #[Value.string (ratB (b - y)),Value.string (ratB (-(a - x))),Value.string (ratB ((((b - y)*a)+((-(a - x))*b)) - (0:Rat)))] 22)) (Ret w (.tuple #[.agg #[.string (ratB (b - y)),.string (ratB (x - a)),.string (ratB (((b - y)*a)+((x - a)*b)))],.int .i64 0])):=fun w R=>(resL (ratB (b - y)) (ratB (-(a - x))) (ratB ((((b - y)*a)+((-(a - x))*b)) - (0:Rat))) (ratB (b - y)) (ratB (-(a - x))) (ratB ((((b - y)*a)+((-(a - x))*b)) - (0:Rat))) (by intro t ht;simp only [List.mem_cons,List.not_mem_nil,or_false] at ht;rcases ht with rfl | rfl | rfl;exact ⟨_,rfl,r17⟩;exact ⟨_,rfl,r18⟩;exact ⟨_,rfl,r19⟩) w R.toEnvR).mono (fun e w' h=>⟨h.1.trans (by rw [q_thr2,q_thr1]),h.2⟩)
 have eq0:((ratB a).toList == (ratB x).toList)=false:=beq_eq_false_iff_ne.2 (fun g=>q0 (ratB_li g))
 have pq0:¬ (ratB a).toList=(ratB x).toList:=fun g=>q0 (ratB_li g)
 have C1:=Lib.hid c1
 have C2:=Lib.hid c2
 have C3:=Lib.hid c3
 have C4:=Lib.hid c4
 have C5:=Lib.hid c5
 clear c1 c2 c3 c4 c5 q0 r1 r2 r3 r4 r5 r6 r7 r8 r9 r10 r11 r12 r13 r14 r15 r16 r17 r18 r19
 have hb:=Below.refl w.heap.size w
 go_enter Tryz.func54,Tryz.ntmps54
 go_upto_region 1 with fail
 refine wp_alloc3 (fun w1 a0 a1 a2 hk=>?_)
 replace hb:=hb.trans (hk.mono hb.size)
 clear hk
 obtain ⟨Al,Am⟩:=ce2 a0
 obtain ⟨Aq,Ar⟩:=ce2 a1
 obtain ⟨Ad,Ag,Ae,Ah,Af,Ai⟩:=cf3 a2
 go_upto_region 7 with ((first | (go_at_call 95;with_reducible refine (zL hb (C1.out _ (R.below hb))).mono ?_) | (go_at_call 99;with_reducible refine (chVB hb R C2).mono ?_));clear hb;rintro e w1 ⟨rfl,hk,hb⟩;clear Al Am Aq Ar Ad Ae Af Ag Ah Ai;replace a0:=zB hk a0;replace a1:=zB hk a1;replace a2:=zB hk a2;obtain ⟨Al,Am⟩:=ce2 a0;obtain ⟨Aq,Ar⟩:=ce2 a1;obtain ⟨Ad,Ag,Ae,Ah,Af,Ai⟩:=cf3 a2;clear hk)
 clear Aq Ar a1
 refine wp_alloc1 (fun w1 Ab hk=>?_)
 clear Al Am Ad Ae Af Ag Ah Ai
 replace a0:=zB hk a0
 replace a2:=zB hk a2
 obtain ⟨Al,Am⟩:=ce2 a0
 obtain ⟨Ad,Ag,Ae,Ah,Af,Ai⟩:=cf3 a2
 replace hb:=hb.trans (hk.mono hb.size)
 clear hk
 obtain ⟨Aj,Ak⟩:=ce2 Ab
 obtain ⟨At,Au⟩:=cy2 a0
 obtain ⟨Av,Aw,Ax⟩:=cy3 a2
 obtain ⟨Ay,Az⟩:=cy2 Ab
 have A0:=rrV C3 R hb
 have As:=qqV C3 R hb
 refine wp_free1 6 0 (fun i=>if i=6 then Obj.cells #[Value.string ⟨#[]⟩,Value.string ⟨#[]⟩,Value.string ⟨#[]⟩] 81 else Obj.cells #[] 0) (fun i=>if i=6 then Obj.cells #[Value.string (ratB (b - y)),Value.string (ratB (-(a - x))),Value.string ⟨#[48]⟩] 81 else Obj.cells #[] 0) (some 8) (by first | assumption | kernel_rfl) (by kernel_rfl) ?lay rfl ?_
 case lay =>
   intro i h1 h2
   obtain rfl:i=6:=by omega
   all_goals exact ⟨_,rfl,rfl,fun a w=>(by first | (go_simp;done) | (go_simp;rfl))⟩
 simp only [List.take_succ_cons,List.take_zero]
 repeat (refine wpB_step (fun K hK=>?_);go_simp;first | (refine hK _ ?_;clear hK K) | (apply Exists.intro;refine ⟨fun _=>?_,hK _ ?_⟩;(first | (with_reducible exact As.out _ _));clear hK K))
 refine wpB_nil ?_
 intro Ac
 refine ⟨?_,?_⟩
 · refine ⟨_,rfl,rfl,rfl,fun cs b h=>(by cases h),fun w hw=>?_⟩
   replace hw:w.heap[Ac]? = some (Obj.cells #[Value.string ⟨#[]⟩,Value.string ⟨#[]⟩,Value.string ⟨#[]⟩] 81):=hw
   have z0:w.cell? ⟨Ac,0,none⟩=some (Value.string ⟨#[]⟩):=zA hw
   have y0:w.frozen? ⟨Ac,0,none⟩=false:=zD hw
   have z1:w.cell? ⟨Ac,1,none⟩=some (Value.string ⟨#[]⟩):=zA hw
   have y1:w.frozen? ⟨Ac,1,none⟩=false:=zD hw
   have z2:w.cell? ⟨Ac,2,none⟩=some (Value.string ⟨#[]⟩):=zA hw
   have y2:w.frozen? ⟨Ac,2,none⟩=false:=zD hw
   refine ⟨_,?_,(Wrote.set (i:=2) (Wrote.set (i:=1) (Wrote.set (i:=0) (Wrote.refl hw) (Value.string (ratB (b - y)))) (Value.string (ratB (-(a - x))))) (Value.string ⟨#[48]⟩))⟩
   go_simp
 intro w1 hk m0 Aa
 have mb7_0:w.heap.size≤Ac:=Nat.le_trans hb.size m0
 have mc7_0_0:=Nat.lt_of_lt_of_le (Array.getElem?_eq_some_iff.1 a0).1 m0
 have mc7_0_2:=Nat.lt_of_lt_of_le (Array.getElem?_eq_some_iff.1 a2).1 m0
 have mc7_0_g7_0:=Nat.lt_of_lt_of_le (Array.getElem?_eq_some_iff.1 Ab).1 m0
 clear Al Am Ad Ae Af Ag Ah Ai Aj Ak
 replace a0:=zB hk a0
 replace a2:=zB hk a2
 replace Ab:=zB hk Ab
 obtain ⟨Al,Am⟩:=ce2 a0
 obtain ⟨Ad,Ag,Ae,Ah,Af,Ai⟩:=cf3 a2
 obtain ⟨Aj,Ak⟩:=ce2 Ab
 replace hb:=hb.trans (hk.mono hb.size)
 clear hk
 replace Aa:w1.heap[Ac]? = some (Obj.cells #[Value.string (ratB (b - y)),Value.string (ratB (-(a - x))),Value.string ⟨#[48]⟩] 81):=Aa
 have An:w1.cell? ⟨Ac,0,none⟩=some (Value.string (ratB (b - y))):=zA Aa
 have Ao:w1.cell? ⟨Ac,1,none⟩=some (Value.string (ratB (-(a - x)))):=zA Aa
 have Ap:w1.cell? ⟨Ac,2,none⟩=some (Value.string ⟨#[48]⟩):=zA Aa
 have fv7_0_0:w1.frozen? ⟨Ac,0,none⟩=false:=zD Aa
 have fv7_0_1:w1.frozen? ⟨Ac,1,none⟩=false:=zD Aa
 have fv7_0_2:w1.frozen? ⟨Ac,2,none⟩=false:=zD Aa
 clear As A0 At Au Av Aw Ax Ay Az m0
 go_upto_region 9 with (first | (go_at_call 103;with_reducible refine (chVB hb R C4).mono ?_;clear hb;rintro e w1 ⟨rfl,hk,hb⟩;clear Al Am Ad Ae Af Ag Ah Ai Aj Ak An Ao Ap fv7_0_0 fv7_0_1 fv7_0_2;replace a0:=zB hk a0;replace a2:=zB hk a2;replace Ab:=zB hk Ab;replace Aa:=zB hk Aa;obtain ⟨Al,Am⟩:=ce2 a0;obtain ⟨Ad,Ag,Ae,Ah,Af,Ai⟩:=cf3 a2;obtain ⟨Aj,Ak⟩:=ce2 Ab;obtain ⟨An,fv7_0_0,Ao,fv7_0_1,Ap,fv7_0_2⟩:=cf3 Aa;clear hk) | (go_at_call 104;with_reducible refine (zL hb (C5.out _ (R.below hb))).mono ?_;clear hb;rintro e w1 ⟨rfl,hk,hb⟩;clear Ad Ae Af Ag Ah Ai Aj Ak An Ao Ap fv7_0_0 fv7_0_1 fv7_0_2;replace a2:=zB hk a2;replace Ab:=zB hk Ab;replace Aa:=zB hk Aa;obtain ⟨Ad,Ag,Ae,Ah,Af,Ai⟩:=cf3 a2;obtain ⟨Aj,Ak⟩:=ce2 Ab;obtain ⟨An,fv7_0_0,Ao,fv7_0_1,Ap,fv7_0_2⟩:=cf3 Aa;clear hk))
 refine wp_store3_2 hb mb7_0 Aa (fun w1 hb Aa hj=>?_)
 replace a2:=(hj _ (by omega)).trans a2
 replace Ab:=(hj _ (by omega)).trans Ab
 clear Aj Ak
 clear hj An Ao Ap fv7_0_0 fv7_0_1 fv7_0_2 Ad Ae Af Ag Ah Ai
 obtain ⟨Ad,Ag,Ae,Ah,Af,Ai⟩:=cf3 a2
 have An:w1.cell? ⟨Ac,0,none⟩=some (Value.string (ratB (b - y))):=zA Aa
 have Ao:w1.cell? ⟨Ac,1,none⟩=some (Value.string (ratB (-(a - x)))):=zA Aa
 have Ap:w1.cell? ⟨Ac,2,none⟩=some (Value.string (ratB ((((b - y)*a)+((-(a - x))*b)) - (0:Rat)))):=zA Aa
 have fv7_0_0:w1.frozen? ⟨Ac,0,none⟩=false:=zD Aa
 have fv7_0_1:w1.frozen? ⟨Ac,1,none⟩=false:=zD Aa
 have fv7_0_2:w1.frozen? ⟨Ac,2,none⟩=false:=zD Aa
 obtain ⟨Aj,Ak⟩:=ce2 Ab
 go_wp2_with (first | (go_at_call 103;with_reducible refine (chVB hb R C4).mono ?_;clear hb;rintro e w1 ⟨rfl,hk,hb⟩;clear Al Am Ad Ae Af Ag Ah Ai Aj Ak An Ao Ap fv7_0_0 fv7_0_1 fv7_0_2;replace a0:=zB hk a0;replace a2:=zB hk a2;replace Ab:=zB hk Ab;replace Aa:=zB hk Aa;obtain ⟨Al,Am⟩:=ce2 a0;obtain ⟨Ad,Ag,Ae,Ah,Af,Ai⟩:=cf3 a2;obtain ⟨Aj,Ak⟩:=ce2 Ab;obtain ⟨An,fv7_0_0,Ao,fv7_0_1,Ap,fv7_0_2⟩:=cf3 Aa;clear hk) | (go_at_call 104;with_reducible refine (zL hb (C5.out _ (R.below hb))).mono ?_;clear hb;rintro e w1 ⟨rfl,hk,hb⟩;clear Ad Ae Af Ag Ah Ai Aj Ak An Ao Ap fv7_0_0 fv7_0_1 fv7_0_2;replace a2:=zB hk a2;replace Ab:=zB hk Ab;replace Aa:=zB hk Aa;obtain ⟨Ad,Ag,Ae,Ah,Af,Ai⟩:=cf3 a2;obtain ⟨Aj,Ak⟩:=ce2 Ab;obtain ⟨An,fv7_0_0,Ao,fv7_0_1,Ap,fv7_0_2⟩:=cf3 Aa;clear hk))
 refine bodyPost_ret (v:=.tuple #[.agg #[.string (ratB (b - y)),.string (ratB (x - a)),.string (ratB (((b - y)*a)+((x - a)*b)))],.int .i64 0]) (by simp [results,Tryz.results54,go_sem,Ad,Ae,Af]) rfl ⟨rfl,?_⟩
 repeat' (first | exact hb | refine Below.setCell ?_ (by first | exact Nat.le_refl _ | (dsimp only;omega)) _)
def primD (x y z:Rat):Nat:=Nat.gcd (Nat.gcd x.num.natAbs y.num.natAbs) z.num.natAbs
def primM (x y z:Rat):Nat:=Nat.lcm (Nat.lcm x.den y.den) z.den
def primF (x y z:Rat):Rat:=Rat.divInt (primM x y z:Int) (primD x y z:Int)
theorem primD_pos (x y z:Rat) (h:x≠0∨y≠0∨z≠0):0 < primD x y z:=by
 have hx:∀ q:Rat,q≠0→0 < q.num.natAbs:=fun q hq=>Int.natAbs_pos.2 (mt Rat.num_eq_zero.1 hq)
 unfold primD
 rcases h with h | h | h
 · exact Nat.gcd_pos_of_pos_left _ (Nat.gcd_pos_of_pos_left _ (hx x h))
 · exact Nat.gcd_pos_of_pos_left _ (Nat.gcd_pos_of_pos_right _ (hx y h))
 · exact Nat.gcd_pos_of_pos_right _ (hx z h)
theorem prim_w0 (a b c nu0 de0 gc0 qu0 re0 dv0 mu0 nu1 de1 gc1 qu1 re1 dv1 mu1 nu2 de2 gc2 qu2 re2 dv2 mu2 fa p0 p1 p2:ByteArray) (_za:(a.toList == [48])=false) (_ya:¬ a.toList=[48]) (hC:CV 15 #[.agg #[.string a,.string b,.string c]] (.int .i64 0)) (hP0:CV 87 #[.string a] (.tuple #[.string nu0,.string de0])) (hG0:CV 88 #[.string ⟨#[48]⟩,.string nu0] (.string dv0)) (hH0:CV 88 #[.string ⟨#[49]⟩,.string de0] (.string gc0)) (hD0:CV 89 #[.string de0,.string gc0] (.tuple #[.string qu0,.string re0,.int .i64 0])) (hM0:CV 90 #[.string ⟨#[49]⟩,.string qu0] (.string mu0)) (hP1:CV 87 #[.string b] (.tuple #[.string nu1,.string de1])) (hG1:CV 88 #[.string dv0,.string nu1] (.string dv1)) (hH1:CV 88 #[.string mu0,.string de1] (.string gc1)) (hD1:CV 89 #[.string de1,.string gc1] (.tuple #[.string qu1,.string re1,.int .i64 0])) (hM1:CV 90 #[.string mu0,.string qu1] (.string mu1)) (hP2:CV 87 #[.string c] (.tuple #[.string nu2,.string de2])) (hG2:CV 88 #[.string dv1,.string nu2] (.string dv2)) (hH2:CV 88 #[.string mu1,.string de2] (.string gc2)) (hD2:CV 89 #[.string de2,.string gc2] (.tuple #[.string qu2,.string re2,.int .i64 0])) (hM2:CV 90 #[.string mu1,.string qu2] (.string mu2)) (hN:CV 91 #[.string mu2,.string dv2] (.tuple #[.string fa,.int .i64 0])) (hE:CV 92 #[.agg #[.string a,.string b,.string c],.agg #[.string fa,.string fa,.string fa],.func (Fn.func 84) #[] #[]] (.agg #[.string p0,.string p1,.string p2])) (hR:CV 76 #[.agg #[.string p0,.string p1,.string p2]] (.tuple #[.agg #[.string p0,.string p1,.string p2],.int .i64 0])) (w:World) (R:EnvV w) :
   Calls Tryz.prog 39 #[.agg #[.string a,.string b,.string c]] w (Ret w (.tuple #[.agg #[.string p0,.string p1,.string p2],.int .i64 0])):=by
 have HC_:=Lib.hid hC
 have HP0_:=Lib.hid hP0
 have HG0_:=Lib.hid hG0
 have HH0_:=Lib.hid hH0
 have HD0_:=Lib.hid hD0
 have HM0_:=Lib.hid hM0
 have HP1_:=Lib.hid hP1
 have HG1_:=Lib.hid hG1
 have HH1_:=Lib.hid hH1
 have HD1_:=Lib.hid hD1
 have HM1_:=Lib.hid hM1
 have HP2_:=Lib.hid hP2
 have HG2_:=Lib.hid hG2
 have HH2_:=Lib.hid hH2
 have HD2_:=Lib.hid hD2
 have HM2_:=Lib.hid hM2
 have HN_:=Lib.hid hN
 have HE_:=Lib.hid hE
 have HR_:=Lib.hid hR
 have hix0:∀ w:World,(Instr.index 120 (.agg #[.string a,.string b,.string c]) (.int .i64 0)).run Tryz.prog w = .ok (.string a) w:=fun w=>by kernel_rfl
 have hix1:∀ w:World,(Instr.index 120 (.agg #[.string a,.string b,.string c]) (.int .i64 1)).run Tryz.prog w = .ok (.string b) w:=fun w=>by kernel_rfl
 have hix2:∀ w:World,(Instr.index 120 (.agg #[.string a,.string b,.string c]) (.int .i64 2)).run Tryz.prog w = .ok (.string c) w:=fun w=>by kernel_rfl
 clear hC hP0 hG0 hH0 hD0 hM0 hP1 hG1 hH1 hD1 hM1 hP2 hG2 hH2 hD2 hM2 hN hE hR
 have hb:=Below.refl w.heap.size w
 have Aj:=R.z0
 have Ak:=R.z1
 have Al:=R.z2
 go_enter Tryz.func39,Tryz.ntmps39
 go_upto_region 1 with fail
 refine wp_alloc2 (fun w1 a0 a1 hk=>?_)
 replace Aj:=zC hk Aj
 replace Ak:=zC hk Ak
 replace Al:=zC hk Al
 replace hb:=hb.trans (hk.mono hb.size)
 clear hk
 obtain ⟨Ad,Ae,Af⟩:=ce3 a0
 obtain ⟨Aa,Ag,Ab,Ah,Ac,Ai⟩:=cf3 a1
 clear a0
 go_upto_region 6 with (go_at_call 15;((with_reducible refine (zK hb (HC_.out _ (R.below hb))).mono ?_);clear hb;rintro e w1 ⟨rfl,hk,hb⟩;replace Ad:=zC hk Ad;replace Ae:=zC hk Ae;replace Af:=zC hk Af;replace Aj:=zC hk Aj;replace Ak:=zC hk Ak;replace Al:=zC hk Al;clear Aa Ab Ac Ag Ah Ai;replace a1:=zB hk a1;obtain ⟨Aa,Ag,Ab,Ah,Ac,Ai⟩:=cf3 a1;clear hk))
 clear Aj Ak Al
 go_upto_region 8 with fail
 have HB:=Lib.hid hb
 have HX:=Lib.hid (And.intro Ad (And.intro Ae Af))
 have HF:=Lib.hid (And.intro Ag (And.intro Ah Ai))
 have HZ:=Lib.hid (And.intro Aa (And.intro Ab Ac))
 have HA:=Lib.hid a1
 have hz:w.heap.size+1 < w1.heap.size:=(Array.getElem?_eq_some_iff.1 a1).1
 clear hb Ad Ae Af Aa Ab Ac Ag Ah Ai a1
 go_loopw [33,5,6] (fun i m d wr=>((i = .int .i64 0∧m = .string ⟨#[49]⟩∧d = .string ⟨#[48]⟩)∨(i = .int .i64 1∧m = .string mu0∧d = .string dv0)∨(i = .int .i64 2∧m = .string mu1∧d = .string dv1)∨(i = .int .i64 3∧m = .string mu2∧d = .string dv2))∧Below w1.heap.size w1 wr) (fun i _ _ _=>3 - (intOf i).toNat)
 case atStart=>exact ⟨Or.inl ⟨rfl,rfl,rfl⟩,Below.refl _ _⟩
 case round =>
   obtain ⟨⟨rfl,rfl,rfl⟩ | ⟨rfl,rfl,rfl⟩ | ⟨rfl,rfl,rfl⟩ | ⟨rfl,rfl,rfl⟩,hw⟩:=hrel
   · have hb:Below w.heap.size w wr:=HB.out.trans (hw.mono HB.out.size)
     go_wp2_with (first | (go_at_call 87;((with_reducible refine (zK hb (HP0_.out _ (R.below hb))).mono ?_);rintro e w2 ⟨rfl,hk,hb2⟩;replace hw:=hw.trans (hk.mono hw.size);replace hb:=hb2;clear hk hb2)) | (go_at_call 88;first | (((with_reducible refine (zK hb (HG0_.out _ (R.below hb))).mono ?_);rintro e w2 ⟨rfl,hk,hb2⟩;replace hw:=hw.trans (hk.mono hw.size);replace hb:=hb2;clear hk hb2)) | (((with_reducible refine (zK hb (HH0_.out _ (R.below hb))).mono ?_);rintro e w2 ⟨rfl,hk,hb2⟩;replace hw:=hw.trans (hk.mono hw.size);replace hb:=hb2;clear hk hb2))) | (go_at_call 89;((with_reducible refine (zK hb (HD0_.out _ (R.below hb))).mono ?_);rintro e w2 ⟨rfl,hk,hb2⟩;replace hw:=hw.trans (hk.mono hw.size);replace hb:=hb2;clear hk hb2)) | (go_at_call 90;((with_reducible refine (zK hb (HM0_.out _ (R.below hb))).mono ?_);rintro e w2 ⟨rfl,hk,hb2⟩;replace hw:=hw.trans (hk.mono hw.size);replace hb:=hb2;clear hk hb2)))
     go_roundw
     case rel=>exact ⟨Or.inr (Or.inl ⟨rfl,rfl,rfl⟩),hw⟩
     case measure=>simp [intOf]
   · have hb:Below w.heap.size w wr:=HB.out.trans (hw.mono HB.out.size)
     go_wp2_with (first | (go_at_call 87;((with_reducible refine (zK hb (HP1_.out _ (R.below hb))).mono ?_);rintro e w2 ⟨rfl,hk,hb2⟩;replace hw:=hw.trans (hk.mono hw.size);replace hb:=hb2;clear hk hb2)) | (go_at_call 88;first | (((with_reducible refine (zK hb (HG1_.out _ (R.below hb))).mono ?_);rintro e w2 ⟨rfl,hk,hb2⟩;replace hw:=hw.trans (hk.mono hw.size);replace hb:=hb2;clear hk hb2)) | (((with_reducible refine (zK hb (HH1_.out _ (R.below hb))).mono ?_);rintro e w2 ⟨rfl,hk,hb2⟩;replace hw:=hw.trans (hk.mono hw.size);replace hb:=hb2;clear hk hb2))) | (go_at_call 89;((with_reducible refine (zK hb (HD1_.out _ (R.below hb))).mono ?_);rintro e w2 ⟨rfl,hk,hb2⟩;replace hw:=hw.trans (hk.mono hw.size);replace hb:=hb2;clear hk hb2)) | (go_at_call 90;((with_reducible refine (zK hb (HM1_.out _ (R.below hb))).mono ?_);rintro e w2 ⟨rfl,hk,hb2⟩;replace hw:=hw.trans (hk.mono hw.size);replace hb:=hb2;clear hk hb2)))
     go_roundw
     case rel=>exact ⟨Or.inr (Or.inr (Or.inl ⟨rfl,rfl,rfl⟩)),hw⟩
     case measure=>simp [intOf]
   · have hb:Below w.heap.size w wr:=HB.out.trans (hw.mono HB.out.size)
     go_wp2_with (first | (go_at_call 87;((with_reducible refine (zK hb (HP2_.out _ (R.below hb))).mono ?_);rintro e w2 ⟨rfl,hk,hb2⟩;replace hw:=hw.trans (hk.mono hw.size);replace hb:=hb2;clear hk hb2)) | (go_at_call 88;first | (((with_reducible refine (zK hb (HG2_.out _ (R.below hb))).mono ?_);rintro e w2 ⟨rfl,hk,hb2⟩;replace hw:=hw.trans (hk.mono hw.size);replace hb:=hb2;clear hk hb2)) | (((with_reducible refine (zK hb (HH2_.out _ (R.below hb))).mono ?_);rintro e w2 ⟨rfl,hk,hb2⟩;replace hw:=hw.trans (hk.mono hw.size);replace hb:=hb2;clear hk hb2))) | (go_at_call 89;((with_reducible refine (zK hb (HD2_.out _ (R.below hb))).mono ?_);rintro e w2 ⟨rfl,hk,hb2⟩;replace hw:=hw.trans (hk.mono hw.size);replace hb:=hb2;clear hk hb2)) | (go_at_call 90;((with_reducible refine (zK hb (HM2_.out _ (R.below hb))).mono ?_);rintro e w2 ⟨rfl,hk,hb2⟩;replace hw:=hw.trans (hk.mono hw.size);replace hb:=hb2;clear hk hb2)))
     go_roundw
     case rel=>exact ⟨Or.inr (Or.inr (Or.inr (⟨rfl,rfl,rfl⟩))),hw⟩
     case measure=>simp [intOf]
   · have hb:Below w.heap.size w wr:=HB.out.trans (hw.mono HB.out.size)
     have Ad:=zC hw HX.out.1
     have Ae:=zC hw HX.out.2.1
     have Af:=zC hw HX.out.2.2
     have a1:=zB hw HA.out
     have Aa:=zC hw HZ.out.1
     have Ab:=zC hw HZ.out.2.1
     have Ac:=zC hw HZ.out.2.2
     have Ag:=zF hw HA.out HF.out.1
     have Ah:=zF hw HA.out HF.out.2.1
     have Ai:=zF hw HA.out HF.out.2.2
     clear hw
     go_wp2_with (first | (go_at_call 91;((with_reducible refine (zK hb (HN_.out _ (R.below hb))).mono ?_);clear hb;rintro e w1 ⟨rfl,hk,hb⟩;replace Ad:=zC hk Ad;replace Ae:=zC hk Ae;replace Af:=zC hk Af;clear Aa Ab Ac Ag Ah Ai;replace a1:=zB hk a1;obtain ⟨Aa,Ag,Ab,Ah,Ac,Ai⟩:=cf3 a1;clear hk)) | (go_at_call 92;((with_reducible refine (zK hb (HE_.out _ (R.below hb))).mono ?_);clear hb;rintro e w1 ⟨rfl,hk,hb⟩;replace Ad:=zC hk Ad;replace Ae:=zC hk Ae;replace Af:=zC hk Af;clear Aa Ab Ac Ag Ah Ai;replace a1:=zB hk a1;obtain ⟨Aa,Ag,Ab,Ah,Ac,Ai⟩:=cf3 a1;clear hk)) | (go_at_call 76;((with_reducible refine (zK hb (HR_.out _ (R.below hb))).mono ?_);clear hb;rintro e w1 ⟨rfl,hk,hb⟩;replace Ad:=zC hk Ad;replace Ae:=zC hk Ae;replace Af:=zC hk Af;clear Aa Ab Ac Ag Ah Ai;replace a1:=zB hk a1;obtain ⟨Aa,Ag,Ab,Ah,Ac,Ai⟩:=cf3 a1;clear hk)))
     refine bodyPost_ret (v:=.tuple #[.agg #[.string p0,.string p1,.string p2],.int .i64 0]) (by simp [results,Tryz.results39,go_sem,Aa,Ab,Ac]) rfl ⟨rfl,?_⟩
     repeat' (first | exact hb | refine Below.setCell ?_ (by first | exact Nat.le_refl _ | (dsimp only;omega)) _)
theorem prim_w1 (a b c nu0 de0 gc0 qu0 re0 dv0 mu0 nu1 de1 gc1 qu1 re1 dv1 mu1 nu2 de2 gc2 qu2 re2 dv2 mu2 fa p0 p1 p2:ByteArray) (_za:(a.toList == [48])=true) (_ya:a.toList=[48]) (_zb:(b.toList == [48])=false) (_yb:¬ b.toList=[48]) (hC:CV 15 #[.agg #[.string a,.string b,.string c]] (.int .i64 0)) (hP0:CV 87 #[.string a] (.tuple #[.string nu0,.string de0])) (hG0:CV 88 #[.string ⟨#[48]⟩,.string nu0] (.string dv0)) (hH0:CV 88 #[.string ⟨#[49]⟩,.string de0] (.string gc0)) (hD0:CV 89 #[.string de0,.string gc0] (.tuple #[.string qu0,.string re0,.int .i64 0])) (hM0:CV 90 #[.string ⟨#[49]⟩,.string qu0] (.string mu0)) (hP1:CV 87 #[.string b] (.tuple #[.string nu1,.string de1])) (hG1:CV 88 #[.string dv0,.string nu1] (.string dv1)) (hH1:CV 88 #[.string mu0,.string de1] (.string gc1)) (hD1:CV 89 #[.string de1,.string gc1] (.tuple #[.string qu1,.string re1,.int .i64 0])) (hM1:CV 90 #[.string mu0,.string qu1] (.string mu1)) (hP2:CV 87 #[.string c] (.tuple #[.string nu2,.string de2])) (hG2:CV 88 #[.string dv1,.string nu2] (.string dv2)) (hH2:CV 88 #[.string mu1,.string de2] (.string gc2)) (hD2:CV 89 #[.string de2,.string gc2] (.tuple #[.string qu2,.string re2,.int .i64 0])) (hM2:CV 90 #[.string mu1,.string qu2] (.string mu2)) (hN:CV 91 #[.string mu2,.string dv2] (.tuple #[.string fa,.int .i64 0])) (hE:CV 92 #[.agg #[.string a,.string b,.string c],.agg #[.string fa,.string fa,.string fa],.func (Fn.func 84) #[] #[]] (.agg #[.string p0,.string p1,.string p2])) (hR:CV 76 #[.agg #[.string p0,.string p1,.string p2]] (.tuple #[.agg #[.string p0,.string p1,.string p2],.int .i64 0])) (w:World) (R:EnvV w) :
   Calls Tryz.prog 39 #[.agg #[.string a,.string b,.string c]] w (Ret w (.tuple #[.agg #[.string p0,.string p1,.string p2],.int .i64 0])):=by
 have HC_:=Lib.hid hC
 have HP0_:=Lib.hid hP0
 have HG0_:=Lib.hid hG0
 have HH0_:=Lib.hid hH0
 have HD0_:=Lib.hid hD0
 have HM0_:=Lib.hid hM0
 have HP1_:=Lib.hid hP1
 have HG1_:=Lib.hid hG1
 have HH1_:=Lib.hid hH1
 have HD1_:=Lib.hid hD1
 have HM1_:=Lib.hid hM1
 have HP2_:=Lib.hid hP2
 have HG2_:=Lib.hid hG2
 have HH2_:=Lib.hid hH2
 have HD2_:=Lib.hid hD2
 have HM2_:=Lib.hid hM2
 have HN_:=Lib.hid hN
 have HE_:=Lib.hid hE
 have HR_:=Lib.hid hR
 have hix0:∀ w:World,(Instr.index 120 (.agg #[.string a,.string b,.string c]) (.int .i64 0)).run Tryz.prog w = .ok (.string a) w:=fun w=>by kernel_rfl
 have hix1:∀ w:World,(Instr.index 120 (.agg #[.string a,.string b,.string c]) (.int .i64 1)).run Tryz.prog w = .ok (.string b) w:=fun w=>by kernel_rfl
 have hix2:∀ w:World,(Instr.index 120 (.agg #[.string a,.string b,.string c]) (.int .i64 2)).run Tryz.prog w = .ok (.string c) w:=fun w=>by kernel_rfl
 clear hC hP0 hG0 hH0 hD0 hM0 hP1 hG1 hH1 hD1 hM1 hP2 hG2 hH2 hD2 hM2 hN hE hR
 have hb:=Below.refl w.heap.size w
 have Aj:=R.z0
 have Ak:=R.z1
 have Al:=R.z2
 go_enter Tryz.func39,Tryz.ntmps39
 go_upto_region 1 with fail
 refine wp_alloc2 (fun w1 a0 a1 hk=>?_)
 replace Aj:=zC hk Aj
 replace Ak:=zC hk Ak
 replace Al:=zC hk Al
 replace hb:=hb.trans (hk.mono hb.size)
 clear hk
 obtain ⟨Ad,Ae,Af⟩:=ce3 a0
 obtain ⟨Aa,Ag,Ab,Ah,Ac,Ai⟩:=cf3 a1
 clear a0
 go_upto_region 6 with (go_at_call 15;((with_reducible refine (zK hb (HC_.out _ (R.below hb))).mono ?_);clear hb;rintro e w1 ⟨rfl,hk,hb⟩;replace Ad:=zC hk Ad;replace Ae:=zC hk Ae;replace Af:=zC hk Af;replace Aj:=zC hk Aj;replace Ak:=zC hk Ak;replace Al:=zC hk Al;clear Aa Ab Ac Ag Ah Ai;replace a1:=zB hk a1;obtain ⟨Aa,Ag,Ab,Ah,Ac,Ai⟩:=cf3 a1;clear hk))
 clear Aj Ak Al
 go_upto_region 8 with fail
 have HB:=Lib.hid hb
 have HX:=Lib.hid (And.intro Ad (And.intro Ae Af))
 have HF:=Lib.hid (And.intro Ag (And.intro Ah Ai))
 have HZ:=Lib.hid (And.intro Aa (And.intro Ab Ac))
 have HA:=Lib.hid a1
 have hz:w.heap.size+1 < w1.heap.size:=(Array.getElem?_eq_some_iff.1 a1).1
 clear hb Ad Ae Af Aa Ab Ac Ag Ah Ai a1
 go_loopw [33,5,6] (fun i m d wr=>((i = .int .i64 0∧m = .string ⟨#[49]⟩∧d = .string ⟨#[48]⟩)∨(i = .int .i64 1∧m = .string mu0∧d = .string dv0)∨(i = .int .i64 2∧m = .string mu1∧d = .string dv1)∨(i = .int .i64 3∧m = .string mu2∧d = .string dv2))∧Below w1.heap.size w1 wr) (fun i _ _ _=>3 - (intOf i).toNat)
 case atStart=>exact ⟨Or.inl ⟨rfl,rfl,rfl⟩,Below.refl _ _⟩
 case round =>
   obtain ⟨⟨rfl,rfl,rfl⟩ | ⟨rfl,rfl,rfl⟩ | ⟨rfl,rfl,rfl⟩ | ⟨rfl,rfl,rfl⟩,hw⟩:=hrel
   · have hb:Below w.heap.size w wr:=HB.out.trans (hw.mono HB.out.size)
     go_wp2_with (first | (go_at_call 87;((with_reducible refine (zK hb (HP0_.out _ (R.below hb))).mono ?_);rintro e w2 ⟨rfl,hk,hb2⟩;replace hw:=hw.trans (hk.mono hw.size);replace hb:=hb2;clear hk hb2)) | (go_at_call 88;first | (((with_reducible refine (zK hb (HG0_.out _ (R.below hb))).mono ?_);rintro e w2 ⟨rfl,hk,hb2⟩;replace hw:=hw.trans (hk.mono hw.size);replace hb:=hb2;clear hk hb2)) | (((with_reducible refine (zK hb (HH0_.out _ (R.below hb))).mono ?_);rintro e w2 ⟨rfl,hk,hb2⟩;replace hw:=hw.trans (hk.mono hw.size);replace hb:=hb2;clear hk hb2))) | (go_at_call 89;((with_reducible refine (zK hb (HD0_.out _ (R.below hb))).mono ?_);rintro e w2 ⟨rfl,hk,hb2⟩;replace hw:=hw.trans (hk.mono hw.size);replace hb:=hb2;clear hk hb2)) | (go_at_call 90;((with_reducible refine (zK hb (HM0_.out _ (R.below hb))).mono ?_);rintro e w2 ⟨rfl,hk,hb2⟩;replace hw:=hw.trans (hk.mono hw.size);replace hb:=hb2;clear hk hb2)))
     go_roundw
     case rel=>exact ⟨Or.inr (Or.inl ⟨rfl,rfl,rfl⟩),hw⟩
     case measure=>simp [intOf]
   · have hb:Below w.heap.size w wr:=HB.out.trans (hw.mono HB.out.size)
     go_wp2_with (first | (go_at_call 87;((with_reducible refine (zK hb (HP1_.out _ (R.below hb))).mono ?_);rintro e w2 ⟨rfl,hk,hb2⟩;replace hw:=hw.trans (hk.mono hw.size);replace hb:=hb2;clear hk hb2)) | (go_at_call 88;first | (((with_reducible refine (zK hb (HG1_.out _ (R.below hb))).mono ?_);rintro e w2 ⟨rfl,hk,hb2⟩;replace hw:=hw.trans (hk.mono hw.size);replace hb:=hb2;clear hk hb2)) | (((with_reducible refine (zK hb (HH1_.out _ (R.below hb))).mono ?_);rintro e w2 ⟨rfl,hk,hb2⟩;replace hw:=hw.trans (hk.mono hw.size);replace hb:=hb2;clear hk hb2))) | (go_at_call 89;((with_reducible refine (zK hb (HD1_.out _ (R.below hb))).mono ?_);rintro e w2 ⟨rfl,hk,hb2⟩;replace hw:=hw.trans (hk.mono hw.size);replace hb:=hb2;clear hk hb2)) | (go_at_call 90;((with_reducible refine (zK hb (HM1_.out _ (R.below hb))).mono ?_);rintro e w2 ⟨rfl,hk,hb2⟩;replace hw:=hw.trans (hk.mono hw.size);replace hb:=hb2;clear hk hb2)))
     go_roundw
     case rel=>exact ⟨Or.inr (Or.inr (Or.inl ⟨rfl,rfl,rfl⟩)),hw⟩
     case measure=>simp [intOf]
   · have hb:Below w.heap.size w wr:=HB.out.trans (hw.mono HB.out.size)
     go_wp2_with (first | (go_at_call 87;((with_reducible refine (zK hb (HP2_.out _ (R.below hb))).mono ?_);rintro e w2 ⟨rfl,hk,hb2⟩;replace hw:=hw.trans (hk.mono hw.size);replace hb:=hb2;clear hk hb2)) | (go_at_call 88;first | (((with_reducible refine (zK hb (HG2_.out _ (R.below hb))).mono ?_);rintro e w2 ⟨rfl,hk,hb2⟩;replace hw:=hw.trans (hk.mono hw.size);replace hb:=hb2;clear hk hb2)) | (((with_reducible refine (zK hb (HH2_.out _ (R.below hb))).mono ?_);rintro e w2 ⟨rfl,hk,hb2⟩;replace hw:=hw.trans (hk.mono hw.size);replace hb:=hb2;clear hk hb2))) | (go_at_call 89;((with_reducible refine (zK hb (HD2_.out _ (R.below hb))).mono ?_);rintro e w2 ⟨rfl,hk,hb2⟩;replace hw:=hw.trans (hk.mono hw.size);replace hb:=hb2;clear hk hb2)) | (go_at_call 90;((with_reducible refine (zK hb (HM2_.out _ (R.below hb))).mono ?_);rintro e w2 ⟨rfl,hk,hb2⟩;replace hw:=hw.trans (hk.mono hw.size);replace hb:=hb2;clear hk hb2)))
     go_roundw
     case rel=>exact ⟨Or.inr (Or.inr (Or.inr (⟨rfl,rfl,rfl⟩))),hw⟩
     case measure=>simp [intOf]
   · have hb:Below w.heap.size w wr:=HB.out.trans (hw.mono HB.out.size)
     have Ad:=zC hw HX.out.1
     have Ae:=zC hw HX.out.2.1
     have Af:=zC hw HX.out.2.2
     have a1:=zB hw HA.out
     have Aa:=zC hw HZ.out.1
     have Ab:=zC hw HZ.out.2.1
     have Ac:=zC hw HZ.out.2.2
     have Ag:=zF hw HA.out HF.out.1
     have Ah:=zF hw HA.out HF.out.2.1
     have Ai:=zF hw HA.out HF.out.2.2
     clear hw
     go_wp2_with (first | (go_at_call 91;((with_reducible refine (zK hb (HN_.out _ (R.below hb))).mono ?_);clear hb;rintro e w1 ⟨rfl,hk,hb⟩;replace Ad:=zC hk Ad;replace Ae:=zC hk Ae;replace Af:=zC hk Af;clear Aa Ab Ac Ag Ah Ai;replace a1:=zB hk a1;obtain ⟨Aa,Ag,Ab,Ah,Ac,Ai⟩:=cf3 a1;clear hk)) | (go_at_call 92;((with_reducible refine (zK hb (HE_.out _ (R.below hb))).mono ?_);clear hb;rintro e w1 ⟨rfl,hk,hb⟩;replace Ad:=zC hk Ad;replace Ae:=zC hk Ae;replace Af:=zC hk Af;clear Aa Ab Ac Ag Ah Ai;replace a1:=zB hk a1;obtain ⟨Aa,Ag,Ab,Ah,Ac,Ai⟩:=cf3 a1;clear hk)) | (go_at_call 76;((with_reducible refine (zK hb (HR_.out _ (R.below hb))).mono ?_);clear hb;rintro e w1 ⟨rfl,hk,hb⟩;replace Ad:=zC hk Ad;replace Ae:=zC hk Ae;replace Af:=zC hk Af;clear Aa Ab Ac Ag Ah Ai;replace a1:=zB hk a1;obtain ⟨Aa,Ag,Ab,Ah,Ac,Ai⟩:=cf3 a1;clear hk)))
     refine bodyPost_ret (v:=.tuple #[.agg #[.string p0,.string p1,.string p2],.int .i64 0]) (by simp [results,Tryz.results39,go_sem,Aa,Ab,Ac]) rfl ⟨rfl,?_⟩
     repeat' (first | exact hb | refine Below.setCell ?_ (by first | exact Nat.le_refl _ | (dsimp only;omega)) _)
theorem prim_w2 (a b c nu0 de0 gc0 qu0 re0 dv0 mu0 nu1 de1 gc1 qu1 re1 dv1 mu1 nu2 de2 gc2 qu2 re2 dv2 mu2 fa p0 p1 p2:ByteArray) (_za:(a.toList == [48])=true) (_ya:a.toList=[48]) (_zb:(b.toList == [48])=true) (_yb:b.toList=[48]) (_zc:(c.toList == [48])=false) (_yc:¬ c.toList=[48]) (hC:CV 15 #[.agg #[.string a,.string b,.string c]] (.int .i64 0)) (hP0:CV 87 #[.string a] (.tuple #[.string nu0,.string de0])) (hG0:CV 88 #[.string ⟨#[48]⟩,.string nu0] (.string dv0)) (hH0:CV 88 #[.string ⟨#[49]⟩,.string de0] (.string gc0)) (hD0:CV 89 #[.string de0,.string gc0] (.tuple #[.string qu0,.string re0,.int .i64 0])) (hM0:CV 90 #[.string ⟨#[49]⟩,.string qu0] (.string mu0)) (hP1:CV 87 #[.string b] (.tuple #[.string nu1,.string de1])) (hG1:CV 88 #[.string dv0,.string nu1] (.string dv1)) (hH1:CV 88 #[.string mu0,.string de1] (.string gc1)) (hD1:CV 89 #[.string de1,.string gc1] (.tuple #[.string qu1,.string re1,.int .i64 0])) (hM1:CV 90 #[.string mu0,.string qu1] (.string mu1)) (hP2:CV 87 #[.string c] (.tuple #[.string nu2,.string de2])) (hG2:CV 88 #[.string dv1,.string nu2] (.string dv2)) (hH2:CV 88 #[.string mu1,.string de2] (.string gc2)) (hD2:CV 89 #[.string de2,.string gc2] (.tuple #[.string qu2,.string re2,.int .i64 0])) (hM2:CV 90 #[.string mu1,.string qu2] (.string mu2)) (hN:CV 91 #[.string mu2,.string dv2] (.tuple #[.string fa,.int .i64 0])) (hE:CV 92 #[.agg #[.string a,.string b,.string c],.agg #[.string fa,.string fa,.string fa],.func (Fn.func 84) #[] #[]] (.agg #[.string p0,.string p1,.string p2])) (hR:CV 76 #[.agg #[.string p0,.string p1,.string p2]] (.tuple #[.agg #[.string p0,.string p1,.string p2],.int .i64 0])) (w:World) (R:EnvV w) :
   Calls Tryz.prog 39 #[.agg #[.string a,.string b,.string c]] w (Ret w (.tuple #[.agg #[.string p0,.string p1,.string p2],.int .i64 0])):=by
 have HC_:=Lib.hid hC
 have HP0_:=Lib.hid hP0
 have HG0_:=Lib.hid hG0
 have HH0_:=Lib.hid hH0
 have HD0_:=Lib.hid hD0
 have HM0_:=Lib.hid hM0
 have HP1_:=Lib.hid hP1
 have HG1_:=Lib.hid hG1
 have HH1_:=Lib.hid hH1
 have HD1_:=Lib.hid hD1
 have HM1_:=Lib.hid hM1
 have HP2_:=Lib.hid hP2
 have HG2_:=Lib.hid hG2
 have HH2_:=Lib.hid hH2
 have HD2_:=Lib.hid hD2
 have HM2_:=Lib.hid hM2
 have HN_:=Lib.hid hN
 have HE_:=Lib.hid hE
 have HR_:=Lib.hid hR
 have hix0:∀ w:World,(Instr.index 120 (.agg #[.string a,.string b,.string c]) (.int .i64 0)).run Tryz.prog w = .ok (.string a) w:=fun w=>by kernel_rfl
 have hix1:∀ w:World,(Instr.index 120 (.agg #[.string a,.string b,.string c]) (.int .i64 1)).run Tryz.prog w = .ok (.string b) w:=fun w=>by kernel_rfl
 have hix2:∀ w:World,(Instr.index 120 (.agg #[.string a,.string b,.string c]) (.int .i64 2)).run Tryz.prog w = .ok (.string c) w:=fun w=>by kernel_rfl
 clear hC hP0 hG0 hH0 hD0 hM0 hP1 hG1 hH1 hD1 hM1 hP2 hG2 hH2 hD2 hM2 hN hE hR
 have hb:=Below.refl w.heap.size w
 have Aj:=R.z0
 have Ak:=R.z1
 have Al:=R.z2
 go_enter Tryz.func39,Tryz.ntmps39
 go_upto_region 1 with fail
 refine wp_alloc2 (fun w1 a0 a1 hk=>?_)
 replace Aj:=zC hk Aj
 replace Ak:=zC hk Ak
 replace Al:=zC hk Al
 replace hb:=hb.trans (hk.mono hb.size)
 clear hk
 obtain ⟨Ad,Ae,Af⟩:=ce3 a0
 obtain ⟨Aa,Ag,Ab,Ah,Ac,Ai⟩:=cf3 a1
 clear a0
 go_upto_region 6 with (go_at_call 15;((with_reducible refine (zK hb (HC_.out _ (R.below hb))).mono ?_);clear hb;rintro e w1 ⟨rfl,hk,hb⟩;replace Ad:=zC hk Ad;replace Ae:=zC hk Ae;replace Af:=zC hk Af;replace Aj:=zC hk Aj;replace Ak:=zC hk Ak;replace Al:=zC hk Al;clear Aa Ab Ac Ag Ah Ai;replace a1:=zB hk a1;obtain ⟨Aa,Ag,Ab,Ah,Ac,Ai⟩:=cf3 a1;clear hk))
 clear Aj Ak Al
 go_upto_region 8 with fail
 have HB:=Lib.hid hb
 have HX:=Lib.hid (And.intro Ad (And.intro Ae Af))
 have HF:=Lib.hid (And.intro Ag (And.intro Ah Ai))
 have HZ:=Lib.hid (And.intro Aa (And.intro Ab Ac))
 have HA:=Lib.hid a1
 have hz:w.heap.size+1 < w1.heap.size:=(Array.getElem?_eq_some_iff.1 a1).1
 clear hb Ad Ae Af Aa Ab Ac Ag Ah Ai a1
 go_loopw [33,5,6] (fun i m d wr=>((i = .int .i64 0∧m = .string ⟨#[49]⟩∧d = .string ⟨#[48]⟩)∨(i = .int .i64 1∧m = .string mu0∧d = .string dv0)∨(i = .int .i64 2∧m = .string mu1∧d = .string dv1)∨(i = .int .i64 3∧m = .string mu2∧d = .string dv2))∧Below w1.heap.size w1 wr) (fun i _ _ _=>3 - (intOf i).toNat)
 case atStart=>exact ⟨Or.inl ⟨rfl,rfl,rfl⟩,Below.refl _ _⟩
 case round =>
   obtain ⟨⟨rfl,rfl,rfl⟩ | ⟨rfl,rfl,rfl⟩ | ⟨rfl,rfl,rfl⟩ | ⟨rfl,rfl,rfl⟩,hw⟩:=hrel
   · have hb:Below w.heap.size w wr:=HB.out.trans (hw.mono HB.out.size)
     go_wp2_with (first | (go_at_call 87;((with_reducible refine (zK hb (HP0_.out _ (R.below hb))).mono ?_);rintro e w2 ⟨rfl,hk,hb2⟩;replace hw:=hw.trans (hk.mono hw.size);replace hb:=hb2;clear hk hb2)) | (go_at_call 88;first | (((with_reducible refine (zK hb (HG0_.out _ (R.below hb))).mono ?_);rintro e w2 ⟨rfl,hk,hb2⟩;replace hw:=hw.trans (hk.mono hw.size);replace hb:=hb2;clear hk hb2)) | (((with_reducible refine (zK hb (HH0_.out _ (R.below hb))).mono ?_);rintro e w2 ⟨rfl,hk,hb2⟩;replace hw:=hw.trans (hk.mono hw.size);replace hb:=hb2;clear hk hb2))) | (go_at_call 89;((with_reducible refine (zK hb (HD0_.out _ (R.below hb))).mono ?_);rintro e w2 ⟨rfl,hk,hb2⟩;replace hw:=hw.trans (hk.mono hw.size);replace hb:=hb2;clear hk hb2)) | (go_at_call 90;((with_reducible refine (zK hb (HM0_.out _ (R.below hb))).mono ?_);rintro e w2 ⟨rfl,hk,hb2⟩;replace hw:=hw.trans (hk.mono hw.size);replace hb:=hb2;clear hk hb2)))
     go_roundw
     case rel=>exact ⟨Or.inr (Or.inl ⟨rfl,rfl,rfl⟩),hw⟩
     case measure=>simp [intOf]
   · have hb:Below w.heap.size w wr:=HB.out.trans (hw.mono HB.out.size)
     go_wp2_with (first | (go_at_call 87;((with_reducible refine (zK hb (HP1_.out _ (R.below hb))).mono ?_);rintro e w2 ⟨rfl,hk,hb2⟩;replace hw:=hw.trans (hk.mono hw.size);replace hb:=hb2;clear hk hb2)) | (go_at_call 88;first | (((with_reducible refine (zK hb (HG1_.out _ (R.below hb))).mono ?_);rintro e w2 ⟨rfl,hk,hb2⟩;replace hw:=hw.trans (hk.mono hw.size);replace hb:=hb2;clear hk hb2)) | (((with_reducible refine (zK hb (HH1_.out _ (R.below hb))).mono ?_);rintro e w2 ⟨rfl,hk,hb2⟩;replace hw:=hw.trans (hk.mono hw.size);replace hb:=hb2;clear hk hb2))) | (go_at_call 89;((with_reducible refine (zK hb (HD1_.out _ (R.below hb))).mono ?_);rintro e w2 ⟨rfl,hk,hb2⟩;replace hw:=hw.trans (hk.mono hw.size);replace hb:=hb2;clear hk hb2)) | (go_at_call 90;((with_reducible refine (zK hb (HM1_.out _ (R.below hb))).mono ?_);rintro e w2 ⟨rfl,hk,hb2⟩;replace hw:=hw.trans (hk.mono hw.size);replace hb:=hb2;clear hk hb2)))
     go_roundw
     case rel=>exact ⟨Or.inr (Or.inr (Or.inl ⟨rfl,rfl,rfl⟩)),hw⟩
     case measure=>simp [intOf]
   · have hb:Below w.heap.size w wr:=HB.out.trans (hw.mono HB.out.size)
     go_wp2_with (first | (go_at_call 87;((with_reducible refine (zK hb (HP2_.out _ (R.below hb))).mono ?_);rintro e w2 ⟨rfl,hk,hb2⟩;replace hw:=hw.trans (hk.mono hw.size);replace hb:=hb2;clear hk hb2)) | (go_at_call 88;first | (((with_reducible refine (zK hb (HG2_.out _ (R.below hb))).mono ?_);rintro e w2 ⟨rfl,hk,hb2⟩;replace hw:=hw.trans (hk.mono hw.size);replace hb:=hb2;clear hk hb2)) | (((with_reducible refine (zK hb (HH2_.out _ (R.below hb))).mono ?_);rintro e w2 ⟨rfl,hk,hb2⟩;replace hw:=hw.trans (hk.mono hw.size);replace hb:=hb2;clear hk hb2))) | (go_at_call 89;((with_reducible refine (zK hb (HD2_.out _ (R.below hb))).mono ?_);rintro e w2 ⟨rfl,hk,hb2⟩;replace hw:=hw.trans (hk.mono hw.size);replace hb:=hb2;clear hk hb2)) | (go_at_call 90;((with_reducible refine (zK hb (HM2_.out _ (R.below hb))).mono ?_);rintro e w2 ⟨rfl,hk,hb2⟩;replace hw:=hw.trans (hk.mono hw.size);replace hb:=hb2;clear hk hb2)))
     go_roundw
     case rel=>exact ⟨Or.inr (Or.inr (Or.inr (⟨rfl,rfl,rfl⟩))),hw⟩
     case measure=>simp [intOf]
   · have hb:Below w.heap.size w wr:=HB.out.trans (hw.mono HB.out.size)
     have Ad:=zC hw HX.out.1
     have Ae:=zC hw HX.out.2.1
     have Af:=zC hw HX.out.2.2
     have a1:=zB hw HA.out
     have Aa:=zC hw HZ.out.1
     have Ab:=zC hw HZ.out.2.1
     have Ac:=zC hw HZ.out.2.2
     have Ag:=zF hw HA.out HF.out.1
     have Ah:=zF hw HA.out HF.out.2.1
     have Ai:=zF hw HA.out HF.out.2.2
     clear hw
     go_wp2_with (first | (go_at_call 91;((with_reducible refine (zK hb (HN_.out _ (R.below hb))).mono ?_);clear hb;rintro e w1 ⟨rfl,hk,hb⟩;replace Ad:=zC hk Ad;replace Ae:=zC hk Ae;replace Af:=zC hk Af;clear Aa Ab Ac Ag Ah Ai;replace a1:=zB hk a1;obtain ⟨Aa,Ag,Ab,Ah,Ac,Ai⟩:=cf3 a1;clear hk)) | (go_at_call 92;((with_reducible refine (zK hb (HE_.out _ (R.below hb))).mono ?_);clear hb;rintro e w1 ⟨rfl,hk,hb⟩;replace Ad:=zC hk Ad;replace Ae:=zC hk Ae;replace Af:=zC hk Af;clear Aa Ab Ac Ag Ah Ai;replace a1:=zB hk a1;obtain ⟨Aa,Ag,Ab,Ah,Ac,Ai⟩:=cf3 a1;clear hk)) | (go_at_call 76;((with_reducible refine (zK hb (HR_.out _ (R.below hb))).mono ?_);clear hb;rintro e w1 ⟨rfl,hk,hb⟩;replace Ad:=zC hk Ad;replace Ae:=zC hk Ae;replace Af:=zC hk Af;clear Aa Ab Ac Ag Ah Ai;replace a1:=zB hk a1;obtain ⟨Aa,Ag,Ab,Ah,Ac,Ai⟩:=cf3 a1;clear hk)))
     refine bodyPost_ret (v:=.tuple #[.agg #[.string p0,.string p1,.string p2],.int .i64 0]) (by simp [results,Tryz.results39,go_sem,Aa,Ab,Ac]) rfl ⟨rfl,?_⟩
     repeat' (first | exact hb | refine Below.setCell ?_ (by first | exact Nat.le_refl _ | (dsimp only;omega)) _)
theorem RN.up {q:Rat} {n d N D:Nat} (h:RN q n d) (h1:n≤N) (h2:d≤D):RN q N D:=⟨Nat.le_trans h.1 h1,Nat.le_trans h.2 h2⟩
theorem gcd_small (a b N:Nat) (ha:a < N) (hb:b < N):Nat.gcd a b < N:=by
 by_cases h:a=0
 · subst h;rw [Nat.gcd_zero_left];exact hb
 · exact Nat.lt_of_le_of_lt (Nat.gcd_le_left _ (by omega)) ha
theorem dlen_gcd2 (a b K:Nat) (hK:0 < K) (ha:dlen (a:Int)≤K) (hb:dlen (b:Int)≤K):dlen ((Nat.gcd a b:Nat):Int)≤K:=
 dlen_le _ K hK (gcd_small a b _ (by have:=dlen_lt _ K ha;rwa [Int.natAbs_natCast] at this) (by have:=dlen_lt _ K hb;rwa [Int.natAbs_natCast] at this))
theorem dlen_lcm (a b K M:Nat) (_hK:0 < K) (ha0:0 < a) (hb0:0 < b) (ha:dlen (a:Int)≤K) (hb:dlen (b:Int)≤M):dlen ((Nat.lcm a b:Nat):Int)≤K+M:=by
 have h1:=dlen_mul (a:Int) (b:Int) K M (by omega) ha hb
 have h2:Nat.lcm a b≤a*b:=Nat.le_of_dvd (Nat.mul_pos ha0 hb0) (Nat.lcm_dvd (Nat.dvd_mul_right ..) (Nat.dvd_mul_left ..))
 have h3:=dlen_lt _ _ h1
 rw [← Int.natCast_mul,Int.natAbs_natCast] at h3
 exact dlen_le _ _ (by omega) (by rw [Int.natAbs_natCast];omega)
theorem dlen_abs (n:Int):dlen (n.natAbs:Int)=dlen n:=by unfold dlen;rw [Int.natAbs_natCast]
theorem RN_prim {a b c:Rat} {n d:Nat} (nz:a≠0∨b≠0∨c≠0) (hn:0 < n) (hd:0 < d) (ha:RN a n d) (hb:RN b n d) (hc:RN c n d):RN (primF a b c) (d+d+d) n:=by
 have h1:=primD_pos a b c nz
 refine RN_mk _ _ _ _ (by omega) hn (by omega) ?_ ?_
 · exact dlen_lcm _ _ _ _ (by omega) (Nat.lcm_pos a.den_pos b.den_pos) c.den_pos (dlen_lcm _ _ _ _ hd a.den_pos b.den_pos ha.2 hb.2) hc.2
 · exact dlen_gcd2 _ _ _ hn (dlen_gcd2 _ _ _ hn (by rw [dlen_abs];exact ha.1) (by rw [dlen_abs];exact hb.1)) (by rw [dlen_abs];exact hc.1)
theorem lcm_step (m d:Nat):(m:Int)*((d / Nat.gcd m d:Nat):Int)=((Nat.lcm m d:Nat):Int):=by
 rw [← Int.natCast_mul]
 congr 1
 unfold Nat.lcm
 exact (Nat.mul_div_assoc _ (Nat.gcd_dvd_right ..)).symm
theorem i_gcd (x y:Nat) (hx:dlen (x:Int)≤40000) (hy:dlen (y:Int)≤40000) (w:World) (E:Env w) :
   Calls Tryz.prog 88 #[.string (itoaB (x:Int)),.string (itoaB (y:Int))] w (Ret w (.string (itoaB ((Nat.gcd x y:Nat):Int)))):=by
 have:=gcd_any (x:Int) (y:Int) w E hx hy
 rwa [Int.natAbs_natCast,Int.natAbs_natCast] at this
theorem i_gcdn (x:Nat) (y:Int) (hx:dlen (x:Int)≤40000) (hy:dlen y≤40000) (w:World) (E:Env w) :
   Calls Tryz.prog 88 #[.string (itoaB (x:Int)),.string (itoaB y)] w (Ret w (.string (itoaB ((Nat.gcd x y.natAbs:Nat):Int)))):=by
 have:=gcd_any (x:Int) y w E hx hy
 rwa [Int.natAbs_natCast] at this
theorem i_div (d g:Nat) (_hg:0 < g) (hd:dlen (d:Int)≤40000) (hgl:dlen (g:Int)≤40000) (w:World) (E:Env w) :
   Calls Tryz.prog 89 #[.string (itoaB (d:Int)),.string (itoaB (g:Int))] w (Ret w (.tuple #[.string (itoaB ((d / g:Nat):Int)),.string (itoaB ((d:Int) % (g:Int))),.int .i64 0])):=by
 have:=divMod_any (d:Int) (g:Int) w E hd hgl (by omega)
 rwa [← Int.natCast_ediv] at this
theorem i_mul (m d:Nat) (hm:dlen (m:Int)≤40000) (hd:dlen ((d / Nat.gcd m d:Nat):Int)≤40000) (w:World) (E:Env w) :
   Calls Tryz.prog 90 #[.string (itoaB (m:Int)),.string (itoaB ((d / Nat.gcd m d:Nat):Int))] w (Ret w (.string (itoaB ((Nat.lcm m d:Nat):Int)))):=by
 have:=mul_any (m:Int) ((d / Nat.gcd m d:Nat):Int) w E hm hd
 rwa [lcm_step] at this
theorem dlen_quot (d g K:Nat) (hK:0 < K) (hd:dlen (d:Int)≤K):dlen ((d / g:Nat):Int)≤K:=
 dlen_le _ K hK (by have:=dlen_lt _ K hd;rw [Int.natAbs_natCast] at this ⊢;exact Nat.lt_of_le_of_lt (Nat.div_le_self ..) this)
theorem it_0 : itoaB ((0:Nat):Int)=⟨#[48]⟩:=by decide +kernel
theorem it_1 : itoaB ((1:Nat):Int)=⟨#[49]⟩:=by decide +kernel
theorem prim_any (a b c:Rat) (nz:a≠0∨b≠0∨c≠0) (ra:RL a 200) (rb:RL b 200) (rc:RL c 200) (s1:RL (a*primF a b c) 200) (s2:RL (b*primF a b c) 200) (s3:RL (c*primF a b c) 200) (w:World) (R:EnvV w) :
   Calls Tryz.prog 39 #[.agg #[.string (ratB a),.string (ratB b),.string (ratB c)]] w (Ret w (.tuple #[.agg #[.string (ratB (a*primF a b c)),.string (ratB (b*primF a b c)),.string (ratB (c*primF a b c))],.int .i64 0])):=by
 have nF:RN (primF a b c) 600 200:=RN_prim nz (by decide) (by decide) ra rb rc
 have rF:RL (primF a b c) 10000:=nF.rl
 have kd:∀ n:Nat,dlen (n:Int)≤200→dlen (n:Int)≤40000:=fun n h=>Nat.le_trans h (by decide)
 have ga:dlen ((Nat.gcd 0 a.num.natAbs:Nat):Int)≤200:=dlen_gcd2 _ _ _ (by decide) (by decide +kernel) (by rw [dlen_abs];exact ra.1)
 have gb:dlen ((Nat.gcd (Nat.gcd 0 a.num.natAbs) b.num.natAbs:Nat):Int)≤200:=dlen_gcd2 _ _ _ (by decide) ga (by rw [dlen_abs];exact rb.1)
 have l1:dlen ((Nat.lcm 1 a.den:Nat):Int)≤1+200:=dlen_lcm _ _ _ _ (by decide) (by decide) a.den_pos (by decide +kernel) ra.2
 have p1:0 < Nat.lcm 1 a.den:=Nat.lcm_pos (by decide) a.den_pos
 have l2:dlen ((Nat.lcm (Nat.lcm 1 a.den) b.den:Nat):Int)≤1+200+200:=dlen_lcm _ _ _ _ (by decide) p1 b.den_pos l1 rb.2
 have p2:0 < Nat.lcm (Nat.lcm 1 a.den) b.den:=Nat.lcm_pos p1 b.den_pos
 have l3:dlen ((Nat.lcm (Nat.lcm (Nat.lcm 1 a.den) b.den) c.den:Nat):Int)≤1+200+200+200:=dlen_lcm _ _ _ _ (by decide) p2 c.den_pos l2 rc.2
 have gp:∀ m d:Nat,0 < d→0 < Nat.gcd m d:=fun m d h=>Nat.gcd_pos_of_pos_right _ h
 have gl:∀ m d:Nat,0 < d→dlen (d:Int)≤200→dlen ((Nat.gcd m d:Nat):Int)≤40000:=fun m d h0 h=>by
   have h2:=dlen_lt _ _ h
   rw [Int.natAbs_natCast] at h2
   exact Nat.le_trans (dlen_le _ 200 (by decide) (by rw [Int.natAbs_natCast];exact Nat.lt_of_le_of_lt (Nat.gcd_le_right _ h0) h2)) (by decide)
 have ql:∀ m d:Nat,dlen (d:Int)≤200→dlen ((d / Nat.gcd m d:Nat):Int)≤40000:=fun m d h=>Nat.le_trans (dlen_quot d _ 200 (by decide) h) (by decide)
 have eD:Nat.gcd (Nat.gcd (Nat.gcd 0 a.num.natAbs) b.num.natAbs) c.num.natAbs=primD a b c:=by rw [Nat.gcd_zero_left];rfl
 have eM:Nat.lcm (Nat.lcm (Nat.lcm 1 a.den) b.den) c.den=primM a b c:=by rw [Nat.lcm_one_left];rfl
 have hG0:CV 88 #[.string ⟨#[48]⟩,.string (itoaB a.num)] (.string (itoaB ((Nat.gcd 0 a.num.natAbs:Nat):Int))):=fun w R=>by
   have h:=i_gcdn 0 a.num (by decide +kernel) (Nat.le_trans ra.1 (by decide)) w R.env
   rwa [it_0] at h
 have hH0:CV 88 #[.string ⟨#[49]⟩,.string (itoaB (a.den:Int))] (.string (itoaB ((Nat.gcd 1 a.den:Nat):Int))):=fun w R=>by
   have h:=i_gcd 1 a.den (by decide +kernel) (kd _ ra.2) w R.env
   rwa [it_1] at h
 have hM0:CV 90 #[.string ⟨#[49]⟩,.string (itoaB ((a.den / Nat.gcd 1 a.den:Nat):Int))] (.string (itoaB ((Nat.lcm 1 a.den:Nat):Int))):=fun w R=>by
   have h:=i_mul 1 a.den (by decide +kernel) (ql _ _ ra.2) w R.env
   rwa [it_1] at h
 have hN:CV 91 #[.string (itoaB ((Nat.lcm (Nat.lcm (Nat.lcm 1 a.den) b.den) c.den:Nat):Int)),.string (itoaB ((Nat.gcd (Nat.gcd (Nat.gcd 0 a.num.natAbs) b.num.natAbs) c.num.natAbs:Nat):Int))] (.tuple #[.string (ratB (primF a b c)),.int .i64 0]):=fun w R=>by
   have h:=rnew_any (primM a b c:Int) (primD a b c:Int) w R.toEnvR (by rw [← eM];exact Nat.le_trans l3 (by decide)) (Nat.le_trans (dlen_gcd2 _ _ 200 (by decide) (dlen_gcd2 _ _ 200 (by decide) (by rw [dlen_abs];exact ra.1) (by rw [dlen_abs];exact rb.1)) (by rw [dlen_abs];exact rc.1)) (by decide)) (by have:=primD_pos a b c nz;omega)
   rw [eM,eD];exact h
 by_cases z0:a=0
 · by_cases z1:b=0
   · have z2:c≠0:=fun h=>nz.elim (fun k=>k z0) (fun k=>k.elim (fun k=>k z1) (fun k=>k h))
     exact prim_w2 _ _ _ _ _ _ _ _ _ _ _ _ _ _ _ _ _ _ _ _ _ _ _ _ _ _ _ _ ((ratB_eq_zero a).trans (decide_eq_true z0)) ((zero_iff _).2 z0) ((ratB_eq_zero b).trans (decide_eq_true z1)) ((zero_iff _).2 z1) ((ratB_eq_zero c).trans (decide_eq_false z2)) (fun h=>z2 ((zero_iff _).1 h)) (fun w R=>vcheck_ok a b c (RN.rl (K:=200) ra) (RN.rl (K:=200) rb) (RN.rl (K:=200) rc) w R.toEnvR) (fun w R=>rparts_any a w R.toEnvR (ra.mono (by decide))) hG0 hH0 (fun w R=>i_div a.den _ (gp _ _ a.den_pos) (kd _ ra.2) (gl _ _ a.den_pos ra.2) w R.env) hM0 (fun w R=>rparts_any b w R.toEnvR (rb.mono (by decide))) (fun w R=>i_gcdn _ b.num (kd _ ga) (Nat.le_trans rb.1 (by decide)) w R.env) (fun w R=>i_gcd _ b.den (Nat.le_trans l1 (by decide)) (kd _ rb.2) w R.env) (fun w R=>i_div b.den _ (gp _ _ b.den_pos) (kd _ rb.2) (gl _ _ b.den_pos rb.2) w R.env) (fun w R=>i_mul _ b.den (Nat.le_trans l1 (by decide)) (ql _ _ rb.2) w R.env) (fun w R=>rparts_any c w R.toEnvR (rc.mono (by decide))) (fun w R=>i_gcdn _ c.num (kd _ gb) (Nat.le_trans rc.1 (by decide)) w R.env) (fun w R=>i_gcd _ c.den (Nat.le_trans l2 (by decide)) (kd _ rc.2) w R.env) (fun w R=>i_div c.den _ (gp _ _ c.den_pos) (kd _ rc.2) (gl _ _ c.den_pos rc.2) w R.env) (fun w R=>i_mul _ c.den (Nat.le_trans l2 (by decide)) (ql _ _ rc.2) w R.env) hN (fun w R=>each_Mul a b c (primF a b c) (primF a b c) (primF a b c) (RN.rl (K:=10000) ra) (RN.rl (K:=10000) nF) (RN.rl (K:=10000) rb) (RN.rl (K:=10000) nF) (RN.rl (K:=10000) rc) (RN.rl (K:=10000) nF) w R.toEnvR) (fun w R=>result_V (a*primF a b c) (b*primF a b c) (c*primF a b c) (RN.rl (K:=200) s1) (RN.rl (K:=200) s2) (RN.rl (K:=200) s3) w R.toEnvR) w R
   · exact prim_w1 _ _ _ _ _ _ _ _ _ _ _ _ _ _ _ _ _ _ _ _ _ _ _ _ _ _ _ _ ((ratB_eq_zero a).trans (decide_eq_true z0)) ((zero_iff _).2 z0) ((ratB_eq_zero b).trans (decide_eq_false z1)) (fun h=>z1 ((zero_iff _).1 h)) (fun w R=>vcheck_ok a b c (RN.rl (K:=200) ra) (RN.rl (K:=200) rb) (RN.rl (K:=200) rc) w R.toEnvR) (fun w R=>rparts_any a w R.toEnvR (ra.mono (by decide))) hG0 hH0 (fun w R=>i_div a.den _ (gp _ _ a.den_pos) (kd _ ra.2) (gl _ _ a.den_pos ra.2) w R.env) hM0 (fun w R=>rparts_any b w R.toEnvR (rb.mono (by decide))) (fun w R=>i_gcdn _ b.num (kd _ ga) (Nat.le_trans rb.1 (by decide)) w R.env) (fun w R=>i_gcd _ b.den (Nat.le_trans l1 (by decide)) (kd _ rb.2) w R.env) (fun w R=>i_div b.den _ (gp _ _ b.den_pos) (kd _ rb.2) (gl _ _ b.den_pos rb.2) w R.env) (fun w R=>i_mul _ b.den (Nat.le_trans l1 (by decide)) (ql _ _ rb.2) w R.env) (fun w R=>rparts_any c w R.toEnvR (rc.mono (by decide))) (fun w R=>i_gcdn _ c.num (kd _ gb) (Nat.le_trans rc.1 (by decide)) w R.env) (fun w R=>i_gcd _ c.den (Nat.le_trans l2 (by decide)) (kd _ rc.2) w R.env) (fun w R=>i_div c.den _ (gp _ _ c.den_pos) (kd _ rc.2) (gl _ _ c.den_pos rc.2) w R.env) (fun w R=>i_mul _ c.den (Nat.le_trans l2 (by decide)) (ql _ _ rc.2) w R.env) hN (fun w R=>each_Mul a b c (primF a b c) (primF a b c) (primF a b c) (RN.rl (K:=10000) ra) (RN.rl (K:=10000) nF) (RN.rl (K:=10000) rb) (RN.rl (K:=10000) nF) (RN.rl (K:=10000) rc) (RN.rl (K:=10000) nF) w R.toEnvR) (fun w R=>result_V (a*primF a b c) (b*primF a b c) (c*primF a b c) (RN.rl (K:=200) s1) (RN.rl (K:=200) s2) (RN.rl (K:=200) s3) w R.toEnvR) w R
 · exact prim_w0 _ _ _ _ _ _ _ _ _ _ _ _ _ _ _ _ _ _ _ _ _ _ _ _ _ _ _ _ ((ratB_eq_zero a).trans (decide_eq_false z0)) (fun h=>z0 ((zero_iff _).1 h)) (fun w R=>vcheck_ok a b c (RN.rl (K:=200) ra) (RN.rl (K:=200) rb) (RN.rl (K:=200) rc) w R.toEnvR) (fun w R=>rparts_any a w R.toEnvR (ra.mono (by decide))) hG0 hH0 (fun w R=>i_div a.den _ (gp _ _ a.den_pos) (kd _ ra.2) (gl _ _ a.den_pos ra.2) w R.env) hM0 (fun w R=>rparts_any b w R.toEnvR (rb.mono (by decide))) (fun w R=>i_gcdn _ b.num (kd _ ga) (Nat.le_trans rb.1 (by decide)) w R.env) (fun w R=>i_gcd _ b.den (Nat.le_trans l1 (by decide)) (kd _ rb.2) w R.env) (fun w R=>i_div b.den _ (gp _ _ b.den_pos) (kd _ rb.2) (gl _ _ b.den_pos rb.2) w R.env) (fun w R=>i_mul _ b.den (Nat.le_trans l1 (by decide)) (ql _ _ rb.2) w R.env) (fun w R=>rparts_any c w R.toEnvR (rc.mono (by decide))) (fun w R=>i_gcdn _ c.num (kd _ gb) (Nat.le_trans rc.1 (by decide)) w R.env) (fun w R=>i_gcd _ c.den (Nat.le_trans l2 (by decide)) (kd _ rc.2) w R.env) (fun w R=>i_div c.den _ (gp _ _ c.den_pos) (kd _ rc.2) (gl _ _ c.den_pos rc.2) w R.env) (fun w R=>i_mul _ c.den (Nat.le_trans l2 (by decide)) (ql _ _ rc.2) w R.env) hN (fun w R=>each_Mul a b c (primF a b c) (primF a b c) (primF a b c) (RN.rl (K:=10000) ra) (RN.rl (K:=10000) nF) (RN.rl (K:=10000) rb) (RN.rl (K:=10000) nF) (RN.rl (K:=10000) rc) (RN.rl (K:=10000) nF) w R.toEnvR) (fun w R=>result_V (a*primF a b c) (b*primF a b c) (c*primF a b c) (RN.rl (K:=200) s1) (RN.rl (K:=200) s2) (RN.rl (K:=200) s3) w R.toEnvR) w R
end Go.Proofs.YtpennccflalobaaGreatDoor.Kl
