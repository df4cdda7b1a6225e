import Derived.Test.YtpennccflalobaaGreatDoorKlVTurnsVMZ
namespace Go.Proofs.YtpennccflalobaaGreatDoor.Kl
open Go Go.RowKit
set_option maxRecDepth 100000
set_option maxHeartbeats 8000000
def betwB (a b c d x y:Rat):Bool:=decide (0≤(a - x).num.sign*(x - c).num.sign) && (decide (0≤(b - y).num.sign*(y - d).num.sign) && decide ((((c - a)*(y - b)) - ((d - b)*(x - a)))=0))
theorem betw_0 (a b c d x y:Rat) (q0:decide (0≤(a - x).num.sign*(x - c).num.sign)=false) (r1:RL a 200) (r2:RL b 200) (r3:RL c 200) (r4:RL d 200) (r5:RL x 200) (r6:RL y 200) (r7:RL a 10000) (r8:RL c 10000) (r9:RL x 10000) (w:World) (R:EnvV w) :
   Calls Tryz.prog 47 #[.agg #[.string (ratB a),.string (ratB b)],.agg #[.string (ratB c),.string (ratB d)],.agg #[.string (ratB x),.string (ratB y)]] w (Ret w (.tuple #[.bool false,.int .i64 0])):=by
 have c1:=fun (w:World) (R:EnvV w)=>checkPts3 a b c d x y r1 r2 r3 r4 r5 r6 w R.toEnvR
 have c2:CV 98 #[.string (ratB a),.string (ratB c),.string (ratB x)] (.bool false):=fun w R=>(by have h:=among_any a c x r7 r8 r9 w R.toEnvR;rw [q0] at h;exact h)
 obtain ⟨Am,Aa⟩:∃ vq,ratB a=vq:=⟨_,rfl⟩
 obtain ⟨An,Ab⟩:∃ vq,ratB b=vq:=⟨_,rfl⟩
 obtain ⟨Ao,Ac⟩:∃ vq,ratB c=vq:=⟨_,rfl⟩
 obtain ⟨Ap,Ad⟩:∃ vq,ratB d=vq:=⟨_,rfl⟩
 obtain ⟨Aq,Ae⟩:∃ vq,ratB x=vq:=⟨_,rfl⟩
 obtain ⟨Ar,Af⟩:∃ vq,ratB y=vq:=⟨_,rfl⟩
 try simp only [Aa,Ab,Ac,Ad,Ae,Af] at c1 c2 ⊢
 have C1:=Lib.hid c1
 have C2:=Lib.hid c2
 clear c1 c2 Aa Ab Ac Ad Ae Af q0 r1 r2 r3 r4 r5 r6 r7 r8 r9
 have hb:=Below.refl w.heap.size w
 go_enter Tryz.func47,Tryz.ntmps47
 go_upto_region 1 with fail
 refine wp_alloc3 (fun w1 a0 a1 a2 hk=>?_)
 replace hb:=hb.trans (hk.mono hb.size)
 clear hk
 obtain ⟨Ag,Ah⟩:=ce2 a0
 obtain ⟨Ai,Aj⟩:=ce2 a1
 obtain ⟨Ak,Al⟩:=ce2 a2
 go_wp2_with ((first | (go_at_call 95;with_reducible refine (zL hb (C1.out _ (R.below hb))).mono ?_) | (go_at_call 98;with_reducible refine (chVB hb R C2).mono ?_));clear hb;rintro e w1 ⟨rfl,hk,hb⟩;clear Ag Ah Ai Aj Ak Al;replace a0:=zB hk a0;replace a1:=zB hk a1;replace a2:=zB hk a2;obtain ⟨Ag,Ah⟩:=ce2 a0;obtain ⟨Ai,Aj⟩:=ce2 a1;obtain ⟨Ak,Al⟩:=ce2 a2;clear hk)
 first | go_ret | go_ret2 | go_ret3
 exact ⟨rfl,hb⟩
theorem betw_1 (a b c d x y:Rat) (q0:decide (0≤(a - x).num.sign*(x - c).num.sign)=true) (q1:decide (0≤(b - y).num.sign*(y - d).num.sign)=false) (r1:RL a 200) (r2:RL b 200) (r3:RL c 200) (r4:RL d 200) (r5:RL x 200) (r6:RL y 200) (r7:RL a 10000) (r8:RL c 10000) (r9:RL x 10000) (r10:RL b 10000) (r11:RL d 10000) (r12:RL y 10000) (w:World) (R:EnvV w) :
   Calls Tryz.prog 47 #[.agg #[.string (ratB a),.string (ratB b)],.agg #[.string (ratB c),.string (ratB d)],.agg #[.string (ratB x),.string (ratB y)]] w (Ret w (.tuple #[.bool false,.int .i64 0])):=by
 have c1:=fun (w:World) (R:EnvV w)=>checkPts3 a b c d x y r1 r2 r3 r4 r5 r6 w R.toEnvR
 have c2:CV 98 #[.string (ratB a),.string (ratB c),.string (ratB x)] (.bool true):=fun w R=>(by have h:=among_any a c x r7 r8 r9 w R.toEnvR;rw [q0] at h;exact h)
 have c3:CV 98 #[.string (ratB b),.string (ratB d),.string (ratB y)] (.bool false):=fun w R=>(by have h:=among_any b d y r10 r11 r12 w R.toEnvR;rw [q1] at h;exact h)
 obtain ⟨Am,Aa⟩:∃ vq,ratB a=vq:=⟨_,rfl⟩
 obtain ⟨An,Ab⟩:∃ vq,ratB b=vq:=⟨_,rfl⟩
 obtain ⟨Ao,Ac⟩:∃ vq,ratB c=vq:=⟨_,rfl⟩
 obtain ⟨Ap,Ad⟩:∃ vq,ratB d=vq:=⟨_,rfl⟩
 obtain ⟨Aq,Ae⟩:∃ vq,ratB x=vq:=⟨_,rfl⟩
 obtain ⟨Ar,Af⟩:∃ vq,ratB y=vq:=⟨_,rfl⟩
 try simp only [Aa,Ab,Ac,Ad,Ae,Af] at c1 c2 c3 ⊢
 have C1:=Lib.hid c1
 have C2:=Lib.hid c2
 have C3:=Lib.hid c3
 clear c1 c2 c3 Aa Ab Ac Ad Ae Af q0 q1 r1 r2 r3 r4 r5 r6 r7 r8 r9 r10 r11 r12
 have hb:=Below.refl w.heap.size w
 go_enter Tryz.func47,Tryz.ntmps47
 go_upto_region 1 with fail
 refine wp_alloc3 (fun w1 a0 a1 a2 hk=>?_)
 replace hb:=hb.trans (hk.mono hb.size)
 clear hk
 obtain ⟨Ag,Ah⟩:=ce2 a0
 obtain ⟨Ai,Aj⟩:=ce2 a1
 obtain ⟨Ak,Al⟩:=ce2 a2
 go_wp2_with ((first | (go_at_call 95;with_reducible refine (zL hb (C1.out _ (R.below hb))).mono ?_) | (go_at_call 98;first | with_reducible refine (chVB hb R C2).mono ?_ | with_reducible refine (chVB hb R C3).mono ?_));clear hb;rintro e w1 ⟨rfl,hk,hb⟩;clear Ag Ah Ai Aj Ak Al;replace a0:=zB hk a0;replace a1:=zB hk a1;replace a2:=zB hk a2;obtain ⟨Ag,Ah⟩:=ce2 a0;obtain ⟨Ai,Aj⟩:=ce2 a1;obtain ⟨Ak,Al⟩:=ce2 a2;clear hk)
 first | go_ret | go_ret2 | go_ret3
 exact ⟨rfl,hb⟩
theorem betw_2 (a b c d x y:Rat) (q0:decide (0≤(a - x).num.sign*(x - c).num.sign)=true) (q1:decide (0≤(b - y).num.sign*(y - d).num.sign)=true) (q2:(((c - a)*(y - b)) - ((d - b)*(x - a)))≠0) (r1:RL a 200) (r2:RL b 200) (r3:RL c 200) (r4:RL d 200) (r5:RL x 200) (r6:RL y 200) (r7:RL a 10000) (r8:RL c 10000) (r9:RL x 10000) (r10:RL b 10000) (r11:RL d 10000) (r12:RL y 10000) (r13:RL (c - a) 10000) (r14:RL (y - b) 10000) (r15:RL (d - b) 10000) (r16:RL (x - a) 10000) (r17:RL ((c - a)*(y - b)) 10000) (r18:RL ((d - b)*(x - a)) 10000) (w:World) (R:EnvV w) :
   Calls Tryz.prog 47 #[.agg #[.string (ratB a),.string (ratB b)],.agg #[.string (ratB c),.string (ratB d)],.agg #[.string (ratB x),.string (ratB y)]] w (Ret w (.tuple #[.bool false,.int .i64 0])):=by
 have c1:=fun (w:World) (R:EnvV w)=>checkPts3 a b c d x y r1 r2 r3 r4 r5 r6 w R.toEnvR
 have c2:CV 98 #[.string (ratB a),.string (ratB c),.string (ratB x)] (.bool true):=fun w R=>(by have h:=among_any a c x r7 r8 r9 w R.toEnvR;rw [q0] at h;exact h)
 have c3:CV 98 #[.string (ratB b),.string (ratB d),.string (ratB y)] (.bool true):=fun w R=>(by have h:=among_any b d y r10 r11 r12 w R.toEnvR;rw [q1] at h;exact h)
 have c4:=fun (w:World) (R:EnvV w)=>area_any a b c d x y r8 r7 r11 r10 r9 r12 r13 r14 r15 r16 r17 r18 w R.toEnvR
 have eq2:((ratB (((c - a)*(y - b)) - ((d - b)*(x - a)))).toList == [48])=false:=by rw [ratB_eq_zero];exact decide_eq_false q2
 have pq2:¬ (ratB (((c - a)*(y - b)) - ((d - b)*(x - a)))).toList=[48]:=fun h=>q2 ((zero_iff _).1 h)
 obtain ⟨An,Aa⟩:∃ vq,ratB (((c - a)*(y - b)) - ((d - b)*(x - a)))=vq:=⟨_,rfl⟩
 obtain ⟨Ao,Ab⟩:∃ vq,ratB a=vq:=⟨_,rfl⟩
 obtain ⟨Ap,Ac⟩:∃ vq,ratB b=vq:=⟨_,rfl⟩
 obtain ⟨Aq,Ad⟩:∃ vq,ratB c=vq:=⟨_,rfl⟩
 obtain ⟨Ar,Ae⟩:∃ vq,ratB d=vq:=⟨_,rfl⟩
 obtain ⟨As,Af⟩:∃ vq,ratB x=vq:=⟨_,rfl⟩
 obtain ⟨At,Ag⟩:∃ vq,ratB y=vq:=⟨_,rfl⟩
 try simp only [Aa,Ab,Ac,Ad,Ae,Af,Ag] at c1 c2 c3 c4 eq2 pq2 ⊢
 have C1:=Lib.hid c1
 have C2:=Lib.hid c2
 have C3:=Lib.hid c3
 have C4:=Lib.hid c4
 clear c1 c2 c3 c4 Aa Ab Ac Ad Ae Af Ag q0 q1 q2 r1 r2 r3 r4 r5 r6 r7 r8 r9 r10 r11 r12 r13 r14 r15 r16 r17 r18
 have hb:=Below.refl w.heap.size w
 go_enter Tryz.func47,Tryz.ntmps47
 go_upto_region 1 with fail
 refine wp_alloc3 (fun w1 a0 a1 a2 hk=>?_)
 replace hb:=hb.trans (hk.mono hb.size)
 clear hk
 obtain ⟨Ah,Ai⟩:=ce2 a0
 obtain ⟨Aj,Ak⟩:=ce2 a1
 obtain ⟨Al,Am⟩:=ce2 a2
 go_wp2_with ((first | (go_at_call 95;with_reducible refine (zL hb (C1.out _ (R.below hb))).mono ?_) | (go_at_call 98;first | with_reducible refine (chVB hb R C2).mono ?_ | with_reducible refine (chVB hb R C3).mono ?_) | (go_at_call 97;with_reducible refine (chVB hb R C4).mono ?_));clear hb;rintro e w1 ⟨rfl,hk,hb⟩;clear Ah Ai Aj Ak Al Am;replace a0:=zB hk a0;replace a1:=zB hk a1;replace a2:=zB hk a2;obtain ⟨Ah,Ai⟩:=ce2 a0;obtain ⟨Aj,Ak⟩:=ce2 a1;obtain ⟨Al,Am⟩:=ce2 a2;clear hk)
 first | go_ret | go_ret2 | go_ret3
 exact ⟨rfl,hb⟩
theorem betw_3 (a b c d x y:Rat) (q0:decide (0≤(a - x).num.sign*(x - c).num.sign)=true) (q1:decide (0≤(b - y).num.sign*(y - d).num.sign)=true) (q2:(((c - a)*(y - b)) - ((d - b)*(x - a)))=0) (r1:RL a 200) (r2:RL b 200) (r3:RL c 200) (r4:RL d 200) (r5:RL x 200) (r6:RL y 200) (r7:RL a 10000) (r8:RL c 10000) (r9:RL x 10000) (r10:RL b 10000) (r11:RL d 10000) (r12:RL y 10000) (r13:RL (c - a) 10000) (r14:RL (y - b) 10000) (r15:RL (d - b) 10000) (r16:RL (x - a) 10000) (r17:RL ((c - a)*(y - b)) 10000) (r18:RL ((d - b)*(x - a)) 10000) (w:World) (R:EnvV w) :
   Calls Tryz.prog 47 #[.agg #[.string (ratB a),.string (ratB b)],.agg #[.string (ratB c),.string (ratB d)],.agg #[.string (ratB x),.string (ratB y)]] w (Ret w (.tuple #[.bool true,.int .i64 0])):=by
 have c1:=fun (w:World) (R:EnvV w)=>checkPts3 a b c d x y r1 r2 r3 r4 r5 r6 w R.toEnvR
 have c2:CV 98 #[.string (ratB a),.string (ratB c),.string (ratB x)] (.bool true):=fun w R=>(by have h:=among_any a c x r7 r8 r9 w R.toEnvR;rw [q0] at h;exact h)
 have c3:CV 98 #[.string (ratB b),.string (ratB d),.string (ratB y)] (.bool true):=fun w R=>(by have h:=among_any b d y r10 r11 r12 w R.toEnvR;rw [q1] at h;exact h)
 have c4:=fun (w:World) (R:EnvV w)=>area_any a b c d x y r8 r7 r11 r10 r9 r12 r13 r14 r15 r16 r17 r18 w R.toEnvR
 have eq2:((ratB (((c - a)*(y - b)) - ((d - b)*(x - a)))).toList == [48])=true:=by rw [ratB_eq_zero];exact decide_eq_true q2
 have pq2:(ratB (((c - a)*(y - b)) - ((d - b)*(x - a)))).toList=[48]:=(zero_iff _).2 q2
 obtain ⟨An,Aa⟩:∃ vq,ratB (((c - a)*(y - b)) - ((d - b)*(x - a)))=vq:=⟨_,rfl⟩
 obtain ⟨Ao,Ab⟩:∃ vq,ratB a=vq:=⟨_,rfl⟩
 obtain ⟨Ap,Ac⟩:∃ vq,ratB b=vq:=⟨_,rfl⟩
 obtain ⟨Aq,Ad⟩:∃ vq,ratB c=vq:=⟨_,rfl⟩
 obtain ⟨Ar,Ae⟩:∃ vq,ratB d=vq:=⟨_,rfl⟩
 obtain ⟨As,Af⟩:∃ vq,ratB x=vq:=⟨_,rfl⟩
 obtain ⟨At,Ag⟩:∃ vq,ratB y=vq:=⟨_,rfl⟩
 try simp only [Aa,Ab,Ac,Ad,Ae,Af,Ag] at c1 c2 c3 c4 eq2 pq2 ⊢
 have C1:=Lib.hid c1
 have C2:=Lib.hid c2
 have C3:=Lib.hid c3
 have C4:=Lib.hid c4
 clear c1 c2 c3 c4 Aa Ab Ac Ad Ae Af Ag q0 q1 q2 r1 r2 r3 r4 r5 r6 r7 r8 r9 r10 r11 r12 r13 r14 r15 r16 r17 r18
 have hb:=Below.refl w.heap.size w
 go_enter Tryz.func47,Tryz.ntmps47
 go_upto_region 1 with fail
 refine wp_alloc3 (fun w1 a0 a1 a2 hk=>?_)
 replace hb:=hb.trans (hk.mono hb.size)
 clear hk
 obtain ⟨Ah,Ai⟩:=ce2 a0
 obtain ⟨Aj,Ak⟩:=ce2 a1
 obtain ⟨Al,Am⟩:=ce2 a2
 go_wp2_with ((first | (go_at_call 95;with_reducible refine (zL hb (C1.out _ (R.below hb))).mono ?_) | (go_at_call 98;first | with_reducible refine (chVB hb R C2).mono ?_ | with_reducible refine (chVB hb R C3).mono ?_) | (go_at_call 97;with_reducible refine (chVB hb R C4).mono ?_));clear hb;rintro e w1 ⟨rfl,hk,hb⟩;clear Ah Ai Aj Ak Al Am;replace a0:=zB hk a0;replace a1:=zB hk a1;replace a2:=zB hk a2;obtain ⟨Ah,Ai⟩:=ce2 a0;obtain ⟨Aj,Ak⟩:=ce2 a1;obtain ⟨Al,Am⟩:=ce2 a2;clear hk)
 first | go_ret | go_ret2 | go_ret3
 exact ⟨rfl,hb⟩
theorem between_any (a b c d x y:Rat) (r1:RL a 200) (r2:RL b 200) (r3:RL c 200) (r4:RL d 200) (r5:RL x 200) (r6:RL y 200) (r7:RL a 10000) (r8:RL c 10000) (r9:RL x 10000) (r10:RL b 10000) (r11:RL d 10000) (r12:RL y 10000) (r13:RL (c - a) 10000) (r14:RL (y - b) 10000) (r15:RL (d - b) 10000) (r16:RL (x - a) 10000) (r17:RL ((c - a)*(y - b)) 10000) (r18:RL ((d - b)*(x - a)) 10000) (w:World) (R:EnvV w) :
   Calls Tryz.prog 47 #[.agg #[.string (ratB a),.string (ratB b)],.agg #[.string (ratB c),.string (ratB d)],.agg #[.string (ratB x),.string (ratB y)]] w (Ret w (.tuple #[.bool (betwB a b c d x y),.int .i64 0])):=by
 cases q0:decide (0≤(a - x).num.sign*(x - c).num.sign) with
 | false =>
   have h:=betw_0 a b c d x y q0 r1 r2 r3 r4 r5 r6 r7 r8 r9 w R
   have hB:betwB a b c d x y=false:=by unfold betwB;rw [q0];rfl
   rw [hB];exact h
 | true =>
   cases q1:decide (0≤(b - y).num.sign*(y - d).num.sign) with
   | false =>
     have h:=betw_1 a b c d x y q0 q1 r1 r2 r3 r4 r5 r6 r7 r8 r9 r10 r11 r12 w R
     have hB:betwB a b c d x y=false:=by unfold betwB;rw [q0,q1];rfl
     rw [hB];exact h
   | true =>
     by_cases q2:(((c - a)*(y - b)) - ((d - b)*(x - a)))=0
     · skip
       have h:=betw_3 a b c d x y q0 q1 q2 r1 r2 r3 r4 r5 r6 r7 r8 r9 r10 r11 r12 r13 r14 r15 r16 r17 r18 w R
       have hB:betwB a b c d x y=true:=by unfold betwB;rw [q0,q1,decide_eq_true q2];rfl
       rw [hB];exact h
     · skip
       have h:=betw_2 a b c d x y q0 q1 q2 r1 r2 r3 r4 r5 r6 r7 r8 r9 r10 r11 r12 r13 r14 r15 r16 r17 r18 w R
       have hB:betwB a b c d x y=false:=by unfold betwB;rw [q0,q1,decide_eq_false q2];rfl
       rw [hB];exact h
theorem refBetw_0 (a b c d x y:Rat) (q0:(((c - a)*(y - b)) - ((d - b)*(x - a))).num.sign≠0) (r1:RL c 400) (r2:RL a 400) (r3:RL y 400) (r4:RL b 400) (r5:RL d 400) (r6:RL x 400) (r7:RL (c - a) 400) (r8:RL (y - b) 400) (r9:RL (d - b) 400) (r10:RL (x - a) 400) (r11:RL ((c - a)*(y - b)) 400) (r12:RL ((d - b)*(x - a)) 400) (w:World) (R:EnvV w) :
   Calls Tryz.prog 53 #[.agg #[.string (ratB a),.string (ratB b)],.agg #[.string (ratB c),.string (ratB d)],.agg #[.string (ratB x),.string (ratB y)]] w (Ret w (.bool false)):=by
 have c1:=fun (w:World) (R:EnvV w)=>refPTurn a b c d x y r1 r2 r3 r4 r5 r6 r7 r8 r9 r10 r11 r12 w R.toEnvR
 have eq0:((((c - a)*(y - b)) - ((d - b)*(x - a))).num.sign == 0)=false:=beq_eq_false_iff_ne.2 q0
 have pq0:¬ (((c - a)*(y - b)) - ((d - b)*(x - a))).num.sign=0:=q0
 obtain ⟨Am,Aa⟩:∃ vq,ratB a=vq:=⟨_,rfl⟩
 obtain ⟨An,Ab⟩:∃ vq,ratB b=vq:=⟨_,rfl⟩
 obtain ⟨Ao,Ac⟩:∃ vq,ratB c=vq:=⟨_,rfl⟩
 obtain ⟨Ap,Ad⟩:∃ vq,ratB d=vq:=⟨_,rfl⟩
 obtain ⟨Aq,Ae⟩:∃ vq,ratB x=vq:=⟨_,rfl⟩
 obtain ⟨Ar,Af⟩:∃ vq,ratB y=vq:=⟨_,rfl⟩
 try simp only [Aa,Ab,Ac,Ad,Ae,Af] at c1 eq0 pq0 ⊢
 obtain ⟨s,es⟩:∃ vq,(((c - a)*(y - b)) - ((d - b)*(x - a))).num.sign=vq:=⟨_,rfl⟩
 try simp only [es] at c1 eq0 pq0 ⊢
 have C1:=Lib.hid c1
 clear c1 Aa Ab Ac Ad Ae Af es q0 r1 r2 r3 r4 r5 r6 r7 r8 r9 r10 r11 r12
 have hb:=Below.refl w.heap.size w
 go_enter Tryz.func53,Tryz.ntmps53
 go_upto_region 1 with fail
 refine wp_alloc3 (fun w1 a0 a1 a2 hk=>?_)
 replace hb:=hb.trans (hk.mono hb.size)
 clear hk
 obtain ⟨Ag,Ah⟩:=ce2 a0
 obtain ⟨Ai,Aj⟩:=ce2 a1
 obtain ⟨Ak,Al⟩:=ce2 a2
 go_wp2_with (go_at_call 51;with_reducible refine (chVB hb R C1).mono ?_;clear hb;rintro e w1 ⟨rfl,hk,hb⟩;clear Ag Ah Ai Aj Ak Al;replace a0:=zB hk a0;replace a1:=zB hk a1;replace a2:=zB hk a2;obtain ⟨Ag,Ah⟩:=ce2 a0;obtain ⟨Ai,Aj⟩:=ce2 a1;obtain ⟨Ak,Al⟩:=ce2 a2;clear hk)
 first | go_ret | go_ret2 | go_ret3
 exact ⟨rfl,hb⟩
theorem refBetw_1 (a b c d x y:Rat) (q0:(((c - a)*(y - b)) - ((d - b)*(x - a))).num.sign=0) (q1:decide ((x - a).num.sign*(x - c).num.sign≤0)=false) (r1:RL c 400) (r2:RL a 400) (r3:RL y 400) (r4:RL b 400) (r5:RL d 400) (r6:RL x 400) (r7:RL (c - a) 400) (r8:RL (y - b) 400) (r9:RL (d - b) 400) (r10:RL (x - a) 400) (r11:RL ((c - a)*(y - b)) 400) (r12:RL ((d - b)*(x - a)) 400) (w:World) (R:EnvV w) :
   Calls Tryz.prog 53 #[.agg #[.string (ratB a),.string (ratB b)],.agg #[.string (ratB c),.string (ratB d)],.agg #[.string (ratB x),.string (ratB y)]] w (Ret w (.bool false)):=by
 have c1:CV 51 #[.agg #[.string (ratB a),.string (ratB b)],.agg #[.string (ratB c),.string (ratB d)],.agg #[.string (ratB x),.string (ratB y)]] (.int .i64 0):=fun w R=>(by have h:=refPTurn a b c d x y r1 r2 r3 r4 r5 r6 r7 r8 r9 r10 r11 r12 w R.toEnvR;rw [q0] at h;exact h)
 have c2:CV 50 #[.string (ratB a),.string (ratB c),.string (ratB x)] (.bool false):=fun w R=>(by have h:=refInside_any a c x r2 r1 r6 w R.toEnvR;rw [q1] at h;exact h)
 obtain ⟨Am,Aa⟩:∃ vq,ratB a=vq:=⟨_,rfl⟩
 obtain ⟨An,Ab⟩:∃ vq,ratB b=vq:=⟨_,rfl⟩
 obtain ⟨Ao,Ac⟩:∃ vq,ratB c=vq:=⟨_,rfl⟩
 obtain ⟨Ap,Ad⟩:∃ vq,ratB d=vq:=⟨_,rfl⟩
 obtain ⟨Aq,Ae⟩:∃ vq,ratB x=vq:=⟨_,rfl⟩
 obtain ⟨Ar,Af⟩:∃ vq,ratB y=vq:=⟨_,rfl⟩
 try simp only [Aa,Ab,Ac,Ad,Ae,Af] at c1 c2 ⊢
 have C1:=Lib.hid c1
 have C2:=Lib.hid c2
 clear c1 c2 Aa Ab Ac Ad Ae Af q0 q1 r1 r2 r3 r4 r5 r6 r7 r8 r9 r10 r11 r12
 have hb:=Below.refl w.heap.size w
 go_enter Tryz.func53,Tryz.ntmps53
 go_upto_region 1 with fail
 refine wp_alloc3 (fun w1 a0 a1 a2 hk=>?_)
 replace hb:=hb.trans (hk.mono hb.size)
 clear hk
 obtain ⟨Ag,Ah⟩:=ce2 a0
 obtain ⟨Ai,Aj⟩:=ce2 a1
 obtain ⟨Ak,Al⟩:=ce2 a2
 go_wp2_with ((first | (go_at_call 51;with_reducible refine (chVB hb R C1).mono ?_) | (go_at_call 50;with_reducible refine (chVB hb R C2).mono ?_));clear hb;rintro e w1 ⟨rfl,hk,hb⟩;clear Ag Ah Ai Aj Ak Al;replace a0:=zB hk a0;replace a1:=zB hk a1;replace a2:=zB hk a2;obtain ⟨Ag,Ah⟩:=ce2 a0;obtain ⟨Ai,Aj⟩:=ce2 a1;obtain ⟨Ak,Al⟩:=ce2 a2;clear hk)
 first | go_ret | go_ret2 | go_ret3
 exact ⟨rfl,hb⟩
theorem refBetw_2 (a b c d x y:Rat) (q0:(((c - a)*(y - b)) - ((d - b)*(x - a))).num.sign=0) (q1:decide ((x - a).num.sign*(x - c).num.sign≤0)=true) (q2:decide ((y - b).num.sign*(y - d).num.sign≤0)=false) (r1:RL c 400) (r2:RL a 400) (r3:RL y 400) (r4:RL b 400) (r5:RL d 400) (r6:RL x 400) (r7:RL (c - a) 400) (r8:RL (y - b) 400) (r9:RL (d - b) 400) (r10:RL (x - a) 400) (r11:RL ((c - a)*(y - b)) 400) (r12:RL ((d - b)*(x - a)) 400) (w:World) (R:EnvV w) :
   Calls Tryz.prog 53 #[.agg #[.string (ratB a),.string (ratB b)],.agg #[.string (ratB c),.string (ratB d)],.agg #[.string (ratB x),.string (ratB y)]] w (Ret w (.bool false)):=by
 have c1:CV 51 #[.agg #[.string (ratB a),.string (ratB b)],.agg #[.string (ratB c),.string (ratB d)],.agg #[.string (ratB x),.string (ratB y)]] (.int .i64 0):=fun w R=>(by have h:=refPTurn a b c d x y r1 r2 r3 r4 r5 r6 r7 r8 r9 r10 r11 r12 w R.toEnvR;rw [q0] at h;exact h)
 have c2:CV 50 #[.string (ratB a),.string (ratB c),.string (ratB x)] (.bool true):=fun w R=>(by have h:=refInside_any a c x r2 r1 r6 w R.toEnvR;rw [q1] at h;exact h)
 have c3:CV 50 #[.string (ratB b),.string (ratB d),.string (ratB y)] (.bool false):=fun w R=>(by have h:=refInside_any b d y r4 r5 r3 w R.toEnvR;rw [q2] at h;exact h)
 obtain ⟨Am,Aa⟩:∃ vq,ratB a=vq:=⟨_,rfl⟩
 obtain ⟨An,Ab⟩:∃ vq,ratB b=vq:=⟨_,rfl⟩
 obtain ⟨Ao,Ac⟩:∃ vq,ratB c=vq:=⟨_,rfl⟩
 obtain ⟨Ap,Ad⟩:∃ vq,ratB d=vq:=⟨_,rfl⟩
 obtain ⟨Aq,Ae⟩:∃ vq,ratB x=vq:=⟨_,rfl⟩
 obtain ⟨Ar,Af⟩:∃ vq,ratB y=vq:=⟨_,rfl⟩
 try simp only [Aa,Ab,Ac,Ad,Ae,Af] at c1 c2 c3 ⊢
 have C1:=Lib.hid c1
 have C2:=Lib.hid c2
 have C3:=Lib.hid c3
 clear c1 c2 c3 Aa Ab Ac Ad Ae Af q0 q1 q2 r1 r2 r3 r4 r5 r6 r7 r8 r9 r10 r11 r12
 have hb:=Below.refl w.heap.size w
 go_enter Tryz.func53,Tryz.ntmps53
 go_upto_region 1 with fail
 refine wp_alloc3 (fun w1 a0 a1 a2 hk=>?_)
 replace hb:=hb.trans (hk.mono hb.size)
 clear hk
 obtain ⟨Ag,Ah⟩:=ce2 a0
 obtain ⟨Ai,Aj⟩:=ce2 a1
 obtain ⟨Ak,Al⟩:=ce2 a2
 go_wp2_with ((first | (go_at_call 51;with_reducible refine (chVB hb R C1).mono ?_) | (go_at_call 50;first | with_reducible refine (chVB hb R C2).mono ?_ | with_reducible refine (chVB hb R C3).mono ?_));clear hb;rintro e w1 ⟨rfl,hk,hb⟩;clear Ag Ah Ai Aj Ak Al;replace a0:=zB hk a0;replace a1:=zB hk a1;replace a2:=zB hk a2;obtain ⟨Ag,Ah⟩:=ce2 a0;obtain ⟨Ai,Aj⟩:=ce2 a1;obtain ⟨Ak,Al⟩:=ce2 a2;clear hk)
 first | go_ret | go_ret2 | go_ret3
 exact ⟨rfl,hb⟩
theorem refBetw_3 (a b c d x y:Rat) (q0:(((c - a)*(y - b)) - ((d - b)*(x - a))).num.sign=0) (q1:decide ((x - a).num.sign*(x - c).num.sign≤0)=true) (q2:decide ((y - b).num.sign*(y - d).num.sign≤0)=true) (r1:RL c 400) (r2:RL a 400) (r3:RL y 400) (r4:RL b 400) (r5:RL d 400) (r6:RL x 400) (r7:RL (c - a) 400) (r8:RL (y - b) 400) (r9:RL (d - b) 400) (r10:RL (x - a) 400) (r11:RL ((c - a)*(y - b)) 400) (r12:RL ((d - b)*(x - a)) 400) (w:World) (R:EnvV w) :
   Calls Tryz.prog 53 #[.agg #[.string (ratB a),.string (ratB b)],.agg #[.string (ratB c),.string (ratB d)],.agg #[.string (ratB x),.string (ratB y)]] w (Ret w (.bool true)):=by
 have c1:CV 51 #[.agg #[.string (ratB a),.string (ratB b)],.agg #[.string (ratB c),.string (ratB d)],.agg #[.string (ratB x),.string (ratB y)]] (.int .i64 0):=fun w R=>(by have h:=refPTurn a b c d x y r1 r2 r3 r4 r5 r6 r7 r8 r9 r10 r11 r12 w R.toEnvR;rw [q0] at h;exact h)
 have c2:CV 50 #[.string (ratB a),.string (ratB c),.string (ratB x)] (.bool true):=fun w R=>(by have h:=refInside_any a c x r2 r1 r6 w R.toEnvR;rw [q1] at h;exact h)
 have c3:CV 50 #[.string (ratB b),.string (ratB d),.string (ratB y)] (.bool true):=fun w R=>(by have h:=refInside_any b d y r4 r5 r3 w R.toEnvR;rw [q2] at h;exact h)
 obtain ⟨Am,Aa⟩:∃ vq,ratB a=vq:=⟨_,rfl⟩
 obtain ⟨An,Ab⟩:∃ vq,ratB b=vq:=⟨_,rfl⟩
 obtain ⟨Ao,Ac⟩:∃ vq,ratB c=vq:=⟨_,rfl⟩
 obtain ⟨Ap,Ad⟩:∃ vq,ratB d=vq:=⟨_,rfl⟩
 obtain ⟨Aq,Ae⟩:∃ vq,ratB x=vq:=⟨_,rfl⟩
 obtain ⟨Ar,Af⟩:∃ vq,ratB y=vq:=⟨_,rfl⟩
 try simp only [Aa,Ab,Ac,Ad,Ae,Af] at c1 c2 c3 ⊢
 have C1:=Lib.hid c1
 have C2:=Lib.hid c2
 have C3:=Lib.hid c3
 clear c1 c2 c3 Aa Ab Ac Ad Ae Af q0 q1 q2 r1 r2 r3 r4 r5 r6 r7 r8 r9 r10 r11 r12
 have hb:=Below.refl w.heap.size w
 go_enter Tryz.func53,Tryz.ntmps53
 go_upto_region 1 with fail
 refine wp_alloc3 (fun w1 a0 a1 a2 hk=>?_)
 replace hb:=hb.trans (hk.mono hb.size)
 clear hk
 obtain ⟨Ag,Ah⟩:=ce2 a0
 obtain ⟨Ai,Aj⟩:=ce2 a1
 obtain ⟨Ak,Al⟩:=ce2 a2
 go_wp2_with ((first | (go_at_call 51;with_reducible refine (chVB hb R C1).mono ?_) | (go_at_call 50;first | with_reducible refine (chVB hb R C2).mono ?_ | with_reducible refine (chVB hb R C3).mono ?_));clear hb;rintro e w1 ⟨rfl,hk,hb⟩;clear Ag Ah Ai Aj Ak Al;replace a0:=zB hk a0;replace a1:=zB hk a1;replace a2:=zB hk a2;obtain ⟨Ag,Ah⟩:=ce2 a0;obtain ⟨Ai,Aj⟩:=ce2 a1;obtain ⟨Ak,Al⟩:=ce2 a2;clear hk)
 first | go_ret | go_ret2 | go_ret3
 exact ⟨rfl,hb⟩
theorem sign0 (q:Rat):q.num.sign=0↔q=0:=by rw [Int.sign_eq_zero_iff_zero,Rat.num_eq_zero]
theorem sign_swap (a b:Rat):(a - b).num.sign = -(b - a).num.sign:=by
 rw [show a - b = -(b - a) by grind];show (-(b - a).num).sign=_;rw [Int.sign_neg]
theorem among_inside (a b x:Rat):decide (0≤(a - x).num.sign*(x - b).num.sign)=decide ((x - a).num.sign*(x - b).num.sign≤0):=by
 rw [sign_swap a x,Int.neg_mul];exact decide_eq_decide.2 ⟨fun h=>by omega,fun h=>by omega⟩
theorem betwB_ref (a b c d x y:Rat):betwB a b c d x y=(decide ((x - a).num.sign*(x - c).num.sign≤0) && (decide ((y - b).num.sign*(y - d).num.sign≤0) && decide ((((c - a)*(y - b)) - ((d - b)*(x - a)))=0))):=by
 unfold betwB;rw [among_inside,among_inside]
theorem refBetween_any (a b c d x y:Rat) (r1:RL c 400) (r2:RL a 400) (r3:RL y 400) (r4:RL b 400) (r5:RL d 400) (r6:RL x 400) (r7:RL (c - a) 400) (r8:RL (y - b) 400) (r9:RL (d - b) 400) (r10:RL (x - a) 400) (r11:RL ((c - a)*(y - b)) 400) (r12:RL ((d - b)*(x - a)) 400) (w:World) (R:EnvV w) :
   Calls Tryz.prog 53 #[.agg #[.string (ratB a),.string (ratB b)],.agg #[.string (ratB c),.string (ratB d)],.agg #[.string (ratB x),.string (ratB y)]] w (Ret w (.bool (betwB a b c d x y))):=by
 rw [betwB_ref]
 by_cases q0:(((c - a)*(y - b)) - ((d - b)*(x - a))).num.sign=0
 · have qz:=(sign0 _).1 q0
   cases q1:decide ((x - a).num.sign*(x - c).num.sign≤0) with
   | false =>
     have h:=refBetw_1 a b c d x y q0 q1 r1 r2 r3 r4 r5 r6 r7 r8 r9 r10 r11 r12 w R
     rw [Bool.false_and]
     exact h
   | true =>
     cases q2:decide ((y - b).num.sign*(y - d).num.sign≤0) with
     | false =>
       have h:=refBetw_2 a b c d x y q0 q1 q2 r1 r2 r3 r4 r5 r6 r7 r8 r9 r10 r11 r12 w R
       rw [Bool.false_and,Bool.and_false]
       exact h
     | true =>
       have h:=refBetw_3 a b c d x y q0 q1 q2 r1 r2 r3 r4 r5 r6 r7 r8 r9 r10 r11 r12 w R
       rw [decide_eq_true qz]
       exact h
 · have qz:=fun h=>q0 ((sign0 _).2 h)
   have h:=refBetw_0 a b c d x y q0 r1 r2 r3 r4 r5 r6 r7 r8 r9 r10 r11 r12 w R
   rw [decide_eq_false qz,Bool.and_false,Bool.and_false]
   exact h
end Go.Proofs.YtpennccflalobaaGreatDoor.Kl
