import Derived.Test.YtpennccflalobaaGreatDoorKlVCommonVYZ
namespace Go.Proofs.YtpennccflalobaaGreatDoor.Kl
open Go Go.RowKit
set_option maxRecDepth 100000
set_option maxHeartbeats 8000000
theorem cplace_0 (a b c d x y z t:Rat) (q0:((b*z) - (c*y))≠0) (r1:RL b 10000) (r2:RL z 10000) (r3:RL c 10000) (r4:RL y 10000) (r5:RL (b*z) 10000) (r6:RL (c*y) 10000) (r7:RL d 10000) (r8:RL t 10000) (r9:RL (d*z) 10000) (r10:RL (c*t) 10000) (r11:((b*z) - (c*y))≠0) (r12:RL ((d*z) - (c*t)) 10000) (r13:RL ((b*z) - (c*y)) 10000) (r14:RL (b*t) 10000) (r15:RL (d*y) 10000) (r16:RL ((b*t) - (d*y)) 10000) (w:World) (R:EnvV w) :
   Calls Tryz.prog 113 #[.agg #[.string (ratB a),.string (ratB b),.string (ratB c),.string (ratB d)],.agg #[.string (ratB x),.string (ratB y),.string (ratB z),.string (ratB t)],.agg #[.string (ratB ((b*z) - (c*y))),.string (ratB ((c*x) - (a*z))),.string (ratB ((a*y) - (b*x)))]] w (Ret w (.agg #[.string ⟨#[48]⟩,.string (ratB (((d*z) - (c*t)) / ((b*z) - (c*y)))),.string (ratB (((b*t) - (d*y)) / ((b*z) - (c*y))))])):=by
 have c1:=meet_any b c d y z t r1 r2 r3 r4 r5 r6 r7 r8 r9 r10 r11 r12 r13 r14 r15 r16
 have eq0:((ratB ((b*z) - (c*y))).toList == [48])=false:=by rw [ratB_eq_zero];exact decide_eq_false q0
 have pq0:¬ (ratB ((b*z) - (c*y))).toList=[48]:=fun h=>q0 ((zero_iff _).1 h)
 obtain ⟨Az,A0⟩:∃ vq,ratB (((b*t) - (d*y)) / ((b*z) - (c*y)))=vq:=⟨_,rfl⟩
 obtain ⟨A1,A2⟩:∃ vq,ratB (((d*z) - (c*t)) / ((b*z) - (c*y)))=vq:=⟨_,rfl⟩
 obtain ⟨A9,A3⟩:∃ vq,ratB b=vq:=⟨_,rfl⟩
 obtain ⟨Ba,A4⟩:∃ vq,ratB c=vq:=⟨_,rfl⟩
 obtain ⟨Bb,A5⟩:∃ vq,ratB d=vq:=⟨_,rfl⟩
 obtain ⟨Bc,A6⟩:∃ vq,ratB t=vq:=⟨_,rfl⟩
 obtain ⟨Bd,A7⟩:∃ vq,ratB y=vq:=⟨_,rfl⟩
 obtain ⟨Be,A8⟩:∃ vq,ratB z=vq:=⟨_,rfl⟩
 try simp only [A0,A2,A3,A4,A5,A6,A7,A8] at c1 eq0 pq0 ⊢
 have C1:=Lib.hid c1
 clear c1 A0 A2 A3 A4 A5 A6 A7 A8 q0 r1 r2 r3 r4 r5 r6 r7 r8 r9 r10 r11 r12 r13 r14 r15 r16
 have hb:=Below.refl w.heap.size w
 go_enter Tryz.func113,Tryz.ntmps113
 go_upto_region 1 with fail
 refine wp_alloc4 (fun w1 a0 a1 a2 a3 hk=>?_)
 replace hb:=hb.trans (hk.mono hb.size)
 clear hk
 obtain ⟨Ag,Ah,Ai,Ao⟩:=ce4 a0
 obtain ⟨Aj,Ak,Al,Ap⟩:=ce4 a1
 obtain ⟨Aq,Ar,As⟩:=ce3 a2
 obtain ⟨Aa,Ad,Ab,Ae,Ac,Af⟩:=cf3 a3
 go_upto_region 1 with fail
 have ya0_0:=fun o=>zC (Below.refl w1.heap.size w1 |>.alloc (Nat.le_refl _) o) Ag
 have yb0_0:=fun o o2=>zC ((Below.refl w1.heap.size w1 |>.alloc (Nat.le_refl _) o).alloc (by simp) o2) Ag
 have ya0_1:=fun o=>zC (Below.refl w1.heap.size w1 |>.alloc (Nat.le_refl _) o) Ah
 have yb0_1:=fun o o2=>zC ((Below.refl w1.heap.size w1 |>.alloc (Nat.le_refl _) o).alloc (by simp) o2) Ah
 have ya0_2:=fun o=>zC (Below.refl w1.heap.size w1 |>.alloc (Nat.le_refl _) o) Ai
 have yb0_2:=fun o o2=>zC ((Below.refl w1.heap.size w1 |>.alloc (Nat.le_refl _) o).alloc (by simp) o2) Ai
 have ya1_0:=fun o=>zC (Below.refl w1.heap.size w1 |>.alloc (Nat.le_refl _) o) Aj
 have yb1_0:=fun o o2=>zC ((Below.refl w1.heap.size w1 |>.alloc (Nat.le_refl _) o).alloc (by simp) o2) Aj
 have ya1_1:=fun o=>zC (Below.refl w1.heap.size w1 |>.alloc (Nat.le_refl _) o) Ak
 have yb1_1:=fun o o2=>zC ((Below.refl w1.heap.size w1 |>.alloc (Nat.le_refl _) o).alloc (by simp) o2) Ak
 have ya1_2:=fun o=>zC (Below.refl w1.heap.size w1 |>.alloc (Nat.le_refl _) o) Al
 have yb1_2:=fun o o2=>zC ((Below.refl w1.heap.size w1 |>.alloc (Nat.le_refl _) o).alloc (by simp) o2) Al
 have HA0:=Lib.hid a0
 have HA1:=Lib.hid a1
 have HA2:=Lib.hid a2
 have HA3:=Lib.hid a3
 have HBB:=Lib.hid hb
 clear a0 a1 a2 a3 hb
 go_region
 · skip
   clear ya0_0 yb0_0 ya0_1 yb0_1 ya0_2 yb0_2 ya1_0 yb1_0 ya1_1 yb1_1 ya1_2 yb1_2
   go_upto_region 2 with fail
   refine wp_alloc2d (fun w1 Am An hk=>?_)
   have a0:=HA0.out
   have a1:=HA1.out
   have a2:=HA2.out
   have a3:=HA3.out
   have hb:=HBB.out
   clear Ag Ah Ai Ao Aj Ak Al Ap Aq Ar As Aa Ab Ac Ad Ae Af
   replace a0:=zB hk a0
   replace a1:=zB hk a1
   replace a2:=zB hk a2
   replace a3:=zB hk a3
   obtain ⟨Ag,Ah,Ai,Ao⟩:=ce4 a0
   obtain ⟨Aj,Ak,Al,Ap⟩:=ce4 a1
   obtain ⟨Aq,Ar,As⟩:=ce3 a2
   obtain ⟨Aa,Ad,Ab,Ae,Ac,Af⟩:=cf3 a3
   replace hb:=hb.trans (hk.mono hb.size)
   clear hk
   obtain ⟨At,Au,Av⟩:=ce3 Am
   obtain ⟨Aw,Ax,Ay⟩:=ce3 An
   go_upto_region 4 with (go_at_call 107;with_reducible refine (chVB hb R C1).mono ?_;clear hb;rintro e w1 ⟨rfl,hk,hb⟩;clear Ag Ah Ai Ao Aj Ak Al Ap Aq Ar As Aa Ab Ac Ad Ae Af At Au Av Aw Ax Ay;replace a0:=zB hk a0;replace a1:=zB hk a1;replace a2:=zB hk a2;replace a3:=zB hk a3;replace Am:=zB hk Am;replace An:=zB hk An;obtain ⟨Ag,Ah,Ai,Ao⟩:=ce4 a0;obtain ⟨Aj,Ak,Al,Ap⟩:=ce4 a1;obtain ⟨Aq,Ar,As⟩:=ce3 a2;obtain ⟨Aa,Ad,Ab,Ae,Ac,Af⟩:=cf3 a3;obtain ⟨At,Au,Av⟩:=ce3 Am;obtain ⟨Aw,Ax,Ay⟩:=ce3 An;clear hk)
   refine wp_alloc1 (fun w1 ag hk=>?_)
   clear Aa Ab Ac Ad Ae Af
   replace a3:=zB hk a3
   obtain ⟨Aa,Ad,Ab,Ae,Ac,Af⟩:=cf3 a3
   replace hb:=hb.trans (hk.mono hb.size)
   clear hk
   obtain ⟨xg_0,xg_1⟩:=ce2 ag
   go_wp2
   refine bodyPost_ret (v:=.agg #[.string ⟨#[48]⟩,.string A1,.string Az]) (by simp [results,Tryz.results113,go_sem,Aa,Ab,Ac]) rfl ⟨rfl,?_⟩
   repeat' (first | exact hb | refine Below.setCell ?_ (by first | exact Nat.le_refl _ | (dsimp only;omega)) _)
 · skip
   clear ya0_0 yb0_0 ya0_1 yb0_1 ya0_2 yb0_2 ya1_0 yb1_0 ya1_1 yb1_1 ya1_2 yb1_2
   go_upto_region 2 with fail
   refine wp_alloc2d (fun w1 An Am hk=>?_)
   have a0:=HA0.out
   have a1:=HA1.out
   have a2:=HA2.out
   have a3:=HA3.out
   have hb:=HBB.out
   clear Ag Ah Ai Ao Aj Ak Al Ap Aq Ar As Aa Ab Ac Ad Ae Af
   replace a0:=zB hk a0
   replace a1:=zB hk a1
   replace a2:=zB hk a2
   replace a3:=zB hk a3
   obtain ⟨Ag,Ah,Ai,Ao⟩:=ce4 a0
   obtain ⟨Aj,Ak,Al,Ap⟩:=ce4 a1
   obtain ⟨Aq,Ar,As⟩:=ce3 a2
   obtain ⟨Aa,Ad,Ab,Ae,Ac,Af⟩:=cf3 a3
   replace hb:=hb.trans (hk.mono hb.size)
   clear hk
   obtain ⟨At,Au,Av⟩:=ce3 Am
   obtain ⟨Aw,Ax,Ay⟩:=ce3 An
   go_upto_region 4 with (go_at_call 107;with_reducible refine (chVB hb R C1).mono ?_;clear hb;rintro e w1 ⟨rfl,hk,hb⟩;clear Ag Ah Ai Ao Aj Ak Al Ap Aq Ar As Aa Ab Ac Ad Ae Af At Au Av Aw Ax Ay;replace a0:=zB hk a0;replace a1:=zB hk a1;replace a2:=zB hk a2;replace a3:=zB hk a3;replace Am:=zB hk Am;replace An:=zB hk An;obtain ⟨Ag,Ah,Ai,Ao⟩:=ce4 a0;obtain ⟨Aj,Ak,Al,Ap⟩:=ce4 a1;obtain ⟨Aq,Ar,As⟩:=ce3 a2;obtain ⟨Aa,Ad,Ab,Ae,Ac,Af⟩:=cf3 a3;obtain ⟨At,Au,Av⟩:=ce3 Am;obtain ⟨Aw,Ax,Ay⟩:=ce3 An;clear hk)
   refine wp_alloc1 (fun w1 ag hk=>?_)
   clear Aa Ab Ac Ad Ae Af
   replace a3:=zB hk a3
   obtain ⟨Aa,Ad,Ab,Ae,Ac,Af⟩:=cf3 a3
   replace hb:=hb.trans (hk.mono hb.size)
   clear hk
   obtain ⟨xg_0,xg_1⟩:=ce2 ag
   go_wp2
   refine bodyPost_ret (v:=.agg #[.string ⟨#[48]⟩,.string A1,.string Az]) (by simp [results,Tryz.results113,go_sem,Aa,Ab,Ac]) rfl ⟨rfl,?_⟩
   repeat' (first | exact hb | refine Below.setCell ?_ (by first | exact Nat.le_refl _ | (dsimp only;omega)) _)
theorem cplace_2 (a b c d x y z t:Rat) (q0:((b*z) - (c*y))=0) (q1:((c*x) - (a*z))=0) (q2:((a*y) - (b*x))≠0) (r1:RL a 10000) (r2:RL y 10000) (r3:RL b 10000) (r4:RL x 10000) (r5:RL (a*y) 10000) (r6:RL (b*x) 10000) (r7:RL d 10000) (r8:RL t 10000) (r9:RL (d*y) 10000) (r10:RL (b*t) 10000) (r11:((a*y) - (b*x))≠0) (r12:RL ((d*y) - (b*t)) 10000) (r13:RL ((a*y) - (b*x)) 10000) (r14:RL (a*t) 10000) (r15:RL (d*x) 10000) (r16:RL ((a*t) - (d*x)) 10000) (w:World) (R:EnvV w) :
   Calls Tryz.prog 113 #[.agg #[.string (ratB a),.string (ratB b),.string (ratB c),.string (ratB d)],.agg #[.string (ratB x),.string (ratB y),.string (ratB z),.string (ratB t)],.agg #[.string (ratB ((b*z) - (c*y))),.string (ratB ((c*x) - (a*z))),.string (ratB ((a*y) - (b*x)))]] w (Ret w (.agg #[.string (ratB (((d*y) - (b*t)) / ((a*y) - (b*x)))),.string (ratB (((a*t) - (d*x)) / ((a*y) - (b*x)))),.string ⟨#[48]⟩])):=by
 have c1:=meet_any a b d x y t r1 r2 r3 r4 r5 r6 r7 r8 r9 r10 r11 r12 r13 r14 r15 r16
 have eq0:((ratB ((b*z) - (c*y))).toList == [48])=true:=by rw [ratB_eq_zero];exact decide_eq_true q0
 have pq0:(ratB ((b*z) - (c*y))).toList=[48]:=(zero_iff _).2 q0
 have eq1:((ratB ((c*x) - (a*z))).toList == [48])=true:=by rw [ratB_eq_zero];exact decide_eq_true q1
 have pq1:(ratB ((c*x) - (a*z))).toList=[48]:=(zero_iff _).2 q1
 have eq2:((ratB ((a*y) - (b*x))).toList == [48])=false:=by rw [ratB_eq_zero];exact decide_eq_false q2
 have pq2:¬ (ratB ((a*y) - (b*x))).toList=[48]:=fun h=>q2 ((zero_iff _).1 h)
 obtain ⟨Az,A0⟩:∃ vq,ratB (((a*t) - (d*x)) / ((a*y) - (b*x)))=vq:=⟨_,rfl⟩
 obtain ⟨A1,A2⟩:∃ vq,ratB (((d*y) - (b*t)) / ((a*y) - (b*x)))=vq:=⟨_,rfl⟩
 obtain ⟨A9,A3⟩:∃ vq,ratB a=vq:=⟨_,rfl⟩
 obtain ⟨Ba,A4⟩:∃ vq,ratB b=vq:=⟨_,rfl⟩
 obtain ⟨Bb,A5⟩:∃ vq,ratB d=vq:=⟨_,rfl⟩
 obtain ⟨Bc,A6⟩:∃ vq,ratB t=vq:=⟨_,rfl⟩
 obtain ⟨Bd,A7⟩:∃ vq,ratB x=vq:=⟨_,rfl⟩
 obtain ⟨Be,A8⟩:∃ vq,ratB y=vq:=⟨_,rfl⟩
 try simp only [A0,A2,A3,A4,A5,A6,A7,A8] at c1 eq0 pq0 eq1 pq1 eq2 pq2 ⊢
 have C1:=Lib.hid c1
 clear c1 A0 A2 A3 A4 A5 A6 A7 A8 q0 q1 q2 r1 r2 r3 r4 r5 r6 r7 r8 r9 r10 r11 r12 r13 r14 r15 r16
 have hb:=Below.refl w.heap.size w
 go_enter Tryz.func113,Tryz.ntmps113
 go_upto_region 1 with fail
 refine wp_alloc4 (fun w1 a0 a1 a2 a3 hk=>?_)
 replace hb:=hb.trans (hk.mono hb.size)
 clear hk
 obtain ⟨Ag,Ah,Ai,Ao⟩:=ce4 a0
 obtain ⟨Aj,Ak,Al,Ap⟩:=ce4 a1
 obtain ⟨Aw,Ax,Ay⟩:=ce3 a2
 obtain ⟨Aa,Ad,Ab,Ae,Ac,Af⟩:=cf3 a3
 go_upto_region 1 with fail
 have ya0_0:=fun o=>zC (Below.refl w1.heap.size w1 |>.alloc (Nat.le_refl _) o) Ag
 have yb0_0:=fun o o2=>zC ((Below.refl w1.heap.size w1 |>.alloc (Nat.le_refl _) o).alloc (by simp) o2) Ag
 have ya0_1:=fun o=>zC (Below.refl w1.heap.size w1 |>.alloc (Nat.le_refl _) o) Ah
 have yb0_1:=fun o o2=>zC ((Below.refl w1.heap.size w1 |>.alloc (Nat.le_refl _) o).alloc (by simp) o2) Ah
 have ya0_2:=fun o=>zC (Below.refl w1.heap.size w1 |>.alloc (Nat.le_refl _) o) Ai
 have yb0_2:=fun o o2=>zC ((Below.refl w1.heap.size w1 |>.alloc (Nat.le_refl _) o).alloc (by simp) o2) Ai
 have ya1_0:=fun o=>zC (Below.refl w1.heap.size w1 |>.alloc (Nat.le_refl _) o) Aj
 have yb1_0:=fun o o2=>zC ((Below.refl w1.heap.size w1 |>.alloc (Nat.le_refl _) o).alloc (by simp) o2) Aj
 have ya1_1:=fun o=>zC (Below.refl w1.heap.size w1 |>.alloc (Nat.le_refl _) o) Ak
 have yb1_1:=fun o o2=>zC ((Below.refl w1.heap.size w1 |>.alloc (Nat.le_refl _) o).alloc (by simp) o2) Ak
 have ya1_2:=fun o=>zC (Below.refl w1.heap.size w1 |>.alloc (Nat.le_refl _) o) Al
 have yb1_2:=fun o o2=>zC ((Below.refl w1.heap.size w1 |>.alloc (Nat.le_refl _) o).alloc (by simp) o2) Al
 have HA0:=Lib.hid a0
 have HA1:=Lib.hid a1
 have HA2:=Lib.hid a2
 have HA3:=Lib.hid a3
 have HBB:=Lib.hid hb
 clear a0 a1 a2 a3 hb
 go_region
 · skip
   clear ya0_0 yb0_0 ya0_1 yb0_1 ya0_2 yb0_2 ya1_0 yb1_0 ya1_1 yb1_1 ya1_2 yb1_2
   go_upto_region 2 with fail
   refine wp_alloc2d (fun w1 Am An hk=>?_)
   have a0:=HA0.out
   have a1:=HA1.out
   have a2:=HA2.out
   have a3:=HA3.out
   have hb:=HBB.out
   clear Ag Ah Ai Ao Aj Ak Al Ap Aw Ax Ay Aa Ab Ac Ad Ae Af
   replace a0:=zB hk a0
   replace a1:=zB hk a1
   replace a2:=zB hk a2
   replace a3:=zB hk a3
   obtain ⟨Ag,Ah,Ai,Ao⟩:=ce4 a0
   obtain ⟨Aj,Ak,Al,Ap⟩:=ce4 a1
   obtain ⟨Aw,Ax,Ay⟩:=ce3 a2
   obtain ⟨Aa,Ad,Ab,Ae,Ac,Af⟩:=cf3 a3
   replace hb:=hb.trans (hk.mono hb.size)
   clear hk
   obtain ⟨Aq,Ar,As⟩:=ce3 Am
   obtain ⟨At,Au,Av⟩:=ce3 An
   go_upto_region 9 with (go_at_call 107;with_reducible refine (chVB hb R C1).mono ?_;clear hb;rintro e w1 ⟨rfl,hk,hb⟩;clear Ag Ah Ai Ao Aj Ak Al Ap Aa Ab Ac Ad Ae Af Aq Ar As At Au Av;replace a0:=zB hk a0;replace a1:=zB hk a1;replace a3:=zB hk a3;replace Am:=zB hk Am;replace An:=zB hk An;obtain ⟨Ag,Ah,Ai,Ao⟩:=ce4 a0;obtain ⟨Aj,Ak,Al,Ap⟩:=ce4 a1;obtain ⟨Aa,Ad,Ab,Ae,Ac,Af⟩:=cf3 a3;obtain ⟨Aq,Ar,As⟩:=ce3 Am;obtain ⟨At,Au,Av⟩:=ce3 An;clear hk)
   refine wp_alloc1 (fun w1 ag hk=>?_)
   clear Aa Ab Ac Ad Ae Af
   replace a3:=zB hk a3
   obtain ⟨Aa,Ad,Ab,Ae,Ac,Af⟩:=cf3 a3
   replace hb:=hb.trans (hk.mono hb.size)
   clear hk
   obtain ⟨xg_0,xg_1⟩:=ce2 ag
   go_wp2
   refine bodyPost_ret (v:=.agg #[.string A1,.string Az,.string ⟨#[48]⟩]) (by simp [results,Tryz.results113,go_sem,Aa,Ab,Ac]) rfl ⟨rfl,?_⟩
   repeat' (first | exact hb | refine Below.setCell ?_ (by first | exact Nat.le_refl _ | (dsimp only;omega)) _)
 · skip
   clear ya0_0 yb0_0 ya0_1 yb0_1 ya0_2 yb0_2 ya1_0 yb1_0 ya1_1 yb1_1 ya1_2 yb1_2
   go_upto_region 2 with fail
   refine wp_alloc2d (fun w1 An Am hk=>?_)
   have a0:=HA0.out
   have a1:=HA1.out
   have a2:=HA2.out
   have a3:=HA3.out
   have hb:=HBB.out
   clear Ag Ah Ai Ao Aj Ak Al Ap Aw Ax Ay Aa Ab Ac Ad Ae Af
   replace a0:=zB hk a0
   replace a1:=zB hk a1
   replace a2:=zB hk a2
   replace a3:=zB hk a3
   obtain ⟨Ag,Ah,Ai,Ao⟩:=ce4 a0
   obtain ⟨Aj,Ak,Al,Ap⟩:=ce4 a1
   obtain ⟨Aw,Ax,Ay⟩:=ce3 a2
   obtain ⟨Aa,Ad,Ab,Ae,Ac,Af⟩:=cf3 a3
   replace hb:=hb.trans (hk.mono hb.size)
   clear hk
   obtain ⟨Aq,Ar,As⟩:=ce3 Am
   obtain ⟨At,Au,Av⟩:=ce3 An
   go_upto_region 9 with (go_at_call 107;with_reducible refine (chVB hb R C1).mono ?_;clear hb;rintro e w1 ⟨rfl,hk,hb⟩;clear Ag Ah Ai Ao Aj Ak Al Ap Aa Ab Ac Ad Ae Af Aq Ar As At Au Av;replace a0:=zB hk a0;replace a1:=zB hk a1;replace a3:=zB hk a3;replace Am:=zB hk Am;replace An:=zB hk An;obtain ⟨Ag,Ah,Ai,Ao⟩:=ce4 a0;obtain ⟨Aj,Ak,Al,Ap⟩:=ce4 a1;obtain ⟨Aa,Ad,Ab,Ae,Ac,Af⟩:=cf3 a3;obtain ⟨Aq,Ar,As⟩:=ce3 Am;obtain ⟨At,Au,Av⟩:=ce3 An;clear hk)
   refine wp_alloc1 (fun w1 ag hk=>?_)
   clear Aa Ab Ac Ad Ae Af
   replace a3:=zB hk a3
   obtain ⟨Aa,Ad,Ab,Ae,Ac,Af⟩:=cf3 a3
   replace hb:=hb.trans (hk.mono hb.size)
   clear hk
   obtain ⟨xg_0,xg_1⟩:=ce2 ag
   go_wp2
   refine bodyPost_ret (v:=.agg #[.string A1,.string Az,.string ⟨#[48]⟩]) (by simp [results,Tryz.results113,go_sem,Aa,Ab,Ac]) rfl ⟨rfl,?_⟩
   repeat' (first | exact hb | refine Below.setCell ?_ (by first | exact Nat.le_refl _ | (dsimp only;omega)) _)
theorem common_0 (a b c d x y z t:Rat) (q0:((b*z) - (c*y))≠0) (r1:RL a 200) (r2:RL b 200) (r3:RL c 200) (r4:RL d 200) (r5:a≠0∨b≠0∨c≠0) (r6:RL x 200) (r7:RL y 200) (r8:RL z 200) (r9:RL t 200) (r10:x≠0∨y≠0∨z≠0) (r11:RL b 10000) (r12:RL z 10000) (r13:RL c 10000) (r14:RL y 10000) (r15:RL (b*z) 10000) (r16:RL (c*y) 10000) (r17:RL x 10000) (r18:RL a 10000) (r19:RL (c*x) 10000) (r20:RL (a*z) 10000) (r21:RL (a*y) 10000) (r22:RL (b*x) 10000) (r23:((b*z) - (c*y))≠0) (r24:RL d 10000) (r25:RL t 10000) (r26:RL (d*z) 10000) (r27:RL (c*t) 10000) (r28:RL ((d*z) - (c*t)) 10000) (r29:RL ((b*z) - (c*y)) 10000) (r30:RL (b*t) 10000) (r31:RL (d*y) 10000) (r32:RL ((b*t) - (d*y)) 10000) (r33:RL (((d*z) - (c*t)) / ((b*z) - (c*y))) 200) (r34:RL (((b*t) - (d*y)) / ((b*z) - (c*y))) 200) (r35:RL ((b*z) - (c*y)) 200) (r36:RL ((c*x) - (a*z)) 200) (r37:RL ((a*y) - (b*x)) 200) (w:World) (R:EnvV w) :
   Calls Tryz.prog 65 #[.agg #[.string (ratB a),.string (ratB b),.string (ratB c),.string (ratB d)],.agg #[.string (ratB x),.string (ratB y),.string (ratB z),.string (ratB t)]] w (Ret w (.tuple #[.agg #[.string ⟨#[48]⟩,.string (ratB (((d*z) - (c*t)) / ((b*z) - (c*y)))),.string (ratB (((b*t) - (d*y)) / ((b*z) - (c*y))))],.agg #[.string (ratB ((b*z) - (c*y))),.string (ratB ((c*x) - (a*z))),.string (ratB ((a*y) - (b*x)))],.int .i64 0])):=by
 have c1:=checkPlane_ok a b c d r1 r2 r3 r4 r5
 have c2:=checkPlane_ok x y z t r6 r7 r8 r9 r10
 have c3:=fun (w:World) (R:EnvV w)=>orErr2 0 0 0 (by decide) w R.toEnvR
 have c4:=fun (w:World) (R:EnvV w)=>cross_any a b c x y z r11 r12 r13 r14 r15 r16 r17 r18 r19 r20 r21 r22 w R.toEnvR
 have c5:=cplace_0 a b c d x y z t r23 r11 r12 r13 r14 r15 r16 r24 r25 r26 r27 r23 r28 r29 r30 r31 r32
 have c6:∀ w,EnvV w→Calls Tryz.prog 114 #[.agg #[.string ⟨#[48]⟩,.string (ratB (((d*z) - (c*t)) / ((b*z) - (c*y)))),.string (ratB (((b*t) - (d*y)) / ((b*z) - (c*y)))),.string (ratB ((b*z) - (c*y))),.string (ratB ((c*x) - (a*z))),.string (ratB ((a*y) - (b*x)))],.slice (some ⟨w.heap.size,0,none⟩) 6 6] (w.alloc (Obj.cells #[Value.string ⟨#[48]⟩,Value.string (ratB (((d*z) - (c*t)) / ((b*z) - (c*y)))),Value.string (ratB (((b*t) - (d*y)) / ((b*z) - (c*y)))),Value.string (ratB ((b*z) - (c*y))),Value.string (ratB ((c*x) - (a*z))),Value.string (ratB ((a*y) - (b*x)))] 22)) (Ret w (.tuple #[.agg #[.string ⟨#[48]⟩,.string (ratB (((d*z) - (c*t)) / ((b*z) - (c*y)))),.string (ratB (((b*t) - (d*y)) / ((b*z) - (c*y)))),.string (ratB ((b*z) - (c*y))),.string (ratB ((c*x) - (a*z))),.string (ratB ((a*y) - (b*x)))],.int .i64 0])):=fun w R=>(by have h:=resVV (ratB (0:Rat)) (ratB (((d*z) - (c*t)) / ((b*z) - (c*y)))) (ratB (((b*t) - (d*y)) / ((b*z) - (c*y)))) (ratB ((b*z) - (c*y))) (ratB ((c*x) - (a*z))) (ratB ((a*y) - (b*x))) (ratB (0:Rat)) (ratB (((d*z) - (c*t)) / ((b*z) - (c*y)))) (ratB (((b*t) - (d*y)) / ((b*z) - (c*y)))) (ratB ((b*z) - (c*y))) (ratB ((c*x) - (a*z))) (ratB ((a*y) - (b*x))) (by intro t ht;simp only [List.mem_cons,List.not_mem_nil,or_false] at ht;rcases ht with rfl | rfl | rfl | rfl | rfl | rfl;exact ⟨_,rfl,(RN.rl (K:=200) rn_0)⟩;exact ⟨_,rfl,r33⟩;exact ⟨_,rfl,r34⟩;exact ⟨_,rfl,r35⟩;exact ⟨_,rfl,r36⟩;exact ⟨_,rfl,r37⟩) w R.toEnvR;simp only [rb_0] at h;exact h)
 have eq0:((ratB ((b*z) - (c*y))).toList == [48])=false:=by rw [ratB_eq_zero];exact decide_eq_false q0
 have pq0:¬ (ratB ((b*z) - (c*y))).toList=[48]:=fun h=>q0 ((zero_iff _).1 h)
 obtain ⟨Bd,Ay⟩:∃ vq,ratB (((b*t) - (d*y)) / ((b*z) - (c*y)))=vq:=⟨_,rfl⟩
 obtain ⟨Be,Az⟩:∃ vq,ratB (((d*z) - (c*t)) / ((b*z) - (c*y)))=vq:=⟨_,rfl⟩
 obtain ⟨Bf,A0⟩:∃ vq,ratB ((a*y) - (b*x))=vq:=⟨_,rfl⟩
 obtain ⟨Bg,A1⟩:∃ vq,ratB ((b*z) - (c*y))=vq:=⟨_,rfl⟩
 obtain ⟨Bh,A2⟩:∃ vq,ratB ((c*x) - (a*z))=vq:=⟨_,rfl⟩
 obtain ⟨Bz,A3⟩:∃ vq,ratB a=vq:=⟨_,rfl⟩
 obtain ⟨B0,A4⟩:∃ vq,ratB b=vq:=⟨_,rfl⟩
 obtain ⟨B1,A5⟩:∃ vq,ratB c=vq:=⟨_,rfl⟩
 obtain ⟨B2,A6⟩:∃ vq,ratB d=vq:=⟨_,rfl⟩
 obtain ⟨B3,A7⟩:∃ vq,ratB t=vq:=⟨_,rfl⟩
 obtain ⟨B4,A8⟩:∃ vq,ratB x=vq:=⟨_,rfl⟩
 obtain ⟨B5,A9⟩:∃ vq,ratB y=vq:=⟨_,rfl⟩
 obtain ⟨B6,Ba⟩:∃ vq,ratB z=vq:=⟨_,rfl⟩
 try simp only [Ay,Az,A0,A1,A2,A3,A4,A5,A6,A7,A8,A9,Ba] at c1 c2 c3 c4 c5 c6 eq0 pq0 ⊢
 have C1:=Lib.hid c1
 have C2:=Lib.hid c2
 have C3:=Lib.hid c3
 have C4:=Lib.hid c4
 have C5:=Lib.hid c5
 have C6:=Lib.hid c6
 clear c1 c2 c3 c4 c5 c6 Ay Az A0 A1 A2 A3 A4 A5 A6 A7 A8 A9 Ba q0 r1 r2 r3 r4 r5 r6 r7 r8 r9 r10 r11 r12 r13 r14 r15 r16 r17 r18 r19 r20 r21 r22 r23 r24 r25 r26 r27 r28 r29 r30 r31 r32 r33 r34 r35 r36 r37
 have hb:=Below.refl w.heap.size w
 have Aa:w.cell? ⟨0,0,none⟩=some (Value.string ⟨#[48]⟩):=R.z0
 have Ab:w.cell? ⟨0,1,none⟩=some (Value.string ⟨#[48]⟩):=R.z1
 have Ac:w.cell? ⟨0,2,none⟩=some (Value.string ⟨#[48]⟩):=R.z2
 go_enter Tryz.func65,Tryz.ntmps65
 go_upto_region 1 with fail
 refine wp_alloc4 (fun w1 a0 a1 a2 a3 hk=>?_)
 replace Aa:=zC hk Aa
 replace Ab:=zC hk Ab
 replace Ac:=zC hk Ac
 replace hb:=hb.trans (hk.mono hb.size)
 clear hk
 obtain ⟨Ap,Aq,Ar,As⟩:=ce4 a0
 obtain ⟨At,Au,Av,Aw⟩:=ce4 a1
 obtain ⟨Ad,Ae,Af,Ag,Ah,Ai⟩:=cf3 a2
 obtain ⟨Aj,Ak,Al,Am,An,Ao⟩:=cf3 a3
 go_upto_region 1 with fail
 have Bi:=zR Aa
 have Bj:=zR Ab
 have Bk:=zR Ac
 obtain ⟨Bl,Bm,Bn,Bo⟩:=cy4 a0
 obtain ⟨Bp,Bq,Br,Bs⟩:=cy4 a1
 obtain ⟨Bt,Bu,Bv⟩:=cy3 a2
 obtain ⟨Bw,Bx,By⟩:=cy3 a3
 have Bb:=rrV C1 R hb
 have Bc:=rrV C2 R hb
 refine wp_region_tail_below 4 (by first | assumption | kernel_rfl) (by kernel_rfl) ?_
 simp only [List.take_succ_cons,List.take_zero,List.drop_succ_cons,List.drop_zero]
 repeat (quiet_step (first | (with_reducible exact Bb.out _ _) | (with_reducible exact Bc.out _ _)))
 refine wpQuiet_nil ?_
 intro w1 hw'
 obtain ⟨hk,hb⟩:=zQ hb hw'
 replace Aa:=zC hk Aa
 replace Ab:=zC hk Ab
 replace Ac:=zC hk Ac
 clear Ap Aq Ar As At Au Av Aw Ad Af Ah Ae Ag Ai Aj Al An Ak Am Ao
 replace a0:=zB hk a0
 replace a1:=zB hk a1
 replace a2:=zB hk a2
 replace a3:=zB hk a3
 obtain ⟨Ap,Aq,Ar,As⟩:=ce4 a0
 obtain ⟨At,Au,Av,Aw⟩:=ce4 a1
 obtain ⟨Ad,Ae,Af,Ag,Ah,Ai⟩:=cf3 a2
 obtain ⟨Aj,Ak,Al,Am,An,Ao⟩:=cf3 a3
 clear Bb Bc Bi Bj Bk Bl Bm Bn Bo Bp Bq Br Bs Bt Bu Bv Bw Bx By
 clear hk hw'
 go_upto_region 5 with (first | ((first | (go_at_call 69;with_reducible refine (zL hb (C3.out _ (R.below hb))).mono ?_) | (go_at_call 77;with_reducible refine (chVB hb R C4).mono ?_) | (go_at_call 113;with_reducible refine (chVB hb R C5).mono ?_));clear hb;rintro e w1 ⟨rfl,hk,hb⟩;replace Aa:=zC hk Aa;replace Ab:=zC hk Ab;replace Ac:=zC hk Ac;clear Ap Aq Ar As At Au Av Aw Ad Af Ah Ae Ag Ai Aj Al An Ak Am Ao;replace a0:=zB hk a0;replace a1:=zB hk a1;replace a2:=zB hk a2;replace a3:=zB hk a3;obtain ⟨Ap,Aq,Ar,As⟩:=ce4 a0;obtain ⟨At,Au,Av,Aw⟩:=ce4 a1;obtain ⟨Ad,Ae,Af,Ag,Ah,Ai⟩:=cf3 a2;obtain ⟨Aj,Ak,Al,Am,An,Ao⟩:=cf3 a3;clear hk) | (go_at_call 114;with_reducible refine (zL hb (C6.out _ (R.below hb))).mono ?_;clear hb;rintro e w1 ⟨rfl,hk,hb⟩;replace Aa:=zC hk Aa;replace Ab:=zC hk Ab;replace Ac:=zC hk Ac;clear Ad Af Ah Ae Ag Ai Aj Al An Ak Am Ao;replace a2:=zB hk a2;replace a3:=zB hk a3;obtain ⟨Ad,Ae,Af,Ag,Ah,Ai⟩:=cf3 a2;obtain ⟨Aj,Ak,Al,Am,An,Ao⟩:=cf3 a3;clear hk))
 refine wp_settled3 hb (by omega) a3 (fun w1 hb a3 hj=>?_)
 clear Aa Ab Ac Ap Aq Ar As At Au Av Aw Ad Af Ah Ae Ag Ai Aj Al An Ak Am Ao
 have Aa:=(R.below hb).z0
 have Ab:=(R.below hb).z1
 have Ac:=(R.below hb).z2
 replace a0:=(hj _ (by omega)).trans a0
 obtain ⟨Ap,Aq,Ar,As⟩:=ce4 a0
 replace a1:=(hj _ (by omega)).trans a1
 obtain ⟨At,Au,Av,Aw⟩:=ce4 a1
 replace a2:=(hj _ (by omega)).trans a2
 obtain ⟨Ad,Ae,Af,Ag,Ah,Ai⟩:=cf3 a2
 obtain ⟨Aj,Ak,Al,Am,An,Ao⟩:=cf3 a3
 clear hj
 go_upto_region 8 with (first | ((first | (go_at_call 69;with_reducible refine (zL hb (C3.out _ (R.below hb))).mono ?_) | (go_at_call 77;with_reducible refine (chVB hb R C4).mono ?_) | (go_at_call 113;with_reducible refine (chVB hb R C5).mono ?_));clear hb;rintro e w1 ⟨rfl,hk,hb⟩;replace Aa:=zC hk Aa;replace Ab:=zC hk Ab;replace Ac:=zC hk Ac;clear Ap Aq Ar As At Au Av Aw Ad Af Ah Ae Ag Ai Aj Al An Ak Am Ao;replace a0:=zB hk a0;replace a1:=zB hk a1;replace a2:=zB hk a2;replace a3:=zB hk a3;obtain ⟨Ap,Aq,Ar,As⟩:=ce4 a0;obtain ⟨At,Au,Av,Aw⟩:=ce4 a1;obtain ⟨Ad,Ae,Af,Ag,Ah,Ai⟩:=cf3 a2;obtain ⟨Aj,Ak,Al,Am,An,Ao⟩:=cf3 a3;clear hk) | (go_at_call 114;with_reducible refine (zL hb (C6.out _ (R.below hb))).mono ?_;clear hb;rintro e w1 ⟨rfl,hk,hb⟩;replace Aa:=zC hk Aa;replace Ab:=zC hk Ab;replace Ac:=zC hk Ac;clear Ad Af Ah Ae Ag Ai Aj Al An Ak Am Ao;replace a2:=zB hk a2;replace a3:=zB hk a3;obtain ⟨Ad,Ae,Af,Ag,Ah,Ai⟩:=cf3 a2;obtain ⟨Aj,Ak,Al,Am,An,Ao⟩:=cf3 a3;clear hk))
 refine wp_settled3 hb (by omega) a2 (fun w1 hb a2 hj=>?_)
 clear Aa Ab Ac Ap Aq Ar As At Au Av Aw Aj Al An Ak Am Ao Ad Af Ah Ae Ag Ai
 have Aa:=(R.below hb).z0
 have Ab:=(R.below hb).z1
 have Ac:=(R.below hb).z2
 replace a0:=(hj _ (by omega)).trans a0
 obtain ⟨Ap,Aq,Ar,As⟩:=ce4 a0
 replace a1:=(hj _ (by omega)).trans a1
 obtain ⟨At,Au,Av,Aw⟩:=ce4 a1
 replace a3:=(hj _ (by omega)).trans a3
 obtain ⟨Aj,Ak,Al,Am,An,Ao⟩:=cf3 a3
 obtain ⟨Ad,Ae,Af,Ag,Ah,Ai⟩:=cf3 a2
 clear hj
 go_upto_region 9 with (first | ((first | (go_at_call 69;with_reducible refine (zL hb (C3.out _ (R.below hb))).mono ?_) | (go_at_call 77;with_reducible refine (chVB hb R C4).mono ?_) | (go_at_call 113;with_reducible refine (chVB hb R C5).mono ?_));clear hb;rintro e w1 ⟨rfl,hk,hb⟩;replace Aa:=zC hk Aa;replace Ab:=zC hk Ab;replace Ac:=zC hk Ac;clear Ap Aq Ar As At Au Av Aw Ad Af Ah Ae Ag Ai Aj Al An Ak Am Ao;replace a0:=zB hk a0;replace a1:=zB hk a1;replace a2:=zB hk a2;replace a3:=zB hk a3;obtain ⟨Ap,Aq,Ar,As⟩:=ce4 a0;obtain ⟨At,Au,Av,Aw⟩:=ce4 a1;obtain ⟨Ad,Ae,Af,Ag,Ah,Ai⟩:=cf3 a2;obtain ⟨Aj,Ak,Al,Am,An,Ao⟩:=cf3 a3;clear hk) | (go_at_call 114;with_reducible refine (zL hb (C6.out _ (R.below hb))).mono ?_;clear hb;rintro e w1 ⟨rfl,hk,hb⟩;replace Aa:=zC hk Aa;replace Ab:=zC hk Ab;replace Ac:=zC hk Ac;clear Ad Af Ah Ae Ag Ai Aj Al An Ak Am Ao;replace a2:=zB hk a2;replace a3:=zB hk a3;obtain ⟨Ad,Ae,Af,Ag,Ah,Ai⟩:=cf3 a2;obtain ⟨Aj,Ak,Al,Am,An,Ao⟩:=cf3 a3;clear hk))
 clear Ap Aq Ar As a0 At Au Av Aw a1
 obtain ⟨B8,eB8⟩:∃ B,w1.heap.size=B:=⟨_,rfl⟩
 have hB8:w.heap.size+3 < B8:=by rw [← eB8];exact (Array.getElem?_eq_some_iff.1 a3).1
 refine wp_alloc1 (fun w1 Ax hk=>?_)
 rw [eB8] at Ax ⊢
 replace Aa:=zC hk Aa
 replace Ab:=zC hk Ab
 replace Ac:=zC hk Ac
 clear Ad Af Ah Ae Ag Ai Aj Al An Ak Am Ao
 replace a2:=zB hk a2
 replace a3:=zB hk a3
 obtain ⟨Ad,Ae,Af,Ag,Ah,Ai⟩:=cf3 a2
 obtain ⟨Aj,Ak,Al,Am,An,Ao⟩:=cf3 a3
 replace hb:=hb.trans (hk.mono hb.size)
 clear hk
 obtain ⟨B7,B9,Ca,Cb,Cc,Cd⟩:=ce6 Ax
 have HA2:=Lib.hid a2
 have HA3:=Lib.hid a3
 have hn1:¬ B8=w.heap.size+1+1:=by omega
 have hn2:¬ w.heap.size+1+1=B8:=by omega
 have hn3:¬ B8=w.heap.size+1+1+1:=by omega
 have hn4:¬ w.heap.size+1+1+1=B8:=by omega
 have HBB:=Lib.hid hb
 clear hb hB8 eB8 Ax a2 a3 Aa Ab Ac
 go_region
 go_wp2
 refine post_two HBB.out (by omega) (by omega) (by omega) HA2.out HA3.out (fun W hb d2_0 d2_1 d2_2 d3_0 d3_1 d3_2=>?_)
 clear HBB HA2 HA3 Ad Af Ah Aj Al An Ae Ag Ai Ak Am Ao hn1 hn2 hn3 hn4
 refine bodyPost_ret (v:=.tuple #[.agg #[.string ⟨#[48]⟩,.string Be,.string Bd],.agg #[.string Bg,.string Bh,.string Bf],.int .i64 0]) (by simp [results,Tryz.results65,go_sem,d2_0,d2_1,d2_2,d3_0,d3_1,d3_2]) rfl ⟨rfl,hb⟩
theorem common_2 (a b c d x y z t:Rat) (q0:((b*z) - (c*y))=0) (q1:((c*x) - (a*z))=0) (q2:((a*y) - (b*x))≠0) (r1:RL a 200) (r2:RL b 200) (r3:RL c 200) (r4:RL d 200) (r5:a≠0∨b≠0∨c≠0) (r6:RL x 200) (r7:RL y 200) (r8:RL z 200) (r9:RL t 200) (r10:x≠0∨y≠0∨z≠0) (r11:RL b 10000) (r12:RL z 10000) (r13:RL c 10000) (r14:RL y 10000) (r15:RL (b*z) 10000) (r16:RL (c*y) 10000) (r17:RL x 10000) (r18:RL a 10000) (r19:RL (c*x) 10000) (r20:RL (a*z) 10000) (r21:RL (a*y) 10000) (r22:RL (b*x) 10000) (r23:((a*y) - (b*x))≠0) (r24:RL d 10000) (r25:RL t 10000) (r26:RL (d*y) 10000) (r27:RL (b*t) 10000) (r28:RL ((d*y) - (b*t)) 10000) (r29:RL ((a*y) - (b*x)) 10000) (r30:RL (a*t) 10000) (r31:RL (d*x) 10000) (r32:RL ((a*t) - (d*x)) 10000) (r33:RL (((d*y) - (b*t)) / ((a*y) - (b*x))) 200) (r34:RL (((a*t) - (d*x)) / ((a*y) - (b*x))) 200) (r35:RL ((b*z) - (c*y)) 200) (r36:RL ((c*x) - (a*z)) 200) (r37:RL ((a*y) - (b*x)) 200) (w:World) (R:EnvV w) :
   Calls Tryz.prog 65 #[.agg #[.string (ratB a),.string (ratB b),.string (ratB c),.string (ratB d)],.agg #[.string (ratB x),.string (ratB y),.string (ratB z),.string (ratB t)]] w (Ret w (.tuple #[.agg #[.string (ratB (((d*y) - (b*t)) / ((a*y) - (b*x)))),.string (ratB (((a*t) - (d*x)) / ((a*y) - (b*x)))),.string ⟨#[48]⟩],.agg #[.string (ratB ((b*z) - (c*y))),.string (ratB ((c*x) - (a*z))),.string (ratB ((a*y) - (b*x)))],.int .i64 0])):=by
 have c1:=checkPlane_ok a b c d r1 r2 r3 r4 r5
 have c2:=checkPlane_ok x y z t r6 r7 r8 r9 r10
 have c3:=fun (w:World) (R:EnvV w)=>orErr2 0 0 0 (by decide) w R.toEnvR
 have c4:=fun (w:World) (R:EnvV w)=>cross_any a b c x y z r11 r12 r13 r14 r15 r16 r17 r18 r19 r20 r21 r22 w R.toEnvR
 have c5:=cplace_2 a b c d x y z t q0 q1 r23 r18 r14 r11 r17 r21 r22 r24 r25 r26 r27 r23 r28 r29 r30 r31 r32
 have c6:∀ w,EnvV w→Calls Tryz.prog 114 #[.agg #[.string (ratB (((d*y) - (b*t)) / ((a*y) - (b*x)))),.string (ratB (((a*t) - (d*x)) / ((a*y) - (b*x)))),.string ⟨#[48]⟩,.string (ratB ((b*z) - (c*y))),.string (ratB ((c*x) - (a*z))),.string (ratB ((a*y) - (b*x)))],.slice (some ⟨w.heap.size,0,none⟩) 6 6] (w.alloc (Obj.cells #[Value.string (ratB (((d*y) - (b*t)) / ((a*y) - (b*x)))),Value.string (ratB (((a*t) - (d*x)) / ((a*y) - (b*x)))),Value.string ⟨#[48]⟩,Value.string (ratB ((b*z) - (c*y))),Value.string (ratB ((c*x) - (a*z))),Value.string (ratB ((a*y) - (b*x)))] 22)) (Ret w (.tuple #[.agg #[.string (ratB (((d*y) - (b*t)) / ((a*y) - (b*x)))),.string (ratB (((a*t) - (d*x)) / ((a*y) - (b*x)))),.string ⟨#[48]⟩,.string (ratB ((b*z) - (c*y))),.string (ratB ((c*x) - (a*z))),.string (ratB ((a*y) - (b*x)))],.int .i64 0])):=fun w R=>(by have h:=resVV (ratB (((d*y) - (b*t)) / ((a*y) - (b*x)))) (ratB (((a*t) - (d*x)) / ((a*y) - (b*x)))) (ratB (0:Rat)) (ratB ((b*z) - (c*y))) (ratB ((c*x) - (a*z))) (ratB ((a*y) - (b*x))) (ratB (((d*y) - (b*t)) / ((a*y) - (b*x)))) (ratB (((a*t) - (d*x)) / ((a*y) - (b*x)))) (ratB (0:Rat)) (ratB ((b*z) - (c*y))) (ratB ((c*x) - (a*z))) (ratB ((a*y) - (b*x))) (by intro t ht;simp only [List.mem_cons,List.not_mem_nil,or_false] at ht;rcases ht with rfl | rfl | rfl | rfl | rfl | rfl;exact ⟨_,rfl,r33⟩;exact ⟨_,rfl,r34⟩;exact ⟨_,rfl,(RN.rl (K:=200) rn_0)⟩;exact ⟨_,rfl,r35⟩;exact ⟨_,rfl,r36⟩;exact ⟨_,rfl,r37⟩) w R.toEnvR;simp only [rb_0] at h;exact h)
 have eq0:((ratB ((b*z) - (c*y))).toList == [48])=true:=by rw [ratB_eq_zero];exact decide_eq_true q0
 have pq0:(ratB ((b*z) - (c*y))).toList=[48]:=(zero_iff _).2 q0
 have eq1:((ratB ((c*x) - (a*z))).toList == [48])=true:=by rw [ratB_eq_zero];exact decide_eq_true q1
 have pq1:(ratB ((c*x) - (a*z))).toList=[48]:=(zero_iff _).2 q1
 have eq2:((ratB ((a*y) - (b*x))).toList == [48])=false:=by rw [ratB_eq_zero];exact decide_eq_false q2
 have pq2:¬ (ratB ((a*y) - (b*x))).toList=[48]:=fun h=>q2 ((zero_iff _).1 h)
 obtain ⟨Bd,Ay⟩:∃ vq,ratB (((a*t) - (d*x)) / ((a*y) - (b*x)))=vq:=⟨_,rfl⟩
 obtain ⟨Be,Az⟩:∃ vq,ratB (((d*y) - (b*t)) / ((a*y) - (b*x)))=vq:=⟨_,rfl⟩
 obtain ⟨Bf,A0⟩:∃ vq,ratB ((a*y) - (b*x))=vq:=⟨_,rfl⟩
 obtain ⟨Bg,A1⟩:∃ vq,ratB ((b*z) - (c*y))=vq:=⟨_,rfl⟩
 obtain ⟨Bh,A2⟩:∃ vq,ratB ((c*x) - (a*z))=vq:=⟨_,rfl⟩
 obtain ⟨Bz,A3⟩:∃ vq,ratB a=vq:=⟨_,rfl⟩
 obtain ⟨B0,A4⟩:∃ vq,ratB b=vq:=⟨_,rfl⟩
 obtain ⟨B1,A5⟩:∃ vq,ratB c=vq:=⟨_,rfl⟩
 obtain ⟨B2,A6⟩:∃ vq,ratB d=vq:=⟨_,rfl⟩
 obtain ⟨B3,A7⟩:∃ vq,ratB t=vq:=⟨_,rfl⟩
 obtain ⟨B4,A8⟩:∃ vq,ratB x=vq:=⟨_,rfl⟩
 obtain ⟨B5,A9⟩:∃ vq,ratB y=vq:=⟨_,rfl⟩
 obtain ⟨B6,Ba⟩:∃ vq,ratB z=vq:=⟨_,rfl⟩
 try simp only [Ay,Az,A0,A1,A2,A3,A4,A5,A6,A7,A8,A9,Ba] at c1 c2 c3 c4 c5 c6 eq0 pq0 eq1 pq1 eq2 pq2 ⊢
 have C1:=Lib.hid c1
 have C2:=Lib.hid c2
 have C3:=Lib.hid c3
 have C4:=Lib.hid c4
 have C5:=Lib.hid c5
 have C6:=Lib.hid c6
 clear c1 c2 c3 c4 c5 c6 Ay Az A0 A1 A2 A3 A4 A5 A6 A7 A8 A9 Ba q0 q1 q2 r1 r2 r3 r4 r5 r6 r7 r8 r9 r10 r11 r12 r13 r14 r15 r16 r17 r18 r19 r20 r21 r22 r23 r24 r25 r26 r27 r28 r29 r30 r31 r32 r33 r34 r35 r36 r37
 have hb:=Below.refl w.heap.size w
 have Aa:w.cell? ⟨0,0,none⟩=some (Value.string ⟨#[48]⟩):=R.z0
 have Ab:w.cell? ⟨0,1,none⟩=some (Value.string ⟨#[48]⟩):=R.z1
 have Ac:w.cell? ⟨0,2,none⟩=some (Value.string ⟨#[48]⟩):=R.z2
 go_enter Tryz.func65,Tryz.ntmps65
 go_upto_region 1 with fail
 refine wp_alloc4 (fun w1 a0 a1 a2 a3 hk=>?_)
 replace Aa:=zC hk Aa
 replace Ab:=zC hk Ab
 replace Ac:=zC hk Ac
 replace hb:=hb.trans (hk.mono hb.size)
 clear hk
 obtain ⟨Ap,Aq,Ar,As⟩:=ce4 a0
 obtain ⟨At,Au,Av,Aw⟩:=ce4 a1
 obtain ⟨Ad,Ae,Af,Ag,Ah,Ai⟩:=cf3 a2
 obtain ⟨Aj,Ak,Al,Am,An,Ao⟩:=cf3 a3
 go_upto_region 1 with fail
 have Bi:=zR Aa
 have Bj:=zR Ab
 have Bk:=zR Ac
 obtain ⟨Bl,Bm,Bn,Bo⟩:=cy4 a0
 obtain ⟨Bp,Bq,Br,Bs⟩:=cy4 a1
 obtain ⟨Bt,Bu,Bv⟩:=cy3 a2
 obtain ⟨Bw,Bx,By⟩:=cy3 a3
 have Bb:=rrV C1 R hb
 have Bc:=rrV C2 R hb
 refine wp_region_tail_below 4 (by first | assumption | kernel_rfl) (by kernel_rfl) ?_
 simp only [List.take_succ_cons,List.take_zero,List.drop_succ_cons,List.drop_zero]
 repeat (quiet_step (first | (with_reducible exact Bb.out _ _) | (with_reducible exact Bc.out _ _)))
 refine wpQuiet_nil ?_
 intro w1 hw'
 obtain ⟨hk,hb⟩:=zQ hb hw'
 replace Aa:=zC hk Aa
 replace Ab:=zC hk Ab
 replace Ac:=zC hk Ac
 clear Ap Aq Ar As At Au Av Aw Ad Af Ah Ae Ag Ai Aj Al An Ak Am Ao
 replace a0:=zB hk a0
 replace a1:=zB hk a1
 replace a2:=zB hk a2
 replace a3:=zB hk a3
 obtain ⟨Ap,Aq,Ar,As⟩:=ce4 a0
 obtain ⟨At,Au,Av,Aw⟩:=ce4 a1
 obtain ⟨Ad,Ae,Af,Ag,Ah,Ai⟩:=cf3 a2
 obtain ⟨Aj,Ak,Al,Am,An,Ao⟩:=cf3 a3
 clear Bb Bc Bi Bj Bk Bl Bm Bn Bo Bp Bq Br Bs Bt Bu Bv Bw Bx By
 clear hk hw'
 go_upto_region 5 with (first | ((first | (go_at_call 69;with_reducible refine (zL hb (C3.out _ (R.below hb))).mono ?_) | (go_at_call 77;with_reducible refine (chVB hb R C4).mono ?_) | (go_at_call 113;with_reducible refine (chVB hb R C5).mono ?_));clear hb;rintro e w1 ⟨rfl,hk,hb⟩;replace Aa:=zC hk Aa;replace Ab:=zC hk Ab;replace Ac:=zC hk Ac;clear Ap Aq Ar As At Au Av Aw Ad Af Ah Ae Ag Ai Aj Al An Ak Am Ao;replace a0:=zB hk a0;replace a1:=zB hk a1;replace a2:=zB hk a2;replace a3:=zB hk a3;obtain ⟨Ap,Aq,Ar,As⟩:=ce4 a0;obtain ⟨At,Au,Av,Aw⟩:=ce4 a1;obtain ⟨Ad,Ae,Af,Ag,Ah,Ai⟩:=cf3 a2;obtain ⟨Aj,Ak,Al,Am,An,Ao⟩:=cf3 a3;clear hk) | (go_at_call 114;with_reducible refine (zL hb (C6.out _ (R.below hb))).mono ?_;clear hb;rintro e w1 ⟨rfl,hk,hb⟩;replace Aa:=zC hk Aa;replace Ab:=zC hk Ab;replace Ac:=zC hk Ac;clear Ad Af Ah Ae Ag Ai Aj Al An Ak Am Ao;replace a2:=zB hk a2;replace a3:=zB hk a3;obtain ⟨Ad,Ae,Af,Ag,Ah,Ai⟩:=cf3 a2;obtain ⟨Aj,Ak,Al,Am,An,Ao⟩:=cf3 a3;clear hk))
 refine wp_settled3 hb (by omega) a3 (fun w1 hb a3 hj=>?_)
 clear Aa Ab Ac Ap Aq Ar As At Au Av Aw Ad Af Ah Ae Ag Ai Aj Al An Ak Am Ao
 have Aa:=(R.below hb).z0
 have Ab:=(R.below hb).z1
 have Ac:=(R.below hb).z2
 replace a0:=(hj _ (by omega)).trans a0
 obtain ⟨Ap,Aq,Ar,As⟩:=ce4 a0
 replace a1:=(hj _ (by omega)).trans a1
 obtain ⟨At,Au,Av,Aw⟩:=ce4 a1
 replace a2:=(hj _ (by omega)).trans a2
 obtain ⟨Ad,Ae,Af,Ag,Ah,Ai⟩:=cf3 a2
 obtain ⟨Aj,Ak,Al,Am,An,Ao⟩:=cf3 a3
 clear hj
 go_upto_region 8 with (first | ((first | (go_at_call 69;with_reducible refine (zL hb (C3.out _ (R.below hb))).mono ?_) | (go_at_call 77;with_reducible refine (chVB hb R C4).mono ?_) | (go_at_call 113;with_reducible refine (chVB hb R C5).mono ?_));clear hb;rintro e w1 ⟨rfl,hk,hb⟩;replace Aa:=zC hk Aa;replace Ab:=zC hk Ab;replace Ac:=zC hk Ac;clear Ap Aq Ar As At Au Av Aw Ad Af Ah Ae Ag Ai Aj Al An Ak Am Ao;replace a0:=zB hk a0;replace a1:=zB hk a1;replace a2:=zB hk a2;replace a3:=zB hk a3;obtain ⟨Ap,Aq,Ar,As⟩:=ce4 a0;obtain ⟨At,Au,Av,Aw⟩:=ce4 a1;obtain ⟨Ad,Ae,Af,Ag,Ah,Ai⟩:=cf3 a2;obtain ⟨Aj,Ak,Al,Am,An,Ao⟩:=cf3 a3;clear hk) | (go_at_call 114;with_reducible refine (zL hb (C6.out _ (R.below hb))).mono ?_;clear hb;rintro e w1 ⟨rfl,hk,hb⟩;replace Aa:=zC hk Aa;replace Ab:=zC hk Ab;replace Ac:=zC hk Ac;clear Ad Af Ah Ae Ag Ai Aj Al An Ak Am Ao;replace a2:=zB hk a2;replace a3:=zB hk a3;obtain ⟨Ad,Ae,Af,Ag,Ah,Ai⟩:=cf3 a2;obtain ⟨Aj,Ak,Al,Am,An,Ao⟩:=cf3 a3;clear hk))
 refine wp_settled3 hb (by omega) a2 (fun w1 hb a2 hj=>?_)
 clear Aa Ab Ac Ap Aq Ar As At Au Av Aw Aj Al An Ak Am Ao Ad Af Ah Ae Ag Ai
 have Aa:=(R.below hb).z0
 have Ab:=(R.below hb).z1
 have Ac:=(R.below hb).z2
 replace a0:=(hj _ (by omega)).trans a0
 obtain ⟨Ap,Aq,Ar,As⟩:=ce4 a0
 replace a1:=(hj _ (by omega)).trans a1
 obtain ⟨At,Au,Av,Aw⟩:=ce4 a1
 replace a3:=(hj _ (by omega)).trans a3
 obtain ⟨Aj,Ak,Al,Am,An,Ao⟩:=cf3 a3
 obtain ⟨Ad,Ae,Af,Ag,Ah,Ai⟩:=cf3 a2
 clear hj
 go_upto_region 9 with (first | ((first | (go_at_call 69;with_reducible refine (zL hb (C3.out _ (R.below hb))).mono ?_) | (go_at_call 77;with_reducible refine (chVB hb R C4).mono ?_) | (go_at_call 113;with_reducible refine (chVB hb R C5).mono ?_));clear hb;rintro e w1 ⟨rfl,hk,hb⟩;replace Aa:=zC hk Aa;replace Ab:=zC hk Ab;replace Ac:=zC hk Ac;clear Ap Aq Ar As At Au Av Aw Ad Af Ah Ae Ag Ai Aj Al An Ak Am Ao;replace a0:=zB hk a0;replace a1:=zB hk a1;replace a2:=zB hk a2;replace a3:=zB hk a3;obtain ⟨Ap,Aq,Ar,As⟩:=ce4 a0;obtain ⟨At,Au,Av,Aw⟩:=ce4 a1;obtain ⟨Ad,Ae,Af,Ag,Ah,Ai⟩:=cf3 a2;obtain ⟨Aj,Ak,Al,Am,An,Ao⟩:=cf3 a3;clear hk) | (go_at_call 114;with_reducible refine (zL hb (C6.out _ (R.below hb))).mono ?_;clear hb;rintro e w1 ⟨rfl,hk,hb⟩;replace Aa:=zC hk Aa;replace Ab:=zC hk Ab;replace Ac:=zC hk Ac;clear Ad Af Ah Ae Ag Ai Aj Al An Ak Am Ao;replace a2:=zB hk a2;replace a3:=zB hk a3;obtain ⟨Ad,Ae,Af,Ag,Ah,Ai⟩:=cf3 a2;obtain ⟨Aj,Ak,Al,Am,An,Ao⟩:=cf3 a3;clear hk))
 clear Ap Aq Ar As a0 At Au Av Aw a1
 obtain ⟨B8,eB8⟩:∃ B,w1.heap.size=B:=⟨_,rfl⟩
 have hB8:w.heap.size+3 < B8:=by rw [← eB8];exact (Array.getElem?_eq_some_iff.1 a3).1
 refine wp_alloc1 (fun w1 Ax hk=>?_)
 rw [eB8] at Ax ⊢
 replace Aa:=zC hk Aa
 replace Ab:=zC hk Ab
 replace Ac:=zC hk Ac
 clear Ad Af Ah Ae Ag Ai Aj Al An Ak Am Ao
 replace a2:=zB hk a2
 replace a3:=zB hk a3
 obtain ⟨Ad,Ae,Af,Ag,Ah,Ai⟩:=cf3 a2
 obtain ⟨Aj,Ak,Al,Am,An,Ao⟩:=cf3 a3
 replace hb:=hb.trans (hk.mono hb.size)
 clear hk
 obtain ⟨B7,B9,Ca,Cb,Cc,Cd⟩:=ce6 Ax
 have HA2:=Lib.hid a2
 have HA3:=Lib.hid a3
 have hn1:¬ B8=w.heap.size+1+1:=by omega
 have hn2:¬ w.heap.size+1+1=B8:=by omega
 have hn3:¬ B8=w.heap.size+1+1+1:=by omega
 have hn4:¬ w.heap.size+1+1+1=B8:=by omega
 have HBB:=Lib.hid hb
 clear hb hB8 eB8 Ax a2 a3 Aa Ab Ac
 go_region
 go_wp2
 refine post_two HBB.out (by omega) (by omega) (by omega) HA2.out HA3.out (fun W hb d2_0 d2_1 d2_2 d3_0 d3_1 d3_2=>?_)
 clear HBB HA2 HA3 Ad Af Ah Aj Al An Ae Ag Ai Ak Am Ao hn1 hn2 hn3 hn4
 refine bodyPost_ret (v:=.tuple #[.agg #[.string Be,.string Bd,.string ⟨#[48]⟩],.agg #[.string Bg,.string Bh,.string Bf],.int .i64 0]) (by simp [results,Tryz.results65,go_sem,d2_0,d2_1,d2_2,d3_0,d3_1,d3_2]) rfl ⟨rfl,hb⟩
theorem common_3 (a b c d x y z t:Rat) (q0:((b*z) - (c*y))=0) (q1:((c*x) - (a*z))=0) (q2:((a*y) - (b*x))=0) (r1:RL a 200) (r2:RL b 200) (r3:RL c 200) (r4:RL d 200) (r5:a≠0∨b≠0∨c≠0) (r6:RL x 200) (r7:RL y 200) (r8:RL z 200) (r9:RL t 200) (r10:x≠0∨y≠0∨z≠0) (r11:RL b 10000) (r12:RL z 10000) (r13:RL c 10000) (r14:RL y 10000) (r15:RL (b*z) 10000) (r16:RL (c*y) 10000) (r17:RL x 10000) (r18:RL a 10000) (r19:RL (c*x) 10000) (r20:RL (a*z) 10000) (r21:RL (a*y) 10000) (r22:RL (b*x) 10000) (w:World) (R:EnvV w) :
   Calls Tryz.prog 65 #[.agg #[.string (ratB a),.string (ratB b),.string (ratB c),.string (ratB d)],.agg #[.string (ratB x),.string (ratB y),.string (ratB z),.string (ratB t)]] w (Ret w (.tuple #[.agg #[.string ⟨#[]⟩,.string ⟨#[]⟩,.string ⟨#[]⟩],.agg #[.string ⟨#[]⟩,.string ⟨#[]⟩,.string ⟨#[]⟩],.int .i64 19])):=by
 have c1:=checkPlane_ok a b c d r1 r2 r3 r4 r5
 have c2:=checkPlane_ok x y z t r6 r7 r8 r9 r10
 have c3:=fun (w:World) (R:EnvV w)=>orErr2 0 0 0 (by decide) w R.toEnvR
 have c4:=fun (w:World) (R:EnvV w)=>cross_any a b c x y z r11 r12 r13 r14 r15 r16 r17 r18 r19 r20 r21 r22 w R.toEnvR
 have eq0:((ratB ((b*z) - (c*y))).toList == [48])=true:=by rw [ratB_eq_zero];exact decide_eq_true q0
 have pq0:(ratB ((b*z) - (c*y))).toList=[48]:=(zero_iff _).2 q0
 have eq1:((ratB ((c*x) - (a*z))).toList == [48])=true:=by rw [ratB_eq_zero];exact decide_eq_true q1
 have pq1:(ratB ((c*x) - (a*z))).toList=[48]:=(zero_iff _).2 q1
 have eq2:((ratB ((a*y) - (b*x))).toList == [48])=true:=by rw [ratB_eq_zero];exact decide_eq_true q2
 have pq2:(ratB ((a*y) - (b*x))).toList=[48]:=(zero_iff _).2 q2
 obtain ⟨Br,Ax⟩:∃ vq,ratB ((a*y) - (b*x))=vq:=⟨_,rfl⟩
 obtain ⟨Bs,Ay⟩:∃ vq,ratB ((b*z) - (c*y))=vq:=⟨_,rfl⟩
 obtain ⟨Bt,Az⟩:∃ vq,ratB ((c*x) - (a*z))=vq:=⟨_,rfl⟩
 obtain ⟨Bu,A0⟩:∃ vq,ratB a=vq:=⟨_,rfl⟩
 obtain ⟨Bv,A1⟩:∃ vq,ratB b=vq:=⟨_,rfl⟩
 obtain ⟨Bw,A2⟩:∃ vq,ratB c=vq:=⟨_,rfl⟩
 obtain ⟨Bx,A3⟩:∃ vq,ratB d=vq:=⟨_,rfl⟩
 obtain ⟨By,A4⟩:∃ vq,ratB t=vq:=⟨_,rfl⟩
 obtain ⟨Bz,A5⟩:∃ vq,ratB x=vq:=⟨_,rfl⟩
 obtain ⟨B0,A6⟩:∃ vq,ratB y=vq:=⟨_,rfl⟩
 obtain ⟨B1,A7⟩:∃ vq,ratB z=vq:=⟨_,rfl⟩
 try simp only [Ax,Ay,Az,A0,A1,A2,A3,A4,A5,A6,A7] at c1 c2 c3 c4 eq0 pq0 eq1 pq1 eq2 pq2 ⊢
 have C1:=Lib.hid c1
 have C2:=Lib.hid c2
 have C3:=Lib.hid c3
 have C4:=Lib.hid c4
 clear c1 c2 c3 c4 Ax Ay Az A0 A1 A2 A3 A4 A5 A6 A7 q0 q1 q2 r1 r2 r3 r4 r5 r6 r7 r8 r9 r10 r11 r12 r13 r14 r15 r16 r17 r18 r19 r20 r21 r22
 have hb:=Below.refl w.heap.size w
 have Aa:w.cell? ⟨0,0,none⟩=some (Value.string ⟨#[48]⟩):=R.z0
 have Ab:w.cell? ⟨0,1,none⟩=some (Value.string ⟨#[48]⟩):=R.z1
 have Ac:w.cell? ⟨0,2,none⟩=some (Value.string ⟨#[48]⟩):=R.z2
 go_enter Tryz.func65,Tryz.ntmps65
 go_upto_region 1 with fail
 refine wp_alloc4 (fun w1 a0 a1 a2 a3 hk=>?_)
 replace Aa:=zC hk Aa
 replace Ab:=zC hk Ab
 replace Ac:=zC hk Ac
 replace hb:=hb.trans (hk.mono hb.size)
 clear hk
 obtain ⟨Aj,Ak,Al,Am⟩:=ce4 a0
 obtain ⟨An,Ao,Ap,Aq⟩:=ce4 a1
 obtain ⟨Ad,Ar,Ae,As,Af,At⟩:=cf3 a2
 obtain ⟨Ag,Au,Ah,Av,Ai,Aw⟩:=cf3 a3
 go_upto_region 1 with fail
 have Ba:=zR Aa
 have Bb:=zR Ab
 have Bc:=zR Ac
 obtain ⟨Bd,Be,Bf,Bg⟩:=cy4 a0
 obtain ⟨Bh,Bi,Bj,Bk⟩:=cy4 a1
 obtain ⟨Bl,Bm,Bn⟩:=cy3 a2
 obtain ⟨Bo,Bp,Bq⟩:=cy3 a3
 have A8:=rrV C1 R hb
 have A9:=rrV C2 R hb
 refine wp_region_tail_below 4 (by first | assumption | kernel_rfl) (by kernel_rfl) ?_
 simp only [List.take_succ_cons,List.take_zero,List.drop_succ_cons,List.drop_zero]
 repeat (quiet_step (first | (with_reducible exact A8.out _ _) | (with_reducible exact A9.out _ _)))
 refine wpQuiet_nil ?_
 intro w1 hw'
 obtain ⟨hk,hb⟩:=zQ hb hw'
 replace Aa:=zC hk Aa
 replace Ab:=zC hk Ab
 replace Ac:=zC hk Ac
 clear Aj Ak Al Am An Ao Ap Aq Ad Ae Af Ar As At Ag Ah Ai Au Av Aw
 replace a0:=zB hk a0
 replace a1:=zB hk a1
 replace a2:=zB hk a2
 replace a3:=zB hk a3
 obtain ⟨Aj,Ak,Al,Am⟩:=ce4 a0
 obtain ⟨An,Ao,Ap,Aq⟩:=ce4 a1
 obtain ⟨Ad,Ar,Ae,As,Af,At⟩:=cf3 a2
 obtain ⟨Ag,Au,Ah,Av,Ai,Aw⟩:=cf3 a3
 clear A8 A9 Ba Bb Bc Bd Be Bf Bg Bh Bi Bj Bk Bl Bm Bn Bo Bp Bq
 clear hk hw'
 go_upto_region 5 with ((first | (go_at_call 69;with_reducible refine (zL hb (C3.out _ (R.below hb))).mono ?_) | (go_at_call 77;with_reducible refine (chVB hb R C4).mono ?_));clear hb;rintro e w1 ⟨rfl,hk,hb⟩;replace Aa:=zC hk Aa;replace Ab:=zC hk Ab;replace Ac:=zC hk Ac;clear Aj Ak Al Am An Ao Ap Aq Ad Ae Af Ar As At Ag Ah Ai Au Av Aw;replace a0:=zB hk a0;replace a1:=zB hk a1;replace a2:=zB hk a2;replace a3:=zB hk a3;obtain ⟨Aj,Ak,Al,Am⟩:=ce4 a0;obtain ⟨An,Ao,Ap,Aq⟩:=ce4 a1;obtain ⟨Ad,Ar,Ae,As,Af,At⟩:=cf3 a2;obtain ⟨Ag,Au,Ah,Av,Ai,Aw⟩:=cf3 a3;clear hk)
 refine wp_settled3 hb (by omega) a3 (fun w1 hb a3 hj=>?_)
 clear Aa Ab Ac Aj Ak Al Am An Ao Ap Aq Ad Ae Af Ar As At Ag Ah Ai Au Av Aw
 have Aa:=(R.below hb).z0
 have Ab:=(R.below hb).z1
 have Ac:=(R.below hb).z2
 replace a0:=(hj _ (by omega)).trans a0
 obtain ⟨Aj,Ak,Al,Am⟩:=ce4 a0
 replace a1:=(hj _ (by omega)).trans a1
 obtain ⟨An,Ao,Ap,Aq⟩:=ce4 a1
 replace a2:=(hj _ (by omega)).trans a2
 obtain ⟨Ad,Ar,Ae,As,Af,At⟩:=cf3 a2
 obtain ⟨Ag,Au,Ah,Av,Ai,Aw⟩:=cf3 a3
 clear hj
 go_wp2_with ((first | (go_at_call 69;with_reducible refine (zL hb (C3.out _ (R.below hb))).mono ?_) | (go_at_call 77;with_reducible refine (chVB hb R C4).mono ?_));clear hb;rintro e w1 ⟨rfl,hk,hb⟩;replace Aa:=zC hk Aa;replace Ab:=zC hk Ab;replace Ac:=zC hk Ac;clear Aj Ak Al Am An Ao Ap Aq Ad Ae Af Ar As At Ag Ah Ai Au Av Aw;replace a0:=zB hk a0;replace a1:=zB hk a1;replace a2:=zB hk a2;replace a3:=zB hk a3;obtain ⟨Aj,Ak,Al,Am⟩:=ce4 a0;obtain ⟨An,Ao,Ap,Aq⟩:=ce4 a1;obtain ⟨Ad,Ar,Ae,As,Af,At⟩:=cf3 a2;obtain ⟨Ag,Au,Ah,Av,Ai,Aw⟩:=cf3 a3;clear hk)
 refine bodyPost_ret (v:=.tuple #[.agg #[.string ⟨#[]⟩,.string ⟨#[]⟩,.string ⟨#[]⟩],.agg #[.string ⟨#[]⟩,.string ⟨#[]⟩,.string ⟨#[]⟩],.int .i64 19]) (by simp [results,Tryz.results65,go_sem,Ad,Ae,Af,Ag,Ah,Ai]) rfl ⟨rfl,?_⟩
 repeat' (first | exact hb | refine Below.setCell ?_ (by first | exact Nat.le_refl _ | (dsimp only;omega)) _)
theorem common_4 (a b c d x y z t:Rat) (hz:a=0∧b=0∧c=0) (r1:RL a 200) (r2:RL b 200) (r3:RL c 200) (r4:RL d 200) (r5:RL x 200) (r6:RL y 200) (r7:RL z 200) (r8:RL t 200) (w:World) (R:EnvV w) :
   Calls Tryz.prog 65 #[.agg #[.string (ratB a),.string (ratB b),.string (ratB c),.string (ratB d)],.agg #[.string (ratB x),.string (ratB y),.string (ratB z),.string (ratB t)]] w (Ret w (.tuple #[.agg #[.string ⟨#[]⟩,.string ⟨#[]⟩,.string ⟨#[]⟩],.agg #[.string ⟨#[]⟩,.string ⟨#[]⟩,.string ⟨#[]⟩],.int .i64 17])):=by
 have c1:CV 19 #[.agg #[.string (ratB a),.string (ratB b),.string (ratB c),.string (ratB d)]] (.int .i64 17):=fun w R=>(by have h:=checkPlane_any a b c d r1 r2 r3 r4 w R;rw [show planeE a b c=17 from if_pos hz] at h;exact h)
 have c2:=checkPlane_any x y z t r5 r6 r7 r8
 have c3:=fun (w:World) (R:EnvV w)=>orErr2 17 (planeE x y z) 17 (by simp [firstNZ]) w R.toEnvR
 obtain ⟨Bi,Au⟩:∃ vq,ratB a=vq:=⟨_,rfl⟩
 obtain ⟨Bj,Av⟩:∃ vq,ratB b=vq:=⟨_,rfl⟩
 obtain ⟨Bk,Aw⟩:∃ vq,ratB c=vq:=⟨_,rfl⟩
 obtain ⟨Bl,Ax⟩:∃ vq,ratB d=vq:=⟨_,rfl⟩
 obtain ⟨Bm,Ay⟩:∃ vq,ratB t=vq:=⟨_,rfl⟩
 obtain ⟨Bn,Az⟩:∃ vq,ratB x=vq:=⟨_,rfl⟩
 obtain ⟨Bo,A0⟩:∃ vq,ratB y=vq:=⟨_,rfl⟩
 obtain ⟨Bp,A1⟩:∃ vq,ratB z=vq:=⟨_,rfl⟩
 try simp only [Au,Av,Aw,Ax,Ay,Az,A0,A1] at c1 c2 c3 ⊢
 obtain ⟨pe,epe⟩:∃ vq,planeE x y z=vq:=⟨_,rfl⟩
 try simp only [epe] at c1 c2 c3 ⊢
 have C1:=Lib.hid c1
 have C2:=Lib.hid c2
 have C3:=Lib.hid c3
 clear c1 c2 c3 Au Av Aw Ax Ay Az A0 A1 epe hz r1 r2 r3 r4 r5 r6 r7 r8
 have hb:=Below.refl w.heap.size w
 go_enter Tryz.func65,Tryz.ntmps65
 go_upto_region 1 with fail
 refine wp_alloc4 (fun w1 a0 a1 a2 a3 hk=>?_)
 replace hb:=hb.trans (hk.mono hb.size)
 clear hk
 obtain ⟨Ag,Ah,Ai,Aj⟩:=ce4 a0
 obtain ⟨Ak,Al,Am,An⟩:=ce4 a1
 obtain ⟨Aa,Ao,Ab,Ap,Ac,Aq⟩:=cf3 a2
 obtain ⟨Ad,Ar,Ae,As,Af,At⟩:=cf3 a3
 go_upto_region 1 with fail
 obtain ⟨A4,A5,A6,A7⟩:=cy4 a0
 obtain ⟨A8,A9,Ba,Bb⟩:=cy4 a1
 obtain ⟨Bc,Bd,Be⟩:=cy3 a2
 obtain ⟨Bf,Bg,Bh⟩:=cy3 a3
 have A2:=rrV C1 R hb
 have A3:=rrV C2 R hb
 refine wp_region_tail_below 4 (by first | assumption | kernel_rfl) (by kernel_rfl) ?_
 simp only [List.take_succ_cons,List.take_zero,List.drop_succ_cons,List.drop_zero]
 repeat (quiet_step (first | (with_reducible exact A2.out _ _) | (with_reducible exact A3.out _ _)))
 refine wpQuiet_nil ?_
 intro w1 hw'
 obtain ⟨hk,hb⟩:=zQ hb hw'
 clear Ag Ah Ai Aj Ak Al Am An Aa Ab Ac Ao Ap Aq Ad Ae Af Ar As At
 replace a0:=zB hk a0
 replace a1:=zB hk a1
 replace a2:=zB hk a2
 replace a3:=zB hk a3
 obtain ⟨Ag,Ah,Ai,Aj⟩:=ce4 a0
 obtain ⟨Ak,Al,Am,An⟩:=ce4 a1
 obtain ⟨Aa,Ao,Ab,Ap,Ac,Aq⟩:=cf3 a2
 obtain ⟨Ad,Ar,Ae,As,Af,At⟩:=cf3 a3
 clear A2 A3 A4 A5 A6 A7 A8 A9 Ba Bb Bc Bd Be Bf Bg Bh
 clear hk hw'
 go_wp2_with (go_at_call 69;with_reducible refine (zL hb (C3.out _ (R.below hb))).mono ?_;clear hb;rintro e w1 ⟨rfl,hk,hb⟩;clear Ag Ah Ai Aj Ak Al Am An Aa Ab Ac Ao Ap Aq Ad Ae Af Ar As At;replace a0:=zB hk a0;replace a1:=zB hk a1;replace a2:=zB hk a2;replace a3:=zB hk a3;obtain ⟨Ag,Ah,Ai,Aj⟩:=ce4 a0;obtain ⟨Ak,Al,Am,An⟩:=ce4 a1;obtain ⟨Aa,Ao,Ab,Ap,Ac,Aq⟩:=cf3 a2;obtain ⟨Ad,Ar,Ae,As,Af,At⟩:=cf3 a3;clear hk)
 refine bodyPost_ret (v:=.tuple #[.agg #[.string ⟨#[]⟩,.string ⟨#[]⟩,.string ⟨#[]⟩],.agg #[.string ⟨#[]⟩,.string ⟨#[]⟩,.string ⟨#[]⟩],.int .i64 17]) (by simp [results,Tryz.results65,go_sem,Aa,Ab,Ac,Ad,Ae,Af]) rfl ⟨rfl,?_⟩
 repeat' (first | exact hb | refine Below.setCell ?_ (by first | exact Nat.le_refl _ | (dsimp only;omega)) _)
theorem common_5 (a b c d x y z t:Rat) (hz:¬ (a=0∧b=0∧c=0)) (hy:x=0∧y=0∧z=0) (r1:RL a 200) (r2:RL b 200) (r3:RL c 200) (r4:RL d 200) (r5:RL x 200) (r6:RL y 200) (r7:RL z 200) (r8:RL t 200) (w:World) (R:EnvV w) :
   Calls Tryz.prog 65 #[.agg #[.string (ratB a),.string (ratB b),.string (ratB c),.string (ratB d)],.agg #[.string (ratB x),.string (ratB y),.string (ratB z),.string (ratB t)]] w (Ret w (.tuple #[.agg #[.string ⟨#[]⟩,.string ⟨#[]⟩,.string ⟨#[]⟩],.agg #[.string ⟨#[]⟩,.string ⟨#[]⟩,.string ⟨#[]⟩],.int .i64 17])):=by
 have c1:CV 19 #[.agg #[.string (ratB a),.string (ratB b),.string (ratB c),.string (ratB d)]] (.int .i64 0):=fun w R=>(by have h:=checkPlane_any a b c d r1 r2 r3 r4 w R;rw [show planeE a b c=0 from if_neg hz] at h;exact h)
 have c2:CV 19 #[.agg #[.string (ratB x),.string (ratB y),.string (ratB z),.string (ratB t)]] (.int .i64 17):=fun w R=>(by have h:=checkPlane_any x y z t r5 r6 r7 r8 w R;rw [show planeE x y z=17 from if_pos hy] at h;exact h)
 have c3:=fun (w:World) (R:EnvV w)=>orErr2 0 17 17 (by decide) w R.toEnvR
 obtain ⟨Bi,Au⟩:∃ vq,ratB a=vq:=⟨_,rfl⟩
 obtain ⟨Bj,Av⟩:∃ vq,ratB b=vq:=⟨_,rfl⟩
 obtain ⟨Bk,Aw⟩:∃ vq,ratB c=vq:=⟨_,rfl⟩
 obtain ⟨Bl,Ax⟩:∃ vq,ratB d=vq:=⟨_,rfl⟩
 obtain ⟨Bm,Ay⟩:∃ vq,ratB t=vq:=⟨_,rfl⟩
 obtain ⟨Bn,Az⟩:∃ vq,ratB x=vq:=⟨_,rfl⟩
 obtain ⟨Bo,A0⟩:∃ vq,ratB y=vq:=⟨_,rfl⟩
 obtain ⟨Bp,A1⟩:∃ vq,ratB z=vq:=⟨_,rfl⟩
 try simp only [Au,Av,Aw,Ax,Ay,Az,A0,A1] at c1 c2 c3 ⊢
 have C1:=Lib.hid c1
 have C2:=Lib.hid c2
 have C3:=Lib.hid c3
 clear c1 c2 c3 Au Av Aw Ax Ay Az A0 A1 hz hy r1 r2 r3 r4 r5 r6 r7 r8
 have hb:=Below.refl w.heap.size w
 go_enter Tryz.func65,Tryz.ntmps65
 go_upto_region 1 with fail
 refine wp_alloc4 (fun w1 a0 a1 a2 a3 hk=>?_)
 replace hb:=hb.trans (hk.mono hb.size)
 clear hk
 obtain ⟨Ag,Ah,Ai,Aj⟩:=ce4 a0
 obtain ⟨Ak,Al,Am,An⟩:=ce4 a1
 obtain ⟨Aa,Ao,Ab,Ap,Ac,Aq⟩:=cf3 a2
 obtain ⟨Ad,Ar,Ae,As,Af,At⟩:=cf3 a3
 go_upto_region 1 with fail
 obtain ⟨A4,A5,A6,A7⟩:=cy4 a0
 obtain ⟨A8,A9,Ba,Bb⟩:=cy4 a1
 obtain ⟨Bc,Bd,Be⟩:=cy3 a2
 obtain ⟨Bf,Bg,Bh⟩:=cy3 a3
 have A2:=rrV C1 R hb
 have A3:=rrV C2 R hb
 refine wp_region_tail_below 4 (by first | assumption | kernel_rfl) (by kernel_rfl) ?_
 simp only [List.take_succ_cons,List.take_zero,List.drop_succ_cons,List.drop_zero]
 repeat (quiet_step (first | (with_reducible exact A2.out _ _) | (with_reducible exact A3.out _ _)))
 refine wpQuiet_nil ?_
 intro w1 hw'
 obtain ⟨hk,hb⟩:=zQ hb hw'
 clear Ag Ah Ai Aj Ak Al Am An Aa Ab Ac Ao Ap Aq Ad Ae Af Ar As At
 replace a0:=zB hk a0
 replace a1:=zB hk a1
 replace a2:=zB hk a2
 replace a3:=zB hk a3
 obtain ⟨Ag,Ah,Ai,Aj⟩:=ce4 a0
 obtain ⟨Ak,Al,Am,An⟩:=ce4 a1
 obtain ⟨Aa,Ao,Ab,Ap,Ac,Aq⟩:=cf3 a2
 obtain ⟨Ad,Ar,Ae,As,Af,At⟩:=cf3 a3
 clear A2 A3 A4 A5 A6 A7 A8 A9 Ba Bb Bc Bd Be Bf Bg Bh
 clear hk hw'
 go_wp2_with (go_at_call 69;with_reducible refine (zL hb (C3.out _ (R.below hb))).mono ?_;clear hb;rintro e w1 ⟨rfl,hk,hb⟩;clear Ag Ah Ai Aj Ak Al Am An Aa Ab Ac Ao Ap Aq Ad Ae Af Ar As At;replace a0:=zB hk a0;replace a1:=zB hk a1;replace a2:=zB hk a2;replace a3:=zB hk a3;obtain ⟨Ag,Ah,Ai,Aj⟩:=ce4 a0;obtain ⟨Ak,Al,Am,An⟩:=ce4 a1;obtain ⟨Aa,Ao,Ab,Ap,Ac,Aq⟩:=cf3 a2;obtain ⟨Ad,Ar,Ae,As,Af,At⟩:=cf3 a3;clear hk)
 refine bodyPost_ret (v:=.tuple #[.agg #[.string ⟨#[]⟩,.string ⟨#[]⟩,.string ⟨#[]⟩],.agg #[.string ⟨#[]⟩,.string ⟨#[]⟩,.string ⟨#[]⟩],.int .i64 17]) (by simp [results,Tryz.results65,go_sem,Aa,Ab,Ac,Ad,Ae,Af]) rfl ⟨rfl,?_⟩
 repeat' (first | exact hb | refine Below.setCell ?_ (by first | exact Nat.le_refl _ | (dsimp only;omega)) _)
end Go.Proofs.YtpennccflalobaaGreatDoor.Kl
