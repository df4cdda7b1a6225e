import Derived.BigRegion
import Derived.Test.YtpennccflalobaaGreatDoorKlBVEZ
namespace Go.Proofs.YtpennccflalobaaGreatDoor.Kl
open Go Go.RowKit
set_option maxRecDepth 100000
set_option maxHeartbeats 8000000
theorem wp_alloc2d {P:Program} {c:Code} {Q:Exit→Act→World→Prop} {a:Act} {w:World} {o0 o1:Obj} (h:∀ wq:World,wq.heap[w.heap.size]? = some o0→wq.heap[w.heap.size+1]? = some o1→Below w.heap.size w wq→c.wp P Q a wq):c.wp P Q a ((w.alloc o0).alloc o1).drew:=
 h _ (laid2 w o0 o1).1 (laid2 w o0 o1).2.1 (laid2 w o0 o1).2.2.drew
theorem drew_heap (w:World):w.drew.heap=w.heap:=rfl
theorem post_two {P:Program} {fn:Func} {Q:Ending→World→Prop} {a:Act} {w w1:World} {A B:Nat} {T:TypeId} {u0 u1 u2 s0 s1 s2 v0 v1 v2 y0 y1 y2:Value}
   (hb:Below w.heap.size w w1) (hA:w.heap.size≤A) (hB:w.heap.size≤B) (hAB:A≠B) (h2:w1.heap[A]? = some (Obj.cells #[u0,u1,u2] T)) (h3:w1.heap[B]? = some (Obj.cells #[s0,s1,s2] T))
   (k:∀ W:World,Below w.heap.size w W→W.cell? ⟨A,0,none⟩=some v0→W.cell? ⟨A,1,none⟩=some v1→W.cell? ⟨A,2,none⟩=some v2→W.cell? ⟨B,0,none⟩=some y0→W.cell? ⟨B,1,none⟩=some y1→W.cell? ⟨B,2,none⟩=some y2→bodyPost P fn Q .ret a W) :
   bodyPost P fn Q .ret a ((((((w1.setCell ⟨A,0,none⟩ v0).setCell ⟨A,1,none⟩ v1).setCell ⟨A,2,none⟩ v2).setCell ⟨B,0,none⟩ y0).setCell ⟨B,1,none⟩ y1).setCell ⟨B,2,none⟩ y2).drew:=by
 have e2:(((w1.setCell ⟨A,0,none⟩ v0).setCell ⟨A,1,none⟩ v1).setCell ⟨A,2,none⟩ v2).heap[A]? = some (Obj.cells #[v0,v1,v2] T):=setCell_here (setCell_here (setCell_here h2 v0) v1) v2
 have e3:(((w1.setCell ⟨A,0,none⟩ v0).setCell ⟨A,1,none⟩ v1).setCell ⟨A,2,none⟩ v2).heap[B]? = some (Obj.cells #[s0,s1,s2] T):=by
   rw [Below.heap_setCell _ _ _ _ (Ne.symm hAB),Below.heap_setCell _ _ _ _ (Ne.symm hAB),Below.heap_setCell _ _ _ _ (Ne.symm hAB)];exact h3
 have f3:((((((w1.setCell ⟨A,0,none⟩ v0).setCell ⟨A,1,none⟩ v1).setCell ⟨A,2,none⟩ v2).setCell ⟨B,0,none⟩ y0).setCell ⟨B,1,none⟩ y1).setCell ⟨B,2,none⟩ y2).heap[B]? = some (Obj.cells #[y0,y1,y2] T):=setCell_here (setCell_here (setCell_here e3 y0) y1) y2
 have f2:((((((w1.setCell ⟨A,0,none⟩ v0).setCell ⟨A,1,none⟩ v1).setCell ⟨A,2,none⟩ v2).setCell ⟨B,0,none⟩ y0).setCell ⟨B,1,none⟩ y1).setCell ⟨B,2,none⟩ y2).heap[A]? = some (Obj.cells #[v0,v1,v2] T):=by
   rw [Below.heap_setCell _ _ _ _ hAB,Below.heap_setCell _ _ _ _ hAB,Below.heap_setCell _ _ _ _ hAB];exact e2
 have hb6:Below w.heap.size w ((((((w1.setCell ⟨A,0,none⟩ v0).setCell ⟨A,1,none⟩ v1).setCell ⟨A,2,none⟩ v2).setCell ⟨B,0,none⟩ y0).setCell ⟨B,1,none⟩ y1).setCell ⟨B,2,none⟩ y2):=Below.setCell (Below.setCell (Below.setCell (Below.setCell (Below.setCell (Below.setCell hb hA _) hA _) hA _) hB _) hB _) hB _
 have g2:((((((w1.setCell ⟨A,0,none⟩ v0).setCell ⟨A,1,none⟩ v1).setCell ⟨A,2,none⟩ v2).setCell ⟨B,0,none⟩ y0).setCell ⟨B,1,none⟩ y1).setCell ⟨B,2,none⟩ y2).drew.heap[A]? = some (Obj.cells #[v0,v1,v2] T):=by rw [drew_heap];exact f2
 have g3:((((((w1.setCell ⟨A,0,none⟩ v0).setCell ⟨A,1,none⟩ v1).setCell ⟨A,2,none⟩ v2).setCell ⟨B,0,none⟩ y0).setCell ⟨B,1,none⟩ y1).setCell ⟨B,2,none⟩ y2).drew.heap[B]? = some (Obj.cells #[y0,y1,y2] T):=by rw [drew_heap];exact f3
 exact k _ hb6.drew (zA g2) (zA g2) (zA g2) (zA g3) (zA g3) (zA g3)
theorem wp_settled3 {P:Program} {c:Code} {Q:Exit→Act→World→Prop} {a:Act} {w w1:World} {B:Nat} {T:TypeId} {u0 u1 u2 v0 v1 v2:Value}
   (hb:Below w.heap.size w w1) (hB:w.heap.size≤B) (h:w1.heap[B]? = some (Obj.cells #[u0,u1,u2] T))
   (k:∀ w2:World,Below w.heap.size w w2→w2.heap[B]? = some (Obj.cells #[v0,v1,v2] T)→(∀ j,j≠B→w2.heap[j]? = w1.heap[j]?)→Code.wp P c Q a w2) :
   Code.wp P c Q a (((w1.setCell ⟨B,0,none⟩ v0).setCell ⟨B,1,none⟩ v1).setCell ⟨B,2,none⟩ v2):=by
 refine k _ (Below.setCell (Below.setCell (Below.setCell hb hB _) hB _) hB _) ?_ (fun j hj=>?_)
 · exact setCell_here (setCell_here (setCell_here h v0) v1) v2
 · rw [Below.heap_setCell _ _ _ _ hj,Below.heap_setCell _ _ _ _ hj,Below.heap_setCell _ _ _ _ hj]
theorem cplace_1 (a b c d x y z t:Rat) (q0:((b*z) - (c*y))=0) (q1:((c*x) - (a*z))≠0) (r1:RL a 10000) (r2:RL z 10000) (r3:RL c 10000) (r4:RL x 10000) (r5:RL (a*z) 10000) (r6:RL (c*x) 10000) (r7:RL d 10000) (r8:RL t 10000) (r9:RL (d*z) 10000) (r10:RL (c*t) 10000) (r11:((a*z) - (c*x))≠0) (r12:RL ((d*z) - (c*t)) 10000) (r13:RL ((a*z) - (c*x)) 10000) (r14:RL (a*t) 10000) (r15:RL (d*x) 10000) (r16:RL ((a*t) - (d*x)) 10000) (w:World) (R:EnvV w) :
   Calls Tryz.prog 113 #[.agg #[.string (ratB a),.string (ratB b),.string (ratB c),.string (ratB d)],.agg #[.string (ratB x),.string (ratB y),.string (ratB z),.string (ratB t)],.agg #[.string (ratB ((b*z) - (c*y))),.string (ratB ((c*x) - (a*z))),.string (ratB ((a*y) - (b*x)))]] w (Ret w (.agg #[.string (ratB (((d*z) - (c*t)) / ((a*z) - (c*x)))),.string ⟨#[48]⟩,.string (ratB (((a*t) - (d*x)) / ((a*z) - (c*x))))])):=by
 have c1:=meet_any a c d x z t r1 r2 r3 r4 r5 r6 r7 r8 r9 r10 r11 r12 r13 r14 r15 r16
 have eq0:((ratB ((b*z) - (c*y))).toList == [48])=true:=by rw [ratB_eq_zero];exact decide_eq_true q0
 have pq0:(ratB ((b*z) - (c*y))).toList=[48]:=(zero_iff _).2 q0
 have eq1:((ratB ((c*x) - (a*z))).toList == [48])=false:=by rw [ratB_eq_zero];exact decide_eq_false q1
 have pq1:¬ (ratB ((c*x) - (a*z))).toList=[48]:=fun h=>q1 ((zero_iff _).1 h)
 obtain ⟨Az,A0⟩:∃ vq,ratB (((a*t) - (d*x)) / ((a*z) - (c*x)))=vq:=⟨_,rfl⟩
 obtain ⟨A1,A2⟩:∃ vq,ratB (((d*z) - (c*t)) / ((a*z) - (c*x)))=vq:=⟨_,rfl⟩
 obtain ⟨A9,A3⟩:∃ vq,ratB a=vq:=⟨_,rfl⟩
 obtain ⟨Ba,A4⟩:∃ vq,ratB c=vq:=⟨_,rfl⟩
 obtain ⟨Bb,A5⟩:∃ vq,ratB d=vq:=⟨_,rfl⟩
 obtain ⟨Bc,A6⟩:∃ vq,ratB t=vq:=⟨_,rfl⟩
 obtain ⟨Bd,A7⟩:∃ vq,ratB x=vq:=⟨_,rfl⟩
 obtain ⟨Be,A8⟩:∃ vq,ratB z=vq:=⟨_,rfl⟩
 try simp only [A0,A2,A3,A4,A5,A6,A7,A8] at c1 eq0 pq0 eq1 pq1 ⊢
 have C1:=Lib.hid c1
 clear c1 A0 A2 A3 A4 A5 A6 A7 A8 q0 q1 r1 r2 r3 r4 r5 r6 r7 r8 r9 r10 r11 r12 r13 r14 r15 r16
 have hb:=Below.refl w.heap.size w
 go_enter Tryz.func113,Tryz.ntmps113
 go_upto_region 1 with fail
 refine wp_alloc4 (fun w1 a0 a1 a2 a3 hk=>?_)
 replace hb:=hb.trans (hk.mono hb.size)
 clear hk
 obtain ⟨Ag,Ah,Ai,Ao⟩:=ce4 a0
 obtain ⟨Aj,Ak,Al,Ap⟩:=ce4 a1
 obtain ⟨Aw,Ax,Ay⟩:=ce3 a2
 obtain ⟨Aa,Ad,Ab,Ae,Ac,Af⟩:=cf3 a3
 go_upto_region 1 with fail
 have ya0_0:=fun o=>zC (Below.refl w1.heap.size w1 |>.alloc (Nat.le_refl _) o) Ag
 have yb0_0:=fun o o2=>zC ((Below.refl w1.heap.size w1 |>.alloc (Nat.le_refl _) o).alloc (by simp) o2) Ag
 have ya0_1:=fun o=>zC (Below.refl w1.heap.size w1 |>.alloc (Nat.le_refl _) o) Ah
 have yb0_1:=fun o o2=>zC ((Below.refl w1.heap.size w1 |>.alloc (Nat.le_refl _) o).alloc (by simp) o2) Ah
 have ya0_2:=fun o=>zC (Below.refl w1.heap.size w1 |>.alloc (Nat.le_refl _) o) Ai
 have yb0_2:=fun o o2=>zC ((Below.refl w1.heap.size w1 |>.alloc (Nat.le_refl _) o).alloc (by simp) o2) Ai
 have ya1_0:=fun o=>zC (Below.refl w1.heap.size w1 |>.alloc (Nat.le_refl _) o) Aj
 have yb1_0:=fun o o2=>zC ((Below.refl w1.heap.size w1 |>.alloc (Nat.le_refl _) o).alloc (by simp) o2) Aj
 have ya1_1:=fun o=>zC (Below.refl w1.heap.size w1 |>.alloc (Nat.le_refl _) o) Ak
 have yb1_1:=fun o o2=>zC ((Below.refl w1.heap.size w1 |>.alloc (Nat.le_refl _) o).alloc (by simp) o2) Ak
 have ya1_2:=fun o=>zC (Below.refl w1.heap.size w1 |>.alloc (Nat.le_refl _) o) Al
 have yb1_2:=fun o o2=>zC ((Below.refl w1.heap.size w1 |>.alloc (Nat.le_refl _) o).alloc (by simp) o2) Al
 have HA0:=Lib.hid a0
 have HA1:=Lib.hid a1
 have HA2:=Lib.hid a2
 have HA3:=Lib.hid a3
 have HBB:=Lib.hid hb
 clear a0 a1 a2 a3 hb
 go_region
 · skip
   clear ya0_0 yb0_0 ya0_1 yb0_1 ya0_2 yb0_2 ya1_0 yb1_0 ya1_1 yb1_1 ya1_2 yb1_2
   go_upto_region 2 with fail
   refine wp_alloc2d (fun w1 Am An hk=>?_)
   have a0:=HA0.out
   have a1:=HA1.out
   have a2:=HA2.out
   have a3:=HA3.out
   have hb:=HBB.out
   clear Ag Ah Ai Ao Aj Ak Al Ap Aw Ax Ay Aa Ab Ac Ad Ae Af
   replace a0:=zB hk a0
   replace a1:=zB hk a1
   replace a2:=zB hk a2
   replace a3:=zB hk a3
   obtain ⟨Ag,Ah,Ai,Ao⟩:=ce4 a0
   obtain ⟨Aj,Ak,Al,Ap⟩:=ce4 a1
   obtain ⟨Aw,Ax,Ay⟩:=ce3 a2
   obtain ⟨Aa,Ad,Ab,Ae,Ac,Af⟩:=cf3 a3
   replace hb:=hb.trans (hk.mono hb.size)
   clear hk
   obtain ⟨Aq,Ar,As⟩:=ce3 Am
   obtain ⟨At,Au,Av⟩:=ce3 An
   go_upto_region 7 with (go_at_call 107;with_reducible refine (chVB hb R C1).mono ?_;clear hb;rintro e w1 ⟨rfl,hk,hb⟩;clear Ag Ah Ai Ao Aj Ak Al Ap Aa Ab Ac Ad Ae Af Aq Ar As At Au Av;replace a0:=zB hk a0;replace a1:=zB hk a1;replace a3:=zB hk a3;replace Am:=zB hk Am;replace An:=zB hk An;obtain ⟨Ag,Ah,Ai,Ao⟩:=ce4 a0;obtain ⟨Aj,Ak,Al,Ap⟩:=ce4 a1;obtain ⟨Aa,Ad,Ab,Ae,Ac,Af⟩:=cf3 a3;obtain ⟨Aq,Ar,As⟩:=ce3 Am;obtain ⟨At,Au,Av⟩:=ce3 An;clear hk)
   refine wp_alloc1 (fun w1 ag hk=>?_)
   clear Aa Ab Ac Ad Ae Af
   replace a3:=zB hk a3
   obtain ⟨Aa,Ad,Ab,Ae,Ac,Af⟩:=cf3 a3
   replace hb:=hb.trans (hk.mono hb.size)
   clear hk
   obtain ⟨xg_0,xg_1⟩:=ce2 ag
   go_wp2
   refine bodyPost_ret (v:=.agg #[.string A1,.string ⟨#[48]⟩,.string Az]) (by simp [results,Tryz.results113,go_sem,Aa,Ab,Ac]) rfl ⟨rfl,?_⟩
   repeat' (first | exact hb | refine Below.setCell ?_ (by first | exact Nat.le_refl _ | (dsimp only;omega)) _)
 · skip
   clear ya0_0 yb0_0 ya0_1 yb0_1 ya0_2 yb0_2 ya1_0 yb1_0 ya1_1 yb1_1 ya1_2 yb1_2
   go_upto_region 2 with fail
   refine wp_alloc2d (fun w1 An Am hk=>?_)
   have a0:=HA0.out
   have a1:=HA1.out
   have a2:=HA2.out
   have a3:=HA3.out
   have hb:=HBB.out
   clear Ag Ah Ai Ao Aj Ak Al Ap Aw Ax Ay Aa Ab Ac Ad Ae Af
   replace a0:=zB hk a0
   replace a1:=zB hk a1
   replace a2:=zB hk a2
   replace a3:=zB hk a3
   obtain ⟨Ag,Ah,Ai,Ao⟩:=ce4 a0
   obtain ⟨Aj,Ak,Al,Ap⟩:=ce4 a1
   obtain ⟨Aw,Ax,Ay⟩:=ce3 a2
   obtain ⟨Aa,Ad,Ab,Ae,Ac,Af⟩:=cf3 a3
   replace hb:=hb.trans (hk.mono hb.size)
   clear hk
   obtain ⟨Aq,Ar,As⟩:=ce3 Am
   obtain ⟨At,Au,Av⟩:=ce3 An
   go_upto_region 7 with (go_at_call 107;with_reducible refine (chVB hb R C1).mono ?_;clear hb;rintro e w1 ⟨rfl,hk,hb⟩;clear Ag Ah Ai Ao Aj Ak Al Ap Aa Ab Ac Ad Ae Af Aq Ar As At Au Av;replace a0:=zB hk a0;replace a1:=zB hk a1;replace a3:=zB hk a3;replace Am:=zB hk Am;replace An:=zB hk An;obtain ⟨Ag,Ah,Ai,Ao⟩:=ce4 a0;obtain ⟨Aj,Ak,Al,Ap⟩:=ce4 a1;obtain ⟨Aa,Ad,Ab,Ae,Ac,Af⟩:=cf3 a3;obtain ⟨Aq,Ar,As⟩:=ce3 Am;obtain ⟨At,Au,Av⟩:=ce3 An;clear hk)
   refine wp_alloc1 (fun w1 ag hk=>?_)
   clear Aa Ab Ac Ad Ae Af
   replace a3:=zB hk a3
   obtain ⟨Aa,Ad,Ab,Ae,Ac,Af⟩:=cf3 a3
   replace hb:=hb.trans (hk.mono hb.size)
   clear hk
   obtain ⟨xg_0,xg_1⟩:=ce2 ag
   go_wp2
   refine bodyPost_ret (v:=.agg #[.string A1,.string ⟨#[48]⟩,.string Az]) (by simp [results,Tryz.results113,go_sem,Aa,Ab,Ac]) rfl ⟨rfl,?_⟩
   repeat' (first | exact hb | refine Below.setCell ?_ (by first | exact Nat.le_refl _ | (dsimp only;omega)) _)
theorem common_1 (a b c d x y z t:Rat) (q0:((b*z) - (c*y))=0) (q1:((c*x) - (a*z))≠0) (r1:RL a 200) (r2:RL b 200) (r3:RL c 200) (r4:RL d 200) (r5:a≠0∨b≠0∨c≠0) (r6:RL x 200) (r7:RL y 200) (r8:RL z 200) (r9:RL t 200) (r10:x≠0∨y≠0∨z≠0) (r11:RL b 10000) (r12:RL z 10000) (r13:RL c 10000) (r14:RL y 10000) (r15:RL (b*z) 10000) (r16:RL (c*y) 10000) (r17:RL x 10000) (r18:RL a 10000) (r19:RL (c*x) 10000) (r20:RL (a*z) 10000) (r21:RL (a*y) 10000) (r22:RL (b*x) 10000) (r23:((c*x) - (a*z))≠0) (r24:RL d 10000) (r25:RL t 10000) (r26:RL (d*z) 10000) (r27:RL (c*t) 10000) (r28:((a*z) - (c*x))≠0) (r29:RL ((d*z) - (c*t)) 10000) (r30:RL ((a*z) - (c*x)) 10000) (r31:RL (a*t) 10000) (r32:RL (d*x) 10000) (r33:RL ((a*t) - (d*x)) 10000) (r34:RL (((d*z) - (c*t)) / ((a*z) - (c*x))) 200) (r35:RL (((a*t) - (d*x)) / ((a*z) - (c*x))) 200) (r36:RL ((b*z) - (c*y)) 200) (r37:RL ((c*x) - (a*z)) 200) (r38:RL ((a*y) - (b*x)) 200) (w:World) (R:EnvV w) :
   Calls Tryz.prog 65 #[.agg #[.string (ratB a),.string (ratB b),.string (ratB c),.string (ratB d)],.agg #[.string (ratB x),.string (ratB y),.string (ratB z),.string (ratB t)]] w (Ret w (.tuple #[.agg #[.string (ratB (((d*z) - (c*t)) / ((a*z) - (c*x)))),.string ⟨#[48]⟩,.string (ratB (((a*t) - (d*x)) / ((a*z) - (c*x))))],.agg #[.string (ratB ((b*z) - (c*y))),.string (ratB ((c*x) - (a*z))),.string (ratB ((a*y) - (b*x)))],.int .i64 0])):=by
 have c1:=checkPlane_ok a b c d r1 r2 r3 r4 r5
 have c2:=checkPlane_ok x y z t r6 r7 r8 r9 r10
 have c3:=fun (w:World) (R:EnvV w)=>orErr2 0 0 0 (by decide) w R.toEnvR
 have c4:=fun (w:World) (R:EnvV w)=>cross_any a b c x y z r11 r12 r13 r14 r15 r16 r17 r18 r19 r20 r21 r22 w R.toEnvR
 have c5:=cplace_1 a b c d x y z t q0 r23 r18 r12 r13 r17 r20 r19 r24 r25 r26 r27 r28 r29 r30 r31 r32 r33
 have c6:∀ w,EnvV w→Calls Tryz.prog 114 #[.agg #[.string (ratB (((d*z) - (c*t)) / ((a*z) - (c*x)))),.string ⟨#[48]⟩,.string (ratB (((a*t) - (d*x)) / ((a*z) - (c*x)))),.string (ratB ((b*z) - (c*y))),.string (ratB ((c*x) - (a*z))),.string (ratB ((a*y) - (b*x)))],.slice (some ⟨w.heap.size,0,none⟩) 6 6] (w.alloc (Obj.cells #[Value.string (ratB (((d*z) - (c*t)) / ((a*z) - (c*x)))),Value.string ⟨#[48]⟩,Value.string (ratB (((a*t) - (d*x)) / ((a*z) - (c*x)))),Value.string (ratB ((b*z) - (c*y))),Value.string (ratB ((c*x) - (a*z))),Value.string (ratB ((a*y) - (b*x)))] 22)) (Ret w (.tuple #[.agg #[.string (ratB (((d*z) - (c*t)) / ((a*z) - (c*x)))),.string ⟨#[48]⟩,.string (ratB (((a*t) - (d*x)) / ((a*z) - (c*x)))),.string (ratB ((b*z) - (c*y))),.string (ratB ((c*x) - (a*z))),.string (ratB ((a*y) - (b*x)))],.int .i64 0])):=fun w R=>(by have h:=resVV (ratB (((d*z) - (c*t)) / ((a*z) - (c*x)))) (ratB (0:Rat)) (ratB (((a*t) - (d*x)) / ((a*z) - (c*x)))) (ratB ((b*z) - (c*y))) (ratB ((c*x) - (a*z))) (ratB ((a*y) - (b*x))) (ratB (((d*z) - (c*t)) / ((a*z) - (c*x)))) (ratB (0:Rat)) (ratB (((a*t) - (d*x)) / ((a*z) - (c*x)))) (ratB ((b*z) - (c*y))) (ratB ((c*x) - (a*z))) (ratB ((a*y) - (b*x))) (by intro t ht;simp only [List.mem_cons,List.not_mem_nil,or_false] at ht;rcases ht with rfl | rfl | rfl | rfl | rfl | rfl;exact ⟨_,rfl,r34⟩;exact ⟨_,rfl,(RN.rl (K:=200) rn_0)⟩;exact ⟨_,rfl,r35⟩;exact ⟨_,rfl,r36⟩;exact ⟨_,rfl,r37⟩;exact ⟨_,rfl,r38⟩) w R.toEnvR;simp only [rb_0] at h;exact h)
 have eq0:((ratB ((b*z) - (c*y))).toList == [48])=true:=by rw [ratB_eq_zero];exact decide_eq_true q0
 have pq0:(ratB ((b*z) - (c*y))).toList=[48]:=(zero_iff _).2 q0
 have eq1:((ratB ((c*x) - (a*z))).toList == [48])=false:=by rw [ratB_eq_zero];exact decide_eq_false q1
 have pq1:¬ (ratB ((c*x) - (a*z))).toList=[48]:=fun h=>q1 ((zero_iff _).1 h)
 obtain ⟨Bd,Ay⟩:∃ vq,ratB (((a*t) - (d*x)) / ((a*z) - (c*x)))=vq:=⟨_,rfl⟩
 obtain ⟨Be,Az⟩:∃ vq,ratB (((d*z) - (c*t)) / ((a*z) - (c*x)))=vq:=⟨_,rfl⟩
 obtain ⟨Bf,A0⟩:∃ vq,ratB ((a*y) - (b*x))=vq:=⟨_,rfl⟩
 obtain ⟨Bg,A1⟩:∃ vq,ratB ((b*z) - (c*y))=vq:=⟨_,rfl⟩
 obtain ⟨Bh,A2⟩:∃ vq,ratB ((c*x) - (a*z))=vq:=⟨_,rfl⟩
 obtain ⟨Bz,A3⟩:∃ vq,ratB a=vq:=⟨_,rfl⟩
 obtain ⟨B0,A4⟩:∃ vq,ratB b=vq:=⟨_,rfl⟩
 obtain ⟨B1,A5⟩:∃ vq,ratB c=vq:=⟨_,rfl⟩
 obtain ⟨B2,A6⟩:∃ vq,ratB d=vq:=⟨_,rfl⟩
 obtain ⟨B3,A7⟩:∃ vq,ratB t=vq:=⟨_,rfl⟩
 obtain ⟨B4,A8⟩:∃ vq,ratB x=vq:=⟨_,rfl⟩
 obtain ⟨B5,A9⟩:∃ vq,ratB y=vq:=⟨_,rfl⟩
 obtain ⟨B6,Ba⟩:∃ vq,ratB z=vq:=⟨_,rfl⟩
 try simp only [Ay,Az,A0,A1,A2,A3,A4,A5,A6,A7,A8,A9,Ba] at c1 c2 c3 c4 c5 c6 eq0 pq0 eq1 pq1 ⊢
 have C1:=Lib.hid c1
 have C2:=Lib.hid c2
 have C3:=Lib.hid c3
 have C4:=Lib.hid c4
 have C5:=Lib.hid c5
 have C6:=Lib.hid c6
 clear c1 c2 c3 c4 c5 c6 Ay Az A0 A1 A2 A3 A4 A5 A6 A7 A8 A9 Ba q0 q1 r1 r2 r3 r4 r5 r6 r7 r8 r9 r10 r11 r12 r13 r14 r15 r16 r17 r18 r19 r20 r21 r22 r23 r24 r25 r26 r27 r28 r29 r30 r31 r32 r33 r34 r35 r36 r37 r38
 have hb:=Below.refl w.heap.size w
 have Aa:w.cell? ⟨0,0,none⟩=some (Value.string ⟨#[48]⟩):=R.z0
 have Ab:w.cell? ⟨0,1,none⟩=some (Value.string ⟨#[48]⟩):=R.z1
 have Ac:w.cell? ⟨0,2,none⟩=some (Value.string ⟨#[48]⟩):=R.z2
 go_enter Tryz.func65,Tryz.ntmps65
 go_upto_region 1 with fail
 refine wp_alloc4 (fun w1 a0 a1 a2 a3 hk=>?_)
 replace Aa:=zC hk Aa
 replace Ab:=zC hk Ab
 replace Ac:=zC hk Ac
 replace hb:=hb.trans (hk.mono hb.size)
 clear hk
 obtain ⟨Ap,Aq,Ar,As⟩:=ce4 a0
 obtain ⟨At,Au,Av,Aw⟩:=ce4 a1
 obtain ⟨Ad,Ae,Af,Ag,Ah,Ai⟩:=cf3 a2
 obtain ⟨Aj,Ak,Al,Am,An,Ao⟩:=cf3 a3
 go_upto_region 1 with fail
 have Bi:=zR Aa
 have Bj:=zR Ab
 have Bk:=zR Ac
 obtain ⟨Bl,Bm,Bn,Bo⟩:=cy4 a0
 obtain ⟨Bp,Bq,Br,Bs⟩:=cy4 a1
 obtain ⟨Bt,Bu,Bv⟩:=cy3 a2
 obtain ⟨Bw,Bx,By⟩:=cy3 a3
 have Bb:=rrV C1 R hb
 have Bc:=rrV C2 R hb
 refine wp_region_tail_below 4 (by first | assumption | kernel_rfl) (by kernel_rfl) ?_
 simp only [List.take_succ_cons,List.take_zero,List.drop_succ_cons,List.drop_zero]
 repeat (quiet_step (first | (with_reducible exact Bb.out _ _) | (with_reducible exact Bc.out _ _)))
 refine wpQuiet_nil ?_
 intro w1 hw'
 obtain ⟨hk,hb⟩:=zQ hb hw'
 replace Aa:=zC hk Aa
 replace Ab:=zC hk Ab
 replace Ac:=zC hk Ac
 clear Ap Aq Ar As At Au Av Aw Ad Af Ah Ae Ag Ai Aj Al An Ak Am Ao
 replace a0:=zB hk a0
 replace a1:=zB hk a1
 replace a2:=zB hk a2
 replace a3:=zB hk a3
 obtain ⟨Ap,Aq,Ar,As⟩:=ce4 a0
 obtain ⟨At,Au,Av,Aw⟩:=ce4 a1
 obtain ⟨Ad,Ae,Af,Ag,Ah,Ai⟩:=cf3 a2
 obtain ⟨Aj,Ak,Al,Am,An,Ao⟩:=cf3 a3
 clear Bb Bc Bi Bj Bk Bl Bm Bn Bo Bp Bq Br Bs Bt Bu Bv Bw Bx By
 clear hk hw'
 go_upto_region 5 with (first | ((first | (go_at_call 69;with_reducible refine (zL hb (C3.out _ (R.below hb))).mono ?_) | (go_at_call 77;with_reducible refine (chVB hb R C4).mono ?_) | (go_at_call 113;with_reducible refine (chVB hb R C5).mono ?_));clear hb;rintro e w1 ⟨rfl,hk,hb⟩;replace Aa:=zC hk Aa;replace Ab:=zC hk Ab;replace Ac:=zC hk Ac;clear Ap Aq Ar As At Au Av Aw Ad Af Ah Ae Ag Ai Aj Al An Ak Am Ao;replace a0:=zB hk a0;replace a1:=zB hk a1;replace a2:=zB hk a2;replace a3:=zB hk a3;obtain ⟨Ap,Aq,Ar,As⟩:=ce4 a0;obtain ⟨At,Au,Av,Aw⟩:=ce4 a1;obtain ⟨Ad,Ae,Af,Ag,Ah,Ai⟩:=cf3 a2;obtain ⟨Aj,Ak,Al,Am,An,Ao⟩:=cf3 a3;clear hk) | (go_at_call 114;with_reducible refine (zL hb (C6.out _ (R.below hb))).mono ?_;clear hb;rintro e w1 ⟨rfl,hk,hb⟩;replace Aa:=zC hk Aa;replace Ab:=zC hk Ab;replace Ac:=zC hk Ac;clear Ad Af Ah Ae Ag Ai Aj Al An Ak Am Ao;replace a2:=zB hk a2;replace a3:=zB hk a3;obtain ⟨Ad,Ae,Af,Ag,Ah,Ai⟩:=cf3 a2;obtain ⟨Aj,Ak,Al,Am,An,Ao⟩:=cf3 a3;clear hk))
 refine wp_settled3 hb (by omega) a3 (fun w1 hb a3 hj=>?_)
 clear Aa Ab Ac Ap Aq Ar As At Au Av Aw Ad Af Ah Ae Ag Ai Aj Al An Ak Am Ao
 have Aa:=(R.below hb).z0
 have Ab:=(R.below hb).z1
 have Ac:=(R.below hb).z2
 replace a0:=(hj _ (by omega)).trans a0
 obtain ⟨Ap,Aq,Ar,As⟩:=ce4 a0
 replace a1:=(hj _ (by omega)).trans a1
 obtain ⟨At,Au,Av,Aw⟩:=ce4 a1
 replace a2:=(hj _ (by omega)).trans a2
 obtain ⟨Ad,Ae,Af,Ag,Ah,Ai⟩:=cf3 a2
 obtain ⟨Aj,Ak,Al,Am,An,Ao⟩:=cf3 a3
 clear hj
 go_upto_region 8 with (first | ((first | (go_at_call 69;with_reducible refine (zL hb (C3.out _ (R.below hb))).mono ?_) | (go_at_call 77;with_reducible refine (chVB hb R C4).mono ?_) | (go_at_call 113;with_reducible refine (chVB hb R C5).mono ?_));clear hb;rintro e w1 ⟨rfl,hk,hb⟩;replace Aa:=zC hk Aa;replace Ab:=zC hk Ab;replace Ac:=zC hk Ac;clear Ap Aq Ar As At Au Av Aw Ad Af Ah Ae Ag Ai Aj Al An Ak Am Ao;replace a0:=zB hk a0;replace a1:=zB hk a1;replace a2:=zB hk a2;replace a3:=zB hk a3;obtain ⟨Ap,Aq,Ar,As⟩:=ce4 a0;obtain ⟨At,Au,Av,Aw⟩:=ce4 a1;obtain ⟨Ad,Ae,Af,Ag,Ah,Ai⟩:=cf3 a2;obtain ⟨Aj,Ak,Al,Am,An,Ao⟩:=cf3 a3;clear hk) | (go_at_call 114;with_reducible refine (zL hb (C6.out _ (R.below hb))).mono ?_;clear hb;rintro e w1 ⟨rfl,hk,hb⟩;replace Aa:=zC hk Aa;replace Ab:=zC hk Ab;replace Ac:=zC hk Ac;clear Ad Af Ah Ae Ag Ai Aj Al An Ak Am Ao;replace a2:=zB hk a2;replace a3:=zB hk a3;obtain ⟨Ad,Ae,Af,Ag,Ah,Ai⟩:=cf3 a2;obtain ⟨Aj,Ak,Al,Am,An,Ao⟩:=cf3 a3;clear hk))
 refine wp_settled3 hb (by omega) a2 (fun w1 hb a2 hj=>?_)
 clear Aa Ab Ac Ap Aq Ar As At Au Av Aw Aj Al An Ak Am Ao Ad Af Ah Ae Ag Ai
 have Aa:=(R.below hb).z0
 have Ab:=(R.below hb).z1
 have Ac:=(R.below hb).z2
 replace a0:=(hj _ (by omega)).trans a0
 obtain ⟨Ap,Aq,Ar,As⟩:=ce4 a0
 replace a1:=(hj _ (by omega)).trans a1
 obtain ⟨At,Au,Av,Aw⟩:=ce4 a1
 replace a3:=(hj _ (by omega)).trans a3
 obtain ⟨Aj,Ak,Al,Am,An,Ao⟩:=cf3 a3
 obtain ⟨Ad,Ae,Af,Ag,Ah,Ai⟩:=cf3 a2
 clear hj
 go_upto_region 9 with (first | ((first | (go_at_call 69;with_reducible refine (zL hb (C3.out _ (R.below hb))).mono ?_) | (go_at_call 77;with_reducible refine (chVB hb R C4).mono ?_) | (go_at_call 113;with_reducible refine (chVB hb R C5).mono ?_));clear hb;rintro e w1 ⟨rfl,hk,hb⟩;replace Aa:=zC hk Aa;replace Ab:=zC hk Ab;replace Ac:=zC hk Ac;clear Ap Aq Ar As At Au Av Aw Ad Af Ah Ae Ag Ai Aj Al An Ak Am Ao;replace a0:=zB hk a0;replace a1:=zB hk a1;replace a2:=zB hk a2;replace a3:=zB hk a3;obtain ⟨Ap,Aq,Ar,As⟩:=ce4 a0;obtain ⟨At,Au,Av,Aw⟩:=ce4 a1;obtain ⟨Ad,Ae,Af,Ag,Ah,Ai⟩:=cf3 a2;obtain ⟨Aj,Ak,Al,Am,An,Ao⟩:=cf3 a3;clear hk) | (go_at_call 114;with_reducible refine (zL hb (C6.out _ (R.below hb))).mono ?_;clear hb;rintro e w1 ⟨rfl,hk,hb⟩;replace Aa:=zC hk Aa;replace Ab:=zC hk Ab;replace Ac:=zC hk Ac;clear Ad Af Ah Ae Ag Ai Aj Al An Ak Am Ao;replace a2:=zB hk a2;replace a3:=zB hk a3;obtain ⟨Ad,Ae,Af,Ag,Ah,Ai⟩:=cf3 a2;obtain ⟨Aj,Ak,Al,Am,An,Ao⟩:=cf3 a3;clear hk))
 clear Ap Aq Ar As a0 At Au Av Aw a1
 obtain ⟨B8,eB8⟩:∃ B,w1.heap.size=B:=⟨_,rfl⟩
 have hB8:w.heap.size+3 < B8:=by rw [← eB8];exact (Array.getElem?_eq_some_iff.1 a3).1
 refine wp_alloc1 (fun w1 Ax hk=>?_)
 rw [eB8] at Ax ⊢
 replace Aa:=zC hk Aa
 replace Ab:=zC hk Ab
 replace Ac:=zC hk Ac
 clear Ad Af Ah Ae Ag Ai Aj Al An Ak Am Ao
 replace a2:=zB hk a2
 replace a3:=zB hk a3
 obtain ⟨Ad,Ae,Af,Ag,Ah,Ai⟩:=cf3 a2
 obtain ⟨Aj,Ak,Al,Am,An,Ao⟩:=cf3 a3
 replace hb:=hb.trans (hk.mono hb.size)
 clear hk
 obtain ⟨B7,B9,Ca,Cb,Cc,Cd⟩:=ce6 Ax
 have HA2:=Lib.hid a2
 have HA3:=Lib.hid a3
 have hn1:¬ B8=w.heap.size+1+1:=by omega
 have hn2:¬ w.heap.size+1+1=B8:=by omega
 have hn3:¬ B8=w.heap.size+1+1+1:=by omega
 have hn4:¬ w.heap.size+1+1+1=B8:=by omega
 have HBB:=Lib.hid hb
 clear hb hB8 eB8 Ax a2 a3 Aa Ab Ac
 go_region
 go_wp2
 refine post_two HBB.out (by omega) (by omega) (by omega) HA2.out HA3.out (fun W hb d2_0 d2_1 d2_2 d3_0 d3_1 d3_2=>?_)
 clear HBB HA2 HA3 Ad Af Ah Aj Al An Ae Ag Ai Ak Am Ao hn1 hn2 hn3 hn4
 refine bodyPost_ret (v:=.tuple #[.agg #[.string Be,.string ⟨#[48]⟩,.string Bd],.agg #[.string Bg,.string Bh,.string Bf],.int .i64 0]) (by simp [results,Tryz.results65,go_sem,d2_0,d2_1,d2_2,d3_0,d3_1,d3_2]) rfl ⟨rfl,hb⟩
theorem refOf_1_0_0  (w:World) (R:EnvV w) :
   Calls Tryz.prog 66 #[.int .i64 1,.int .i64 0,.int .i64 0] w (Ret w (.agg #[.string ⟨#[49]⟩,.string ⟨#[48]⟩,.string ⟨#[48]⟩])):=by
 have c1:CV 43 #[.int .i64 1,.int .i64 1] (.string ⟨#[49]⟩):=fun w R=>(by have h:=refROf_any (1) (1) (by decide) (by decide) (by decide) (by decide) (by decide) w R.toEnvR;simp only [show ratB (Rat.divInt (1) (1))=⟨#[49]⟩ from by decide +kernel] at h;exact h)
 have c2:CV 43 #[.int .i64 0,.int .i64 1] (.string ⟨#[48]⟩):=fun w R=>(by have h:=refROf_any (0) (1) (by decide) (by decide) (by decide) (by decide) (by decide) w R.toEnvR;simp only [show ratB (Rat.divInt (0) (1))=⟨#[48]⟩ from by decide +kernel] at h;exact h)
 have C1:=Lib.hid c1
 have C2:=Lib.hid c2
 clear c1 c2
 have hb:=Below.refl w.heap.size w
 go_enter Tryz.func66,Tryz.ntmps66
 go_upto_region 1 with fail
 refine wp_alloc1 (fun w1 a0 hk=>?_)
 replace hb:=hb.trans (hk.mono hb.size)
 clear hk
 obtain ⟨Aa,Ad,Ab,Ae,Ac,Af⟩:=cf3 a0
 go_wp2_with ((go_at_call 43;first | with_reducible refine (chVB hb R C1).mono ?_ | with_reducible refine (chVB hb R C2).mono ?_ | with_reducible refine (chVB hb R C2).mono ?_);clear hb;rintro e w1 ⟨rfl,hk,hb⟩;clear Aa Ab Ac Ad Ae Af;replace a0:=zB hk a0;obtain ⟨Aa,Ad,Ab,Ae,Ac,Af⟩:=cf3 a0;clear hk)
 refine bodyPost_ret (v:=.agg #[.string ⟨#[49]⟩,.string ⟨#[48]⟩,.string ⟨#[48]⟩]) (by simp [results,Tryz.results66,go_sem,Aa,Ab,Ac]) rfl ⟨rfl,?_⟩
 repeat' (first | exact hb | refine Below.setCell ?_ (by first | exact Nat.le_refl _ | (dsimp only;omega)) _)
theorem refOf_0_1_0  (w:World) (R:EnvV w) :
   Calls Tryz.prog 66 #[.int .i64 0,.int .i64 1,.int .i64 0] w (Ret w (.agg #[.string ⟨#[48]⟩,.string ⟨#[49]⟩,.string ⟨#[48]⟩])):=by
 have c1:CV 43 #[.int .i64 0,.int .i64 1] (.string ⟨#[48]⟩):=fun w R=>(by have h:=refROf_any (0) (1) (by decide) (by decide) (by decide) (by decide) (by decide) w R.toEnvR;simp only [show ratB (Rat.divInt (0) (1))=⟨#[48]⟩ from by decide +kernel] at h;exact h)
 have c2:CV 43 #[.int .i64 1,.int .i64 1] (.string ⟨#[49]⟩):=fun w R=>(by have h:=refROf_any (1) (1) (by decide) (by decide) (by decide) (by decide) (by decide) w R.toEnvR;simp only [show ratB (Rat.divInt (1) (1))=⟨#[49]⟩ from by decide +kernel] at h;exact h)
 have C1:=Lib.hid c1
 have C2:=Lib.hid c2
 clear c1 c2
 have hb:=Below.refl w.heap.size w
 go_enter Tryz.func66,Tryz.ntmps66
 go_upto_region 1 with fail
 refine wp_alloc1 (fun w1 a0 hk=>?_)
 replace hb:=hb.trans (hk.mono hb.size)
 clear hk
 obtain ⟨Aa,Ad,Ab,Ae,Ac,Af⟩:=cf3 a0
 go_wp2_with ((go_at_call 43;first | with_reducible refine (chVB hb R C1).mono ?_ | with_reducible refine (chVB hb R C2).mono ?_ | with_reducible refine (chVB hb R C1).mono ?_);clear hb;rintro e w1 ⟨rfl,hk,hb⟩;clear Aa Ab Ac Ad Ae Af;replace a0:=zB hk a0;obtain ⟨Aa,Ad,Ab,Ae,Ac,Af⟩:=cf3 a0;clear hk)
 refine bodyPost_ret (v:=.agg #[.string ⟨#[48]⟩,.string ⟨#[49]⟩,.string ⟨#[48]⟩]) (by simp [results,Tryz.results66,go_sem,Aa,Ab,Ac]) rfl ⟨rfl,?_⟩
 repeat' (first | exact hb | refine Below.setCell ?_ (by first | exact Nat.le_refl _ | (dsimp only;omega)) _)
theorem refOf_0_0_1  (w:World) (R:EnvV w) :
   Calls Tryz.prog 66 #[.int .i64 0,.int .i64 0,.int .i64 1] w (Ret w (.agg #[.string ⟨#[48]⟩,.string ⟨#[48]⟩,.string ⟨#[49]⟩])):=by
 have c1:CV 43 #[.int .i64 0,.int .i64 1] (.string ⟨#[48]⟩):=fun w R=>(by have h:=refROf_any (0) (1) (by decide) (by decide) (by decide) (by decide) (by decide) w R.toEnvR;simp only [show ratB (Rat.divInt (0) (1))=⟨#[48]⟩ from by decide +kernel] at h;exact h)
 have c3:CV 43 #[.int .i64 1,.int .i64 1] (.string ⟨#[49]⟩):=fun w R=>(by have h:=refROf_any (1) (1) (by decide) (by decide) (by decide) (by decide) (by decide) w R.toEnvR;simp only [show ratB (Rat.divInt (1) (1))=⟨#[49]⟩ from by decide +kernel] at h;exact h)
 have C1:=Lib.hid c1
 have C3:=Lib.hid c3
 clear c1 c3
 have hb:=Below.refl w.heap.size w
 go_enter Tryz.func66,Tryz.ntmps66
 go_upto_region 1 with fail
 refine wp_alloc1 (fun w1 a0 hk=>?_)
 replace hb:=hb.trans (hk.mono hb.size)
 clear hk
 obtain ⟨Aa,Ad,Ab,Ae,Ac,Af⟩:=cf3 a0
 go_wp2_with ((go_at_call 43;first | with_reducible refine (chVB hb R C1).mono ?_ | with_reducible refine (chVB hb R C1).mono ?_ | with_reducible refine (chVB hb R C3).mono ?_);clear hb;rintro e w1 ⟨rfl,hk,hb⟩;clear Aa Ab Ac Ad Ae Af;replace a0:=zB hk a0;obtain ⟨Aa,Ad,Ab,Ae,Ac,Af⟩:=cf3 a0;clear hk)
 refine bodyPost_ret (v:=.agg #[.string ⟨#[48]⟩,.string ⟨#[48]⟩,.string ⟨#[49]⟩]) (by simp [results,Tryz.results66,go_sem,Aa,Ab,Ac]) rfl ⟨rfl,?_⟩
 repeat' (first | exact hb | refine Below.setCell ?_ (by first | exact Nat.le_refl _ | (dsimp only;omega)) _)
theorem refOf_1_0_1  (w:World) (R:EnvV w) :
   Calls Tryz.prog 66 #[.int .i64 1,.int .i64 0,.int .i64 1] w (Ret w (.agg #[.string ⟨#[49]⟩,.string ⟨#[48]⟩,.string ⟨#[49]⟩])):=by
 have c1:CV 43 #[.int .i64 1,.int .i64 1] (.string ⟨#[49]⟩):=fun w R=>(by have h:=refROf_any (1) (1) (by decide) (by decide) (by decide) (by decide) (by decide) w R.toEnvR;simp only [show ratB (Rat.divInt (1) (1))=⟨#[49]⟩ from by decide +kernel] at h;exact h)
 have c2:CV 43 #[.int .i64 0,.int .i64 1] (.string ⟨#[48]⟩):=fun w R=>(by have h:=refROf_any (0) (1) (by decide) (by decide) (by decide) (by decide) (by decide) w R.toEnvR;simp only [show ratB (Rat.divInt (0) (1))=⟨#[48]⟩ from by decide +kernel] at h;exact h)
 have C1:=Lib.hid c1
 have C2:=Lib.hid c2
 clear c1 c2
 have hb:=Below.refl w.heap.size w
 go_enter Tryz.func66,Tryz.ntmps66
 go_upto_region 1 with fail
 refine wp_alloc1 (fun w1 a0 hk=>?_)
 replace hb:=hb.trans (hk.mono hb.size)
 clear hk
 obtain ⟨Aa,Ad,Ab,Ae,Ac,Af⟩:=cf3 a0
 go_wp2_with ((go_at_call 43;first | with_reducible refine (chVB hb R C1).mono ?_ | with_reducible refine (chVB hb R C2).mono ?_ | with_reducible refine (chVB hb R C1).mono ?_);clear hb;rintro e w1 ⟨rfl,hk,hb⟩;clear Aa Ab Ac Ad Ae Af;replace a0:=zB hk a0;obtain ⟨Aa,Ad,Ab,Ae,Ac,Af⟩:=cf3 a0;clear hk)
 refine bodyPost_ret (v:=.agg #[.string ⟨#[49]⟩,.string ⟨#[48]⟩,.string ⟨#[49]⟩]) (by simp [results,Tryz.results66,go_sem,Aa,Ab,Ac]) rfl ⟨rfl,?_⟩
 repeat' (first | exact hb | refine Below.setCell ?_ (by first | exact Nat.le_refl _ | (dsimp only;omega)) _)
theorem refOf_3_m2_0  (w:World) (R:EnvV w) :
   Calls Tryz.prog 66 #[.int .i64 3,.int .i64 (-2),.int .i64 0] w (Ret w (.agg #[.string ⟨#[51]⟩,.string ⟨#[45,50]⟩,.string ⟨#[48]⟩])):=by
 have c1:CV 43 #[.int .i64 3,.int .i64 1] (.string ⟨#[51]⟩):=fun w R=>(by have h:=refROf_any (3) (1) (by decide) (by decide) (by decide) (by decide) (by decide) w R.toEnvR;simp only [show ratB (Rat.divInt (3) (1))=⟨#[51]⟩ from by decide +kernel] at h;exact h)
 have c2:CV 43 #[.int .i64 (-2),.int .i64 1] (.string ⟨#[45,50]⟩):=fun w R=>(by have h:=refROf_any (-2) (1) (by decide) (by decide) (by decide) (by decide) (by decide) w R.toEnvR;simp only [show ratB (Rat.divInt (-2) (1))=⟨#[45,50]⟩ from by decide +kernel] at h;exact h)
 have c3:CV 43 #[.int .i64 0,.int .i64 1] (.string ⟨#[48]⟩):=fun w R=>(by have h:=refROf_any (0) (1) (by decide) (by decide) (by decide) (by decide) (by decide) w R.toEnvR;simp only [show ratB (Rat.divInt (0) (1))=⟨#[48]⟩ from by decide +kernel] at h;exact h)
 have C1:=Lib.hid c1
 have C2:=Lib.hid c2
 have C3:=Lib.hid c3
 clear c1 c2 c3
 have hb:=Below.refl w.heap.size w
 go_enter Tryz.func66,Tryz.ntmps66
 go_upto_region 1 with fail
 refine wp_alloc1 (fun w1 a0 hk=>?_)
 replace hb:=hb.trans (hk.mono hb.size)
 clear hk
 obtain ⟨Aa,Ad,Ab,Ae,Ac,Af⟩:=cf3 a0
 go_wp2_with ((go_at_call 43;first | with_reducible refine (chVB hb R C1).mono ?_ | with_reducible refine (chVB hb R C2).mono ?_ | with_reducible refine (chVB hb R C3).mono ?_);clear hb;rintro e w1 ⟨rfl,hk,hb⟩;clear Aa Ab Ac Ad Ae Af;replace a0:=zB hk a0;obtain ⟨Aa,Ad,Ab,Ae,Ac,Af⟩:=cf3 a0;clear hk)
 refine bodyPost_ret (v:=.agg #[.string ⟨#[51]⟩,.string ⟨#[45,50]⟩,.string ⟨#[48]⟩]) (by simp [results,Tryz.results66,go_sem,Aa,Ab,Ac]) rfl ⟨rfl,?_⟩
 repeat' (first | exact hb | refine Below.setCell ?_ (by first | exact Nat.le_refl _ | (dsimp only;omega)) _)
theorem refAt_0_0  (w:World) (R:EnvV w) :
   Calls Tryz.prog 61 #[.int .i64 0,.int .i64 0] w (Ret w (.agg #[.string ⟨#[48]⟩,.string ⟨#[48]⟩])):=by
 have c1:CV 43 #[.int .i64 0,.int .i64 1] (.string ⟨#[48]⟩):=fun w R=>(by have h:=refROf_any (0) (1) (by decide) (by decide) (by decide) (by decide) (by decide) w R.toEnvR;simp only [show ratB (Rat.divInt (0) (1))=⟨#[48]⟩ from by decide +kernel] at h;exact h)
 have C1:=Lib.hid c1
 clear c1
 have hb:=Below.refl w.heap.size w
 go_enter Tryz.func61,Tryz.ntmps61
 go_upto_region 1 with fail
 refine wp_alloc1 (fun w1 a0 hk=>?_)
 replace hb:=hb.trans (hk.mono hb.size)
 clear hk
 obtain ⟨Aa,Ac,Ab,Ad⟩:=cf2 a0
 go_wp2_with ((go_at_call 43;first | with_reducible refine (chVB hb R C1).mono ?_ | with_reducible refine (chVB hb R C1).mono ?_);clear hb;rintro e w1 ⟨rfl,hk,hb⟩;clear Aa Ab Ac Ad;replace a0:=zB hk a0;obtain ⟨Aa,Ac,Ab,Ad⟩:=cf2 a0;clear hk)
 refine bodyPost_ret (v:=.agg #[.string ⟨#[48]⟩,.string ⟨#[48]⟩]) (by simp [results,Tryz.results61,go_sem,Aa,Ab]) rfl ⟨rfl,?_⟩
 repeat' (first | exact hb | refine Below.setCell ?_ (by first | exact Nat.le_refl _ | (dsimp only;omega)) _)
theorem refAt_4_0  (w:World) (R:EnvV w) :
   Calls Tryz.prog 61 #[.int .i64 4,.int .i64 0] w (Ret w (.agg #[.string ⟨#[52]⟩,.string ⟨#[48]⟩])):=by
 have c1:CV 43 #[.int .i64 4,.int .i64 1] (.string ⟨#[52]⟩):=fun w R=>(by have h:=refROf_any (4) (1) (by decide) (by decide) (by decide) (by decide) (by decide) w R.toEnvR;simp only [show ratB (Rat.divInt (4) (1))=⟨#[52]⟩ from by decide +kernel] at h;exact h)
 have c2:CV 43 #[.int .i64 0,.int .i64 1] (.string ⟨#[48]⟩):=fun w R=>(by have h:=refROf_any (0) (1) (by decide) (by decide) (by decide) (by decide) (by decide) w R.toEnvR;simp only [show ratB (Rat.divInt (0) (1))=⟨#[48]⟩ from by decide +kernel] at h;exact h)
 have C1:=Lib.hid c1
 have C2:=Lib.hid c2
 clear c1 c2
 have hb:=Below.refl w.heap.size w
 go_enter Tryz.func61,Tryz.ntmps61
 go_upto_region 1 with fail
 refine wp_alloc1 (fun w1 a0 hk=>?_)
 replace hb:=hb.trans (hk.mono hb.size)
 clear hk
 obtain ⟨Aa,Ac,Ab,Ad⟩:=cf2 a0
 go_wp2_with ((go_at_call 43;first | with_reducible refine (chVB hb R C1).mono ?_ | with_reducible refine (chVB hb R C2).mono ?_);clear hb;rintro e w1 ⟨rfl,hk,hb⟩;clear Aa Ab Ac Ad;replace a0:=zB hk a0;obtain ⟨Aa,Ac,Ab,Ad⟩:=cf2 a0;clear hk)
 refine bodyPost_ret (v:=.agg #[.string ⟨#[52]⟩,.string ⟨#[48]⟩]) (by simp [results,Tryz.results61,go_sem,Aa,Ab]) rfl ⟨rfl,?_⟩
 repeat' (first | exact hb | refine Below.setCell ?_ (by first | exact Nat.le_refl _ | (dsimp only;omega)) _)
theorem refAt_0_2  (w:World) (R:EnvV w) :
   Calls Tryz.prog 61 #[.int .i64 0,.int .i64 2] w (Ret w (.agg #[.string ⟨#[48]⟩,.string ⟨#[50]⟩])):=by
 have c1:CV 43 #[.int .i64 0,.int .i64 1] (.string ⟨#[48]⟩):=fun w R=>(by have h:=refROf_any (0) (1) (by decide) (by decide) (by decide) (by decide) (by decide) w R.toEnvR;simp only [show ratB (Rat.divInt (0) (1))=⟨#[48]⟩ from by decide +kernel] at h;exact h)
 have c2:CV 43 #[.int .i64 2,.int .i64 1] (.string ⟨#[50]⟩):=fun w R=>(by have h:=refROf_any (2) (1) (by decide) (by decide) (by decide) (by decide) (by decide) w R.toEnvR;simp only [show ratB (Rat.divInt (2) (1))=⟨#[50]⟩ from by decide +kernel] at h;exact h)
 have C1:=Lib.hid c1
 have C2:=Lib.hid c2
 clear c1 c2
 have hb:=Below.refl w.heap.size w
 go_enter Tryz.func61,Tryz.ntmps61
 go_upto_region 1 with fail
 refine wp_alloc1 (fun w1 a0 hk=>?_)
 replace hb:=hb.trans (hk.mono hb.size)
 clear hk
 obtain ⟨Aa,Ac,Ab,Ad⟩:=cf2 a0
 go_wp2_with ((go_at_call 43;first | with_reducible refine (chVB hb R C1).mono ?_ | with_reducible refine (chVB hb R C2).mono ?_);clear hb;rintro e w1 ⟨rfl,hk,hb⟩;clear Aa Ab Ac Ad;replace a0:=zB hk a0;obtain ⟨Aa,Ac,Ab,Ad⟩:=cf2 a0;clear hk)
 refine bodyPost_ret (v:=.agg #[.string ⟨#[48]⟩,.string ⟨#[50]⟩]) (by simp [results,Tryz.results61,go_sem,Aa,Ab]) rfl ⟨rfl,?_⟩
 repeat' (first | exact hb | refine Below.setCell ?_ (by first | exact Nat.le_refl _ | (dsimp only;omega)) _)
theorem refAt_2_1  (w:World) (R:EnvV w) :
   Calls Tryz.prog 61 #[.int .i64 2,.int .i64 1] w (Ret w (.agg #[.string ⟨#[50]⟩,.string ⟨#[49]⟩])):=by
 have c1:CV 43 #[.int .i64 2,.int .i64 1] (.string ⟨#[50]⟩):=fun w R=>(by have h:=refROf_any (2) (1) (by decide) (by decide) (by decide) (by decide) (by decide) w R.toEnvR;simp only [show ratB (Rat.divInt (2) (1))=⟨#[50]⟩ from by decide +kernel] at h;exact h)
 have c2:CV 43 #[.int .i64 1,.int .i64 1] (.string ⟨#[49]⟩):=fun w R=>(by have h:=refROf_any (1) (1) (by decide) (by decide) (by decide) (by decide) (by decide) w R.toEnvR;simp only [show ratB (Rat.divInt (1) (1))=⟨#[49]⟩ from by decide +kernel] at h;exact h)
 have C1:=Lib.hid c1
 have C2:=Lib.hid c2
 clear c1 c2
 have hb:=Below.refl w.heap.size w
 go_enter Tryz.func61,Tryz.ntmps61
 go_upto_region 1 with fail
 refine wp_alloc1 (fun w1 a0 hk=>?_)
 replace hb:=hb.trans (hk.mono hb.size)
 clear hk
 obtain ⟨Aa,Ac,Ab,Ad⟩:=cf2 a0
 go_wp2_with ((go_at_call 43;first | with_reducible refine (chVB hb R C1).mono ?_ | with_reducible refine (chVB hb R C2).mono ?_);clear hb;rintro e w1 ⟨rfl,hk,hb⟩;clear Aa Ab Ac Ad;replace a0:=zB hk a0;obtain ⟨Aa,Ac,Ab,Ad⟩:=cf2 a0;clear hk)
 refine bodyPost_ret (v:=.agg #[.string ⟨#[50]⟩,.string ⟨#[49]⟩]) (by simp [results,Tryz.results61,go_sem,Aa,Ab]) rfl ⟨rfl,?_⟩
 repeat' (first | exact hb | refine Below.setCell ?_ (by first | exact Nat.le_refl _ | (dsimp only;omega)) _)
theorem rn_4 : RN (4:Rat) 1 1:=by unfold RN;decide +kernel
theorem rb_4 : ratB (4:Rat)=⟨#[52]⟩:=by decide +kernel
theorem rn_2 : RN (2:Rat) 1 1:=by unfold RN;decide +kernel
theorem rb_2 : ratB (2:Rat)=⟨#[50]⟩:=by decide +kernel
theorem rn_1_2 : RN (Rat.divInt 1 2) 1 1:=by unfold RN;decide +kernel
theorem rb_1_2 : ratB (Rat.divInt 1 2)=⟨#[49,47,50]⟩:=by decide +kernel
theorem rn_m1_3 : RN (Rat.divInt (-1) 3) 1 1:=by unfold RN;decide +kernel
theorem rb_m1_3 : ratB (Rat.divInt (-1) 3)=⟨#[45,49,47,51]⟩:=by decide +kernel
theorem known5_any  (w:World) (R:EnvV w) :
   Calls Tryz.prog 13 #[] w (Ret w (.bool true)):=by
 have Ak:=RN_mul rn_0 rn_0
 have Ac:=RN_mul rn_0 rn_1
 have Aq:=RN_mul rn_1 rn_0
 have Al:=RN_mul rn_1 rn_1
 have A0:=RN_sub (N:=4) Ak Ac
 have A7:=RN_sub (N:=4) Ak Aq
 have A8:=RN_sub (N:=4) Al Ak
 have A9:=RN_mul rn_1_2 (RN_prim (n:=1) (d:=1) (by decide +kernel) (by decide) (by decide) (RN.up rn_1_2 (by decide) (by decide)) (RN.up rn_m1_3 (by decide) (by decide)) (RN.up rn_0 (by decide) (by decide)))
 have Ba:=RN_mul rn_m1_3 (RN_prim (n:=1) (d:=1) (by decide +kernel) (by decide) (by decide) (RN.up rn_1_2 (by decide) (by decide)) (RN.up rn_m1_3 (by decide) (by decide)) (RN.up rn_0 (by decide) (by decide)))
 have Bb:=RN_mul rn_0 (RN_prim (n:=1) (d:=1) (by decide +kernel) (by decide) (by decide) (RN.up rn_1_2 (by decide) (by decide)) (RN.up rn_m1_3 (by decide) (by decide)) (RN.up rn_0 (by decide) (by decide)))
 have A1:=RN_sub (N:=2) rn_4 rn_0
 have Aw:=RN_sub (N:=2) rn_2 rn_0
 have Ar:=RN_sub (N:=2) rn_0 rn_0
 have A2:=RN_mul A1 Aw
 have A3:=RN_mul Ar Ar
 have Bc:=RN_sub (N:=10) A2 A3
 have A4:=RN_sub (N:=2) rn_0 rn_2
 have Bd:=A4.rl (K:=40000)
 have Ax:=RN_sub (N:=2) rn_0 rn_1
 have As:=RN_mul Ax rn_0
 have Ay:RN (-((0:Rat) - (2:Rat))) 3 2:=(RN_neg A4)
 have A5:=RN_add (N:=5) rn_0 As
 have Az:=RN_mul Ay rn_0
 have Be:=RN_add (N:=9) A5 Az
 have Bf:=RN_mul rn_m1 rn_0
 have Bg:=RN_add (N:=7) As Az
 have Bh:=RN_sub (N:=9) Bg rn_0
 have Bi:=RN_mul Aw rn_0
 have Bx:=RN_add (N:=7) As Bi
 have Bj:=RN_sub (N:=4) Ac Aq
 have Bk:=RN_sub (N:=4) Al Ac
 have Am:=RN_sub (N:=4) Ac Al
 have A6:=RN_sub (N:=4) Ac Ac
 have Bl:=RN_div Am Am (by decide +kernel)
 have Bm:=RN_div A6 Am (by decide +kernel)
 have c1:=refOf_1_0_0
 have c2:=refOf_0_1_0
 have c3:CV 25 #[.agg #[.string ⟨#[49]⟩,.string ⟨#[48]⟩,.string ⟨#[48]⟩],.agg #[.string ⟨#[48]⟩,.string ⟨#[49]⟩,.string ⟨#[48]⟩]] (.tuple #[.agg #[.string ⟨#[48]⟩,.string ⟨#[48]⟩,.string ⟨#[49]⟩],.int .i64 0]):=fun w R=>(by have h:=(by have h:=vcross_any (1:Rat) (0:Rat) (0:Rat) (0:Rat) (1:Rat) (0:Rat) (RN.rl (K:=200) rn_1) (RN.rl (K:=200) rn_0) (RN.rl (K:=200) rn_0) (RN.rl (K:=200) rn_0) (RN.rl (K:=200) rn_1) (RN.rl (K:=200) rn_0) (RN.rl (K:=10000) rn_0) (RN.rl (K:=10000) rn_0) (RN.rl (K:=10000) rn_0) (RN.rl (K:=10000) rn_1) Ak.rm Ac.rm (RN.rl (K:=10000) rn_0) (RN.rl (K:=10000) rn_1) Ak.rm Aq.rm Al.rm Ak.rm A0.r2 A7.r2 A8.r2 w R.toEnvR;simp only [rb_0,rb_1] at h;exact h);simp only [show ratB (((0:Rat)*(0:Rat)) - ((0:Rat)*(1:Rat)))=⟨#[48]⟩ from by decide +kernel,show ratB (((0:Rat)*(0:Rat)) - ((1:Rat)*(0:Rat)))=⟨#[48]⟩ from by decide +kernel,show ratB (((1:Rat)*(1:Rat)) - ((0:Rat)*(0:Rat)))=⟨#[49]⟩ from by decide +kernel] at h;exact h)
 have c4:CV 39 #[.agg #[.string ⟨#[49,47,50]⟩,.string ⟨#[45,49,47,51]⟩,.string ⟨#[48]⟩]] (.tuple #[.agg #[.string ⟨#[51]⟩,.string ⟨#[45,50]⟩,.string ⟨#[48]⟩],.int .i64 0]):=fun w R=>(by have h:=(by have h:=prim_any (Rat.divInt 1 2) (Rat.divInt (-1) 3) (0:Rat) (by decide +kernel) (RN.rl (K:=200) rn_1_2) (RN.rl (K:=200) rn_m1_3) (RN.rl (K:=200) rn_0) A9.r2 Ba.r2 Bb.r2 w R;simp only [rb_m1_3,rb_0,rb_1_2] at h;exact h);simp only [show ratB ((Rat.divInt 1 2)*(primF (Rat.divInt 1 2) (Rat.divInt (-1) 3) (0:Rat)))=⟨#[51]⟩ from by decide +kernel,show ratB ((Rat.divInt (-1) 3)*(primF (Rat.divInt 1 2) (Rat.divInt (-1) 3) (0:Rat)))=⟨#[45,50]⟩ from by decide +kernel,show ratB ((0:Rat)*(primF (Rat.divInt 1 2) (Rat.divInt (-1) 3) (0:Rat)))=⟨#[48]⟩ from by decide +kernel] at h;exact h)
 have c5:=refAt_0_0
 have c6:=refAt_4_0
 have c7:=refAt_0_2
 have c8:CV 46 #[.agg #[.string ⟨#[48]⟩,.string ⟨#[48]⟩],.agg #[.string ⟨#[52]⟩,.string ⟨#[48]⟩],.agg #[.string ⟨#[48]⟩,.string ⟨#[50]⟩]] (.tuple #[.string ⟨#[56]⟩,.int .i64 0]):=fun w R=>(by have h:=(by have h:=varea_any (0:Rat) (0:Rat) (4:Rat) (0:Rat) (0:Rat) (2:Rat) (RN.rl (K:=200) rn_0) (RN.rl (K:=200) rn_0) (RN.rl (K:=200) rn_4) (RN.rl (K:=200) rn_0) (RN.rl (K:=200) rn_0) (RN.rl (K:=200) rn_2) (RN.rl (K:=10000) rn_4) (RN.rl (K:=10000) rn_0) (RN.rl (K:=10000) rn_0) (RN.rl (K:=10000) rn_0) (RN.rl (K:=10000) rn_0) (RN.rl (K:=10000) rn_2) A1.rm Aw.rm Ar.rm Ar.rm A2.rm A3.rm Bc.r2 w R.toEnvR;simp only [rb_0,rb_2,rb_4] at h;exact h);simp only [show ratB ((((4:Rat) - (0:Rat))*((2:Rat) - (0:Rat))) - (((0:Rat) - (0:Rat))*((0:Rat) - (0:Rat))))=⟨#[56]⟩ from by decide +kernel] at h;exact h)
 have c10:=refAt_2_1
 have c11:CV 54 #[.agg #[.string ⟨#[48]⟩,.string ⟨#[48]⟩],.agg #[.string ⟨#[50]⟩,.string ⟨#[49]⟩]] (.tuple #[.agg #[.string ⟨#[45,49]⟩,.string ⟨#[50]⟩,.string ⟨#[48]⟩],.int .i64 0]):=fun w R=>(by have h:=(by have h:=through_0 (0:Rat) (0:Rat) (2:Rat) (1:Rat) (by decide +kernel) (RN.rl (K:=200) rn_0) (RN.rl (K:=200) rn_0) (RN.rl (K:=200) rn_2) (RN.rl (K:=200) rn_1) (RN.rl (K:=10000) rn_0) (RN.rl (K:=10000) rn_2) (RN.rl (K:=10000) rn_0) (RN.rl (K:=10000) rn_1) Bd Ax.rm As.rm Ay.rm A5.rm Az.rm Be.rm Bf.rm Ax.r2 Ay.r2 Bh.r2 w R;simp only [rb_0,rb_1,rb_2] at h;exact h);simp only [show ratB ((0:Rat) - (1:Rat))=⟨#[45,49]⟩ from by decide +kernel,show ratB ((2:Rat) - (0:Rat))=⟨#[50]⟩ from by decide +kernel,show ratB ((((0:Rat) - (1:Rat))*(0:Rat))+(((2:Rat) - (0:Rat))*(0:Rat)))=⟨#[48]⟩ from by decide +kernel] at h;exact h)
 have c12:=refOf_0_0_1
 have c13:=refOf_1_0_1
 have c14:CV 65 #[.agg #[.string ⟨#[48]⟩,.string ⟨#[48]⟩,.string ⟨#[49]⟩,.string ⟨#[48]⟩],.agg #[.string ⟨#[49]⟩,.string ⟨#[48]⟩,.string ⟨#[49]⟩,.string ⟨#[49]⟩]] (.tuple #[.agg #[.string ⟨#[49]⟩,.string ⟨#[48]⟩,.string ⟨#[48]⟩],.agg #[.string ⟨#[48]⟩,.string ⟨#[49]⟩,.string ⟨#[48]⟩],.int .i64 0]):=fun w R=>(by have h:=(by have h:=common_1 (0:Rat) (0:Rat) (1:Rat) (0:Rat) (1:Rat) (0:Rat) (1:Rat) (1:Rat) (by decide +kernel) (by decide +kernel) (RN.rl (K:=200) rn_0) (RN.rl (K:=200) rn_0) (RN.rl (K:=200) rn_1) (RN.rl (K:=200) rn_0) (by decide +kernel) (RN.rl (K:=200) rn_1) (RN.rl (K:=200) rn_0) (RN.rl (K:=200) rn_1) (RN.rl (K:=200) rn_1) (by decide +kernel) (RN.rl (K:=10000) rn_0) (RN.rl (K:=10000) rn_1) (RN.rl (K:=10000) rn_1) (RN.rl (K:=10000) rn_0) Ac.rm Aq.rm (RN.rl (K:=10000) rn_1) (RN.rl (K:=10000) rn_0) Al.rm Ac.rm Ak.rm Ac.rm (by decide +kernel) (RN.rl (K:=10000) rn_0) (RN.rl (K:=10000) rn_1) Ac.rm Al.rm (by decide +kernel) Am.rm Am.rm Ac.rm Ac.rm A6.rm Bl.r2 Bm.r2 Bj.r2 Bk.r2 A0.r2 w R;simp only [rb_0,rb_1] at h;exact h);simp only [show ratB ((((0:Rat)*(1:Rat)) - ((1:Rat)*(1:Rat))) / (((0:Rat)*(1:Rat)) - ((1:Rat)*(1:Rat))))=⟨#[49]⟩ from by decide +kernel,show ratB ((((0:Rat)*(1:Rat)) - ((0:Rat)*(1:Rat))) / (((0:Rat)*(1:Rat)) - ((1:Rat)*(1:Rat))))=⟨#[48]⟩ from by decide +kernel,show ratB (((0:Rat)*(1:Rat)) - ((1:Rat)*(0:Rat)))=⟨#[48]⟩ from by decide +kernel,show ratB (((1:Rat)*(1:Rat)) - ((0:Rat)*(1:Rat)))=⟨#[49]⟩ from by decide +kernel,show ratB (((0:Rat)*(0:Rat)) - ((0:Rat)*(1:Rat)))=⟨#[48]⟩ from by decide +kernel] at h;exact h)
 have c16:=refOf_3_m2_0
 have C1:=Lib.hid c1
 have C2:=Lib.hid c2
 have C3:=Lib.hid c3
 have C4:=Lib.hid c4
 have C5:=Lib.hid c5
 have C6:=Lib.hid c6
 have C7:=Lib.hid c7
 have C8:=Lib.hid c8
 have C10:=Lib.hid c10
 have C11:=Lib.hid c11
 have C12:=Lib.hid c12
 have C13:=Lib.hid c13
 have C14:=Lib.hid c14
 have C16:=Lib.hid c16
 clear c1 c2 c3 c4 c5 c6 c7 c8 c10 c11 c12 c13 c14 c16 Ak Ac Aq Al A0 A7 A8 A9 Ba Bb A1 Aw Ar A2 A3 Bc A4 Bd Ax As Ay A5 Az Be Bf Bg Bh Bi Bx Bj Bk Am A6 Bl Bm
 have hb:=Below.refl w.heap.size w
 go_enter Tryz.func13,Tryz.ntmps13
 go_upto_region 2 with ((first | (go_at_call 66;first | with_reducible refine (chVB hb R C1).mono ?_ | with_reducible refine (chVB hb R C2).mono ?_) | (go_at_call 25;with_reducible refine (chVB hb R C3).mono ?_));clear hb;rintro e w1 ⟨rfl,hk,hb⟩;clear hk)
 refine wp_alloc1 (fun w1 Aa hk=>?_)
 replace hb:=hb.trans (hk.mono hb.size)
 clear hk
 obtain ⟨Ad,Ae,Af⟩:=ce3 Aa
 go_upto_region 3 with (go_at_call 39;with_reducible refine (chVB hb R C4).mono ?_;clear hb;rintro e w1 ⟨rfl,hk,hb⟩;clear Ad Ae Af;replace Aa:=zB hk Aa;obtain ⟨Ad,Ae,Af⟩:=ce3 Aa;clear hk)
 refine wp_alloc1 (fun w1 Ab hk=>?_)
 clear Ad Ae Af
 replace Aa:=zB hk Aa
 obtain ⟨Ad,Ae,Af⟩:=ce3 Aa
 replace hb:=hb.trans (hk.mono hb.size)
 clear hk
 obtain ⟨Ah,Ai,Aj⟩:=ce3 Ab
 go_upto_region 5 with ((first | (go_at_call 61;first | with_reducible refine (chVB hb R C5).mono ?_ | with_reducible refine (chVB hb R C6).mono ?_ | with_reducible refine (chVB hb R C7).mono ?_ | with_reducible refine (chVB hb R C5).mono ?_ | with_reducible refine (chVB hb R C10).mono ?_) | (go_at_call 46;with_reducible refine (chVB hb R C8).mono ?_) | (go_at_call 54;with_reducible refine (chVB hb R C11).mono ?_));clear hb;rintro e w1 ⟨rfl,hk,hb⟩;clear Ad Ae Af Ah Ai Aj;replace Aa:=zB hk Aa;replace Ab:=zB hk Ab;obtain ⟨Ad,Ae,Af⟩:=ce3 Aa;obtain ⟨Ah,Ai,Aj⟩:=ce3 Ab;clear hk)
 refine wp_alloc1 (fun w1 Ag hk=>?_)
 clear Ad Ae Af Ah Ai Aj
 replace Aa:=zB hk Aa
 replace Ab:=zB hk Ab
 obtain ⟨Ad,Ae,Af⟩:=ce3 Aa
 obtain ⟨Ah,Ai,Aj⟩:=ce3 Ab
 replace hb:=hb.trans (hk.mono hb.size)
 clear hk
 obtain ⟨An,Ao,Ap⟩:=ce3 Ag
 go_upto_region 6 with ((first | (go_at_call 66;first | with_reducible refine (chVB hb R C12).mono ?_ | with_reducible refine (chVB hb R C13).mono ?_) | (go_at_call 65;with_reducible refine (chVB hb R C14).mono ?_));clear hb;rintro e w1 ⟨rfl,hk,hb⟩;clear Ad Ae Af Ah Ai Aj An Ao Ap;replace Aa:=zB hk Aa;replace Ab:=zB hk Ab;replace Ag:=zB hk Ag;obtain ⟨Ad,Ae,Af⟩:=ce3 Aa;obtain ⟨Ah,Ai,Aj⟩:=ce3 Ab;obtain ⟨An,Ao,Ap⟩:=ce3 Ag;clear hk)
 refine wp_alloc2 (fun w1 Au Av hk=>?_)
 clear Ad Ae Af Ah Ai Aj An Ao Ap
 replace Aa:=zB hk Aa
 replace Ab:=zB hk Ab
 replace Ag:=zB hk Ag
 obtain ⟨Ad,Ae,Af⟩:=ce3 Aa
 obtain ⟨Ah,Ai,Aj⟩:=ce3 Ab
 obtain ⟨An,Ao,Ap⟩:=ce3 Ag
 replace hb:=hb.trans (hk.mono hb.size)
 clear hk
 obtain ⟨Bn,Bo,Bp⟩:=ce3 Au
 obtain ⟨Bq,Br,Bs⟩:=ce3 Av
 obtain ⟨By,Bz,B0⟩:=cy3 Aa
 obtain ⟨B1,B2,B3⟩:=cy3 Ab
 obtain ⟨B4,B5,B6⟩:=cy3 Ag
 obtain ⟨B7,B8,B9⟩:=cy3 Au
 obtain ⟨Ca,Cb,Cc⟩:=cy3 Av
 have Bt:=rrV C12 R hb
 have Bu:=rrV C16 R hb
 have Bv:=rrV C2 R hb
 have Bw:=rrV C1 R hb
 refine wp_region_quiet_below (by first | assumption | kernel_rfl) (by kernel_rfl) ?_
 repeat (quiet_step (first | (with_reducible exact Bt.out _ _) | (with_reducible exact Bu.out _ _) | (with_reducible exact Bv.out _ _) | (with_reducible exact Bw.out _ _)))
 refine wpQuiet_nil ?_
 intro w1 hw'
 obtain ⟨hk,hb⟩:=zQ hb hw'
 clear Ad Ae Af Ah Ai Aj An Ao Ap Bn Bo Bp Bq Br Bs
 replace Aa:=zB hk Aa
 replace Ab:=zB hk Ab
 replace Ag:=zB hk Ag
 replace Au:=zB hk Au
 replace Av:=zB hk Av
 obtain ⟨Ad,Ae,Af⟩:=ce3 Aa
 obtain ⟨Ah,Ai,Aj⟩:=ce3 Ab
 obtain ⟨An,Ao,Ap⟩:=ce3 Ag
 obtain ⟨Bn,Bo,Bp⟩:=ce3 Au
 obtain ⟨Bq,Br,Bs⟩:=ce3 Av
 clear Bt Bu Bv Bw By Bz B0 B1 B2 B3 B4 B5 B6 B7 B8 B9 Ca Cb Cc
 clear hk hw'
 go_wp2
 first | go_ret | go_ret2 | go_ret3
 exact ⟨rfl,hb⟩
end Go.Proofs.YtpennccflalobaaGreatDoor.Kl
