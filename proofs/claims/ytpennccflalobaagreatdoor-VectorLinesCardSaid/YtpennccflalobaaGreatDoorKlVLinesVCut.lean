import Derived.Test.YtpennccflalobaaGreatDoorKlVLinesVZ
namespace Go.Proofs.YtpennccflalobaaGreatDoor.Kl
open Go Go.RowKit
set_option maxRecDepth 100000
set_option maxHeartbeats 8000000
theorem held_cut {w W W':World} {o0 o1 o2:Obj} {s0 s1 s2 s3 s4 s5 s6:Value} (hk:Below W.heap.size W W') (h:Below w.heap.size w W∧W.heap[w.heap.size]? = some o0∧W.heap[w.heap.size+1]? = some o1∧W.heap[w.heap.size+2]? = some o2∧W.cell? ⟨w.heap.size,0,none⟩=some s0∧W.cell? ⟨w.heap.size,1,none⟩=some s1∧W.cell? ⟨w.heap.size,2,none⟩=some s2∧W.cell? ⟨w.heap.size+1,0,none⟩=some s3∧W.cell? ⟨w.heap.size+1,1,none⟩=some s4∧W.cell? ⟨w.heap.size+2,0,none⟩=some s5∧W.cell? ⟨w.heap.size+2,1,none⟩=some s6):Below w.heap.size w W'∧W'.heap[w.heap.size]? = some o0∧W'.heap[w.heap.size+1]? = some o1∧W'.heap[w.heap.size+2]? = some o2∧W'.cell? ⟨w.heap.size,0,none⟩=some s0∧W'.cell? ⟨w.heap.size,1,none⟩=some s1∧W'.cell? ⟨w.heap.size,2,none⟩=some s2∧W'.cell? ⟨w.heap.size+1,0,none⟩=some s3∧W'.cell? ⟨w.heap.size+1,1,none⟩=some s4∧W'.cell? ⟨w.heap.size+2,0,none⟩=some s5∧W'.cell? ⟨w.heap.size+2,1,none⟩=some s6:=
 ⟨h.1.trans (hk.mono h.1.size),zB hk h.2.1,zB hk h.2.2.1,zB hk h.2.2.2.1,zC hk h.2.2.2.2.1,zC hk h.2.2.2.2.2.1,zC hk h.2.2.2.2.2.2.1,zC hk h.2.2.2.2.2.2.2.1,zC hk h.2.2.2.2.2.2.2.2.1,zC hk h.2.2.2.2.2.2.2.2.2.1,zC hk h.2.2.2.2.2.2.2.2.2.2⟩
theorem pts_at (x y u v:Rat) (rx:RL x 200) (ry:RL y 200) (ru:RL u 200) (rv:RL v 200) (W:World) (blk:Nat) (R:EnvV W) (h0:W.cell? ⟨blk,0,none⟩=some (.string (ratB x))) (h1:W.cell? ⟨blk,1,none⟩=some (.string (ratB y))) (h2:W.cell? ⟨blk,2,none⟩=some (.string (ratB u))) (h3:W.cell? ⟨blk,3,none⟩=some (.string (ratB v))) :
   Calls Tryz.prog 95 #[.slice (some ⟨blk,0,none⟩) 2 2] W fun e w' => e = .returned (.int .i64 0)∧Below W.heap.size W w':=by
 refine checkPts_w blk 2 2 [(x,y),(u,v)] rfl (by decide) (by simp;exact ⟨⟨rx,ry⟩,⟨ru,rv⟩⟩) W R.toEnvR ?_
 intro j p h
 match j,h with
 | 0,h=>injection h with h;subst h;exact ⟨h0,h1⟩
 | 1,h=>injection h with h;subst h;exact ⟨h2,h3⟩
 | j+2,h=>simp at h
theorem or_at (a b v:Int) (hv:firstNZ [a,b]=v) (W:World) (blk:Nat) (_:EnvV W) (h0:W.cell? ⟨blk,0,none⟩=some (.int .i64 a)) (h1:W.cell? ⟨blk,1,none⟩=some (.int .i64 b)) :
   Calls Tryz.prog 69 #[.slice (some ⟨blk,0,none⟩) 2 2] W fun e w' => e = .returned (.int .i64 v)∧Below W.heap.size W w':=by
 refine orErr_w blk 2 2 [a,b] rfl (by decide) v hv W ?_
 intro j t h
 match j,h with
 | 0,h=>injection h with h;subst h;exact h0
 | 1,h=>injection h with h;subst h;exact h1
 | j+2,h=>simp at h
theorem cut_0 (a b c x y u v:Rat) (q0:(((a*x)+(b*y)) - c)=(((a*u)+(b*v)) - c)) (r1:RL a 200) (r2:RL b 200) (r3:RL c 200) (r4:a≠0∨b≠0) (r5:RL x 200) (r6:RL y 200) (r7:RL u 200) (r8:RL v 200) (r9:RL a 10000) (r10:RL x 10000) (r11:RL (a*x) 10000) (r12:RL b 10000) (r13:RL y 10000) (r14:RL ((0:Rat)+(a*x)) 10000) (r15:RL (b*y) 10000) (r16:RL c 10000) (r17:RL (((0:Rat)+(a*x))+(b*y)) 10000) (r18:RL ((-1:Rat)*c) 10000) (r19:RL u 10000) (r20:RL (a*u) 10000) (r21:RL v 10000) (r22:RL ((0:Rat)+(a*u)) 10000) (r23:RL (b*v) 10000) (r24:RL (((0:Rat)+(a*u))+(b*v)) 10000) (w:World) (R:EnvV w) :
   Calls Tryz.prog 59 #[.agg #[.string (ratB a),.string (ratB b),.string (ratB c)],.agg #[.string (ratB x),.string (ratB y)],.agg #[.string (ratB u),.string (ratB v)]] w (Ret w (.tuple #[.string ⟨#[]⟩,.bool false,.int .i64 0])):=by
 have c1:=checkLine_ok a b c r1 r2 r3 r4
 have c2:=fun (w:World) (R:EnvV w)=>checkPts2 x y u v r5 r6 r7 r8 w R.toEnvR
 have c3:=fun (w:World) (R:EnvV w)=>orErr2 0 0 0 (by decide) w R.toEnvR
 have c4:=level2_any a b c x y r9 r10 r11 r12 r13 r14 r15 r16 r17 r18
 have c5:=level2_any a b c u v r9 r19 r20 r12 r21 r22 r23 r16 r24 r18
 have eq0:((ratB (((a*x)+(b*y)) - c)).toList == (ratB (((a*u)+(b*v)) - c)).toList)=true:=by rw [q0];exact beq_self_eq_true _
 have pq0:(ratB (((a*x)+(b*y)) - c)).toList=(ratB (((a*u)+(b*v)) - c)).toList:=by rw [q0]
 have g2:∀ (W:World) (blk:Nat),EnvV W→W.cell? ⟨blk,0,none⟩=some (.string (ratB x))→W.cell? ⟨blk,1,none⟩=some (.string (ratB y))→W.cell? ⟨blk,2,none⟩=some (.string (ratB u))→W.cell? ⟨blk,3,none⟩=some (.string (ratB v))→Calls Tryz.prog 95 #[.slice (some ⟨blk,0,none⟩) 2 2] W fun e w' => e = .returned (.int .i64 0)∧Below W.heap.size W w':=fun W blk R h0 h1 h2 h3=>pts_at x y u v r5 r6 r7 r8 W blk R h0 h1 h2 h3
 have g3:∀ (W:World) (blk:Nat),EnvV W→W.cell? ⟨blk,0,none⟩=some (.int .i64 0)→W.cell? ⟨blk,1,none⟩=some (.int .i64 0)→Calls Tryz.prog 69 #[.slice (some ⟨blk,0,none⟩) 2 2] W fun e w' => e = .returned (.int .i64 0)∧Below W.heap.size W w':=fun W blk R h0 h1=>or_at 0 0 0 (by decide) W blk R h0 h1
 obtain ⟨A6,Ao⟩:∃ vq,ratB (((a*u)+(b*v)) - c)=vq:=⟨_,rfl⟩
 obtain ⟨A7,Ap⟩:∃ vq,ratB (((a*x)+(b*y)) - c)=vq:=⟨_,rfl⟩
 obtain ⟨Ah,Aq⟩:∃ vq,ratB a=vq:=⟨_,rfl⟩
 obtain ⟨Ai,Ar⟩:∃ vq,ratB b=vq:=⟨_,rfl⟩
 obtain ⟨Aj,As⟩:∃ vq,ratB c=vq:=⟨_,rfl⟩
 obtain ⟨Ak,At⟩:∃ vq,ratB u=vq:=⟨_,rfl⟩
 obtain ⟨Al,Au⟩:∃ vq,ratB v=vq:=⟨_,rfl⟩
 obtain ⟨Am,Av⟩:∃ vq,ratB x=vq:=⟨_,rfl⟩
 obtain ⟨An,Aw⟩:∃ vq,ratB y=vq:=⟨_,rfl⟩
 try simp only [Ao,Ap,Aq,Ar,As,At,Au,Av,Aw] at c1 c2 c3 c4 c5 eq0 pq0 g2 g3 ⊢
 have C1:=Lib.hid c1
 have C2:=Lib.hid c2
 have C3:=Lib.hid c3
 have C4:=Lib.hid c4
 have C5:=Lib.hid c5
 clear c1 c2 c3 c4 c5 Ao Ap Aq Ar As At Au Av Aw q0 r1 r2 r3 r4 r5 r6 r7 r8 r9 r10 r11 r12 r13 r14 r15 r16 r17 r18 r19 r20 r21 r22 r23 r24
 have G2:=Lib.hid g2
 have G3:=Lib.hid g3
 clear g2 g3
 have hb:=Below.refl w.heap.size w
 go_enter Tryz.func59,Tryz.ntmps59
 go_upto_region 1 with fail
 refine wp_alloc3 (fun w1 a0 a1 a2 hk=>?_)
 replace hb:=hb.trans (hk.mono hb.size)
 clear hk
 obtain ⟨Aa,Ab,Ac⟩:=ce3 a0
 obtain ⟨Ad,Ae⟩:=ce2 a1
 obtain ⟨Af,Ag⟩:=ce2 a2
 have H0:=Lib.hid (show Below w.heap.size w w1∧w1.heap[w.heap.size]? = some (Obj.cells #[Value.string Ah,Value.string Ai,Value.string Aj] 81)∧w1.heap[w.heap.size+1]? = some (Obj.cells #[Value.string Am,Value.string An] 30)∧w1.heap[w.heap.size+2]? = some (Obj.cells #[Value.string Ak,Value.string Al] 30)∧w1.cell? ⟨w.heap.size,0,none⟩=some (Value.string Ah)∧w1.cell? ⟨w.heap.size,1,none⟩=some (Value.string Ai)∧w1.cell? ⟨w.heap.size,2,none⟩=some (Value.string Aj)∧w1.cell? ⟨w.heap.size+1,0,none⟩=some (Value.string Am)∧w1.cell? ⟨w.heap.size+1,1,none⟩=some (Value.string An)∧w1.cell? ⟨w.heap.size+2,0,none⟩=some (Value.string Ak)∧w1.cell? ⟨w.heap.size+2,1,none⟩=some (Value.string Al) from ⟨hb,a0,a1,a2,Aa,Ab,Ac,Ad,Ae,Af,Ag⟩)
 clear hb a0 a1 a2 Aa Ab Ac Ad Ae Af Ag
 go_upto_region 1 with fail
 go_region_held3 (fun w' => Below w.heap.size w w'∧w'.heap[w.heap.size]? = some (Obj.cells #[Value.string Ah,Value.string Ai,Value.string Aj] 81)∧w'.heap[w.heap.size+1]? = some (Obj.cells #[Value.string Am,Value.string An] 30)∧w'.heap[w.heap.size+2]? = some (Obj.cells #[Value.string Ak,Value.string Al] 30)∧w'.cell? ⟨w.heap.size,0,none⟩=some (Value.string Ah)∧w'.cell? ⟨w.heap.size,1,none⟩=some (Value.string Ai)∧w'.cell? ⟨w.heap.size,2,none⟩=some (Value.string Aj)∧w'.cell? ⟨w.heap.size+1,0,none⟩=some (Value.string Am)∧w'.cell? ⟨w.heap.size+1,1,none⟩=some (Value.string An)∧w'.cell? ⟨w.heap.size+2,0,none⟩=some (Value.string Ak)∧w'.cell? ⟨w.heap.size+2,1,none⟩=some (Value.string Al))
   (first | exact held_cut (Below.refl _ _).drew H0.out | exact held_cut hk2 (by assumption) | exact held_cut (laid1 _ _).2 (by assumption))
   (first | (go_at_call 106;(with_reducible refine (C1.out _ (R.below (And.left (by assumption)))).mono ?_);rintro e w1 ⟨rfl,hk2⟩) | (go_at_call 95;(with_reducible refine (G2.out _ _ (R.below (And.left (by assumption))) ?_ ?_ ?_ ?_).mono ?_);(first | exact zA (World.alloc_heap_new _ _) | exact zC hk2 (zA (World.alloc_heap_new _ _)));(first | exact zA (World.alloc_heap_new _ _) | exact zC hk2 (zA (World.alloc_heap_new _ _)));(first | exact zA (World.alloc_heap_new _ _) | exact zC hk2 (zA (World.alloc_heap_new _ _)));(first | exact zA (World.alloc_heap_new _ _) | exact zC hk2 (zA (World.alloc_heap_new _ _)));rintro e w1 ⟨rfl,hk2⟩) | (go_at_call 69;(with_reducible refine (G3.out _ _ (R.below (And.left (by assumption))) ?_ ?_).mono ?_);exact zA (World.alloc_heap_new _ _);exact zA (World.alloc_heap_new _ _);rintro e w1 ⟨rfl,hk2⟩))
 all_goals
   clear H0 G2 G3 hk2
   obtain ⟨hb,a0,a1,a2,Aa,Ab,Ac,Ad,Ae,Af,Ag⟩:=(by assumption:Below w.heap.size w w1∧_)
   go_upto_region 4 with ((first | (go_at_call 95;with_reducible refine (zL hb (C2.out _ (R.below hb))).mono ?_) | (go_at_call 69;with_reducible refine (zL hb (C3.out _ (R.below hb))).mono ?_));clear hb;rintro e w1 ⟨rfl,hk,hb⟩;clear Aa Ab Ac Ad Ae Af Ag;replace a0:=zB hk a0;replace a1:=zB hk a1;replace a2:=zB hk a2;obtain ⟨Aa,Ab,Ac⟩:=ce3 a0;obtain ⟨Ad,Ae⟩:=ce2 a1;obtain ⟨Af,Ag⟩:=ce2 a2;clear hk)
   obtain ⟨Az,A0,A1⟩:=cy3 a0
   obtain ⟨A2,A3⟩:=cy2 a1
   obtain ⟨A4,A5⟩:=cy2 a2
   have Ax:=rrV C4 R hb
   have Ay:=rrV C5 R hb
   refine wp_region_quiet_below (by first | assumption | kernel_rfl) (by kernel_rfl) ?_
   repeat (quiet_step (first | (with_reducible exact Ax.out _ _) | (with_reducible exact Ay.out _ _)))
   refine wpQuiet_nil ?_
   intro w1 hw'
   obtain ⟨hk,hb⟩:=zQ hb hw'
   clear Aa Ab Ac Ad Ae Af Ag
   replace a0:=zB hk a0
   replace a1:=zB hk a1
   replace a2:=zB hk a2
   obtain ⟨Aa,Ab,Ac⟩:=ce3 a0
   obtain ⟨Ad,Ae⟩:=ce2 a1
   obtain ⟨Af,Ag⟩:=ce2 a2
   clear Ax Ay Az A0 A1 A2 A3 A4 A5
   clear hk hw'
   go_wp2
   first | go_ret | go_ret2 | go_ret3
   exact ⟨rfl,hb⟩
theorem cut_1 (m:Int) (a b c x y u v:Rat) (q0:(((a*x)+(b*y)) - c)≠(((a*u)+(b*v)) - c)) (q1:(((a*x)+(b*y)) - c).num.sign*(((a*u)+(b*v)) - c).num.sign=m) (_hm:0 < m) (r1:RL a 200) (r2:RL b 200) (r3:RL c 200) (r4:a≠0∨b≠0) (r5:RL x 200) (r6:RL y 200) (r7:RL u 200) (r8:RL v 200) (r9:RL a 10000) (r10:RL x 10000) (r11:RL (a*x) 10000) (r12:RL b 10000) (r13:RL y 10000) (r14:RL ((0:Rat)+(a*x)) 10000) (r15:RL (b*y) 10000) (r16:RL c 10000) (r17:RL (((0:Rat)+(a*x))+(b*y)) 10000) (r18:RL ((-1:Rat)*c) 10000) (r19:RL u 10000) (r20:RL (a*u) 10000) (r21:RL v 10000) (r22:RL ((0:Rat)+(a*u)) 10000) (r23:RL (b*v) 10000) (r24:RL (((0:Rat)+(a*u))+(b*v)) 10000) (r25:RL (((a*x)+(b*y)) - c) 100000) (r26:RL (((a*u)+(b*v)) - c) 100000) (w:World) (R:EnvV w) :
   Calls Tryz.prog 59 #[.agg #[.string (ratB a),.string (ratB b),.string (ratB c)],.agg #[.string (ratB x),.string (ratB y)],.agg #[.string (ratB u),.string (ratB v)]] w (Ret w (.tuple #[.string ⟨#[]⟩,.bool false,.int .i64 0])):=by
 have c1:=checkLine_ok a b c r1 r2 r3 r4
 have c2:=fun (w:World) (R:EnvV w)=>checkPts2 x y u v r5 r6 r7 r8 w R.toEnvR
 have c3:=fun (w:World) (R:EnvV w)=>orErr2 0 0 0 (by decide) w R.toEnvR
 have c4:=level2_any a b c x y r9 r10 r11 r12 r13 r14 r15 r16 r17 r18
 have c5:=level2_any a b c u v r9 r19 r20 r12 r21 r22 r23 r16 r24 r18
 have c6:=fun (w:World) (R:EnvV w)=>rsign_any (((a*x)+(b*y)) - c) r25 w R.toEnvR
 have c7:=fun (w:World) (R:EnvV w)=>rsign_any (((a*u)+(b*v)) - c) r26 w R.toEnvR
 have eq0:((ratB (((a*x)+(b*y)) - c)).toList == (ratB (((a*u)+(b*v)) - c)).toList)=false:=beq_eq_false_iff_ne.2 (fun g=>q0 (ratB_li g))
 have pq0:¬ (ratB (((a*x)+(b*y)) - c)).toList=(ratB (((a*u)+(b*v)) - c)).toList:=fun g=>q0 (ratB_li g)
 have hw:IntKind.i64.wrap ((((a*x)+(b*y)) - c).num.sign*(((a*u)+(b*v)) - c).num.sign)=m:=(sign_wrap _ _ (sign_in _) (sign_in _)).trans q1
 have g2:∀ (W:World) (blk:Nat),EnvV W→W.cell? ⟨blk,0,none⟩=some (.string (ratB x))→W.cell? ⟨blk,1,none⟩=some (.string (ratB y))→W.cell? ⟨blk,2,none⟩=some (.string (ratB u))→W.cell? ⟨blk,3,none⟩=some (.string (ratB v))→Calls Tryz.prog 95 #[.slice (some ⟨blk,0,none⟩) 2 2] W fun e w' => e = .returned (.int .i64 0)∧Below W.heap.size W w':=fun W blk R h0 h1 h2 h3=>pts_at x y u v r5 r6 r7 r8 W blk R h0 h1 h2 h3
 have g3:∀ (W:World) (blk:Nat),EnvV W→W.cell? ⟨blk,0,none⟩=some (.int .i64 0)→W.cell? ⟨blk,1,none⟩=some (.int .i64 0)→Calls Tryz.prog 69 #[.slice (some ⟨blk,0,none⟩) 2 2] W fun e w' => e = .returned (.int .i64 0)∧Below W.heap.size W w':=fun W blk R h0 h1=>or_at 0 0 0 (by decide) W blk R h0 h1
 obtain ⟨A6,Ao⟩:∃ vq,ratB (((a*u)+(b*v)) - c)=vq:=⟨_,rfl⟩
 obtain ⟨A7,Ap⟩:∃ vq,ratB (((a*x)+(b*y)) - c)=vq:=⟨_,rfl⟩
 obtain ⟨Ah,Aq⟩:∃ vq,ratB a=vq:=⟨_,rfl⟩
 obtain ⟨Ai,Ar⟩:∃ vq,ratB b=vq:=⟨_,rfl⟩
 obtain ⟨Aj,As⟩:∃ vq,ratB c=vq:=⟨_,rfl⟩
 obtain ⟨Ak,At⟩:∃ vq,ratB u=vq:=⟨_,rfl⟩
 obtain ⟨Al,Au⟩:∃ vq,ratB v=vq:=⟨_,rfl⟩
 obtain ⟨Am,Av⟩:∃ vq,ratB x=vq:=⟨_,rfl⟩
 obtain ⟨An,Aw⟩:∃ vq,ratB y=vq:=⟨_,rfl⟩
 try simp only [Ao,Ap,Aq,Ar,As,At,Au,Av,Aw] at c1 c2 c3 c4 c5 c6 c7 eq0 pq0 hw g2 g3 ⊢
 obtain ⟨s,es⟩:∃ vq,(((a*x)+(b*y)) - c).num.sign=vq:=⟨_,rfl⟩
 try simp only [es] at c1 c2 c3 c4 c5 c6 c7 eq0 pq0 hw g2 g3 ⊢
 obtain ⟨t',et'⟩:∃ vq,(((a*u)+(b*v)) - c).num.sign=vq:=⟨_,rfl⟩
 try simp only [et'] at c1 c2 c3 c4 c5 c6 c7 eq0 pq0 hw g2 g3 ⊢
 have C1:=Lib.hid c1
 have C2:=Lib.hid c2
 have C3:=Lib.hid c3
 have C4:=Lib.hid c4
 have C5:=Lib.hid c5
 have C6:=Lib.hid c6
 have C7:=Lib.hid c7
 clear c1 c2 c3 c4 c5 c6 c7 Ao Ap Aq Ar As At Au Av Aw es et' q0 q1 r1 r2 r3 r4 r5 r6 r7 r8 r9 r10 r11 r12 r13 r14 r15 r16 r17 r18 r19 r20 r21 r22 r23 r24 r25 r26
 have G2:=Lib.hid g2
 have G3:=Lib.hid g3
 clear g2 g3
 have hb:=Below.refl w.heap.size w
 go_enter Tryz.func59,Tryz.ntmps59
 go_upto_region 1 with fail
 refine wp_alloc3 (fun w1 a0 a1 a2 hk=>?_)
 replace hb:=hb.trans (hk.mono hb.size)
 clear hk
 obtain ⟨Aa,Ab,Ac⟩:=ce3 a0
 obtain ⟨Ad,Ae⟩:=ce2 a1
 obtain ⟨Af,Ag⟩:=ce2 a2
 have H0:=Lib.hid (show Below w.heap.size w w1∧w1.heap[w.heap.size]? = some (Obj.cells #[Value.string Ah,Value.string Ai,Value.string Aj] 81)∧w1.heap[w.heap.size+1]? = some (Obj.cells #[Value.string Am,Value.string An] 30)∧w1.heap[w.heap.size+2]? = some (Obj.cells #[Value.string Ak,Value.string Al] 30)∧w1.cell? ⟨w.heap.size,0,none⟩=some (Value.string Ah)∧w1.cell? ⟨w.heap.size,1,none⟩=some (Value.string Ai)∧w1.cell? ⟨w.heap.size,2,none⟩=some (Value.string Aj)∧w1.cell? ⟨w.heap.size+1,0,none⟩=some (Value.string Am)∧w1.cell? ⟨w.heap.size+1,1,none⟩=some (Value.string An)∧w1.cell? ⟨w.heap.size+2,0,none⟩=some (Value.string Ak)∧w1.cell? ⟨w.heap.size+2,1,none⟩=some (Value.string Al) from ⟨hb,a0,a1,a2,Aa,Ab,Ac,Ad,Ae,Af,Ag⟩)
 clear hb a0 a1 a2 Aa Ab Ac Ad Ae Af Ag
 go_upto_region 1 with fail
 go_region_held3 (fun w' => Below w.heap.size w w'∧w'.heap[w.heap.size]? = some (Obj.cells #[Value.string Ah,Value.string Ai,Value.string Aj] 81)∧w'.heap[w.heap.size+1]? = some (Obj.cells #[Value.string Am,Value.string An] 30)∧w'.heap[w.heap.size+2]? = some (Obj.cells #[Value.string Ak,Value.string Al] 30)∧w'.cell? ⟨w.heap.size,0,none⟩=some (Value.string Ah)∧w'.cell? ⟨w.heap.size,1,none⟩=some (Value.string Ai)∧w'.cell? ⟨w.heap.size,2,none⟩=some (Value.string Aj)∧w'.cell? ⟨w.heap.size+1,0,none⟩=some (Value.string Am)∧w'.cell? ⟨w.heap.size+1,1,none⟩=some (Value.string An)∧w'.cell? ⟨w.heap.size+2,0,none⟩=some (Value.string Ak)∧w'.cell? ⟨w.heap.size+2,1,none⟩=some (Value.string Al))
   (first | exact held_cut (Below.refl _ _).drew H0.out | exact held_cut hk2 (by assumption) | exact held_cut (laid1 _ _).2 (by assumption))
   (first | (go_at_call 106;(with_reducible refine (C1.out _ (R.below (And.left (by assumption)))).mono ?_);rintro e w1 ⟨rfl,hk2⟩) | (go_at_call 95;(with_reducible refine (G2.out _ _ (R.below (And.left (by assumption))) ?_ ?_ ?_ ?_).mono ?_);(first | exact zA (World.alloc_heap_new _ _) | exact zC hk2 (zA (World.alloc_heap_new _ _)));(first | exact zA (World.alloc_heap_new _ _) | exact zC hk2 (zA (World.alloc_heap_new _ _)));(first | exact zA (World.alloc_heap_new _ _) | exact zC hk2 (zA (World.alloc_heap_new _ _)));(first | exact zA (World.alloc_heap_new _ _) | exact zC hk2 (zA (World.alloc_heap_new _ _)));rintro e w1 ⟨rfl,hk2⟩) | (go_at_call 69;(with_reducible refine (G3.out _ _ (R.below (And.left (by assumption))) ?_ ?_).mono ?_);exact zA (World.alloc_heap_new _ _);exact zA (World.alloc_heap_new _ _);rintro e w1 ⟨rfl,hk2⟩))
 all_goals
   clear H0 G2 G3 hk2
   obtain ⟨hb,a0,a1,a2,Aa,Ab,Ac,Ad,Ae,Af,Ag⟩:=(by assumption:Below w.heap.size w w1∧_)
   go_upto_region 4 with ((first | (go_at_call 95;with_reducible refine (zL hb (C2.out _ (R.below hb))).mono ?_) | (go_at_call 69;with_reducible refine (zL hb (C3.out _ (R.below hb))).mono ?_));clear hb;rintro e w1 ⟨rfl,hk,hb⟩;clear Aa Ab Ac Ad Ae Af Ag;replace a0:=zB hk a0;replace a1:=zB hk a1;replace a2:=zB hk a2;obtain ⟨Aa,Ab,Ac⟩:=ce3 a0;obtain ⟨Ad,Ae⟩:=ce2 a1;obtain ⟨Af,Ag⟩:=ce2 a2;clear hk)
   obtain ⟨Az,A0,A1⟩:=cy3 a0
   obtain ⟨A2,A3⟩:=cy2 a1
   obtain ⟨A4,A5⟩:=cy2 a2
   have Ax:=rrV C4 R hb
   have Ay:=rrV C5 R hb
   refine wp_region_quiet_below (by first | assumption | kernel_rfl) (by kernel_rfl) ?_
   repeat (quiet_step (first | (with_reducible exact Ax.out _ _) | (with_reducible exact Ay.out _ _)))
   refine wpQuiet_nil ?_
   intro w1 hw'
   obtain ⟨hk,hb⟩:=zQ hb hw'
   clear Aa Ab Ac Ad Ae Af Ag
   replace a0:=zB hk a0
   replace a1:=zB hk a1
   replace a2:=zB hk a2
   obtain ⟨Aa,Ab,Ac⟩:=ce3 a0
   obtain ⟨Ad,Ae⟩:=ce2 a1
   obtain ⟨Af,Ag⟩:=ce2 a2
   clear Ax Ay Az A0 A1 A2 A3 A4 A5
   clear hk hw'
   go_wp2_with ((go_at_call 96;first | with_reducible refine (chVB hb R C6).mono ?_ | with_reducible refine (chVB hb R C7).mono ?_);clear hb;rintro e w1 ⟨rfl,hk,hb⟩;clear hk)
   first | go_ret | go_ret2 | go_ret3
   exact ⟨rfl,hb⟩
theorem cut_2 (m:Int) (a b c x y u v:Rat) (q0:(((a*x)+(b*y)) - c)≠(((a*u)+(b*v)) - c)) (q1:(((a*x)+(b*y)) - c).num.sign*(((a*u)+(b*v)) - c).num.sign=m) (_hm:m≤0) (r1:RL a 200) (r2:RL b 200) (r3:RL c 200) (r4:a≠0∨b≠0) (r5:RL x 200) (r6:RL y 200) (r7:RL u 200) (r8:RL v 200) (r9:RL a 10000) (r10:RL x 10000) (r11:RL (a*x) 10000) (r12:RL b 10000) (r13:RL y 10000) (r14:RL ((0:Rat)+(a*x)) 10000) (r15:RL (b*y) 10000) (r16:RL c 10000) (r17:RL (((0:Rat)+(a*x))+(b*y)) 10000) (r18:RL ((-1:Rat)*c) 10000) (r19:RL u 10000) (r20:RL (a*u) 10000) (r21:RL v 10000) (r22:RL ((0:Rat)+(a*u)) 10000) (r23:RL (b*v) 10000) (r24:RL (((0:Rat)+(a*u))+(b*v)) 10000) (r25:RL (((a*x)+(b*y)) - c) 100000) (r26:RL (((a*u)+(b*v)) - c) 100000) (r27:RL (((a*x)+(b*y)) - c) 10000) (r28:RL (((a*u)+(b*v)) - c) 10000) (r29:((((a*x)+(b*y)) - c) - (((a*u)+(b*v)) - c))≠0) (r30:RL ((((a*x)+(b*y)) - c) - (((a*u)+(b*v)) - c)) 10000) (r31:RL ((((a*x)+(b*y)) - c) / ((((a*x)+(b*y)) - c) - (((a*u)+(b*v)) - c))) 200) (w:World) (R:EnvV w) :
   Calls Tryz.prog 59 #[.agg #[.string (ratB a),.string (ratB b),.string (ratB c)],.agg #[.string (ratB x),.string (ratB y)],.agg #[.string (ratB u),.string (ratB v)]] w (Ret w (.tuple #[.string (ratB ((((a*x)+(b*y)) - c) / ((((a*x)+(b*y)) - c) - (((a*u)+(b*v)) - c)))),.bool true,.int .i64 0])):=by
 have c1:=checkLine_ok a b c r1 r2 r3 r4
 have c2:=fun (w:World) (R:EnvV w)=>checkPts2 x y u v r5 r6 r7 r8 w R.toEnvR
 have c3:=fun (w:World) (R:EnvV w)=>orErr2 0 0 0 (by decide) w R.toEnvR
 have c4:=level2_any a b c x y r9 r10 r11 r12 r13 r14 r15 r16 r17 r18
 have c5:=level2_any a b c u v r9 r19 r20 r12 r21 r22 r23 r16 r24 r18
 have c6:=fun (w:World) (R:EnvV w)=>rsign_any (((a*x)+(b*y)) - c) r25 w R.toEnvR
 have c7:=fun (w:World) (R:EnvV w)=>rsign_any (((a*u)+(b*v)) - c) r26 w R.toEnvR
 have c8:=fun (w:World) (R:EnvV w)=>rsub_any (((a*x)+(b*y)) - c) (((a*u)+(b*v)) - c) r27 r28 w R.toEnvR
 have c9:=fun (w:World) (R:EnvV w)=>rdiv_any (((a*x)+(b*y)) - c) ((((a*x)+(b*y)) - c) - (((a*u)+(b*v)) - c)) r27 r30 r29 w R.toEnvR
 have c10:∀ w,EnvV w→Calls Tryz.prog 75 #[.string (ratB ((((a*x)+(b*y)) - c) / ((((a*x)+(b*y)) - c) - (((a*u)+(b*v)) - c)))),.slice (some ⟨w.heap.size,0,none⟩) 1 1] (w.alloc (Obj.cells #[Value.string (ratB ((((a*x)+(b*y)) - c) / ((((a*x)+(b*y)) - c) - (((a*u)+(b*v)) - c))))] 22)) (Ret w (.tuple #[.string (ratB ((((a*x)+(b*y)) - c) / ((((a*x)+(b*y)) - c) - (((a*u)+(b*v)) - c)))),.int .i64 0])):=fun w R=>resR (ratB ((((a*x)+(b*y)) - c) / ((((a*x)+(b*y)) - c) - (((a*u)+(b*v)) - c)))) (ratB ((((a*x)+(b*y)) - c) / ((((a*x)+(b*y)) - c) - (((a*u)+(b*v)) - c)))) (by intro t ht;simp only [List.mem_cons,List.not_mem_nil,or_false] at ht;subst ht;exact ⟨_,rfl,r31⟩) w R.toEnvR
 have eq0:((ratB (((a*x)+(b*y)) - c)).toList == (ratB (((a*u)+(b*v)) - c)).toList)=false:=beq_eq_false_iff_ne.2 (fun g=>q0 (ratB_li g))
 have pq0:¬ (ratB (((a*x)+(b*y)) - c)).toList=(ratB (((a*u)+(b*v)) - c)).toList:=fun g=>q0 (ratB_li g)
 have hw:IntKind.i64.wrap ((((a*x)+(b*y)) - c).num.sign*(((a*u)+(b*v)) - c).num.sign)=m:=(sign_wrap _ _ (sign_in _) (sign_in _)).trans q1
 have g2:∀ (W:World) (blk:Nat),EnvV W→W.cell? ⟨blk,0,none⟩=some (.string (ratB x))→W.cell? ⟨blk,1,none⟩=some (.string (ratB y))→W.cell? ⟨blk,2,none⟩=some (.string (ratB u))→W.cell? ⟨blk,3,none⟩=some (.string (ratB v))→Calls Tryz.prog 95 #[.slice (some ⟨blk,0,none⟩) 2 2] W fun e w' => e = .returned (.int .i64 0)∧Below W.heap.size W w':=fun W blk R h0 h1 h2 h3=>pts_at x y u v r5 r6 r7 r8 W blk R h0 h1 h2 h3
 have g3:∀ (W:World) (blk:Nat),EnvV W→W.cell? ⟨blk,0,none⟩=some (.int .i64 0)→W.cell? ⟨blk,1,none⟩=some (.int .i64 0)→Calls Tryz.prog 69 #[.slice (some ⟨blk,0,none⟩) 2 2] W fun e w' => e = .returned (.int .i64 0)∧Below W.heap.size W w':=fun W blk R h0 h1=>or_at 0 0 0 (by decide) W blk R h0 h1
 obtain ⟨A8,Ao⟩:∃ vq,ratB ((((a*x)+(b*y)) - c) / ((((a*x)+(b*y)) - c) - (((a*u)+(b*v)) - c)))=vq:=⟨_,rfl⟩
 obtain ⟨A9,Ap⟩:∃ vq,ratB ((((a*x)+(b*y)) - c) - (((a*u)+(b*v)) - c))=vq:=⟨_,rfl⟩
 obtain ⟨Ba,Aq⟩:∃ vq,ratB (((a*u)+(b*v)) - c)=vq:=⟨_,rfl⟩
 obtain ⟨Bb,Ar⟩:∃ vq,ratB (((a*x)+(b*y)) - c)=vq:=⟨_,rfl⟩
 obtain ⟨Ah,As⟩:∃ vq,ratB a=vq:=⟨_,rfl⟩
 obtain ⟨Ai,At⟩:∃ vq,ratB b=vq:=⟨_,rfl⟩
 obtain ⟨Aj,Au⟩:∃ vq,ratB c=vq:=⟨_,rfl⟩
 obtain ⟨Ak,Av⟩:∃ vq,ratB u=vq:=⟨_,rfl⟩
 obtain ⟨Al,Aw⟩:∃ vq,ratB v=vq:=⟨_,rfl⟩
 obtain ⟨Am,Ax⟩:∃ vq,ratB x=vq:=⟨_,rfl⟩
 obtain ⟨An,Ay⟩:∃ vq,ratB y=vq:=⟨_,rfl⟩
 try simp only [Ao,Ap,Aq,Ar,As,At,Au,Av,Aw,Ax,Ay] at c1 c2 c3 c4 c5 c6 c7 c8 c9 c10 eq0 pq0 hw g2 g3 ⊢
 obtain ⟨s,es⟩:∃ vq,(((a*x)+(b*y)) - c).num.sign=vq:=⟨_,rfl⟩
 try simp only [es] at c1 c2 c3 c4 c5 c6 c7 c8 c9 c10 eq0 pq0 hw g2 g3 ⊢
 obtain ⟨t',et'⟩:∃ vq,(((a*u)+(b*v)) - c).num.sign=vq:=⟨_,rfl⟩
 try simp only [et'] at c1 c2 c3 c4 c5 c6 c7 c8 c9 c10 eq0 pq0 hw g2 g3 ⊢
 have C1:=Lib.hid c1
 have C2:=Lib.hid c2
 have C3:=Lib.hid c3
 have C4:=Lib.hid c4
 have C5:=Lib.hid c5
 have C6:=Lib.hid c6
 have C7:=Lib.hid c7
 have C8:=Lib.hid c8
 have C9:=Lib.hid c9
 have C10:=Lib.hid c10
 clear c1 c2 c3 c4 c5 c6 c7 c8 c9 c10 Ao Ap Aq Ar As At Au Av Aw Ax Ay es et' q0 q1 r1 r2 r3 r4 r5 r6 r7 r8 r9 r10 r11 r12 r13 r14 r15 r16 r17 r18 r19 r20 r21 r22 r23 r24 r25 r26 r27 r28 r29 r30 r31
 have G2:=Lib.hid g2
 have G3:=Lib.hid g3
 clear g2 g3
 have hb:=Below.refl w.heap.size w
 go_enter Tryz.func59,Tryz.ntmps59
 go_upto_region 1 with fail
 refine wp_alloc3 (fun w1 a0 a1 a2 hk=>?_)
 replace hb:=hb.trans (hk.mono hb.size)
 clear hk
 obtain ⟨Aa,Ab,Ac⟩:=ce3 a0
 obtain ⟨Ad,Ae⟩:=ce2 a1
 obtain ⟨Af,Ag⟩:=ce2 a2
 have H0:=Lib.hid (show Below w.heap.size w w1∧w1.heap[w.heap.size]? = some (Obj.cells #[Value.string Ah,Value.string Ai,Value.string Aj] 81)∧w1.heap[w.heap.size+1]? = some (Obj.cells #[Value.string Am,Value.string An] 30)∧w1.heap[w.heap.size+2]? = some (Obj.cells #[Value.string Ak,Value.string Al] 30)∧w1.cell? ⟨w.heap.size,0,none⟩=some (Value.string Ah)∧w1.cell? ⟨w.heap.size,1,none⟩=some (Value.string Ai)∧w1.cell? ⟨w.heap.size,2,none⟩=some (Value.string Aj)∧w1.cell? ⟨w.heap.size+1,0,none⟩=some (Value.string Am)∧w1.cell? ⟨w.heap.size+1,1,none⟩=some (Value.string An)∧w1.cell? ⟨w.heap.size+2,0,none⟩=some (Value.string Ak)∧w1.cell? ⟨w.heap.size+2,1,none⟩=some (Value.string Al) from ⟨hb,a0,a1,a2,Aa,Ab,Ac,Ad,Ae,Af,Ag⟩)
 clear hb a0 a1 a2 Aa Ab Ac Ad Ae Af Ag
 go_upto_region 1 with fail
 go_region_held3 (fun w' => Below w.heap.size w w'∧w'.heap[w.heap.size]? = some (Obj.cells #[Value.string Ah,Value.string Ai,Value.string Aj] 81)∧w'.heap[w.heap.size+1]? = some (Obj.cells #[Value.string Am,Value.string An] 30)∧w'.heap[w.heap.size+2]? = some (Obj.cells #[Value.string Ak,Value.string Al] 30)∧w'.cell? ⟨w.heap.size,0,none⟩=some (Value.string Ah)∧w'.cell? ⟨w.heap.size,1,none⟩=some (Value.string Ai)∧w'.cell? ⟨w.heap.size,2,none⟩=some (Value.string Aj)∧w'.cell? ⟨w.heap.size+1,0,none⟩=some (Value.string Am)∧w'.cell? ⟨w.heap.size+1,1,none⟩=some (Value.string An)∧w'.cell? ⟨w.heap.size+2,0,none⟩=some (Value.string Ak)∧w'.cell? ⟨w.heap.size+2,1,none⟩=some (Value.string Al))
   (first | exact held_cut (Below.refl _ _).drew H0.out | exact held_cut hk2 (by assumption) | exact held_cut (laid1 _ _).2 (by assumption))
   (first | (go_at_call 106;(with_reducible refine (C1.out _ (R.below (And.left (by assumption)))).mono ?_);rintro e w1 ⟨rfl,hk2⟩) | (go_at_call 95;(with_reducible refine (G2.out _ _ (R.below (And.left (by assumption))) ?_ ?_ ?_ ?_).mono ?_);(first | exact zA (World.alloc_heap_new _ _) | exact zC hk2 (zA (World.alloc_heap_new _ _)));(first | exact zA (World.alloc_heap_new _ _) | exact zC hk2 (zA (World.alloc_heap_new _ _)));(first | exact zA (World.alloc_heap_new _ _) | exact zC hk2 (zA (World.alloc_heap_new _ _)));(first | exact zA (World.alloc_heap_new _ _) | exact zC hk2 (zA (World.alloc_heap_new _ _)));rintro e w1 ⟨rfl,hk2⟩) | (go_at_call 69;(with_reducible refine (G3.out _ _ (R.below (And.left (by assumption))) ?_ ?_).mono ?_);exact zA (World.alloc_heap_new _ _);exact zA (World.alloc_heap_new _ _);rintro e w1 ⟨rfl,hk2⟩))
 all_goals
   clear H0 G2 G3 hk2
   obtain ⟨hb,a0,a1,a2,Aa,Ab,Ac,Ad,Ae,Af,Ag⟩:=(by assumption:Below w.heap.size w w1∧_)
   go_upto_region 4 with ((first | (go_at_call 95;with_reducible refine (zL hb (C2.out _ (R.below hb))).mono ?_) | (go_at_call 69;with_reducible refine (zL hb (C3.out _ (R.below hb))).mono ?_));clear hb;rintro e w1 ⟨rfl,hk,hb⟩;clear Aa Ab Ac Ad Ae Af Ag;replace a0:=zB hk a0;replace a1:=zB hk a1;replace a2:=zB hk a2;obtain ⟨Aa,Ab,Ac⟩:=ce3 a0;obtain ⟨Ad,Ae⟩:=ce2 a1;obtain ⟨Af,Ag⟩:=ce2 a2;clear hk)
   obtain ⟨A1,A2,A3⟩:=cy3 a0
   obtain ⟨A4,A5⟩:=cy2 a1
   obtain ⟨A6,A7⟩:=cy2 a2
   have Az:=rrV C4 R hb
   have A0:=rrV C5 R hb
   refine wp_region_quiet_below (by first | assumption | kernel_rfl) (by kernel_rfl) ?_
   repeat (quiet_step (first | (with_reducible exact Az.out _ _) | (with_reducible exact A0.out _ _)))
   refine wpQuiet_nil ?_
   intro w1 hw'
   obtain ⟨hk,hb⟩:=zQ hb hw'
   clear Aa Ab Ac Ad Ae Af Ag
   replace a0:=zB hk a0
   replace a1:=zB hk a1
   replace a2:=zB hk a2
   obtain ⟨Aa,Ab,Ac⟩:=ce3 a0
   obtain ⟨Ad,Ae⟩:=ce2 a1
   obtain ⟨Af,Ag⟩:=ce2 a2
   clear Az A0 A1 A2 A3 A4 A5 A6 A7
   clear hk hw'
   go_wp2_with ((first | (go_at_call 96;first | with_reducible refine (chVB hb R C6).mono ?_ | with_reducible refine (chVB hb R C7).mono ?_) | (go_at_call 73;with_reducible refine (chVB hb R C8).mono ?_) | (go_at_call 111;with_reducible refine (chVB hb R C9).mono ?_) | (go_at_call 75;with_reducible refine (zL hb (C10.out _ (R.below hb))).mono ?_));clear hb;rintro e w1 ⟨rfl,hk,hb⟩;clear hk)
   first | go_ret | go_ret2 | go_ret3
   exact ⟨rfl,hb⟩
theorem meet_par (a b c x y z:Rat) (q0:((a*y) - (b*x))=0) (r1:RL a 10000) (r2:RL y 10000) (r3:RL b 10000) (r4:RL x 10000) (r5:RL (a*y) 10000) (r6:RL (b*x) 10000) (r7:RL c 10000) (r8:RL z 10000) (r9:RL (c*y) 10000) (r10:RL (b*z) 10000) (w:World) (R:EnvV w) :
   Calls Tryz.prog 107 #[.agg #[.string (ratB a),.string (ratB b),.string (ratB c)],.agg #[.string (ratB x),.string (ratB y),.string (ratB z)]] w (Ret w (.tuple #[.agg #[.string ⟨#[]⟩,.string ⟨#[]⟩],.bool false])):=by
 have c1:CV 126 #[.string (ratB a),.string (ratB b),.string (ratB x),.string (ratB y)] (.string ⟨#[48]⟩):=fun w R=>(by have h:=det_any a b x y r1 r2 r3 r4 r5 r6 w R.toEnvR;rw [q0,rb_0] at h;exact h)
 have c2:=fun (w:World) (R:EnvV w)=>det_any c b z y r7 r2 r3 r8 r9 r10 w R.toEnvR
 have c3:CV 111 #[.string (ratB ((c*y) - (b*z))),.string ⟨#[48]⟩] (.tuple #[.string ⟨#[]⟩,.int .i64 17]):=fun w R=>(by have h:=rdiv_zero (ratB ((c*y) - (b*z))) w R.toEnvR;rw [rb_0] at h;exact h)
 obtain ⟨Ar,Ac⟩:∃ vq,ratB ((c*y) - (b*z))=vq:=⟨_,rfl⟩
 obtain ⟨As,Ad⟩:∃ vq,ratB a=vq:=⟨_,rfl⟩
 obtain ⟨At,Ae⟩:∃ vq,ratB b=vq:=⟨_,rfl⟩
 obtain ⟨Au,Af⟩:∃ vq,ratB c=vq:=⟨_,rfl⟩
 obtain ⟨Av,Ag⟩:∃ vq,ratB x=vq:=⟨_,rfl⟩
 obtain ⟨Aw,Ah⟩:∃ vq,ratB y=vq:=⟨_,rfl⟩
 obtain ⟨Ax,Ai⟩:∃ vq,ratB z=vq:=⟨_,rfl⟩
 try simp only [Ac,Ad,Ae,Af,Ag,Ah,Ai] at c1 c2 c3 ⊢
 have C1:=Lib.hid c1
 have C2:=Lib.hid c2
 have C3:=Lib.hid c3
 clear c1 c2 c3 Ac Ad Ae Af Ag Ah Ai q0 r1 r2 r3 r4 r5 r6 r7 r8 r9 r10
 have hb:=Below.refl w.heap.size w
 go_enter Tryz.func107,Tryz.ntmps107
 go_upto_region 1 with fail
 refine wp_alloc3 (fun w1 a0 a1 a2 hk=>?_)
 replace hb:=hb.trans (hk.mono hb.size)
 clear hk
 obtain ⟨Aj,Ak,Al⟩:=ce3 a0
 obtain ⟨Am,An,Ao⟩:=ce3 a1
 obtain ⟨Aa,Ap,Ab,Aq⟩:=cf2 a2
 go_wp2_with ((first | (go_at_call 126;first | with_reducible refine (chVB hb R C1).mono ?_ | with_reducible refine (chVB hb R C2).mono ?_) | (go_at_call 111;with_reducible refine (chVB hb R C3).mono ?_));clear hb;rintro e w1 ⟨rfl,hk,hb⟩;clear Aj Ak Al Am An Ao Aa Ab Ap Aq;replace a0:=zB hk a0;replace a1:=zB hk a1;replace a2:=zB hk a2;obtain ⟨Aj,Ak,Al⟩:=ce3 a0;obtain ⟨Am,An,Ao⟩:=ce3 a1;obtain ⟨Aa,Ap,Ab,Aq⟩:=cf2 a2;clear hk)
 refine bodyPost_ret (v:=.tuple #[.agg #[.string ⟨#[]⟩,.string ⟨#[]⟩],.bool false]) (by simp [results,Tryz.results107,go_sem,Aa,Ab]) rfl ⟨rfl,?_⟩
 repeat' (first | exact hb | refine Below.setCell ?_ (by first | exact Nat.le_refl _ | (dsimp only;omega)) _)
theorem vmeet_par (a b c x y z:Rat) (q0:((a*y) - (b*x))=0) (r1:RL a 200) (r2:RL b 200) (r3:RL c 200) (r4:a≠0∨b≠0) (r5:RL x 200) (r6:RL y 200) (r7:RL z 200) (r8:x≠0∨y≠0) (r9:RL a 10000) (r10:RL y 10000) (r11:RL b 10000) (r12:RL x 10000) (r13:RL (a*y) 10000) (r14:RL (b*x) 10000) (r15:RL c 10000) (r16:RL z 10000) (r17:RL (c*y) 10000) (r18:RL (b*z) 10000) (w:World) (R:EnvV w) :
   Calls Tryz.prog 57 #[.agg #[.string (ratB a),.string (ratB b),.string (ratB c)],.agg #[.string (ratB x),.string (ratB y),.string (ratB z)]] w (Ret w (.tuple #[.agg #[.string ⟨#[]⟩,.string ⟨#[]⟩],.bool false,.int .i64 0])):=by
 have c1:=checkLine_ok a b c r1 r2 r3 r4
 have c2:=checkLine_ok x y z r5 r6 r7 r8
 have c3:=fun (w:World) (R:EnvV w)=>orErr2 0 0 0 (by decide) w R.toEnvR
 have c4:=meet_par a b c x y z q0 r9 r10 r11 r12 r13 r14 r15 r16 r17 r18
 obtain ⟨A0,Ak⟩:∃ vq,ratB a=vq:=⟨_,rfl⟩
 obtain ⟨A1,Al⟩:∃ vq,ratB b=vq:=⟨_,rfl⟩
 obtain ⟨A2,Am⟩:∃ vq,ratB c=vq:=⟨_,rfl⟩
 obtain ⟨A3,An⟩:∃ vq,ratB x=vq:=⟨_,rfl⟩
 obtain ⟨A4,Ao⟩:∃ vq,ratB y=vq:=⟨_,rfl⟩
 obtain ⟨A5,Ap⟩:∃ vq,ratB z=vq:=⟨_,rfl⟩
 try simp only [Ak,Al,Am,An,Ao,Ap] at c1 c2 c3 c4 ⊢
 have C1:=Lib.hid c1
 have C2:=Lib.hid c2
 have C3:=Lib.hid c3
 have C4:=Lib.hid c4
 clear c1 c2 c3 c4 Ak Al Am An Ao Ap q0 r1 r2 r3 r4 r5 r6 r7 r8 r9 r10 r11 r12 r13 r14 r15 r16 r17 r18
 have hb:=Below.refl w.heap.size w
 go_enter Tryz.func57,Tryz.ntmps57
 go_upto_region 1 with fail
 refine wp_alloc3 (fun w1 a0 a1 a2 hk=>?_)
 replace hb:=hb.trans (hk.mono hb.size)
 clear hk
 obtain ⟨Ae,Af,Ag⟩:=ce3 a0
 obtain ⟨Ah,Ai,Aj⟩:=ce3 a1
 obtain ⟨Aa,Ac,Ab,Ad⟩:=cf2 a2
 go_upto_region 1 with fail
 obtain ⟨As,At,Au⟩:=cy3 a0
 obtain ⟨Av,Aw,Ax⟩:=cy3 a1
 obtain ⟨Ay,Az⟩:=cy2 a2
 have Aq:=rrV C1 R hb
 have Ar:=rrV C2 R hb
 refine wp_region_tail_below 4 (by first | assumption | kernel_rfl) (by kernel_rfl) ?_
 simp only [List.take_succ_cons,List.take_zero,List.drop_succ_cons,List.drop_zero]
 repeat (quiet_step (first | (with_reducible exact Aq.out _ _) | (with_reducible exact Ar.out _ _)))
 refine wpQuiet_nil ?_
 intro w1 hw'
 obtain ⟨hk,hb⟩:=zQ hb hw'
 clear Ae Af Ag Ah Ai Aj Aa Ab Ac Ad
 replace a0:=zB hk a0
 replace a1:=zB hk a1
 replace a2:=zB hk a2
 obtain ⟨Ae,Af,Ag⟩:=ce3 a0
 obtain ⟨Ah,Ai,Aj⟩:=ce3 a1
 obtain ⟨Aa,Ac,Ab,Ad⟩:=cf2 a2
 clear Aq Ar As At Au Av Aw Ax Ay Az
 clear hk hw'
 go_upto_region 5 with ((first | (go_at_call 69;with_reducible refine (zL hb (C3.out _ (R.below hb))).mono ?_) | (go_at_call 107;with_reducible refine (chVB hb R C4).mono ?_));clear hb;rintro e w1 ⟨rfl,hk,hb⟩;clear Ae Af Ag Ah Ai Aj Aa Ab Ac Ad;replace a0:=zB hk a0;replace a1:=zB hk a1;replace a2:=zB hk a2;obtain ⟨Ae,Af,Ag⟩:=ce3 a0;obtain ⟨Ah,Ai,Aj⟩:=ce3 a1;obtain ⟨Aa,Ac,Ab,Ad⟩:=cf2 a2;clear hk)
 refine wp_settled2 hb (by omega) a2 (fun w1 hb a2 _=>?_)
 clear Aa Ab Ac Ad
 obtain ⟨Aa,Ac,Ab,Ad⟩:=cf2 a2
 go_wp2
 refine bodyPost_ret (v:=.tuple #[.agg #[.string ⟨#[]⟩,.string ⟨#[]⟩],.bool false,.int .i64 0]) (by simp [results,Tryz.results57,go_sem,Aa,Ab]) rfl ⟨rfl,?_⟩
 repeat' (first | exact hb | refine Below.setCell ?_ (by first | exact Nat.le_refl _ | (dsimp only;omega)) _)
end Go.Proofs.YtpennccflalobaaGreatDoor.Kl
