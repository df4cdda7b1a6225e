import Derived.Test.YtejfiegmdllfbaaGreatDoorKlAHeightsAtB
namespace Go.Proofs.YtejfiegmdllfbaaGreatDoor.Kl
open Go Go.RowKit
set_option maxRecDepth 100000
set_option maxHeartbeats 8000000
theorem or2_at (a b v:Int) (hv:firstNZ [a,b]=v) (W:World) (blk:Nat) (_:EnvV W) (h0:W.cell? ⟨blk,0,none⟩=some (.int .i64 a)) (h1:W.cell? ⟨blk,1,none⟩=some (.int .i64 b)) :
   Calls Tryz.prog 68 #[.slice (some ⟨blk,0,none⟩) 2 2] W fun e w' => e = .returned (.int .i64 v)∧Below W.heap.size W w':=by
 refine orErr_w blk 2 2 [a,b] rfl (by decide) v hv W ?_
 intro j t h
 match j,h with
 | 0,h=>injection h with h;subst h;exact h0
 | 1,h=>injection h with h;subst h;exact h1
 | j+2,h=>simp at h
theorem held2_6 {w W W':World} {k0 k1:Nat} {o0 o1:Obj} {p0 p1 p2 p3 p4 p5:Addr} {u0 u1 u2 u3 u4 u5:Value} (hk:Below W.heap.size W W') (h:Below w.heap.size w W∧W.heap[k0]? = some o0∧W.heap[k1]? = some o1∧W.cell? p0=some u0∧W.cell? p1=some u1∧W.cell? p2=some u2∧W.cell? p3=some u3∧W.cell? p4=some u4∧W.cell? p5=some u5):Below w.heap.size w W'∧W'.heap[k0]? = some o0∧W'.heap[k1]? = some o1∧W'.cell? p0=some u0∧W'.cell? p1=some u1∧W'.cell? p2=some u2∧W'.cell? p3=some u3∧W'.cell? p4=some u4∧W'.cell? p5=some u5:=
 ⟨h.1.trans (hk.mono h.1.size),zB hk h.2.1,zB hk h.2.2.1,zC hk h.2.2.2.1,zC hk h.2.2.2.2.1,zC hk h.2.2.2.2.2.1,zC hk h.2.2.2.2.2.2.1,zC hk h.2.2.2.2.2.2.2.1,zC hk h.2.2.2.2.2.2.2.2⟩
theorem slope_err  (ta tb tc:ByteArray) (ea eb v:Int) (ca:CV 83 #[.agg #[.string ta,.string tb,.string tc]] (.int .i64 ea)) (hv:firstNZ [ea,eb]=v) (q0:v≠0) (w:World) (R:EnvV w) :
   Calls Tryz.prog 75 #[.agg #[.string ta,.string tb,.string tc],.int .i64 eb] w (Ret w (.int .i64 v)):=by
 have c1:=ca
 have c2:=fun (w:World) (R:EnvV w)=>orErr2 ea eb v hv w R.toEnvR
 have eq0:(v == 0)=false:=beq_eq_false_iff_ne.2 q0
 have pq0:¬ v=0:=q0
 have C1:=Lib.hid c1
 have C2:=Lib.hid c2
 clear c1 c2 q0 ca hv
 have hb:=Below.refl w.heap.size w
 go_enter Tryz.func75,Tryz.ntmps75
 go_upto_region 1 with fail
 refine wp_alloc1 (fun w1 a0 hk=>?_)
 replace hb:=hb.trans (hk.mono hb.size)
 clear hk
 obtain ⟨Aa,Ab,Ac⟩:=ce3 a0
 go_wp2_with ((first | (go_at_call 83;with_reducible refine (chVB hb R C1).mono ?_) | (go_at_call 68;with_reducible refine (zL hb (C2.out _ (R.below hb))).mono ?_));clear hb;rintro e w1 ⟨rfl,hk,hb⟩;clear Aa Ab Ac;replace a0:=zB hk a0;obtain ⟨Aa,Ab,Ac⟩:=ce3 a0;clear hk)
 first | go_ret | go_ret2 | go_ret3
 exact ⟨rfl,hb⟩
theorem slope_v (a b c:Rat) (h:a≠0∨b≠0∨c≠0) (ra:RL a 200) (rb:RL b 200) (rc:RL c 200) (g:c=0) (w:World) (R:EnvV w) :
   Calls Tryz.prog 75 #[.agg #[.string (ratB a),.string (ratB b),.string (ratB c)],.int .i64 0] w (Ret w (.int .i64 21)):=by
 have c1:=acheck_ok a b c h ra rb rc
 have c2:=fun (w:World) (R:EnvV w)=>orErr2 0 0 0 (by decide) w R.toEnvR
 have c3:=ver_t a b c g
 obtain ⟨Ag,Aa⟩:∃ vq,ratB a=vq:=⟨_,rfl⟩
 obtain ⟨Ah,Ab⟩:∃ vq,ratB b=vq:=⟨_,rfl⟩
 obtain ⟨Ai,Ac⟩:∃ vq,ratB c=vq:=⟨_,rfl⟩
 try simp only [Aa,Ab,Ac] at c1 c2 c3 ⊢
 have C1:=Lib.hid c1
 have C2:=Lib.hid c2
 have C3:=Lib.hid c3
 clear c1 c2 c3 Aa Ab Ac h ra rb rc g
 have hb:=Below.refl w.heap.size w
 go_enter Tryz.func75,Tryz.ntmps75
 go_upto_region 1 with fail
 refine wp_alloc1 (fun w1 a0 hk=>?_)
 replace hb:=hb.trans (hk.mono hb.size)
 clear hk
 obtain ⟨Ad,Ae,Af⟩:=ce3 a0
 go_wp2_with ((first | (go_at_call 83;with_reducible refine (chVB hb R C1).mono ?_) | (go_at_call 68;with_reducible refine (zL hb (C2.out _ (R.below hb))).mono ?_) | (go_at_call 47;with_reducible refine (chVB hb R C3).mono ?_));clear hb;rintro e w1 ⟨rfl,hk,hb⟩;clear Ad Ae Af;replace a0:=zB hk a0;obtain ⟨Ad,Ae,Af⟩:=ce3 a0;clear hk)
 first | go_ret | go_ret2 | go_ret3
 exact ⟨rfl,hb⟩
theorem height_err  (ta tb tc td te tf:ByteArray) (eo ep u v:Int) (co:CV 78 #[.string td] (.int .i64 eo)) (cp:CV 77 #[.agg #[.string te,.string tf]] (.int .i64 ep)) (hu:firstNZ [eo,ep]=u) (cs:CV 75 #[.agg #[.string ta,.string tb,.string tc],.int .i64 u] (.int .i64 v)) (q0:v≠0) (w:World) (R:EnvV w) :
   Calls Tryz.prog 35 #[.agg #[.string ta,.string tb,.string tc,.string td],.agg #[.string te,.string tf]] w (Ret w (.tuple #[.string ⟨#[]⟩,.int .i64 v])):=by
 have c1:=co
 have c2:=cp
 have c3:=fun (w:World) (R:EnvV w)=>orErr2 eo ep u hu w R.toEnvR
 have c4:=cs
 have eq0:(v == 0)=false:=beq_eq_false_iff_ne.2 q0
 have pq0:¬ v=0:=q0
 have gor:∀ (W:World) (blk:Nat),EnvV W→W.cell? ⟨blk,0,none⟩=some (.int .i64 eo)→W.cell? ⟨blk,1,none⟩=some (.int .i64 ep)→Calls Tryz.prog 68 #[.slice (some ⟨blk,0,none⟩) 2 2] W fun e w' => e = .returned (.int .i64 u)∧Below W.heap.size W w':=fun W blk R h0 h1=>or2_at eo ep u hu W blk R h0 h1
 have C1:=Lib.hid c1
 have C2:=Lib.hid c2
 have C3:=Lib.hid c3
 have C4:=Lib.hid c4
 clear c1 c2 c3 c4 q0 co cp hu cs
 have GOR:=Lib.hid gor
 clear gor
 have hb:=Below.refl w.heap.size w
 go_enter Tryz.func35,Tryz.ntmps35
 go_upto_region 1 with fail
 refine wp_alloc2 (fun w1 a0 a1 hk=>?_)
 replace hb:=hb.trans (hk.mono hb.size)
 clear hk
 obtain ⟨Aa,Ab,Ac,Ad⟩:=ce4 a0
 obtain ⟨Ae,Af⟩:=ce2 a1
 go_upto_region 1 with fail
 have H0:=Lib.hid (show Below w.heap.size w w1∧w1.heap[w.heap.size]? = some (Obj.cells #[Value.string ta,Value.string tb,Value.string tc,Value.string td] 55)∧w1.heap[w.heap.size+1]? = some (Obj.cells #[Value.string te,Value.string tf] 34)∧w1.cell? ⟨w.heap.size,0,none⟩=some (Value.string ta)∧w1.cell? ⟨w.heap.size,1,none⟩=some (Value.string tb)∧w1.cell? ⟨w.heap.size,2,none⟩=some (Value.string tc)∧w1.cell? ⟨w.heap.size,3,none⟩=some (Value.string td)∧w1.cell? ⟨w.heap.size+1,0,none⟩=some (Value.string te)∧w1.cell? ⟨w.heap.size+1,1,none⟩=some (Value.string tf) from ⟨hb,a0,a1,Aa,Ab,Ac,Ad,Ae,Af⟩)
 clear hb a0 a1 Aa Ab Ac Ad Ae Af
 go_region_held3 (fun w' => Below w.heap.size w w'∧w'.heap[w.heap.size]? = some (Obj.cells #[Value.string ta,Value.string tb,Value.string tc,Value.string td] 55)∧w'.heap[w.heap.size+1]? = some (Obj.cells #[Value.string te,Value.string tf] 34)∧w'.cell? ⟨w.heap.size,0,none⟩=some (Value.string ta)∧w'.cell? ⟨w.heap.size,1,none⟩=some (Value.string tb)∧w'.cell? ⟨w.heap.size,2,none⟩=some (Value.string tc)∧w'.cell? ⟨w.heap.size,3,none⟩=some (Value.string td)∧w'.cell? ⟨w.heap.size+1,0,none⟩=some (Value.string te)∧w'.cell? ⟨w.heap.size+1,1,none⟩=some (Value.string tf))
   (first | exact held2_6 (Below.refl _ _).drew H0.out | exact held2_6 hk2 (by assumption) | exact held2_6 (laid1 _ _).2 (by assumption))
   (first | (go_at_call 78;(with_reducible refine (C1.out _ (R.below (And.left (by assumption)))).mono ?_);rintro e w1 ⟨rfl,hk2⟩) | (go_at_call 77;(with_reducible refine (C2.out _ (R.below (And.left (by assumption)))).mono ?_);rintro e w1 ⟨rfl,hk2⟩) | (go_at_call 68;(with_reducible refine (GOR.out _ _ (R.below (And.left (by assumption))) ?_ ?_).mono ?_);(first | exact zA (World.alloc_heap_new _ _) | exact zC hk2 (zA (World.alloc_heap_new _ _)));(first | exact zA (World.alloc_heap_new _ _) | exact zC hk2 (zA (World.alloc_heap_new _ _)));rintro e w1 ⟨rfl,hk2⟩) | (go_at_call 75;(with_reducible refine (C4.out _ (R.below (And.left (by assumption)))).mono ?_);rintro e w1 ⟨rfl,hk2⟩))
 all_goals
   clear H0 GOR hk2
   obtain ⟨hb,a0,a1,Aa,Ab,Ac,Ad,Ae,Af⟩:=(by assumption:Below w.heap.size w w1∧_)
   go_wp2
   first | go_ret | go_ret2 | go_ret3
   exact ⟨rfl,hb⟩
theorem height_ok (a b c d x y:Rat) (r1:RL d 200) (r2:RL x 200) (r3:RL y 200) (r4:RL a 200) (r5:RL b 200) (r6:RL c 200) (r7:c≠0) (r8:RL a 10000) (r9:RL x 10000) (r10:RL b 10000) (r11:RL y 10000) (r12:RL (a*x) 10000) (r13:RL (b*y) 10000) (r14:RL d 10000) (r15:RL ((a*x)+(b*y)) 10000) (r16:RL (d - ((a*x)+(b*y))) 10000) (r17:RL c 10000) (r18:RL ((d - ((a*x)+(b*y))) / c) 200) (w:World) (R:EnvV w) :
   Calls Tryz.prog 35 #[.agg #[.string (ratB a),.string (ratB b),.string (ratB c),.string (ratB d)],.agg #[.string (ratB x),.string (ratB y)]] w (Ret w (.tuple #[.string (ratB ((d - ((a*x)+(b*y))) / c)),.int .i64 0])):=by
 have c1:=fun (w:World) (R:EnvV w)=>rcheck_any (ratB d) 0 (Or.inl ⟨isRat_of r1,rfl⟩) (Nat.le_trans (size_of_RL r1) (by decide)) w R.toEnvR
 have c2:=fun (w:World) (R:EnvV w)=>pcheck_ok x y r2 r3 w R.toEnvR
 have c3:=fun (w:World) (R:EnvV w)=>orErr2 0 0 0 (by decide) w R.toEnvR
 have c4:=slope_ok a b c r4 r5 r6 r7
 have c5:=alevel_any a b c x y r8 r9 r10 r11 r12 r13
 have c6:=fun (w:World) (R:EnvV w)=>rsub_any d ((a*x)+(b*y)) r14 r15 w R.toEnvR
 have c7:=quot_any (d - ((a*x)+(b*y))) c r7 r16 r17 r18
 have gor:∀ (W:World) (blk:Nat),EnvV W→W.cell? ⟨blk,0,none⟩=some (.int .i64 0)→W.cell? ⟨blk,1,none⟩=some (.int .i64 0)→Calls Tryz.prog 68 #[.slice (some ⟨blk,0,none⟩) 2 2] W fun e w' => e = .returned (.int .i64 0)∧Below W.heap.size W w':=fun W blk R h0 h1=>or2_at 0 0 0 (by decide) W blk R h0 h1
 obtain ⟨A5,Am⟩:∃ vq,ratB ((d - ((a*x)+(b*y))) / c)=vq:=⟨_,rfl⟩
 obtain ⟨A6,An⟩:∃ vq,ratB (d - ((a*x)+(b*y)))=vq:=⟨_,rfl⟩
 obtain ⟨A7,Ao⟩:∃ vq,ratB ((a*x)+(b*y))=vq:=⟨_,rfl⟩
 obtain ⟨Ag,Ap⟩:∃ vq,ratB a=vq:=⟨_,rfl⟩
 obtain ⟨Ah,Aq⟩:∃ vq,ratB b=vq:=⟨_,rfl⟩
 obtain ⟨Ai,Ar⟩:∃ vq,ratB c=vq:=⟨_,rfl⟩
 obtain ⟨Aj,As⟩:∃ vq,ratB d=vq:=⟨_,rfl⟩
 obtain ⟨Ak,Au⟩:∃ vq,ratB x=vq:=⟨_,rfl⟩
 obtain ⟨Al,Av⟩:∃ vq,ratB y=vq:=⟨_,rfl⟩
 try simp only [Am,An,Ao,Ap,Aq,Ar,As,Au,Av] at c1 c2 c3 c4 c5 c6 c7 gor ⊢
 have C1:=Lib.hid c1
 have C2:=Lib.hid c2
 have C3:=Lib.hid c3
 have C4:=Lib.hid c4
 have C5:=Lib.hid c5
 have C6:=Lib.hid c6
 have C7:=Lib.hid c7
 clear c1 c2 c3 c4 c5 c6 c7 Am An Ao Ap Aq Ar As Au Av r1 r2 r3 r4 r5 r6 r7 r8 r9 r10 r11 r12 r13 r14 r15 r16 r17 r18
 have GOR:=Lib.hid gor
 clear gor
 have hb:=Below.refl w.heap.size w
 go_enter Tryz.func35,Tryz.ntmps35
 go_upto_region 1 with fail
 refine wp_alloc2 (fun w1 a0 a1 hk=>?_)
 replace hb:=hb.trans (hk.mono hb.size)
 clear hk
 obtain ⟨Aa,Ab,Ac,Ad⟩:=ce4 a0
 obtain ⟨Ae,Af⟩:=ce2 a1
 go_upto_region 1 with fail
 have H0:=Lib.hid (show Below w.heap.size w w1∧w1.heap[w.heap.size]? = some (Obj.cells #[Value.string Ag,Value.string Ah,Value.string Ai,Value.string Aj] 55)∧w1.heap[w.heap.size+1]? = some (Obj.cells #[Value.string Ak,Value.string Al] 34)∧w1.cell? ⟨w.heap.size,0,none⟩=some (Value.string Ag)∧w1.cell? ⟨w.heap.size,1,none⟩=some (Value.string Ah)∧w1.cell? ⟨w.heap.size,2,none⟩=some (Value.string Ai)∧w1.cell? ⟨w.heap.size,3,none⟩=some (Value.string Aj)∧w1.cell? ⟨w.heap.size+1,0,none⟩=some (Value.string Ak)∧w1.cell? ⟨w.heap.size+1,1,none⟩=some (Value.string Al) from ⟨hb,a0,a1,Aa,Ab,Ac,Ad,Ae,Af⟩)
 clear hb a0 a1 Aa Ab Ac Ad Ae Af
 go_region_held3 (fun w' => Below w.heap.size w w'∧w'.heap[w.heap.size]? = some (Obj.cells #[Value.string Ag,Value.string Ah,Value.string Ai,Value.string Aj] 55)∧w'.heap[w.heap.size+1]? = some (Obj.cells #[Value.string Ak,Value.string Al] 34)∧w'.cell? ⟨w.heap.size,0,none⟩=some (Value.string Ag)∧w'.cell? ⟨w.heap.size,1,none⟩=some (Value.string Ah)∧w'.cell? ⟨w.heap.size,2,none⟩=some (Value.string Ai)∧w'.cell? ⟨w.heap.size,3,none⟩=some (Value.string Aj)∧w'.cell? ⟨w.heap.size+1,0,none⟩=some (Value.string Ak)∧w'.cell? ⟨w.heap.size+1,1,none⟩=some (Value.string Al))
   (first | exact held2_6 (Below.refl _ _).drew H0.out | exact held2_6 hk2 (by assumption) | exact held2_6 (laid1 _ _).2 (by assumption))
   (first | (go_at_call 78;(with_reducible refine (C1.out _ (R.below (And.left (by assumption)))).mono ?_);rintro e w1 ⟨rfl,hk2⟩) | (go_at_call 77;(with_reducible refine (C2.out _ (R.below (And.left (by assumption)))).mono ?_);rintro e w1 ⟨rfl,hk2⟩) | (go_at_call 68;(with_reducible refine (GOR.out _ _ (R.below (And.left (by assumption))) ?_ ?_).mono ?_);(first | exact zA (World.alloc_heap_new _ _) | exact zC hk2 (zA (World.alloc_heap_new _ _)));(first | exact zA (World.alloc_heap_new _ _) | exact zC hk2 (zA (World.alloc_heap_new _ _)));rintro e w1 ⟨rfl,hk2⟩) | (go_at_call 75;(with_reducible refine (C4.out _ (R.below (And.left (by assumption)))).mono ?_);rintro e w1 ⟨rfl,hk2⟩))
 all_goals
   clear H0 GOR hk2
   obtain ⟨hb,a0,a1,Aa,Ab,Ac,Ad,Ae,Af⟩:=(by assumption:Below w.heap.size w w1∧_)
   go_upto_region 4 with fail
   obtain ⟨Az,A0,A1,A2⟩:=cy4 a0
   obtain ⟨A3,A4⟩:=cy2 a1
   have Aw:=rrV C5 R hb
   have Ax:=rrV C6 R hb
   have Ay:=rrV C7 R hb
   refine wp_region_quiet_below (by first | assumption | kernel_rfl) (by kernel_rfl) ?_
   repeat (quiet_step (first | (with_reducible exact Aw.out _ _) | (with_reducible exact Ax.out _ _) | (with_reducible exact Ay.out _ _)))
   refine wpQuiet_nil ?_
   intro w1 hw'
   obtain ⟨hk,hb⟩:=zQ hb hw'
   clear Aa Ab Ac Ad Ae Af
   replace a0:=zB hk a0
   replace a1:=zB hk a1
   obtain ⟨Aa,Ab,Ac,Ad⟩:=ce4 a0
   obtain ⟨Ae,Af⟩:=ce2 a1
   clear Aw Ax Ay Az A0 A1 A2 A3 A4
   clear hk hw'
   go_wp2
   first | go_ret | go_ret2 | go_ret3
   exact ⟨rfl,hb⟩
theorem ldiv_any (a c:Rat) (r1:c≠0) (r2:RL a 10000) (r3:RL c 10000) (w:World) (R:EnvV w) :
   Calls Tryz.prog 34 #[.string (ratB a),.string (ratB c)] w (Ret w (.string (ratB (a / c)))):=by
 have c1:=fun (w:World) (R:EnvV w)=>rdiv_any a c r2 r3 r1 w R.toEnvR
 have C1:=Lib.hid c1
 clear c1 r1 r2 r3
 have hb:=Below.refl w.heap.size w
 go_enter Tryz.func34,Tryz.ntmps34
 go_wp2_with (go_at_call 66;with_reducible refine (chVB hb R C1).mono ?_;clear hb;rintro e w1 ⟨rfl,hk,hb⟩;clear hk)
 first | go_ret | go_ret2 | go_ret3
 exact ⟨rfl,hb⟩
end Go.Proofs.YtejfiegmdllfbaaGreatDoor.Kl
