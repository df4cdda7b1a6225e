import Derived.BigRegion
import Derived.Test.YtejfiegmdllfbaaGreatDoorKlBVKZ
namespace Go.Proofs.YtejfiegmdllfbaaGreatDoor.Kl
open Go Go.RowKit
set_option maxRecDepth 100000
set_option maxHeartbeats 8000000
theorem wp_settled3 {P:Program} {c:Code} {Q:Exit→Act→World→Prop} {a:Act} {w w1:World} {B:Nat} {T:TypeId} {u0 u1 u2 v0 v1 v2:Value}
   (hb:Below w.heap.size w w1) (hB:w.heap.size≤B) (h:w1.heap[B]? = some (Obj.cells #[u0,u1,u2] T))
   (k:∀ w2:World,Below w.heap.size w w2→w2.heap[B]? = some (Obj.cells #[v0,v1,v2] T)→(∀ j,j≠B→w2.heap[j]? = w1.heap[j]?)→Code.wp P c Q a w2) :
   Code.wp P c Q a (((w1.setCell ⟨B,0,none⟩ v0).setCell ⟨B,1,none⟩ v1).setCell ⟨B,2,none⟩ v2):=by
 refine k _ (Below.setCell (Below.setCell (Below.setCell hb hB _) hB _) hB _) ?_ (fun j hj=>?_)
 · exact setCell_here (setCell_here (setCell_here h v0) v1) v2
 · rw [Below.heap_setCell _ _ _ _ hj,Below.heap_setCell _ _ _ _ hj,Below.heap_setCell _ _ _ _ hj]
theorem rn_m2 : RN (-2:Rat) 1 1:=by unfold RN;decide +kernel
theorem rb_m2 : ratB (-2:Rat)=⟨#[45,50]⟩:=by decide +kernel
theorem rn_2 : RN (2:Rat) 1 1:=by unfold RN;decide +kernel
theorem rb_2 : ratB (2:Rat)=⟨#[50]⟩:=by decide +kernel
theorem hor_0 (a b c:Rat) (q0:a≠0) (w:World) (_R:EnvV w) :
   Calls Tryz.prog 46 #[.agg #[.string (ratB a),.string (ratB b),.string (ratB c)]] w (Ret w (.bool false)):=by
 have eq0:((ratB a).toList == [48])=false:=by rw [ratB_eq_zero];exact decide_eq_false q0
 have pq0:¬ (ratB a).toList=[48]:=fun h=>q0 ((zero_iff _).1 h)
 clear q0
 have hb:=Below.refl w.heap.size w
 go_enter Tryz.func46,Tryz.ntmps46
 go_upto_region 1 with fail
 refine wp_alloc1 (fun w1 a0 hk=>?_)
 replace hb:=hb.trans (hk.mono hb.size)
 clear hk
 obtain ⟨Aa,Ab,Ac⟩:=ce3 a0
 go_wp2
 first | go_ret | go_ret2 | go_ret3
 exact ⟨rfl,hb⟩
theorem hor_1 (a b c:Rat) (q0:a=0) (q1:b≠0) (w:World) (_R:EnvV w) :
   Calls Tryz.prog 46 #[.agg #[.string (ratB a),.string (ratB b),.string (ratB c)]] w (Ret w (.bool false)):=by
 have eq0:((ratB a).toList == [48])=true:=by rw [ratB_eq_zero];exact decide_eq_true q0
 have pq0:(ratB a).toList=[48]:=(zero_iff _).2 q0
 have eq1:((ratB b).toList == [48])=false:=by rw [ratB_eq_zero];exact decide_eq_false q1
 have pq1:¬ (ratB b).toList=[48]:=fun h=>q1 ((zero_iff _).1 h)
 clear q0 q1
 have hb:=Below.refl w.heap.size w
 go_enter Tryz.func46,Tryz.ntmps46
 go_upto_region 1 with fail
 refine wp_alloc1 (fun w1 a0 hk=>?_)
 replace hb:=hb.trans (hk.mono hb.size)
 clear hk
 obtain ⟨Aa,Ab,Ac⟩:=ce3 a0
 go_wp2
 first | go_ret | go_ret2 | go_ret3
 exact ⟨rfl,hb⟩
theorem hor_t (a b c:Rat) (q0:a=0) (q1:b=0) (w:World) (_R:EnvV w) :
   Calls Tryz.prog 46 #[.agg #[.string (ratB a),.string (ratB b),.string (ratB c)]] w (Ret w (.bool true)):=by
 have eq0:((ratB a).toList == [48])=true:=by rw [ratB_eq_zero];exact decide_eq_true q0
 have pq0:(ratB a).toList=[48]:=(zero_iff _).2 q0
 have eq1:((ratB b).toList == [48])=true:=by rw [ratB_eq_zero];exact decide_eq_true q1
 have pq1:(ratB b).toList=[48]:=(zero_iff _).2 q1
 clear q0 q1
 have hb:=Below.refl w.heap.size w
 go_enter Tryz.func46,Tryz.ntmps46
 go_upto_region 1 with fail
 refine wp_alloc1 (fun w1 a0 hk=>?_)
 replace hb:=hb.trans (hk.mono hb.size)
 clear hk
 obtain ⟨Aa,Ab,Ac⟩:=ce3 a0
 go_wp2
 first | go_ret | go_ret2 | go_ret3
 exact ⟨rfl,hb⟩
theorem hor_f (a b c:Rat) (h:a≠0∨b≠0) (w:World) (R:EnvV w) :
   Calls Tryz.prog 46 #[.agg #[.string (ratB a),.string (ratB b),.string (ratB c)]] w (Ret w (.bool false)):=by
 by_cases q0:a=0
 · exact hor_1 a b c q0 (h.resolve_left (fun k=>k q0)) w R
 · exact hor_0 a b c q0 w R
theorem ver_f (a b c:Rat) (q0:c≠0) (w:World) (_R:EnvV w) :
   Calls Tryz.prog 47 #[.agg #[.string (ratB a),.string (ratB b),.string (ratB c)]] w (Ret w (.bool false)):=by
 have eq0:((ratB c).toList == [48])=false:=by rw [ratB_eq_zero];exact decide_eq_false q0
 have pq0:¬ (ratB c).toList=[48]:=fun h=>q0 ((zero_iff _).1 h)
 clear q0
 have hb:=Below.refl w.heap.size w
 go_enter Tryz.func47,Tryz.ntmps47
 go_upto_region 1 with fail
 refine wp_alloc1 (fun w1 a0 hk=>?_)
 replace hb:=hb.trans (hk.mono hb.size)
 clear hk
 obtain ⟨Aa,Ab,Ac⟩:=ce3 a0
 go_wp2
 first | go_ret | go_ret2 | go_ret3
 exact ⟨rfl,hb⟩
theorem ov_f (a b c:Rat) (rc:RL c 200) (q0:¬ c.num.sign < 0) (w:World) (R:EnvV w) :
   Calls Tryz.prog 45 #[.agg #[.string (ratB a),.string (ratB b),.string (ratB c)]] w (Ret w (.bool false)):=by
 have c1:=fun (w:World) (R:EnvV w)=>rsign_any c (rc.mono (by decide)) w R.toEnvR
 have g0:¬ c.num.sign < 0:=q0
 obtain ⟨Ae,Aa⟩:∃ vq,ratB c=vq:=⟨_,rfl⟩
 try simp only [Aa] at c1 g0 ⊢
 obtain ⟨sg,esg⟩:∃ vq,c.num.sign=vq:=⟨_,rfl⟩
 try simp only [esg] at c1 g0 ⊢
 have C1:=Lib.hid c1
 clear c1 Aa esg q0 rc
 have hb:=Below.refl w.heap.size w
 go_enter Tryz.func45,Tryz.ntmps45
 go_upto_region 1 with fail
 refine wp_alloc1 (fun w1 a0 hk=>?_)
 replace hb:=hb.trans (hk.mono hb.size)
 clear hk
 obtain ⟨Ab,Ac,Ad⟩:=ce3 a0
 go_wp2_with (go_at_call 17;with_reducible refine (chVB hb R C1).mono ?_;clear hb;rintro e w1 ⟨rfl,hk,hb⟩;clear Ab Ac Ad;replace a0:=zB hk a0;obtain ⟨Ab,Ac,Ad⟩:=ce3 a0;clear hk)
 first | go_ret | go_ret2 | go_ret3
 first | exact ⟨rfl,hb⟩ | exact ⟨retBo (decide_eq_false (by omega)),hb⟩
theorem zero_0 (a b c:Rat) (h:a≠0∨b≠0) (w:World) (R:EnvV w) :
   Calls Tryz.prog 89 #[.agg #[.string (ratB a),.string (ratB b),.string (ratB c)]] w (Ret w (.bool false)):=by
 have c1:=hor_f a b c h
 obtain ⟨Ag,Aa⟩:∃ vq,ratB a=vq:=⟨_,rfl⟩
 obtain ⟨Ah,Ab⟩:∃ vq,ratB b=vq:=⟨_,rfl⟩
 obtain ⟨Ai,Ac⟩:∃ vq,ratB c=vq:=⟨_,rfl⟩
 try simp only [Aa,Ab,Ac] at c1 ⊢
 have C1:=Lib.hid c1
 clear c1 Aa Ab Ac h
 have hb:=Below.refl w.heap.size w
 go_enter Tryz.func89,Tryz.ntmps89
 go_upto_region 1 with fail
 refine wp_alloc1 (fun w1 a0 hk=>?_)
 replace hb:=hb.trans (hk.mono hb.size)
 clear hk
 obtain ⟨Ad,Ae,Af⟩:=ce3 a0
 go_wp2_with (go_at_call 46;with_reducible refine (chVB hb R C1).mono ?_;clear hb;rintro e w1 ⟨rfl,hk,hb⟩;clear Ad Ae Af;replace a0:=zB hk a0;obtain ⟨Ad,Ae,Af⟩:=ce3 a0;clear hk)
 first | go_ret | go_ret2 | go_ret3
 exact ⟨rfl,hb⟩
theorem zero_1 (a b c:Rat) (q0:a=0) (q1:b=0) (h:c≠0) (w:World) (R:EnvV w) :
   Calls Tryz.prog 89 #[.agg #[.string (ratB a),.string (ratB b),.string (ratB c)]] w (Ret w (.bool false)):=by
 have c1:=hor_t a b c q0 q1
 have c2:=ver_f a b c h
 obtain ⟨Ag,Aa⟩:∃ vq,ratB a=vq:=⟨_,rfl⟩
 obtain ⟨Ah,Ab⟩:∃ vq,ratB b=vq:=⟨_,rfl⟩
 obtain ⟨Ai,Ac⟩:∃ vq,ratB c=vq:=⟨_,rfl⟩
 try simp only [Aa,Ab,Ac] at c1 c2 ⊢
 have C1:=Lib.hid c1
 have C2:=Lib.hid c2
 clear c1 c2 Aa Ab Ac q0 q1 h
 have hb:=Below.refl w.heap.size w
 go_enter Tryz.func89,Tryz.ntmps89
 go_upto_region 1 with fail
 refine wp_alloc1 (fun w1 a0 hk=>?_)
 replace hb:=hb.trans (hk.mono hb.size)
 clear hk
 obtain ⟨Ad,Ae,Af⟩:=ce3 a0
 go_wp2_with ((first | (go_at_call 46;with_reducible refine (chVB hb R C1).mono ?_) | (go_at_call 47;with_reducible refine (chVB hb R C2).mono ?_));clear hb;rintro e w1 ⟨rfl,hk,hb⟩;clear Ad Ae Af;replace a0:=zB hk a0;obtain ⟨Ad,Ae,Af⟩:=ce3 a0;clear hk)
 first | go_ret | go_ret2 | go_ret3
 exact ⟨rfl,hb⟩
theorem zero_f (a b c:Rat) (h:a≠0∨b≠0∨c≠0) (w:World) (R:EnvV w) :
   Calls Tryz.prog 89 #[.agg #[.string (ratB a),.string (ratB b),.string (ratB c)]] w (Ret w (.bool false)):=by
 by_cases q0:a=0
 · by_cases q1:b=0
   · exact zero_1 a b c q0 q1 ((h.resolve_left (fun k=>k q0)).resolve_left (fun k=>k q1)) w R
   · exact zero_0 a b c (Or.inr q1) w R
 · exact zero_0 a b c (Or.inl q0) w R
theorem acheck_ok (a b c:Rat) (h:a≠0∨b≠0∨c≠0) (ra:RL a 200) (rb:RL b 200) (rc:RL c 200) (w:World) (R:EnvV w) :
   Calls Tryz.prog 83 #[.agg #[.string (ratB a),.string (ratB b),.string (ratB c)]] w (Ret w (.int .i64 0)):=by
 have c1:=fun (w:World) (R:EnvV w)=>vcheck_ok a b c ra rb rc w R.toEnvR
 have c2:=zero_f a b c h
 obtain ⟨Ag,Aa⟩:∃ vq,ratB a=vq:=⟨_,rfl⟩
 obtain ⟨Ah,Ab⟩:∃ vq,ratB b=vq:=⟨_,rfl⟩
 obtain ⟨Ai,Ac⟩:∃ vq,ratB c=vq:=⟨_,rfl⟩
 try simp only [Aa,Ab,Ac] at c1 c2 ⊢
 have C1:=Lib.hid c1
 have C2:=Lib.hid c2
 clear c1 c2 Aa Ab Ac h ra rb rc
 have hb:=Below.refl w.heap.size w
 go_enter Tryz.func83,Tryz.ntmps83
 go_upto_region 1 with fail
 refine wp_alloc1 (fun w1 a0 hk=>?_)
 replace hb:=hb.trans (hk.mono hb.size)
 clear hk
 obtain ⟨Ad,Ae,Af⟩:=ce3 a0
 go_wp2_with ((first | (go_at_call 86;with_reducible refine (chVB hb R C1).mono ?_) | (go_at_call 89;with_reducible refine (chVB hb R C2).mono ?_));clear hb;rintro e w1 ⟨rfl,hk,hb⟩;clear Ad Ae Af;replace a0:=zB hk a0;obtain ⟨Ad,Ae,Af⟩:=ce3 a0;clear hk)
 first | go_ret | go_ret2 | go_ret3
 exact ⟨rfl,hb⟩
theorem xeach_Sub (a b c x y z:Rat) (r1:RL a 10000) (r2:RL x 10000) (r3:RL b 10000) (r4:RL y 10000) (r5:RL c 10000) (r6:RL z 10000) (w:World) (R:EnvV w) :
   Calls Tryz.prog 118 #[.agg #[.string (ratB a),.string (ratB b),.string (ratB c)],.agg #[.string (ratB x),.string (ratB y),.string (ratB z)],.func (Fn.func 22) #[] #[]] w (Ret w (.agg #[.string (ratB (a - x)),.string (ratB (b - y)),.string (ratB (c - z))])):=by
 have c1:=fun (w:World) (R:EnvV w)=>rsub_any a x r1 r2 w R.toEnvR
 have c2:=fun (w:World) (R:EnvV w)=>rsub_any b y r3 r4 w R.toEnvR
 have c3:=fun (w:World) (R:EnvV w)=>rsub_any c z r5 r6 w R.toEnvR
 have C1:=Lib.hid c1
 have C2:=Lib.hid c2
 have C3:=Lib.hid c3
 clear c1 c2 c3 r1 r2 r3 r4 r5 r6
 have hb:=Below.refl w.heap.size w
 go_enter Tryz.func118,Tryz.ntmps118
 go_upto_region 1 with fail
 refine wp_alloc3 (fun w1 a0 a1 a2 hk=>?_)
 replace hb:=hb.trans (hk.mono hb.size)
 clear hk
 obtain ⟨Ad,Ae,Af⟩:=ce3 a0
 obtain ⟨Ag,Ah,Ai⟩:=ce3 a1
 obtain ⟨Aa,Aj,Ab,Ak,Ac,Al⟩:=cf3 a2
 go_upto_region 1 with fail
 obtain ⟨Ap,Aq,Ar⟩:=cy3 a0
 obtain ⟨As,At,Au⟩:=cy3 a1
 obtain ⟨Av,Aw,Ax⟩:=cy3 a2
 have Am:=rrV C1 R hb
 have An:=rrV C2 R hb
 have Ao:=rrV C3 R hb
 refine wp_region_tail_below 19 (by first | assumption | kernel_rfl) (by kernel_rfl) ?_
 simp only [List.take_succ_cons,List.take_zero,List.drop_succ_cons,List.drop_zero]
 repeat (quiet_step (first | (with_reducible exact Am.out _ _) | (with_reducible exact An.out _ _) | (with_reducible exact Ao.out _ _)))
 refine wpQuiet_nil ?_
 intro w1 hw'
 obtain ⟨hk,hb⟩:=zQ hb hw'
 clear Ad Ae Af Ag Ah Ai Aa Ab Ac Aj Ak Al
 replace a0:=zB hk a0
 replace a1:=zB hk a1
 replace a2:=zB hk a2
 obtain ⟨Ad,Ae,Af⟩:=ce3 a0
 obtain ⟨Ag,Ah,Ai⟩:=ce3 a1
 obtain ⟨Aa,Aj,Ab,Ak,Ac,Al⟩:=cf3 a2
 clear Am An Ao Ap Aq Ar As At Au Av Aw Ax
 clear hk hw'
 go_wp2
 refine bodyPost_ret (v:=.agg #[.string (ratB (a - x)),.string (ratB (b - y)),.string (ratB (c - z))]) (by simp [results,Tryz.results118,go_sem,Aa,Ab,Ac]) rfl ⟨rfl,?_⟩
 repeat' (first | exact hb | refine Below.setCell ?_ (by first | exact Nat.le_refl _ | (dsimp only;omega)) _)
theorem up_f (a b c:Rat) (rc:RL c 200) (g:¬ c.num.sign < 0) (w:World) (R:EnvV w) :
   Calls Tryz.prog 91 #[.agg #[.string (ratB a),.string (ratB b),.string (ratB c)]] w (Ret w (.agg #[.string (ratB a),.string (ratB b),.string (ratB c)])):=by
 have c1:=ov_f a b c rc g
 obtain ⟨Am,Ad⟩:∃ vq,ratB a=vq:=⟨_,rfl⟩
 obtain ⟨An,Ae⟩:∃ vq,ratB b=vq:=⟨_,rfl⟩
 obtain ⟨Ao,Af⟩:∃ vq,ratB c=vq:=⟨_,rfl⟩
 try simp only [Ad,Ae,Af] at c1 ⊢
 have C1:=Lib.hid c1
 clear c1 Ad Ae Af rc g
 have hb:=Below.refl w.heap.size w
 go_enter Tryz.func91,Tryz.ntmps91
 go_upto_region 1 with fail
 refine wp_alloc2 (fun w1 a0 a1 hk=>?_)
 replace hb:=hb.trans (hk.mono hb.size)
 clear hk
 obtain ⟨Ag,Ah,Ai⟩:=ce3 a0
 obtain ⟨Aa,Aj,Ab,Ak,Ac,Al⟩:=cf3 a1
 go_wp2_with (go_at_call 45;with_reducible refine (chVB hb R C1).mono ?_;clear hb;rintro e w1 ⟨rfl,hk,hb⟩;clear Ag Ah Ai Aa Ab Ac Aj Ak Al;replace a0:=zB hk a0;replace a1:=zB hk a1;obtain ⟨Ag,Ah,Ai⟩:=ce3 a0;obtain ⟨Aa,Aj,Ab,Ak,Ac,Al⟩:=cf3 a1;clear hk)
 refine bodyPost_ret (v:=.agg #[.string Am,.string An,.string Ao]) (by simp [results,Tryz.results91,go_sem,Aa,Ab,Ac]) rfl ⟨rfl,?_⟩
 repeat' (first | exact hb | refine Below.setCell ?_ (by first | exact Nat.le_refl _ | (dsimp only;omega)) _)
theorem strike1 (x y:Rat) (r1:RL y 40000) (w:World) (R:EnvV w) :
   Calls Tryz.prog 52 #[.agg #[.string (ratB x),.string (ratB y)]] w (Ret w (.agg #[.string (ratB (-y)),.string (ratB x)])):=by
 have c1:=fun (w:World) (R:EnvV w)=>rneg_any y r1 w R.toEnvR
 have C1:=Lib.hid c1
 clear c1 r1
 have hb:=Below.refl w.heap.size w
 go_enter Tryz.func52,Tryz.ntmps52
 go_upto_region 1 with fail
 refine wp_alloc2 (fun w1 a0 a1 hk=>?_)
 replace hb:=hb.trans (hk.mono hb.size)
 clear hk
 obtain ⟨Ac,Ad⟩:=ce2 a0
 obtain ⟨Aa,Ae,Ab,Af⟩:=cf2 a1
 go_upto_region 1 with fail
 obtain ⟨Ah,Ai⟩:=cy2 a0
 obtain ⟨Aj,Ak⟩:=cy2 a1
 have Ag:=rrV C1 R hb
 refine wp_region_tail_below 6 (by first | assumption | kernel_rfl) (by kernel_rfl) ?_
 simp only [List.take_succ_cons,List.take_zero,List.drop_succ_cons,List.drop_zero]
 repeat (quiet_step (first | (with_reducible exact Ag.out _ _)))
 refine wpQuiet_nil ?_
 intro w1 hw'
 obtain ⟨hk,hb⟩:=zQ hb hw'
 clear Ac Ad Aa Ab Ae Af
 replace a0:=zB hk a0
 replace a1:=zB hk a1
 obtain ⟨Ac,Ad⟩:=ce2 a0
 obtain ⟨Aa,Ae,Ab,Af⟩:=cf2 a1
 clear Ag Ah Ai Aj Ak
 clear hk hw'
 go_wp2
 refine bodyPost_ret (v:=.agg #[.string (ratB (-y)),.string (ratB x)]) (by simp [results,Tryz.results52,go_sem,Aa,Ab]) rfl ⟨rfl,?_⟩
 repeat' (first | exact hb | refine Below.setCell ?_ (by first | exact Nat.le_refl _ | (dsimp only;omega)) _)
theorem dir_strike_f (a b c:Rat) (g:a≠0∨b≠0) (na:RN a 24 24) (nb:RN b 24 24) (nc:RN c 24 24) (q0:¬ c.num.sign < 0) (w:World) (R:EnvV w) :
   Calls Tryz.prog 50 #[.agg #[.string (ratB a),.string (ratB b),.string (ratB c)],.func (Fn.func 52) #[] #[]] w (Ret w (.tuple #[.agg #[.string (ratB (-(b*(primF a b (0:Rat))))),.string (ratB (a*(primF a b (0:Rat))))],.int .i64 0])):=by
 have An:=RN_mul na (RN_prim (n:=24) (d:=24) (g.elim Or.inl (fun k=>Or.inr (Or.inl k))) (by decide) (by decide) (RN.up na (by decide) (by decide)) (RN.up nb (by decide) (by decide)) (RN.up rn_0 (by decide) (by decide)))
 have Ai:=RN_mul nb (RN_prim (n:=24) (d:=24) (g.elim Or.inl (fun k=>Or.inr (Or.inl k))) (by decide) (by decide) (RN.up na (by decide) (by decide)) (RN.up nb (by decide) (by decide)) (RN.up rn_0 (by decide) (by decide)))
 have Ao:=RN_mul rn_0 (RN_prim (n:=24) (d:=24) (g.elim Or.inl (fun k=>Or.inr (Or.inl k))) (by decide) (by decide) (RN.up na (by decide) (by decide)) (RN.up nb (by decide) (by decide)) (RN.up rn_0 (by decide) (by decide)))
 have Ap:=Ai.rl (K:=40000)
 have A0:RN (-(b*(primF a b (0:Rat)))) 96 48:=(RN_neg Ai)
 have c1:=acheck_ok a b c (g.elim Or.inl (fun k=>Or.inr (Or.inl k))) (na.rl) (nb.rl) (nc.rl)
 have c2:=hor_f a b c g
 have c3:=up_f a b c (nc.rl) q0
 have c4:CV 95 #[.agg #[.string (ratB a),.string (ratB b),.string ⟨#[48]⟩]] (.tuple #[.agg #[.string (ratB (a*(primF a b (0:Rat)))),.string (ratB (b*(primF a b (0:Rat)))),.string (ratB ((0:Rat)*(primF a b (0:Rat))))],.int .i64 0]):=fun w R=>(by have h:=prim_any a b (0:Rat) (g.elim Or.inl (fun k=>Or.inr (Or.inl k))) na.r2 nb.r2 (RN.rl (K:=200) rn_0) An.r2 Ai.r2 Ao.r2 w R;simp only [rb_0] at h;exact h)
 have c5:=strike1 (a*(primF a b (0:Rat))) (b*(primF a b (0:Rat))) Ap
 obtain ⟨A3,Aq⟩:∃ vq,ratB ((0:Rat)*(primF a b (0:Rat)))=vq:=⟨_,rfl⟩
 obtain ⟨A1,Ar⟩:∃ vq,ratB (-(b*(primF a b (0:Rat))))=vq:=⟨_,rfl⟩
 obtain ⟨A2,As⟩:∃ vq,ratB (a*(primF a b (0:Rat)))=vq:=⟨_,rfl⟩
 obtain ⟨A4,At⟩:∃ vq,ratB (b*(primF a b (0:Rat)))=vq:=⟨_,rfl⟩
 obtain ⟨A5,Au⟩:∃ vq,ratB a=vq:=⟨_,rfl⟩
 obtain ⟨A6,Av⟩:∃ vq,ratB b=vq:=⟨_,rfl⟩
 obtain ⟨A7,Aw⟩:∃ vq,ratB c=vq:=⟨_,rfl⟩
 try simp only [Aq,Ar,As,At,Au,Av,Aw] at c1 c2 c3 c4 c5 ⊢
 have C1:=Lib.hid c1
 have C2:=Lib.hid c2
 have C3:=Lib.hid c3
 have C4:=Lib.hid c4
 have C5:=Lib.hid c5
 clear c1 c2 c3 c4 c5 Aq Ar As At Au Av Aw An Ai Ao Ap A0 g na nb nc q0
 have hb:=Below.refl w.heap.size w
 go_enter Tryz.func50,Tryz.ntmps50
 go_upto_region 1 with fail
 refine wp_alloc2 (fun w1 a0 a1 hk=>?_)
 replace hb:=hb.trans (hk.mono hb.size)
 clear hk
 obtain ⟨Ak,Al,Am⟩:=ce3 a0
 obtain ⟨Aa,Ac,Ab,Ad⟩:=cf2 a1
 go_upto_region 7 with ((first | (go_at_call 83;with_reducible refine (chVB hb R C1).mono ?_) | (go_at_call 46;with_reducible refine (chVB hb R C2).mono ?_) | (go_at_call 91;with_reducible refine (chVB hb R C3).mono ?_));clear hb;rintro e w1 ⟨rfl,hk,hb⟩;clear Ak Al Am Aa Ab Ac Ad;replace a0:=zB hk a0;replace a1:=zB hk a1;obtain ⟨Ak,Al,Am⟩:=ce3 a0;obtain ⟨Aa,Ac,Ab,Ad⟩:=cf2 a1;clear hk)
 clear Ak Al Am a0
 refine wp_alloc1 (fun w1 Ae hk=>?_)
 clear Aa Ab Ac Ad
 replace a1:=zB hk a1
 obtain ⟨Aa,Ac,Ab,Ad⟩:=cf2 a1
 replace hb:=hb.trans (hk.mono hb.size)
 clear hk
 obtain ⟨Af,Ag,Ah⟩:=ce3 Ae
 go_upto_region 8 with (go_at_call 95;with_reducible refine (chVB hb R C4).mono ?_;clear hb;rintro e w1 ⟨rfl,hk,hb⟩;clear Aa Ab Ac Ad Af Ag Ah;replace a1:=zB hk a1;replace Ae:=zB hk Ae;obtain ⟨Aa,Ac,Ab,Ad⟩:=cf2 a1;obtain ⟨Af,Ag,Ah⟩:=ce3 Ae;clear hk)
 refine wp_alloc1 (fun w1 Aj hk=>?_)
 clear Aa Ab Ac Ad Af Ag Ah
 replace a1:=zB hk a1
 replace Ae:=zB hk Ae
 obtain ⟨Aa,Ac,Ab,Ad⟩:=cf2 a1
 obtain ⟨Af,Ag,Ah⟩:=ce3 Ae
 replace hb:=hb.trans (hk.mono hb.size)
 clear hk
 obtain ⟨Ax,Ay,Az⟩:=ce3 Aj
 go_wp2_with (go_at_call 52;with_reducible refine (chVB hb R C5).mono ?_;clear hb;rintro e w1 ⟨rfl,hk,hb⟩;clear Aa Ab Ac Ad Af Ag Ah Ax Ay Az;replace a1:=zB hk a1;replace Ae:=zB hk Ae;replace Aj:=zB hk Aj;obtain ⟨Aa,Ac,Ab,Ad⟩:=cf2 a1;obtain ⟨Af,Ag,Ah⟩:=ce3 Ae;obtain ⟨Ax,Ay,Az⟩:=ce3 Aj;clear hk)
 refine bodyPost_ret (v:=.tuple #[.agg #[.string A1,.string A2],.int .i64 0]) (by simp [results,Tryz.results50,go_sem,Aa,Ab]) rfl ⟨rfl,?_⟩
 repeat' (first | exact hb | refine Below.setCell ?_ (by first | exact Nat.le_refl _ | (dsimp only;omega)) _)
theorem strike_f (a b c:Rat) (g:a≠0∨b≠0) (na:RN a 24 24) (nb:RN b 24 24) (nc:RN c 24 24) (q0:¬ c.num.sign < 0) (w:World) (R:EnvV w) :
   Calls Tryz.prog 19 #[.agg #[.string (ratB a),.string (ratB b),.string (ratB c)]] w (Ret w (.tuple #[.agg #[.string (ratB (-(b*(primF a b (0:Rat))))),.string (ratB (a*(primF a b (0:Rat))))],.int .i64 0])):=by
 have c1:=dir_strike_f a b c g na nb nc q0
 obtain ⟨Am,Ac⟩:∃ vq,ratB (-(b*(primF a b (0:Rat))))=vq:=⟨_,rfl⟩
 obtain ⟨An,Ad⟩:∃ vq,ratB (a*(primF a b (0:Rat)))=vq:=⟨_,rfl⟩
 obtain ⟨Ao,Ae⟩:∃ vq,ratB a=vq:=⟨_,rfl⟩
 obtain ⟨Ap,Af⟩:∃ vq,ratB b=vq:=⟨_,rfl⟩
 obtain ⟨Aq,Ag⟩:∃ vq,ratB c=vq:=⟨_,rfl⟩
 try simp only [Ac,Ad,Ae,Af,Ag] at c1 ⊢
 have C1:=Lib.hid c1
 clear c1 Ac Ad Ae Af Ag g na nb nc q0
 have hb:=Below.refl w.heap.size w
 go_enter Tryz.func19,Tryz.ntmps19
 go_upto_region 1 with fail
 refine wp_alloc2 (fun w1 a0 a1 hk=>?_)
 replace hb:=hb.trans (hk.mono hb.size)
 clear hk
 obtain ⟨Ah,Ai,Aj⟩:=ce3 a0
 obtain ⟨Aa,Ak,Ab,Al⟩:=cf2 a1
 go_wp2_with (go_at_call 50;with_reducible refine (chVB hb R C1).mono ?_;clear hb;rintro e w1 ⟨rfl,hk,hb⟩;clear Ah Ai Aj Aa Ab Ak Al;replace a0:=zB hk a0;replace a1:=zB hk a1;obtain ⟨Ah,Ai,Aj⟩:=ce3 a0;obtain ⟨Aa,Ak,Ab,Al⟩:=cf2 a1;clear hk)
 refine bodyPost_ret (v:=.tuple #[.agg #[.string Am,.string An],.int .i64 0]) (by simp [results,Tryz.results19,go_sem,Aa,Ab]) rfl ⟨rfl,?_⟩
 repeat' (first | exact hb | refine Below.setCell ?_ (by first | exact Nat.le_refl _ | (dsimp only;omega)) _)
theorem slope_ok (a b c:Rat) (ra:RL a 200) (rb:RL b 200) (rc:RL c 200) (g:c≠0) (w:World) (R:EnvV w) :
   Calls Tryz.prog 75 #[.agg #[.string (ratB a),.string (ratB b),.string (ratB c)],.int .i64 0] w (Ret w (.int .i64 0)):=by
 have c1:=acheck_ok a b c (Or.inr (Or.inr g)) ra rb rc
 have c2:=fun (w:World) (R:EnvV w)=>orErr2 0 0 0 (by decide) w R.toEnvR
 have c3:=ver_f a b c g
 obtain ⟨Ag,Aa⟩:∃ vq,ratB a=vq:=⟨_,rfl⟩
 obtain ⟨Ah,Ab⟩:∃ vq,ratB b=vq:=⟨_,rfl⟩
 obtain ⟨Ai,Ac⟩:∃ vq,ratB c=vq:=⟨_,rfl⟩
 try simp only [Aa,Ab,Ac] at c1 c2 c3 ⊢
 have C1:=Lib.hid c1
 have C2:=Lib.hid c2
 have C3:=Lib.hid c3
 clear c1 c2 c3 Aa Ab Ac ra rb rc g
 have hb:=Below.refl w.heap.size w
 go_enter Tryz.func75,Tryz.ntmps75
 go_upto_region 1 with fail
 refine wp_alloc1 (fun w1 a0 hk=>?_)
 replace hb:=hb.trans (hk.mono hb.size)
 clear hk
 obtain ⟨Ad,Ae,Af⟩:=ce3 a0
 go_wp2_with ((first | (go_at_call 83;with_reducible refine (chVB hb R C1).mono ?_) | (go_at_call 68;with_reducible refine (zL hb (C2.out _ (R.below hb))).mono ?_) | (go_at_call 47;with_reducible refine (chVB hb R C3).mono ?_));clear hb;rintro e w1 ⟨rfl,hk,hb⟩;clear Ad Ae Af;replace a0:=zB hk a0;obtain ⟨Ad,Ae,Af⟩:=ce3 a0;clear hk)
 first | go_ret | go_ret2 | go_ret3
 exact ⟨rfl,hb⟩
theorem cdir_0 (x y:Rat) (rx:RL x 200) (ry:RL y 200) (q0:x≠0) (w:World) (R:EnvV w) :
   Calls Tryz.prog 64 #[.agg #[.string (ratB x),.string (ratB y)]] w (Ret w (.int .i64 0)):=by
 have c1:=fun (w:World) (R:EnvV w)=>pcheck_ok x y rx ry w R.toEnvR
 have eq0:((ratB x).toList == [48])=false:=by rw [ratB_eq_zero];exact decide_eq_false q0
 have pq0:¬ (ratB x).toList=[48]:=fun h=>q0 ((zero_iff _).1 h)
 have C1:=Lib.hid c1
 clear c1 q0 rx ry
 have hb:=Below.refl w.heap.size w
 go_enter Tryz.func64,Tryz.ntmps64
 go_upto_region 1 with fail
 refine wp_alloc1 (fun w1 a0 hk=>?_)
 replace hb:=hb.trans (hk.mono hb.size)
 clear hk
 obtain ⟨Aa,Ab⟩:=ce2 a0
 go_wp2_with (go_at_call 77;with_reducible refine (chVB hb R C1).mono ?_;clear hb;rintro e w1 ⟨rfl,hk,hb⟩;clear Aa Ab;replace a0:=zB hk a0;obtain ⟨Aa,Ab⟩:=ce2 a0;clear hk)
 first | go_ret | go_ret2 | go_ret3
 exact ⟨rfl,hb⟩
theorem cdir_1 (x y:Rat) (rx:RL x 200) (ry:RL y 200) (q0:x=0) (q1:y≠0) (w:World) (R:EnvV w) :
   Calls Tryz.prog 64 #[.agg #[.string (ratB x),.string (ratB y)]] w (Ret w (.int .i64 0)):=by
 have c1:=fun (w:World) (R:EnvV w)=>pcheck_ok x y rx ry w R.toEnvR
 have eq0:((ratB x).toList == [48])=true:=by rw [ratB_eq_zero];exact decide_eq_true q0
 have pq0:(ratB x).toList=[48]:=(zero_iff _).2 q0
 have eq1:((ratB y).toList == [48])=false:=by rw [ratB_eq_zero];exact decide_eq_false q1
 have pq1:¬ (ratB y).toList=[48]:=fun h=>q1 ((zero_iff _).1 h)
 have C1:=Lib.hid c1
 clear c1 q0 q1 rx ry
 have hb:=Below.refl w.heap.size w
 go_enter Tryz.func64,Tryz.ntmps64
 go_upto_region 1 with fail
 refine wp_alloc1 (fun w1 a0 hk=>?_)
 replace hb:=hb.trans (hk.mono hb.size)
 clear hk
 obtain ⟨Aa,Ab⟩:=ce2 a0
 go_wp2_with (go_at_call 77;with_reducible refine (chVB hb R C1).mono ?_;clear hb;rintro e w1 ⟨rfl,hk,hb⟩;clear Aa Ab;replace a0:=zB hk a0;obtain ⟨Aa,Ab⟩:=ce2 a0;clear hk)
 first | go_ret | go_ret2 | go_ret3
 exact ⟨rfl,hb⟩
theorem cdir_ok (x y:Rat) (rx:RL x 200) (ry:RL y 200) (h:x≠0∨y≠0) (w:World) (R:EnvV w) :
   Calls Tryz.prog 64 #[.agg #[.string (ratB x),.string (ratB y)]] w (Ret w (.int .i64 0)):=by
 by_cases q0:x=0
 · exact cdir_1 x y rx ry q0 (h.resolve_left (fun k=>k q0)) w R
 · exact cdir_0 x y rx ry q0 w R
theorem quot_any (a c:Rat) (r1:c≠0) (r2:RL a 10000) (r3:RL c 10000) (r4:RL (a / c) 200) (w:World) (R:EnvV w) :
   Calls Tryz.prog 76 #[.string (ratB a),.string (ratB c)] w (Ret w (.tuple #[.string (ratB (a / c)),.int .i64 0])):=by
 have c1:=fun (w:World) (R:EnvV w)=>rdiv_any a c r2 r3 r1 w R.toEnvR
 have c2:∀ w,EnvV w→Calls Tryz.prog 113 #[.string (ratB (a / c)),.slice (some ⟨w.heap.size,0,none⟩) 1 1] (w.alloc (Obj.cells #[Value.string (ratB (a / c))] 22)) (Ret w (.tuple #[.string (ratB (a / c)),.int .i64 0])):=fun w R=>resR (ratB (a / c)) (ratB (a / c)) (by intro t ht;simp only [List.mem_cons,List.not_mem_nil,or_false] at ht;subst ht;exact ⟨_,rfl,r4⟩) w R.toEnvR
 have C1:=Lib.hid c1
 have C2:=Lib.hid c2
 clear c1 c2 r1 r2 r3 r4
 have hb:=Below.refl w.heap.size w
 go_enter Tryz.func76,Tryz.ntmps76
 go_wp2_with ((first | (go_at_call 66;with_reducible refine (chVB hb R C1).mono ?_) | (go_at_call 113;with_reducible refine (zL hb (C2.out _ (R.below hb))).mono ?_));clear hb;rintro e w1 ⟨rfl,hk,hb⟩;clear hk)
 first | go_ret | go_ret2 | go_ret3
 exact ⟨rfl,hb⟩
theorem xdet_any (a b c d:Rat) (r1:RL a 10000) (r2:RL d 10000) (r3:RL b 10000) (r4:RL c 10000) (r5:RL (a*d) 10000) (r6:RL (b*c) 10000) (w:World) (R:EnvV w) :
   Calls Tryz.prog 81 #[.string (ratB a),.string (ratB b),.string (ratB c),.string (ratB d)] w (Ret w (.string (ratB ((a*d) - (b*c))))):=by
 have c1:=fun (w:World) (R:EnvV w)=>rmul_any a d r1 r2 w R.toEnvR
 have c2:=fun (w:World) (R:EnvV w)=>rmul_any b c r3 r4 w R.toEnvR
 have c3:=fun (w:World) (R:EnvV w)=>rsub_any (a*d) (b*c) r5 r6 w R.toEnvR
 have C1:=Lib.hid c1
 have C2:=Lib.hid c2
 have C3:=Lib.hid c3
 clear c1 c2 c3 r1 r2 r3 r4 r5 r6
 have hb:=Below.refl w.heap.size w
 go_enter Tryz.func81,Tryz.ntmps81
 go_wp2_with ((first | (go_at_call 23;first | with_reducible refine (chVB hb R C1).mono ?_ | with_reducible refine (chVB hb R C2).mono ?_) | (go_at_call 22;with_reducible refine (chVB hb R C3).mono ?_));clear hb;rintro e w1 ⟨rfl,hk,hb⟩;clear hk)
 first | go_ret | go_ret2 | go_ret3
 exact ⟨rfl,hb⟩
theorem alevel_any (a b c x y:Rat) (r1:RL a 10000) (r2:RL x 10000) (r3:RL b 10000) (r4:RL y 10000) (r5:RL (a*x) 10000) (r6:RL (b*y) 10000) (w:World) (R:EnvV w) :
   Calls Tryz.prog 79 #[.agg #[.string (ratB a),.string (ratB b),.string (ratB c)],.agg #[.string (ratB x),.string (ratB y)]] w (Ret w (.string (ratB ((a*x)+(b*y))))):=by
 have c1:=fun (w:World) (R:EnvV w)=>rmul_any a x r1 r2 w R.toEnvR
 have c2:=fun (w:World) (R:EnvV w)=>rmul_any b y r3 r4 w R.toEnvR
 have c3:=fun (w:World) (R:EnvV w)=>radd_any (a*x) (b*y) r5 r6 w R.toEnvR
 have C1:=Lib.hid c1
 have C2:=Lib.hid c2
 have C3:=Lib.hid c3
 clear c1 c2 c3 r1 r2 r3 r4 r5 r6
 have hb:=Below.refl w.heap.size w
 go_enter Tryz.func79,Tryz.ntmps79
 go_upto_region 1 with fail
 refine wp_alloc2 (fun w1 a0 a1 hk=>?_)
 replace hb:=hb.trans (hk.mono hb.size)
 clear hk
 obtain ⟨Aa,Ab,Ac⟩:=ce3 a0
 obtain ⟨Ad,Ae⟩:=ce2 a1
 go_upto_region 1 with fail
 obtain ⟨Ai,Aj,Ak⟩:=cy3 a0
 obtain ⟨Al,Am⟩:=cy2 a1
 have Af:=rrV C1 R hb
 have Ag:=rrV C2 R hb
 have Ah:=rrV C3 R hb
 refine wp_region_quiet_below (by first | assumption | kernel_rfl) (by kernel_rfl) ?_
 repeat (quiet_step (first | (with_reducible exact Af.out _ _) | (with_reducible exact Ag.out _ _) | (with_reducible exact Ah.out _ _)))
 refine wpQuiet_nil ?_
 intro w1 hw'
 obtain ⟨hk,hb⟩:=zQ hb hw'
 clear Aa Ab Ac Ad Ae
 replace a0:=zB hk a0
 replace a1:=zB hk a1
 obtain ⟨Aa,Ab,Ac⟩:=ce3 a0
 obtain ⟨Ad,Ae⟩:=ce2 a1
 clear Af Ag Ah Ai Aj Ak Al Am
 clear hk hw'
 go_wp2
 first | go_ret | go_ret2 | go_ret3
 exact ⟨rfl,hb⟩
theorem appar_ok (a b c x y:Rat) (r1:RL x 200) (r2:RL y 200) (r3:x≠0∨y≠0) (r4:RL a 200) (r5:RL b 200) (r6:RL c 200) (r7:c≠0) (r8:RL a 10000) (r9:RL x 10000) (r10:RL b 10000) (r11:RL y 10000) (r12:RL (a*x) 10000) (r13:RL (b*y) 10000) (r14:RL ((a*x)+(b*y)) 10000) (r15:RL c 10000) (r16:RL (((a*x)+(b*y)) / c) 200) (w:World) (R:EnvV w) :
   Calls Tryz.prog 36 #[.agg #[.string (ratB a),.string (ratB b),.string (ratB c)],.agg #[.string (ratB x),.string (ratB y)]] w (Ret w (.tuple #[.string (ratB (((a*x)+(b*y)) / c)),.int .i64 0])):=by
 have c1:=cdir_ok x y r1 r2 r3
 have c2:=slope_ok a b c r4 r5 r6 r7
 have c3:=alevel_any a b c x y r8 r9 r10 r11 r12 r13
 have c4:=quot_any ((a*x)+(b*y)) c r7 r14 r15 r16
 obtain ⟨Av,Ak⟩:∃ vq,ratB (((a*x)+(b*y)) / c)=vq:=⟨_,rfl⟩
 obtain ⟨Aw,Al⟩:∃ vq,ratB ((a*x)+(b*y))=vq:=⟨_,rfl⟩
 obtain ⟨Ax,Am⟩:∃ vq,ratB a=vq:=⟨_,rfl⟩
 obtain ⟨Ay,An⟩:∃ vq,ratB b=vq:=⟨_,rfl⟩
 obtain ⟨Az,Ao⟩:∃ vq,ratB c=vq:=⟨_,rfl⟩
 obtain ⟨A0,Ap⟩:∃ vq,ratB x=vq:=⟨_,rfl⟩
 obtain ⟨A1,Aq⟩:∃ vq,ratB y=vq:=⟨_,rfl⟩
 try simp only [Ak,Al,Am,An,Ao,Ap,Aq] at c1 c2 c3 c4 ⊢
 have C1:=Lib.hid c1
 have C2:=Lib.hid c2
 have C3:=Lib.hid c3
 have C4:=Lib.hid c4
 clear c1 c2 c3 c4 Ak Al Am An Ao Ap Aq r1 r2 r3 r4 r5 r6 r7 r8 r9 r10 r11 r12 r13 r14 r15 r16
 have hb:=Below.refl w.heap.size w
 go_enter Tryz.func36,Tryz.ntmps36
 go_upto_region 1 with fail
 refine wp_alloc2 (fun w1 a0 a1 hk=>?_)
 replace hb:=hb.trans (hk.mono hb.size)
 clear hk
 obtain ⟨Aa,Ab,Ac⟩:=ce3 a0
 obtain ⟨Ad,Ae⟩:=ce2 a1
 go_upto_region 1 with fail
 obtain ⟨Af,Ag,Ah⟩:=cy3 a0
 obtain ⟨Ai,Aj⟩:=cy2 a1
 have Ar:=rrV C1 R hb
 have As:=rrV C2 R hb
 refine wp_region_quiet_below (by first | assumption | kernel_rfl) (by kernel_rfl) ?_
 repeat (quiet_step (first | (with_reducible exact Ar.out _ _) | (with_reducible exact As.out _ _)))
 refine wpQuiet_nil ?_
 intro w1 hw'
 obtain ⟨hk,hb⟩:=zQ hb hw'
 clear Aa Ab Ac Ad Ae
 replace a0:=zB hk a0
 replace a1:=zB hk a1
 obtain ⟨Aa,Ab,Ac⟩:=ce3 a0
 obtain ⟨Ad,Ae⟩:=ce2 a1
 clear Ar As Af Ag Ah Ai Aj
 clear hk hw'
 go_upto_region 4 with fail
 obtain ⟨Af,Ag,Ah⟩:=cy3 a0
 obtain ⟨Ai,Aj⟩:=cy2 a1
 have At:=rrV C3 R hb
 have Au:=rrV C4 R hb
 refine wp_region_quiet_below (by first | assumption | kernel_rfl) (by kernel_rfl) ?_
 repeat (quiet_step (first | (with_reducible exact At.out _ _) | (with_reducible exact Au.out _ _)))
 refine wpQuiet_nil ?_
 intro w1 hw'
 obtain ⟨hk,hb⟩:=zQ hb hw'
 clear Aa Ab Ac Ad Ae
 replace a0:=zB hk a0
 replace a1:=zB hk a1
 obtain ⟨Aa,Ab,Ac⟩:=ce3 a0
 obtain ⟨Ad,Ae⟩:=ce2 a1
 clear At Au Af Ag Ah Ai Aj
 clear hk hw'
 go_wp2
 first | go_ret | go_ret2 | go_ret3
 exact ⟨rfl,hb⟩
theorem resC_w (w:World) (R:EnvR w) (k:Int) (s1:ByteArray) (blk n c:Nat) (h:∀ w0:World,Below w.heap.size w w0→EnvR w0→Calls Tryz.prog 105 #[.slice (some ⟨blk,0,none⟩) n c,.func (Fn.func 106) #[] #[]] w0 fun e w' => e = .returned (.bool false)∧Below w0.heap.size w0 w') :
   Calls Tryz.prog 67 #[.agg #[.int .i64 k,.string s1],.slice (some ⟨blk,0,none⟩) n c] w (Ret w (.tuple #[.agg #[.int .i64 k,.string s1],.int .i64 0])):=by
 have H:=Lib.hid h
 clear h
 have hb:=Below.refl w.heap.size w
 go_enter Tryz.func67,Tryz.ntmps67
 go_upto_region 1 with fail
 refine wp_alloc2 (fun w1 a0 a1 hk=>?_)
 replace hb:=hb.trans (hk.mono hb.size)
 clear hk
 obtain ⟨Ac,Ad⟩:=ce2 a0
 obtain ⟨Aa,Ae,Ab,Af⟩:=cf2 a1
 go_wp2_with (go_at_call 105;(with_reducible refine (zK hb (H.out _ hb (R.below hb))).mono ?_);clear hb;rintro e w1 ⟨rfl,hk,hb⟩;replace Ae:=zF hk a1 Ae;replace Af:=zF hk a1 Af;replace Ac:=zC hk Ac;replace Ad:=zC hk Ad;replace Aa:=zC hk Aa;replace Ab:=zC hk Ab;clear hk)
 refine bodyPost_ret (v:=.tuple #[.agg #[.int .i64 k,.string s1],.int .i64 0]) (by simp [results,Tryz.results67,go_sem,Aa,Ab]) rfl ⟨rfl,?_⟩
 repeat' (first | exact hb | refine Below.setCell ?_ (by first | exact Nat.le_refl _ | (dsimp only;omega)) _)
set_option maxRecDepth 512 in
theorem resC (k:Int) (s1 t0:ByteArray) (hm:∀ t,t ∈ [t0]→∃ q:Rat,t=ratB q∧RL q 200) (w:World) (R:EnvR w) :
   Calls Tryz.prog 67 #[.agg #[.int .i64 k,.string s1],.slice (some ⟨w.heap.size,0,none⟩) 1 1] (w.alloc (Obj.cells #[Value.string t0] 22)) (Ret w (.tuple #[.agg #[.int .i64 k,.string s1],.int .i64 0])):=by
 have hba:Below w.heap.size w (w.alloc (Obj.cells #[Value.string t0] 22)):=(Below.refl _ _).alloc (Nat.le_refl _) _
 refine (resC_w _ (R.below hba) k s1 w.heap.size 1 1 (fun w0 hb R0=>containsLong_w w.heap.size 1 1 [t0] rfl (by decide) w0 R0 hm ?_)).mono fun e w' h=>⟨h.1,hba.trans (h.2.mono hba.size)⟩
 intro j t h
 refine zC hb ?_
 match j,h with
 | 0,h=>injection h with h;subst h;simp [go_sem]
 | j+1,h=>simp at h
theorem quad_A  (x y:Rat) (nx:RN x 30 30) (ny:RN y 30 30) (hx:0≤x.num.sign) (hy:0 < y.num.sign) (w:World) (R:EnvV w) :
   Calls Tryz.prog 65 #[.agg #[.string (ratB x),.string (ratB y)]] w (Ret w (.tuple #[.int .i64 0,.string (ratB y),.string (ratB x)])):=by
 have Ae:=nx.rl (K:=100000)
 have Af:=ny.rl (K:=100000)
 have c1:=fun (w:World) (R:EnvV w)=>rsign_any x Ae w R.toEnvR
 have c2:=fun (w:World) (R:EnvV w)=>rsign_any y Af w R.toEnvR
 have gx:0≤x.num.sign:=hx
 have gy:0 < y.num.sign:=hy
 obtain ⟨Ak,Ag⟩:∃ vq,ratB x=vq:=⟨_,rfl⟩
 obtain ⟨Al,Ah⟩:∃ vq,ratB y=vq:=⟨_,rfl⟩
 try simp only [Ag,Ah] at c1 c2 gx gy ⊢
 obtain ⟨sx,esx⟩:∃ vq,x.num.sign=vq:=⟨_,rfl⟩
 try simp only [esx] at c1 c2 gx gy ⊢
 obtain ⟨sy,esy⟩:∃ vq,y.num.sign=vq:=⟨_,rfl⟩
 try simp only [esy] at c1 c2 gx gy ⊢
 have C1:=Lib.hid c1
 have C2:=Lib.hid c2
 clear c1 c2 Ag Ah esx esy Ae Af nx ny hx hy
 have hb:=Below.refl w.heap.size w
 go_enter Tryz.func65,Tryz.ntmps65
 go_upto_region 1 with fail
 refine wp_alloc1 (fun w1 a0 hk=>?_)
 replace hb:=hb.trans (hk.mono hb.size)
 clear hk
 obtain ⟨Aa,Ab⟩:=ce2 a0
 go_upto_region 1 with fail
 obtain ⟨Ac,Ad⟩:=cy2 a0
 have Ai:=rrV C1 R hb
 have Aj:=rrV C2 R hb
 refine wp_region_quiet_below (by first | assumption | kernel_rfl) (by kernel_rfl) ?_
 repeat (quiet_step (first | (with_reducible exact Ai.out _ _) | (with_reducible exact Aj.out _ _)))
 refine wpQuiet_nil ?_
 intro w1 hw'
 obtain ⟨hk,hb⟩:=zQ hb hw'
 clear Aa Ab
 replace a0:=zB hk a0
 obtain ⟨Aa,Ab⟩:=ce2 a0
 clear Ai Aj Ac Ad
 clear hk hw'
 go_upto_region 3 with fail
 obtain ⟨Ac,Ad⟩:=cy2 a0
 refine wp_region_quiet_below (by first | assumption | kernel_rfl) (by kernel_rfl) ?_
 repeat (quiet_step (first | fail))
 refine wpQuiet_nil ?_
 intro w1 hw'
 obtain ⟨hk,hb⟩:=zQ hb hw'
 clear Aa Ab
 replace a0:=zB hk a0
 obtain ⟨Aa,Ab⟩:=ce2 a0
 clear Ac Ad
 clear hk hw'
 go_wp2
 first | go_ret | go_ret2 | go_ret3
 exact ⟨rfl,hb⟩
theorem wp_store2_1 {P:Program} {c:Code} {Q:Exit→Act→World→Prop} {a:Act} {w w1:World} {B:Nat} {T:TypeId} {u0 u1 v1:Value}
   (hb:Below w.heap.size w w1) (hB:w.heap.size≤B) (h:w1.heap[B]? = some (Obj.cells #[u0,u1] T))
   (k:∀ w2:World,Below w.heap.size w w2→w2.heap[B]? = some (Obj.cells #[u0,v1] T)→(∀ j,j≠B→w2.heap[j]? = w1.heap[j]?)→Code.wp P c Q a w2) :
   Code.wp P c Q a (w1.setCell ⟨B,1,none⟩ v1):=by
 refine k _ (Below.setCell hb hB _) (setCell_here h v1) (fun j hj=>?_)
 rw [Below.heap_setCell _ _ _ _ hj]
theorem of_lt  (x y p q:Rat) (k:Int) (cq:CV 65 #[.agg #[.string (ratB x),.string (ratB y)]] (.tuple #[.int .i64 k,.string (ratB p),.string (ratB q)])) (hz:x≠0∨y≠0) (nx:RN x 30 30) (ny:RN y 30 30) (np:RN p 30 30) (nq:RN q 30 30) (hk:0≤k∧k≤6) (hp:p≠0) (hs:(q - p).num.sign < 0) (w:World) (R:EnvV w) :
   Calls Tryz.prog 26 #[.agg #[.string (ratB x),.string (ratB y)]] w (Ret w (.tuple #[.agg #[.int .i64 k,.string (ratB (q / p))],.int .i64 0])):=by
 have Aj:=RN_div nq np hp
 have c1:=cdir_ok x y (nx.rl (K:=200)) (ny.rl (K:=200)) hz
 have c2:=cq
 have c3:=fun (w:World) (R:EnvV w)=>rcompare_any q p nq.rm np.rm w R.toEnvR
 have c4:=fun (w:World) (R:EnvV w)=>rdiv_any q p nq.rm np.rm hp w R.toEnvR
 have c5:∀ w,EnvV w→Calls Tryz.prog 67 #[.agg #[.int .i64 k,.string (ratB (q / p))],.slice (some ⟨w.heap.size,0,none⟩) 1 1] (w.alloc (Obj.cells #[Value.string (ratB (q / p))] 22)) (Ret w (.tuple #[.agg #[.int .i64 k,.string (ratB (q / p))],.int .i64 0])):=fun w R=>resC k (ratB (q / p)) (ratB (q / p)) (by intro t ht;simp only [List.mem_cons,List.not_mem_nil,or_false] at ht;subst ht;exact ⟨_,rfl,Aj.r2⟩) w R.toEnvR
 have gs:(q - p).num.sign < 0:=hs
 have gk:0≤k∧k≤6:=hk
 obtain ⟨Ap,Ak⟩:∃ vq,ratB (q / p)=vq:=⟨_,rfl⟩
 obtain ⟨Aq,Al⟩:∃ vq,ratB p=vq:=⟨_,rfl⟩
 obtain ⟨Ar,Am⟩:∃ vq,ratB q=vq:=⟨_,rfl⟩
 obtain ⟨As,An⟩:∃ vq,ratB x=vq:=⟨_,rfl⟩
 obtain ⟨At,Ao⟩:∃ vq,ratB y=vq:=⟨_,rfl⟩
 try simp only [Ak,Al,Am,An,Ao] at c1 c2 c3 c4 c5 gs gk ⊢
 obtain ⟨sg,esg⟩:∃ vq,(q - p).num.sign=vq:=⟨_,rfl⟩
 try simp only [esg] at c1 c2 c3 c4 c5 gs gk ⊢
 have C1:=Lib.hid c1
 have C2:=Lib.hid c2
 have C3:=Lib.hid c3
 have C4:=Lib.hid c4
 have C5:=Lib.hid c5
 clear c1 c2 c3 c4 c5 Ak Al Am An Ao esg Aj cq hz nx ny np nq hk hp hs
 have hb:=Below.refl w.heap.size w
 go_enter Tryz.func26,Tryz.ntmps26
 go_upto_region 1 with fail
 refine wp_alloc2 (fun w1 a0 a1 hk=>?_)
 replace hb:=hb.trans (hk.mono hb.size)
 clear hk
 obtain ⟨Ah,Ai⟩:=ce2 a0
 obtain ⟨Aa,Ad,Ab,Ae⟩:=cf2 a1
 go_upto_region 6 with ((first | (go_at_call 64;with_reducible refine (chVB hb R C1).mono ?_) | (go_at_call 65;with_reducible refine (chVB hb R C2).mono ?_));clear hb;rintro e w1 ⟨rfl,hk,hb⟩;clear Ah Ai Aa Ab Ad Ae;replace a0:=zB hk a0;replace a1:=zB hk a1;obtain ⟨Ah,Ai⟩:=ce2 a0;obtain ⟨Aa,Ad,Ab,Ae⟩:=cf2 a1;clear hk)
 clear Ah Ai a0
 obtain ⟨BK,eBK⟩:∃ B,w1.heap.size=B:=⟨_,rfl⟩
 have hBK:w.heap.size≤BK:=by rw [← eBK];exact hb.size
 have nBK:w.heap.size+1 < BK:=by rw [← eBK];exact (Array.getElem?_eq_some_iff.1 a1).1
 refine wp_alloc1 (fun w1 Ac hk=>?_)
 rw [eBK] at Ac ⊢
 clear eBK
 clear Aa Ab Ad Ae
 replace a1:=zB hk a1
 obtain ⟨Aa,Ad,Ab,Ae⟩:=cf2 a1
 replace hb:=hb.trans (hk.mono hb.size)
 clear hk
 obtain ⟨Af,fg6_0_0,Ag,fg6_0_1⟩:=cf2 Ac
 go_upto_region 10 with ((first | (go_at_call 31;with_reducible refine (chVB hb R C3).mono ?_) | (go_at_call 66;with_reducible refine (chVB hb R C4).mono ?_) | (go_at_call 67;with_reducible refine (zL hb (C5.out _ (R.below hb))).mono ?_));clear hb;rintro e w1 ⟨rfl,hk,hb⟩;clear Aa Ab Ad Ae Af Ag fg6_0_0 fg6_0_1;replace a1:=zB hk a1;replace Ac:=zB hk Ac;obtain ⟨Aa,Ad,Ab,Ae⟩:=cf2 a1;obtain ⟨Af,fg6_0_0,Ag,fg6_0_1⟩:=cf2 Ac;clear hk)
 refine wp_store2_1 hb hBK Ac (fun w1 hb Ac hj=>?_)
 replace a1:=(hj _ (by omega)).trans a1
 clear hj Aa Ab Ad Ae Af Ag fg6_0_0 fg6_0_1
 obtain ⟨Aa,Ad,Ab,Ae⟩:=cf2 a1
 obtain ⟨Af,fg6_0_0,Ag,fg6_0_1⟩:=cf2 Ac
 go_wp2_with ((first | (go_at_call 31;with_reducible refine (chVB hb R C3).mono ?_) | (go_at_call 66;with_reducible refine (chVB hb R C4).mono ?_) | (go_at_call 67;with_reducible refine (zL hb (C5.out _ (R.below hb))).mono ?_));clear hb;rintro e w1 ⟨rfl,hk,hb⟩;clear Aa Ab Ad Ae Af Ag fg6_0_0 fg6_0_1;replace a1:=zB hk a1;replace Ac:=zB hk Ac;obtain ⟨Aa,Ad,Ab,Ae⟩:=cf2 a1;obtain ⟨Af,fg6_0_0,Ag,fg6_0_1⟩:=cf2 Ac;clear hk)
 refine bodyPost_ret (v:=.tuple #[.agg #[.int .i64 k,.string Ap],.int .i64 0]) (by simp [results,Tryz.results26,go_sem,Aa,Ab]) rfl ⟨rfl,?_⟩
 repeat' (first | exact hb | refine Below.setCell ?_ (by first | exact Nat.le_refl _ | (dsimp only;omega)) _)
end Go.Proofs.YtejfiegmdllfbaaGreatDoor.Kl
