import Derived.Test.YtpennccflalobaaGreatDoorKlVLinesRatCZ
import Derived.Test.YtpennccflalobaaGreatDoorKlVLinesFree2
import Derived.Test.YtpennccflalobaaGreatDoorKlBVEZ
namespace Go.Proofs.YtpennccflalobaaGreatDoor.Kl
open Go Go.RowKit
set_option maxRecDepth 100000
set_option maxHeartbeats 8000000
theorem RN_field (a b:Int) (_ha : -32768≤a∧a≤32767) (_hb:0≤b∧b≤255):RN (fieldQ a b) 5 3:=
 RN_mk _ _ 5 3 (by decide) (by decide) (by omega) (dlen_le _ 5 (by decide) (by omega)) (dlen_le _ 3 (by decide) (by omega))
theorem resP_w (w:World) (R:EnvR w) (s0 s1:ByteArray) (blk n c:Nat) (h:∀ w0:World,Below w.heap.size w w0→EnvR w0→Calls Tryz.prog 123 #[.slice (some ⟨blk,0,none⟩) n c,.func (Fn.func 124) #[] #[]] w0 fun e w' => e = .returned (.bool false)∧Below w0.heap.size w0 w') :
   Calls Tryz.prog 100 #[.agg #[.string s0,.string s1],.slice (some ⟨blk,0,none⟩) n c] w (Ret w (.tuple #[.agg #[.string s0,.string s1],.int .i64 0])):=by
 have H:=Lib.hid h
 clear h
 have hb:=Below.refl w.heap.size w
 go_enter Tryz.func100,Tryz.ntmps100
 go_upto_region 1 with fail
 refine wp_alloc2 (fun w1 a0 a1 hk=>?_)
 replace hb:=hb.trans (hk.mono hb.size)
 clear hk
 obtain ⟨Ac,Ad⟩:=ce2 a0
 obtain ⟨Aa,Ae,Ab,Af⟩:=cf2 a1
 go_wp2_with (go_at_call 123;(with_reducible refine (zK hb (H.out _ hb (R.below hb))).mono ?_);clear hb;rintro e w1 ⟨rfl,hk,hb⟩;replace Ae:=zF hk a1 Ae;replace Af:=zF hk a1 Af;replace Ac:=zC hk Ac;replace Ad:=zC hk Ad;replace Aa:=zC hk Aa;replace Ab:=zC hk Ab;clear hk)
 refine bodyPost_ret (v:=.tuple #[.agg #[.string s0,.string s1],.int .i64 0]) (by simp [results,Tryz.results100,go_sem,Aa,Ab]) rfl ⟨rfl,?_⟩
 repeat' (first | exact hb | refine Below.setCell ?_ (by first | exact Nat.le_refl _ | (dsimp only;omega)) _)
set_option maxRecDepth 512 in
theorem resP (s0 s1 t0 t1:ByteArray) (hm:∀ t,t ∈ [t0,t1]→∃ q:Rat,t=ratB q∧RL q 200) (w:World) (R:EnvR w) :
   Calls Tryz.prog 100 #[.agg #[.string s0,.string s1],.slice (some ⟨w.heap.size,0,none⟩) 2 2] (w.alloc (Obj.cells #[Value.string t0,Value.string t1] 22)) (Ret w (.tuple #[.agg #[.string s0,.string s1],.int .i64 0])):=by
 have hba:Below w.heap.size w (w.alloc (Obj.cells #[Value.string t0,Value.string t1] 22)):=(Below.refl _ _).alloc (Nat.le_refl _) _
 refine (resP_w _ (R.below hba) s0 s1 w.heap.size 2 2 (fun w0 hb R0=>containsLong_w w.heap.size 2 2 [t0,t1] rfl (by decide) w0 R0 hm ?_)).mono fun e w' h=>⟨h.1,hba.trans (h.2.mono hba.size)⟩
 intro j t h
 refine zC hb ?_
 match j,h with
 | 0,h=>injection h with h;subst h;simp [go_sem]
 | 1,h=>injection h with h;subst h;simp [go_sem]
 | j+2,h=>simp at h
theorem refPToward (a b c d k:Rat) (r1:RL c 400) (r2:RL a 400) (r3:RL k 400) (r4:RL (c - a) 400) (r5:RL (k*(c - a)) 400) (r6:RL d 400) (r7:RL b 400) (r8:RL (d - b) 400) (r9:RL (k*(d - b)) 400) (w:World) (R:EnvR w) :
   Calls Tryz.prog 49 #[.agg #[.string (ratB a),.string (ratB b)],.agg #[.string (ratB c),.string (ratB d)],.string (ratB k)] w (Ret w (.agg #[.string (ratB (a+(k*(c - a)))),.string (ratB (b+(k*(d - b))))])):=by
 have c1:=refRSub_any c a r1 r2
 have c2:=fun (w:World) (R:EnvR w)=>refRMul_any k (c - a) w R r3 r4
 have c3:=fun (w:World) (R:EnvR w)=>refRAdd_any a (k*(c - a)) w R r2 r5
 have c4:=refRSub_any d b r6 r7
 have c5:=fun (w:World) (R:EnvR w)=>refRMul_any k (d - b) w R r3 r8
 have c6:=fun (w:World) (R:EnvR w)=>refRAdd_any b (k*(d - b)) w R r7 r9
 have C1:=Lib.hid c1
 have C2:=Lib.hid c2
 have C3:=Lib.hid c3
 have C4:=Lib.hid c4
 have C5:=Lib.hid c5
 have C6:=Lib.hid c6
 clear c1 c2 c3 c4 c5 c6 r1 r2 r3 r4 r5 r6 r7 r8 r9
 have hb:=Below.refl w.heap.size w
 go_enter Tryz.func49,Tryz.ntmps49
 go_upto_region 1 with fail
 refine wp_alloc3 (fun w1 a0 a1 a2 hk=>?_)
 replace hb:=hb.trans (hk.mono hb.size)
 clear hk
 obtain ⟨Ac,Ad⟩:=ce2 a0
 obtain ⟨Ae,Af⟩:=ce2 a1
 obtain ⟨Aa,Ag,Ab,Ah⟩:=cf2 a2
 go_upto_region 1 with fail
 obtain ⟨Ao,Ap⟩:=cy2 a0
 obtain ⟨Aq,Ar⟩:=cy2 a1
 obtain ⟨As,At⟩:=cy2 a2
 have Ai:=rrR C1 R hb
 have Aj:=rrR C2 R hb
 have Ak:=rrR C3 R hb
 have Al:=rrR C4 R hb
 have Am:=rrR C5 R hb
 have An:=rrR C6 R hb
 refine wp_region_tail_below 21 (by first | assumption | kernel_rfl) (by kernel_rfl) ?_
 simp only [List.take_succ_cons,List.take_zero,List.drop_succ_cons,List.drop_zero]
 repeat (quiet_step (first | (with_reducible exact Ai.out _ _) | (with_reducible exact Aj.out _ _) | (with_reducible exact Ak.out _ _) | (with_reducible exact Al.out _ _) | (with_reducible exact Am.out _ _) | (with_reducible exact An.out _ _)))
 refine wpQuiet_nil ?_
 intro w1 hw'
 obtain ⟨hk,hb⟩:=zQ hb hw'
 clear Ac Ad Ae Af Aa Ab Ag Ah
 replace a0:=zB hk a0
 replace a1:=zB hk a1
 replace a2:=zB hk a2
 obtain ⟨Ac,Ad⟩:=ce2 a0
 obtain ⟨Ae,Af⟩:=ce2 a1
 obtain ⟨Aa,Ag,Ab,Ah⟩:=cf2 a2
 clear Ai Aj Ak Al Am An Ao Ap Aq Ar As At
 clear hk hw'
 go_wp2
 refine bodyPost_ret (v:=.agg #[.string (ratB (a+(k*(c - a)))),.string (ratB (b+(k*(d - b))))]) (by simp [results,Tryz.results49,go_sem,Aa,Ab]) rfl ⟨rfl,?_⟩
 repeat' (first | exact hb | refine Below.setCell ?_ (by first | exact Nat.le_refl _ | (dsimp only;omega)) _)
theorem refPValue (a b c x y:Rat) (r1:RL a 400) (r2:RL x 400) (r3:RL b 400) (r4:RL y 400) (r5:RL (a*x) 400) (r6:RL (b*y) 400) (r7:RL ((a*x)+(b*y)) 400) (r8:RL c 400) (w:World) (R:EnvR w) :
   Calls Tryz.prog 56 #[.string (ratB a),.string (ratB b),.string (ratB c),.agg #[.string (ratB x),.string (ratB y)]] w (Ret w (.string (ratB (((a*x)+(b*y)) - c)))):=by
 have c1:=fun (w:World) (R:EnvR w)=>refRMul_any a x w R r1 r2
 have c2:=fun (w:World) (R:EnvR w)=>refRMul_any b y w R r3 r4
 have c3:=fun (w:World) (R:EnvR w)=>refRAdd_any (a*x) (b*y) w R r5 r6
 have c4:=refRSub_any ((a*x)+(b*y)) c r7 r8
 have C1:=Lib.hid c1
 have C2:=Lib.hid c2
 have C3:=Lib.hid c3
 have C4:=Lib.hid c4
 clear c1 c2 c3 c4 r1 r2 r3 r4 r5 r6 r7 r8
 have hb:=Below.refl w.heap.size w
 go_enter Tryz.func56,Tryz.ntmps56
 go_upto_region 1 with fail
 refine wp_alloc1 (fun w1 a0 hk=>?_)
 replace hb:=hb.trans (hk.mono hb.size)
 clear hk
 obtain ⟨Aa,Ab⟩:=ce2 a0
 go_upto_region 1 with fail
 obtain ⟨Ag,Ah⟩:=cy2 a0
 have Ac:=rrR C1 R hb
 have Ad:=rrR C2 R hb
 have Ae:=rrR C3 R hb
 have Af:=rrR C4 R hb
 refine wp_region_quiet_below (by first | assumption | kernel_rfl) (by kernel_rfl) ?_
 repeat (quiet_step (first | (with_reducible exact Ac.out _ _) | (with_reducible exact Ad.out _ _) | (with_reducible exact Ae.out _ _) | (with_reducible exact Af.out _ _)))
 refine wpQuiet_nil ?_
 intro w1 hw'
 obtain ⟨hk,hb⟩:=zQ hb hw'
 clear Aa Ab
 replace a0:=zB hk a0
 obtain ⟨Aa,Ab⟩:=ce2 a0
 clear Ac Ad Ae Af Ag Ah
 clear hk hw'
 go_wp2
 first | go_ret | go_ret2 | go_ret3
 exact ⟨rfl,hb⟩
theorem refInside_any (a b x:Rat) (ra:RL a 400) (rb:RL b 400) (rx:RL x 400) (w:World) (R:EnvR w) :
   Calls Tryz.prog 50 #[.string (ratB a),.string (ratB b),.string (ratB x)] w (Ret w (.bool (decide ((x - a).num.sign*(x - b).num.sign≤0)))):=by
 have c1:=refRCompare_any x a (rx.mono (by decide)) (ra.mono (by decide))
 have c2:=refRCompare_any x b (rx.mono (by decide)) (rb.mono (by decide))
 have hw:IntKind.i64.wrap ((x - a).num.sign*(x - b).num.sign)=(x - a).num.sign*(x - b).num.sign:=sign_wrap _ _ (sign_in _) (sign_in _)
 obtain ⟨s,es⟩:∃ v,(x - a).num.sign=v:=⟨_,rfl⟩
 try simp only [es] at c1 c2 hw ⊢
 obtain ⟨t,et⟩:∃ v,(x - b).num.sign=v:=⟨_,rfl⟩
 try simp only [et] at c1 c2 hw ⊢
 obtain ⟨va,eva⟩:∃ v,ratB a=v:=⟨_,rfl⟩
 try simp only [eva] at c1 c2 hw ⊢
 obtain ⟨vb,evb⟩:∃ v,ratB b=v:=⟨_,rfl⟩
 try simp only [evb] at c1 c2 hw ⊢
 obtain ⟨vx,evx⟩:∃ v,ratB x=v:=⟨_,rfl⟩
 try simp only [evx] at c1 c2 hw ⊢
 have C1:=Lib.hid c1
 have C2:=Lib.hid c2
 clear c1 c2 es et eva evb evx ra rb rx
 have hb:=Below.refl w.heap.size w
 go_enter Tryz.func50,Tryz.ntmps50
 go_wp2_with ((go_at_call 101;first | with_reducible refine (chRA hb R C1).mono ?_ | with_reducible refine (chRA hb R C2).mono ?_);clear hb;rintro e w1 ⟨rfl,hb⟩)
 go_ret
 exact ⟨rfl,hb⟩
theorem checkLine_0 (a b c:Rat) (n0:a≠0) (r1:RL a 200) (r2:RL b 200) (r3:RL c 200) (w:World) (R:EnvV w) :
   Calls Tryz.prog 106 #[.agg #[.string (ratB a),.string (ratB b),.string (ratB c)]] w (Ret w (.int .i64 0)):=by
 have c1:∀ w,EnvV w→Calls Tryz.prog 67 #[.slice (some ⟨w.heap.size,0,none⟩) 3 3] (w.alloc (Obj.cells #[Value.string (ratB a),Value.string (ratB b),Value.string (ratB c)] 22)) (Ret w (.int .i64 0)):=fun w R=>numCheck3 (ratB a) (ratB b) (ratB c) 0 (fun _=>rfl) (fun h=>absurd ⟨isRat_of r1,isRat_of r2,isRat_of r3⟩ h) (Nat.le_trans (size_of_RL r1) (by decide)) (Nat.le_trans (size_of_RL r2) (by decide)) (Nat.le_trans (size_of_RL r3) (by decide)) w R.toEnvR
 have e0:((ratB a).toList == [48])=false:=by rw [ratB_eq_zero];exact decide_eq_false n0
 have p0:¬ (ratB a).toList=[48]:=fun h=>n0 ((zero_iff _).1 h)
 have C1:=Lib.hid c1
 clear c1 n0 r1 r2 r3
 have hb:=Below.refl w.heap.size w
 have Aa:w.cell? ⟨0,0,none⟩=some (Value.string ⟨#[48]⟩):=R.z0
 have Ab:w.cell? ⟨0,1,none⟩=some (Value.string ⟨#[48]⟩):=R.z1
 have Ac:w.cell? ⟨0,2,none⟩=some (Value.string ⟨#[48]⟩):=R.z2
 go_enter Tryz.func106,Tryz.ntmps106
 go_upto_region 1 with fail
 refine wp_alloc1 (fun w1 a0 hk=>?_)
 replace Aa:=zC hk Aa
 replace Ab:=zC hk Ab
 replace Ac:=zC hk Ac
 replace hb:=hb.trans (hk.mono hb.size)
 clear hk
 obtain ⟨Ad,Ae,Af⟩:=ce3 a0
 go_wp2_with (go_at_call 67;with_reducible refine (zL hb (C1.out _ (R.below hb))).mono ?_;clear hb;rintro e w1 ⟨rfl,hk,hb⟩;replace Aa:=zC hk Aa;replace Ab:=zC hk Ab;replace Ac:=zC hk Ac;clear Ad Ae Af;replace a0:=zB hk a0;obtain ⟨Ad,Ae,Af⟩:=ce3 a0;clear hk)
 first | go_ret | go_ret2 | go_ret3
 exact ⟨rfl,hb⟩
theorem checkLine_1 (a b c:Rat) (z0:a=0) (n1:b≠0) (r1:RL a 200) (r2:RL b 200) (r3:RL c 200) (w:World) (R:EnvV w) :
   Calls Tryz.prog 106 #[.agg #[.string (ratB a),.string (ratB b),.string (ratB c)]] w (Ret w (.int .i64 0)):=by
 have c1:∀ w,EnvV w→Calls Tryz.prog 67 #[.slice (some ⟨w.heap.size,0,none⟩) 3 3] (w.alloc (Obj.cells #[Value.string (ratB a),Value.string (ratB b),Value.string (ratB c)] 22)) (Ret w (.int .i64 0)):=fun w R=>numCheck3 (ratB a) (ratB b) (ratB c) 0 (fun _=>rfl) (fun h=>absurd ⟨isRat_of r1,isRat_of r2,isRat_of r3⟩ h) (Nat.le_trans (size_of_RL r1) (by decide)) (Nat.le_trans (size_of_RL r2) (by decide)) (Nat.le_trans (size_of_RL r3) (by decide)) w R.toEnvR
 have e0:((ratB a).toList == [48])=true:=by rw [ratB_eq_zero];exact decide_eq_true z0
 have p0:(ratB a).toList=[48]:=(zero_iff _).2 z0
 have e1:((ratB b).toList == [48])=false:=by rw [ratB_eq_zero];exact decide_eq_false n1
 have p1:¬ (ratB b).toList=[48]:=fun h=>n1 ((zero_iff _).1 h)
 have C1:=Lib.hid c1
 clear c1 z0 n1 r1 r2 r3
 have hb:=Below.refl w.heap.size w
 have Aa:w.cell? ⟨0,0,none⟩=some (Value.string ⟨#[48]⟩):=R.z0
 have Ab:w.cell? ⟨0,1,none⟩=some (Value.string ⟨#[48]⟩):=R.z1
 have Ac:w.cell? ⟨0,2,none⟩=some (Value.string ⟨#[48]⟩):=R.z2
 go_enter Tryz.func106,Tryz.ntmps106
 go_upto_region 1 with fail
 refine wp_alloc1 (fun w1 a0 hk=>?_)
 replace Aa:=zC hk Aa
 replace Ab:=zC hk Ab
 replace Ac:=zC hk Ac
 replace hb:=hb.trans (hk.mono hb.size)
 clear hk
 obtain ⟨Ad,Ae,Af⟩:=ce3 a0
 go_wp2_with (go_at_call 67;with_reducible refine (zL hb (C1.out _ (R.below hb))).mono ?_;clear hb;rintro e w1 ⟨rfl,hk,hb⟩;replace Aa:=zC hk Aa;replace Ab:=zC hk Ab;replace Ac:=zC hk Ac;clear Ad Ae Af;replace a0:=zB hk a0;obtain ⟨Ad,Ae,Af⟩:=ce3 a0;clear hk)
 first | go_ret | go_ret2 | go_ret3
 exact ⟨rfl,hb⟩
theorem checkLine_ok (a b c:Rat) (r1:RL a 200) (r2:RL b 200) (r3:RL c 200) (nz:a≠0∨b≠0) (w:World) (R:EnvV w) :
   Calls Tryz.prog 106 #[.agg #[.string (ratB a),.string (ratB b),.string (ratB c)]] w (Ret w (.int .i64 0)):=by
 by_cases z0:a=0
 · skip
   by_cases z1:b=0
   · skip
     exact absurd nz (by simp [z0,z1])
   · exact checkLine_1 a b c z0 z1 r1 r2 r3 w R
 · exact checkLine_0 a b c z0 r1 r2 r3 w R
theorem wp_settled2 {P:Program} {c:Code} {Q:Exit→Act→World→Prop} {a:Act} {w w1:World} {B:Nat} {T:TypeId} {u0 u1 v0 v1:Value}
   (hb:Below w.heap.size w w1) (hB:w.heap.size≤B) (h:w1.heap[B]? = some (Obj.cells #[u0,u1] T))
   (k:∀ w2:World,Below w.heap.size w w2→w2.heap[B]? = some (Obj.cells #[v0,v1] T)→(∀ j,j≠B→w2.heap[j]? = w1.heap[j]?)→Code.wp P c Q a w2) :
   Code.wp P c Q a ((w1.setCell ⟨B,0,none⟩ v0).setCell ⟨B,1,none⟩ v1):=by
 refine k _ (Below.setCell (Below.setCell hb hB _) hB _) ?_ (fun j hj=>?_)
 · exact setCell_here (setCell_here h v0) v1
 · rw [Below.heap_setCell _ _ _ _ hj,Below.heap_setCell _ _ _ _ hj]
theorem vmeet_any (a b c x y z:Rat) (r1:RL a 200) (r2:RL b 200) (r3:RL c 200) (r4:a≠0∨b≠0) (r5:RL x 200) (r6:RL y 200) (r7:RL z 200) (r8:x≠0∨y≠0) (r9:RL a 10000) (r10:RL y 10000) (r11:RL b 10000) (r12:RL x 10000) (r13:RL (a*y) 10000) (r14:RL (b*x) 10000) (r15:RL c 10000) (r16:RL z 10000) (r17:RL (c*y) 10000) (r18:RL (b*z) 10000) (r19:((a*y) - (b*x))≠0) (r20:RL ((c*y) - (b*z)) 10000) (r21:RL ((a*y) - (b*x)) 10000) (r22:RL (a*z) 10000) (r23:RL (c*x) 10000) (r24:RL ((a*z) - (c*x)) 10000) (r25:RL (((c*y) - (b*z)) / ((a*y) - (b*x))) 200) (r26:RL (((a*z) - (c*x)) / ((a*y) - (b*x))) 200) (w:World) (R:EnvV w) :
   Calls Tryz.prog 57 #[.agg #[.string (ratB a),.string (ratB b),.string (ratB c)],.agg #[.string (ratB x),.string (ratB y),.string (ratB z)]] w (Ret w (.tuple #[.agg #[.string (ratB (((c*y) - (b*z)) / ((a*y) - (b*x)))),.string (ratB (((a*z) - (c*x)) / ((a*y) - (b*x))))],.bool true,.int .i64 0])):=by
 have c1:=checkLine_ok a b c r1 r2 r3 r4
 have c2:=checkLine_ok x y z r5 r6 r7 r8
 have c3:=fun (w:World) (R:EnvV w)=>orErr2 0 0 0 (by decide) w R.toEnvR
 have c4:=meet_any a b c x y z r9 r10 r11 r12 r13 r14 r15 r16 r17 r18 r19 r20 r21 r22 r23 r24
 have c5:∀ w,EnvV w→Calls Tryz.prog 100 #[.agg #[.string (ratB (((c*y) - (b*z)) / ((a*y) - (b*x)))),.string (ratB (((a*z) - (c*x)) / ((a*y) - (b*x))))],.slice (some ⟨w.heap.size,0,none⟩) 2 2] (w.alloc (Obj.cells #[Value.string (ratB (((c*y) - (b*z)) / ((a*y) - (b*x)))),Value.string (ratB (((a*z) - (c*x)) / ((a*y) - (b*x))))] 22)) (Ret w (.tuple #[.agg #[.string (ratB (((c*y) - (b*z)) / ((a*y) - (b*x)))),.string (ratB (((a*z) - (c*x)) / ((a*y) - (b*x))))],.int .i64 0])):=fun w R=>resP (ratB (((c*y) - (b*z)) / ((a*y) - (b*x)))) (ratB (((a*z) - (c*x)) / ((a*y) - (b*x)))) (ratB (((c*y) - (b*z)) / ((a*y) - (b*x)))) (ratB (((a*z) - (c*x)) / ((a*y) - (b*x)))) (by intro t ht;simp only [List.mem_cons,List.not_mem_nil,or_false] at ht;rcases ht with rfl | rfl;exact ⟨_,rfl,r25⟩;exact ⟨_,rfl,r26⟩) w R.toEnvR
 have C1:=Lib.hid c1
 have C2:=Lib.hid c2
 have C3:=Lib.hid c3
 have C4:=Lib.hid c4
 have C5:=Lib.hid c5
 clear c1 c2 c3 c4 c5 r1 r2 r3 r4 r5 r6 r7 r8 r9 r10 r11 r12 r13 r14 r15 r16 r17 r18 r19 r20 r21 r22 r23 r24 r25 r26
 have hb:=Below.refl w.heap.size w
 have Aa:w.cell? ⟨0,0,none⟩=some (Value.string ⟨#[48]⟩):=R.z0
 have Ab:w.cell? ⟨0,1,none⟩=some (Value.string ⟨#[48]⟩):=R.z1
 have Ac:w.cell? ⟨0,2,none⟩=some (Value.string ⟨#[48]⟩):=R.z2
 go_enter Tryz.func57,Tryz.ntmps57
 go_upto_region 1 with fail
 refine wp_alloc3 (fun w1 a0 a1 a2 hk=>?_)
 replace Aa:=zC hk Aa
 replace Ab:=zC hk Ab
 replace Ac:=zC hk Ac
 replace hb:=hb.trans (hk.mono hb.size)
 clear hk
 obtain ⟨Ah,Ai,Aj⟩:=ce3 a0
 obtain ⟨Ak,Al,Am⟩:=ce3 a1
 obtain ⟨Ad,Af,Ae,Ag⟩:=cf2 a2
 go_upto_region 1 with fail
 have Ap:=zR Aa
 have Aq:=zR Ab
 have Ar:=zR Ac
 obtain ⟨As,At,Au⟩:=cy3 a0
 obtain ⟨Av,Aw,Ax⟩:=cy3 a1
 obtain ⟨Ay,Az⟩:=cy2 a2
 have An:=rrV C1 R hb
 have Ao:=rrV C2 R hb
 refine wp_region_tail_below 4 (by first | assumption | kernel_rfl) (by kernel_rfl) ?_
 simp only [List.take_succ_cons,List.take_zero,List.drop_succ_cons,List.drop_zero]
 repeat (quiet_step (first | (with_reducible exact An.out _ _) | (with_reducible exact Ao.out _ _)))
 refine wpQuiet_nil ?_
 intro w1 hw'
 obtain ⟨hk,hb⟩:=zQ hb hw'
 replace Aa:=zC hk Aa
 replace Ab:=zC hk Ab
 replace Ac:=zC hk Ac
 clear Ah Ai Aj Ak Al Am Ad Ae Af Ag
 replace a0:=zB hk a0
 replace a1:=zB hk a1
 replace a2:=zB hk a2
 obtain ⟨Ah,Ai,Aj⟩:=ce3 a0
 obtain ⟨Ak,Al,Am⟩:=ce3 a1
 obtain ⟨Ad,Af,Ae,Ag⟩:=cf2 a2
 clear An Ao Ap Aq Ar As At Au Av Aw Ax Ay Az
 clear hk hw'
 go_upto_region 5 with (first | ((first | (go_at_call 69;with_reducible refine (zL hb (C3.out _ (R.below hb))).mono ?_) | (go_at_call 107;with_reducible refine (chVB hb R C4).mono ?_));clear hb;rintro e w1 ⟨rfl,hk,hb⟩;replace Aa:=zC hk Aa;replace Ab:=zC hk Ab;replace Ac:=zC hk Ac;clear Ah Ai Aj Ak Al Am Ad Ae Af Ag;replace a0:=zB hk a0;replace a1:=zB hk a1;replace a2:=zB hk a2;obtain ⟨Ah,Ai,Aj⟩:=ce3 a0;obtain ⟨Ak,Al,Am⟩:=ce3 a1;obtain ⟨Ad,Af,Ae,Ag⟩:=cf2 a2;clear hk) | (go_at_call 100;with_reducible refine (zL hb (C5.out _ (R.below hb))).mono ?_;clear hb;rintro e w1 ⟨rfl,hk,hb⟩;replace Aa:=zC hk Aa;replace Ab:=zC hk Ab;replace Ac:=zC hk Ac;clear Ad Ae Af Ag;replace a2:=zB hk a2;obtain ⟨Ad,Af,Ae,Ag⟩:=cf2 a2;clear hk))
 refine wp_settled2 hb (by omega) a2 (fun w1 hb a2 hj=>?_)
 clear Aa Ab Ac Ah Ai Aj Ak Al Am Ad Ae Af Ag
 have Aa:=(R.below hb).z0
 have Ab:=(R.below hb).z1
 have Ac:=(R.below hb).z2
 replace a0:=(hj _ (by omega)).trans a0
 obtain ⟨Ah,Ai,Aj⟩:=ce3 a0
 replace a1:=(hj _ (by omega)).trans a1
 obtain ⟨Ak,Al,Am⟩:=ce3 a1
 obtain ⟨Ad,Af,Ae,Ag⟩:=cf2 a2
 clear hj
 go_upto_region 8 with (first | ((first | (go_at_call 69;with_reducible refine (zL hb (C3.out _ (R.below hb))).mono ?_) | (go_at_call 107;with_reducible refine (chVB hb R C4).mono ?_));clear hb;rintro e w1 ⟨rfl,hk,hb⟩;replace Aa:=zC hk Aa;replace Ab:=zC hk Ab;replace Ac:=zC hk Ac;clear Ah Ai Aj Ak Al Am Ad Ae Af Ag;replace a0:=zB hk a0;replace a1:=zB hk a1;replace a2:=zB hk a2;obtain ⟨Ah,Ai,Aj⟩:=ce3 a0;obtain ⟨Ak,Al,Am⟩:=ce3 a1;obtain ⟨Ad,Af,Ae,Ag⟩:=cf2 a2;clear hk) | (go_at_call 100;with_reducible refine (zL hb (C5.out _ (R.below hb))).mono ?_;clear hb;rintro e w1 ⟨rfl,hk,hb⟩;replace Aa:=zC hk Aa;replace Ab:=zC hk Ab;replace Ac:=zC hk Ac;clear Ad Ae Af Ag;replace a2:=zB hk a2;obtain ⟨Ad,Af,Ae,Ag⟩:=cf2 a2;clear hk))
 refine wp_settled2 hb (by omega) a2 (fun w1 hb a2 _=>?_)
 clear Ad Ae Af Ag
 obtain ⟨Ad,Af,Ae,Ag⟩:=cf2 a2
 go_wp2
 refine bodyPost_ret (v:=.tuple #[.agg #[.string (ratB (((c*y) - (b*z)) / ((a*y) - (b*x)))),.string (ratB (((a*z) - (c*x)) / ((a*y) - (b*x))))],.bool true,.int .i64 0]) (by simp [results,Tryz.results57,go_sem,Ad,Ae]) rfl ⟨rfl,?_⟩
 repeat' (first | exact hb | refine Below.setCell ?_ (by first | exact Nat.le_refl _ | (dsimp only;omega)) _)
theorem through_1 (a b x y:Rat) (q0:a=x) (q1:b≠y) (r1:RL a 200) (r2:RL b 200) (r3:RL x 200) (r4:RL y 200) (r5:RL a 10000) (r6:RL x 10000) (r7:RL b 10000) (r8:RL y 10000) (r9:RL (a - x) 40000) (r10:RL (b - y) 10000) (r11:RL ((b - y)*a) 10000) (r12:RL (-(a - x)) 10000) (r13:RL ((0:Rat)+((b - y)*a)) 10000) (r14:RL ((-(a - x))*b) 10000) (r15:RL (((0:Rat)+((b - y)*a))+((-(a - x))*b)) 10000) (r16:RL ((-1:Rat)*(0:Rat)) 10000) (r17:RL (b - y) 200) (r18:RL (-(a - x)) 200) (r19:RL ((((b - y)*a)+((-(a - x))*b)) - (0:Rat)) 200) (w:World) (R:EnvV w) :
   Calls Tryz.prog 54 #[.agg #[.string (ratB a),.string (ratB b)],.agg #[.string (ratB x),.string (ratB y)]] w (Ret w (.tuple #[.agg #[.string (ratB (b - y)),.string (ratB (x - a)),.string (ratB (((b - y)*a)+((x - a)*b)))],.int .i64 0])):=by
 have c1:=fun (w:World) (R:EnvV w)=>checkPts2 a b x y r1 r2 r3 r4 w R.toEnvR
 have c2:=fun (w:World) (R:EnvV w)=>way_any x y a b r5 r6 r7 r8 w R.toEnvR
 have c3:=fun (w:World) (R:EnvV w)=>rneg_any (a - x) r9 w R.toEnvR
 have c4:CV 103 #[.agg #[.string (ratB (b - y)),.string (ratB (-(a - x))),.string ⟨#[48]⟩],.agg #[.string (ratB a),.string (ratB b)]] (.string (ratB ((((b - y)*a)+((-(a - x))*b)) - (0:Rat)))):=fun w R=>(by have h:=level2_any (b - y) (-(a - x)) (0:Rat) a b r10 r5 r11 r12 r7 r13 r14 (RN.rl (K:=10000) rn_0) r15 r16 w R;simp only [rb_0] at h;exact h)
 have c5:∀ w,EnvV w→Calls Tryz.prog 104 #[.agg #[.string (ratB (b - y)),.string (ratB (-(a - x))),.string (ratB ((((b - y)*a)+((-(a - x))*b)) - (0:Rat)))],.slice (some ⟨w.heap.size,0,none⟩) 3 3] (w.alloc (Obj.cells #[Value.string (ratB (b - y)),Value.string (ratB (-(a - x))),Value.string (ratB ((((b - y)*a)+((-(a - x))*b)) - (0:Rat)))] 22)) (Ret w (.tuple #[.agg #[.string (ratB (b - y)),.string (ratB (x - a)),.string (ratB (((b - y)*a)+((x - a)*b)))],.int .i64 0])):=fun w R=>(resL (ratB (b - y)) (ratB (-(a - x))) (ratB ((((b - y)*a)+((-(a - x))*b)) - (0:Rat))) (ratB (b - y)) (ratB (-(a - x))) (ratB ((((b - y)*a)+((-(a - x))*b)) - (0:Rat))) (by intro t ht;simp only [List.mem_cons,List.not_mem_nil,or_false] at ht;rcases ht with rfl | rfl | rfl;exact ⟨_,rfl,r17⟩;exact ⟨_,rfl,r18⟩;exact ⟨_,rfl,r19⟩) w R.toEnvR).mono (fun e w' h=>⟨h.1.trans (by rw [q_thr2,q_thr1]),h.2⟩)
 have eq0:((ratB a).toList == (ratB x).toList)=true:=by rw [q0];exact beq_self_eq_true _
 have pq0:(ratB a).toList=(ratB x).toList:=by rw [q0]
 have eq1:((ratB b).toList == (ratB y).toList)=false:=beq_eq_false_iff_ne.2 (fun g=>q1 (ratB_li g))
 have pq1:¬ (ratB b).toList=(ratB y).toList:=fun g=>q1 (ratB_li g)
 have C1:=Lib.hid c1
 have C2:=Lib.hid c2
 have C3:=Lib.hid c3
 have C4:=Lib.hid c4
 have C5:=Lib.hid c5
 clear c1 c2 c3 c4 c5 q0 q1 r1 r2 r3 r4 r5 r6 r7 r8 r9 r10 r11 r12 r13 r14 r15 r16 r17 r18 r19
 have hb:=Below.refl w.heap.size w
 go_enter Tryz.func54,Tryz.ntmps54
 go_upto_region 1 with fail
 refine wp_alloc3 (fun w1 a0 a1 a2 hk=>?_)
 replace hb:=hb.trans (hk.mono hb.size)
 clear hk
 obtain ⟨Al,Am⟩:=ce2 a0
 obtain ⟨Aq,Ar⟩:=ce2 a1
 obtain ⟨Ad,Ag,Ae,Ah,Af,Ai⟩:=cf3 a2
 go_upto_region 7 with ((first | (go_at_call 95;with_reducible refine (zL hb (C1.out _ (R.below hb))).mono ?_) | (go_at_call 99;with_reducible refine (chVB hb R C2).mono ?_));clear hb;rintro e w1 ⟨rfl,hk,hb⟩;clear Al Am Aq Ar Ad Ae Af Ag Ah Ai;replace a0:=zB hk a0;replace a1:=zB hk a1;replace a2:=zB hk a2;obtain ⟨Al,Am⟩:=ce2 a0;obtain ⟨Aq,Ar⟩:=ce2 a1;obtain ⟨Ad,Ag,Ae,Ah,Af,Ai⟩:=cf3 a2;clear hk)
 clear Aq Ar a1
 refine wp_alloc1 (fun w1 Ab hk=>?_)
 clear Al Am Ad Ae Af Ag Ah Ai
 replace a0:=zB hk a0
 replace a2:=zB hk a2
 obtain ⟨Al,Am⟩:=ce2 a0
 obtain ⟨Ad,Ag,Ae,Ah,Af,Ai⟩:=cf3 a2
 replace hb:=hb.trans (hk.mono hb.size)
 clear hk
 obtain ⟨Aj,Ak⟩:=ce2 Ab
 obtain ⟨At,Au⟩:=cy2 a0
 obtain ⟨Av,Aw,Ax⟩:=cy3 a2
 obtain ⟨Ay,Az⟩:=cy2 Ab
 have A0:=rrV C3 R hb
 have As:=qqV C3 R hb
 refine wp_free1 6 0 (fun i=>if i=6 then Obj.cells #[Value.string ⟨#[]⟩,Value.string ⟨#[]⟩,Value.string ⟨#[]⟩] 81 else Obj.cells #[] 0) (fun i=>if i=6 then Obj.cells #[Value.string (ratB (b - y)),Value.string (ratB (-(a - x))),Value.string ⟨#[48]⟩] 81 else Obj.cells #[] 0) (some 8) (by first | assumption | kernel_rfl) (by kernel_rfl) ?lay rfl ?_
 case lay =>
   intro i h1 h2
   obtain rfl:i=6:=by omega
   all_goals exact ⟨_,rfl,rfl,fun a w=>(by first | (go_simp;done) | (go_simp;rfl))⟩
 simp only [List.take_succ_cons,List.take_zero]
 repeat (refine wpB_step (fun K hK=>?_);go_simp;first | (refine hK _ ?_;clear hK K) | (apply Exists.intro;refine ⟨fun _=>?_,hK _ ?_⟩;(first | (with_reducible exact As.out _ _));clear hK K))
 refine wpB_nil ?_
 intro Ac
 refine ⟨?_,?_⟩
 · refine ⟨_,rfl,rfl,rfl,fun cs b h=>(by cases h),fun w hw=>?_⟩
   replace hw:w.heap[Ac]? = some (Obj.cells #[Value.string ⟨#[]⟩,Value.string ⟨#[]⟩,Value.string ⟨#[]⟩] 81):=hw
   have z0:w.cell? ⟨Ac,0,none⟩=some (Value.string ⟨#[]⟩):=zA hw
   have y0:w.frozen? ⟨Ac,0,none⟩=false:=zD hw
   have z1:w.cell? ⟨Ac,1,none⟩=some (Value.string ⟨#[]⟩):=zA hw
   have y1:w.frozen? ⟨Ac,1,none⟩=false:=zD hw
   have z2:w.cell? ⟨Ac,2,none⟩=some (Value.string ⟨#[]⟩):=zA hw
   have y2:w.frozen? ⟨Ac,2,none⟩=false:=zD hw
   refine ⟨_,?_,(Wrote.set (i:=2) (Wrote.set (i:=1) (Wrote.set (i:=0) (Wrote.refl hw) (Value.string (ratB (b - y)))) (Value.string (ratB (-(a - x))))) (Value.string ⟨#[48]⟩))⟩
   go_simp
 intro w1 hk m0 Aa
 have mb7_0:w.heap.size≤Ac:=Nat.le_trans hb.size m0
 have mc7_0_0:=Nat.lt_of_lt_of_le (Array.getElem?_eq_some_iff.1 a0).1 m0
 have mc7_0_2:=Nat.lt_of_lt_of_le (Array.getElem?_eq_some_iff.1 a2).1 m0
 have mc7_0_g7_0:=Nat.lt_of_lt_of_le (Array.getElem?_eq_some_iff.1 Ab).1 m0
 clear Al Am Ad Ae Af Ag Ah Ai Aj Ak
 replace a0:=zB hk a0
 replace a2:=zB hk a2
 replace Ab:=zB hk Ab
 obtain ⟨Al,Am⟩:=ce2 a0
 obtain ⟨Ad,Ag,Ae,Ah,Af,Ai⟩:=cf3 a2
 obtain ⟨Aj,Ak⟩:=ce2 Ab
 replace hb:=hb.trans (hk.mono hb.size)
 clear hk
 replace Aa:w1.heap[Ac]? = some (Obj.cells #[Value.string (ratB (b - y)),Value.string (ratB (-(a - x))),Value.string ⟨#[48]⟩] 81):=Aa
 have An:w1.cell? ⟨Ac,0,none⟩=some (Value.string (ratB (b - y))):=zA Aa
 have Ao:w1.cell? ⟨Ac,1,none⟩=some (Value.string (ratB (-(a - x)))):=zA Aa
 have Ap:w1.cell? ⟨Ac,2,none⟩=some (Value.string ⟨#[48]⟩):=zA Aa
 have fv7_0_0:w1.frozen? ⟨Ac,0,none⟩=false:=zD Aa
 have fv7_0_1:w1.frozen? ⟨Ac,1,none⟩=false:=zD Aa
 have fv7_0_2:w1.frozen? ⟨Ac,2,none⟩=false:=zD Aa
 clear As A0 At Au Av Aw Ax Ay Az m0
 go_upto_region 9 with (first | (go_at_call 103;with_reducible refine (chVB hb R C4).mono ?_;clear hb;rintro e w1 ⟨rfl,hk,hb⟩;clear Al Am Ad Ae Af Ag Ah Ai Aj Ak An Ao Ap fv7_0_0 fv7_0_1 fv7_0_2;replace a0:=zB hk a0;replace a2:=zB hk a2;replace Ab:=zB hk Ab;replace Aa:=zB hk Aa;obtain ⟨Al,Am⟩:=ce2 a0;obtain ⟨Ad,Ag,Ae,Ah,Af,Ai⟩:=cf3 a2;obtain ⟨Aj,Ak⟩:=ce2 Ab;obtain ⟨An,fv7_0_0,Ao,fv7_0_1,Ap,fv7_0_2⟩:=cf3 Aa;clear hk) | (go_at_call 104;with_reducible refine (zL hb (C5.out _ (R.below hb))).mono ?_;clear hb;rintro e w1 ⟨rfl,hk,hb⟩;clear Ad Ae Af Ag Ah Ai Aj Ak An Ao Ap fv7_0_0 fv7_0_1 fv7_0_2;replace a2:=zB hk a2;replace Ab:=zB hk Ab;replace Aa:=zB hk Aa;obtain ⟨Ad,Ag,Ae,Ah,Af,Ai⟩:=cf3 a2;obtain ⟨Aj,Ak⟩:=ce2 Ab;obtain ⟨An,fv7_0_0,Ao,fv7_0_1,Ap,fv7_0_2⟩:=cf3 Aa;clear hk))
 refine wp_store3_2 hb mb7_0 Aa (fun w1 hb Aa hj=>?_)
 replace a2:=(hj _ (by omega)).trans a2
 replace Ab:=(hj _ (by omega)).trans Ab
 clear Aj Ak
 clear hj An Ao Ap fv7_0_0 fv7_0_1 fv7_0_2 Ad Ae Af Ag Ah Ai
 obtain ⟨Ad,Ag,Ae,Ah,Af,Ai⟩:=cf3 a2
 have An:w1.cell? ⟨Ac,0,none⟩=some (Value.string (ratB (b - y))):=zA Aa
 have Ao:w1.cell? ⟨Ac,1,none⟩=some (Value.string (ratB (-(a - x)))):=zA Aa
 have Ap:w1.cell? ⟨Ac,2,none⟩=some (Value.string (ratB ((((b - y)*a)+((-(a - x))*b)) - (0:Rat)))):=zA Aa
 have fv7_0_0:w1.frozen? ⟨Ac,0,none⟩=false:=zD Aa
 have fv7_0_1:w1.frozen? ⟨Ac,1,none⟩=false:=zD Aa
 have fv7_0_2:w1.frozen? ⟨Ac,2,none⟩=false:=zD Aa
 obtain ⟨Aj,Ak⟩:=ce2 Ab
 go_wp2_with (first | (go_at_call 103;with_reducible refine (chVB hb R C4).mono ?_;clear hb;rintro e w1 ⟨rfl,hk,hb⟩;clear Al Am Ad Ae Af Ag Ah Ai Aj Ak An Ao Ap fv7_0_0 fv7_0_1 fv7_0_2;replace a0:=zB hk a0;replace a2:=zB hk a2;replace Ab:=zB hk Ab;replace Aa:=zB hk Aa;obtain ⟨Al,Am⟩:=ce2 a0;obtain ⟨Ad,Ag,Ae,Ah,Af,Ai⟩:=cf3 a2;obtain ⟨Aj,Ak⟩:=ce2 Ab;obtain ⟨An,fv7_0_0,Ao,fv7_0_1,Ap,fv7_0_2⟩:=cf3 Aa;clear hk) | (go_at_call 104;with_reducible refine (zL hb (C5.out _ (R.below hb))).mono ?_;clear hb;rintro e w1 ⟨rfl,hk,hb⟩;clear Ad Ae Af Ag Ah Ai Aj Ak An Ao Ap fv7_0_0 fv7_0_1 fv7_0_2;replace a2:=zB hk a2;replace Ab:=zB hk Ab;replace Aa:=zB hk Aa;obtain ⟨Ad,Ag,Ae,Ah,Af,Ai⟩:=cf3 a2;obtain ⟨Aj,Ak⟩:=ce2 Ab;obtain ⟨An,fv7_0_0,Ao,fv7_0_1,Ap,fv7_0_2⟩:=cf3 Aa;clear hk))
 refine bodyPost_ret (v:=.tuple #[.agg #[.string (ratB (b - y)),.string (ratB (x - a)),.string (ratB (((b - y)*a)+((x - a)*b)))],.int .i64 0]) (by simp [results,Tryz.results54,go_sem,Ad,Ae,Af]) rfl ⟨rfl,?_⟩
 repeat' (first | exact hb | refine Below.setCell ?_ (by first | exact Nat.le_refl _ | (dsimp only;omega)) _)
theorem through_2 (a b x y:Rat) (q0:a=x) (q1:b=y) (r1:RL a 200) (r2:RL b 200) (r3:RL x 200) (r4:RL y 200) (w:World) (R:EnvV w) :
   Calls Tryz.prog 54 #[.agg #[.string (ratB a),.string (ratB b)],.agg #[.string (ratB x),.string (ratB y)]] w (Ret w (.tuple #[.agg #[.string ⟨#[]⟩,.string ⟨#[]⟩,.string ⟨#[]⟩],.int .i64 17])):=by
 have c1:=fun (w:World) (R:EnvV w)=>checkPts2 a b x y r1 r2 r3 r4 w R.toEnvR
 have eq0:((ratB a).toList == (ratB x).toList)=true:=by rw [q0];exact beq_self_eq_true _
 have pq0:(ratB a).toList=(ratB x).toList:=by rw [q0]
 have eq1:((ratB b).toList == (ratB y).toList)=true:=by rw [q1];exact beq_self_eq_true _
 have pq1:(ratB b).toList=(ratB y).toList:=by rw [q1]
 have C1:=Lib.hid c1
 clear c1 q0 q1 r1 r2 r3 r4
 have hb:=Below.refl w.heap.size w
 go_enter Tryz.func54,Tryz.ntmps54
 go_upto_region 1 with fail
 refine wp_alloc3 (fun w1 a0 a1 a2 hk=>?_)
 replace hb:=hb.trans (hk.mono hb.size)
 clear hk
 obtain ⟨Ad,Ae⟩:=ce2 a0
 obtain ⟨Af,Ag⟩:=ce2 a1
 obtain ⟨Aa,Ah,Ab,Ai,Ac,Aj⟩:=cf3 a2
 go_wp2_with (go_at_call 95;with_reducible refine (zL hb (C1.out _ (R.below hb))).mono ?_;clear hb;rintro e w1 ⟨rfl,hk,hb⟩;clear Ad Ae Af Ag Aa Ab Ac Ah Ai Aj;replace a0:=zB hk a0;replace a1:=zB hk a1;replace a2:=zB hk a2;obtain ⟨Ad,Ae⟩:=ce2 a0;obtain ⟨Af,Ag⟩:=ce2 a1;obtain ⟨Aa,Ah,Ab,Ai,Ac,Aj⟩:=cf3 a2;clear hk)
 refine bodyPost_ret (v:=.tuple #[.agg #[.string ⟨#[]⟩,.string ⟨#[]⟩,.string ⟨#[]⟩],.int .i64 17]) (by simp [results,Tryz.results54,go_sem,Aa,Ab,Ac]) rfl ⟨rfl,?_⟩
 repeat' (first | exact hb | refine Below.setCell ?_ (by first | exact Nat.le_refl _ | (dsimp only;omega)) _)
end Go.Proofs.YtpennccflalobaaGreatDoor.Kl
