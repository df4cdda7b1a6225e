import Derived.Test.YtpennccflalobaaGreatDoorKlVTurnsRatX
import Derived.Test.YtpennccflalobaaGreatDoorKlVTurnsFree2
import Derived.Test.YtpennccflalobaaGreatDoorKlBVEZ
namespace Go.Proofs.YtpennccflalobaaGreatDoor.Kl
open Go Go.RowKit
set_option maxRecDepth 100000
set_option maxHeartbeats 8000000
theorem RN_field (a b:Int) (_ha : -32768≤a∧a≤32767) (_hb:0≤b∧b≤255):RN (fieldQ a b) 5 3:=
 RN_mk _ _ 5 3 (by decide) (by decide) (by omega) (dlen_le _ 5 (by decide) (by omega)) (dlen_le _ 3 (by decide) (by omega))
theorem firstErr_w (blk n c:Nat) (ts:List Int) (hn:ts.length=n) (_hnb:n≤20) (v:Int) (hv:firstNZ ts=v) (w:World) (hc:∀ (j:Nat) (t:Int),ts[j]? = some t→w.cell? ⟨blk,j,none⟩=some (.int .i64 t)) :
   Calls Tryz.prog 21 #[.slice (some ⟨blk,0,none⟩) n c] w (Ret w (.int .i64 v)):=by
 have HC:=Lib.hid hc
 have HV:=Lib.hid hv
 have HN:=Lib.hid hn
 clear hc hv hn
 go_enter Tryz.func21,Tryz.ntmps21
 go_wp2
 go_loopw [3] (fun i wr=>∃ k:Nat,k≤n∧i = .int .i64 k∧(∀ t,t ∈ ts.take k→t=0)∧Below w.heap.size w wr) (fun i _=>n - (intOf i).toNat)
 case atStart=>exact ⟨0,Nat.zero_le _,rfl,by simp,Below.refl _ _⟩
 case round =>
   obtain ⟨k,hk,rfl,hall,hb⟩:=hrel
   have HA:=Lib.hid hall
   clear hall
   by_cases hlt:k < n
   · obtain ⟨t,ht⟩:∃ t,ts[k]? = some t:=⟨_,List.getElem?_eq_getElem (by rw [HN.out];exact hlt)⟩
     have x0:wr.cell? ⟨blk,k,none⟩=some (.int .i64 t):=zC hb (HC.out k t ht)
     have HT:=Lib.hid ht
     clear ht
     by_cases hz:t=0
     · have HF:=Lib.hid hz
       go_wp2
       go_roundw
       case rel =>
         refine ⟨k+1,by omega,by go_num,fun u hu=>?_,hb⟩
         rw [List.take_add_one,HT.out] at hu
         rcases List.mem_append.1 hu with h | h
         · exact HA.out u h
         · have:u=t:=by simpa using h
           rw [this];exact HF.out
       case measure=>simp [intOf];omega
     · have HF2:t=v:=(firstNZ_at ts k t HA.out HT.out hz).symm.trans HV.out
       have HG:=Lib.hid HF2
       clear HF2
       go_wp2
       go_ret
       exact ⟨retI HG.out,hb⟩
   · have ek:k=n:=by omega
     have HG:Hid (0=v):=Lib.hid (by rw [← HV.out];symm;exact firstNZ_zero ts (fun t ht=>HA.out t (by rw [List.take_of_length_le (by rw [HN.out];omega)];exact ht)))
     go_wp2
     go_ret
     exact ⟨retI HG.out,hb⟩
set_option maxRecDepth 512 in
theorem firstErr5 (a0 a1 a2 a3 a4:Int) (v:Int) (hv:firstNZ [a0,a1,a2,a3,a4]=v) (w:World) (_R:EnvR w) :
   Calls Tryz.prog 21 #[.slice (some ⟨w.heap.size,0,none⟩) 5 5] (w.alloc (Obj.cells #[Value.int .i64 a0,Value.int .i64 a1,Value.int .i64 a2,Value.int .i64 a3,Value.int .i64 a4] 31)) (Ret w (.int .i64 v)):=by
 have hba:Below w.heap.size w (w.alloc (Obj.cells #[Value.int .i64 a0,Value.int .i64 a1,Value.int .i64 a2,Value.int .i64 a3,Value.int .i64 a4] 31)):=(Below.refl _ _).alloc (Nat.le_refl _) _
 refine (firstErr_w w.heap.size 5 5 [a0,a1,a2,a3,a4] rfl (by decide) v hv _ ?_).mono fun e w' h=>⟨h.1,hba.trans (h.2.mono hba.size)⟩
 intro j t h
 match j,h with
 | 0,h=>injection h with h;subst h;simp [go_sem]
 | 1,h=>injection h with h;subst h;simp [go_sem]
 | 2,h=>injection h with h;subst h;simp [go_sem]
 | 3,h=>injection h with h;subst h;simp [go_sem]
 | 4,h=>injection h with h;subst h;simp [go_sem]
 | j+5,h=>simp at h
theorem resP_w (w:World) (R:EnvR w) (s0 s1:ByteArray) (blk n c:Nat) (h:∀ w0:World,Below w.heap.size w w0→EnvR w0→Calls Tryz.prog 123 #[.slice (some ⟨blk,0,none⟩) n c,.func (Fn.func 124) #[] #[]] w0 fun e w' => e = .returned (.bool false)∧Below w0.heap.size w0 w') :
   Calls Tryz.prog 100 #[.agg #[.string s0,.string s1],.slice (some ⟨blk,0,none⟩) n c] w (Ret w (.tuple #[.agg #[.string s0,.string s1],.int .i64 0])):=by
 have H:=Lib.hid h
 clear h
 have hb:=Below.refl w.heap.size w
 go_enter Tryz.func100,Tryz.ntmps100
 go_upto_region 1 with fail
 refine wp_alloc2 (fun w1 a0 a1 hk=>?_)
 replace hb:=hb.trans (hk.mono hb.size)
 clear hk
 obtain ⟨Ac,Ad⟩:=ce2 a0
 obtain ⟨Aa,Ae,Ab,Af⟩:=cf2 a1
 go_wp2_with (go_at_call 123;(with_reducible refine (zK hb (H.out _ hb (R.below hb))).mono ?_);clear hb;rintro e w1 ⟨rfl,hk,hb⟩;replace Ae:=zF hk a1 Ae;replace Af:=zF hk a1 Af;replace Ac:=zC hk Ac;replace Ad:=zC hk Ad;replace Aa:=zC hk Aa;replace Ab:=zC hk Ab;clear hk)
 refine bodyPost_ret (v:=.tuple #[.agg #[.string s0,.string s1],.int .i64 0]) (by simp [results,Tryz.results100,go_sem,Aa,Ab]) rfl ⟨rfl,?_⟩
 repeat' (first | exact hb | refine Below.setCell ?_ (by first | exact Nat.le_refl _ | (dsimp only;omega)) _)
set_option maxRecDepth 512 in
theorem resP (s0 s1 t0 t1:ByteArray) (hm:∀ t,t ∈ [t0,t1]→∃ q:Rat,t=ratB q∧RL q 200) (w:World) (R:EnvR w) :
   Calls Tryz.prog 100 #[.agg #[.string s0,.string s1],.slice (some ⟨w.heap.size,0,none⟩) 2 2] (w.alloc (Obj.cells #[Value.string t0,Value.string t1] 22)) (Ret w (.tuple #[.agg #[.string s0,.string s1],.int .i64 0])):=by
 have hba:Below w.heap.size w (w.alloc (Obj.cells #[Value.string t0,Value.string t1] 22)):=(Below.refl _ _).alloc (Nat.le_refl _) _
 refine (resP_w _ (R.below hba) s0 s1 w.heap.size 2 2 (fun w0 hb R0=>containsLong_w w.heap.size 2 2 [t0,t1] rfl (by decide) w0 R0 hm ?_)).mono fun e w' h=>⟨h.1,hba.trans (h.2.mono hba.size)⟩
 intro j t h
 refine zC hb ?_
 match j,h with
 | 0,h=>injection h with h;subst h;simp [go_sem]
 | 1,h=>injection h with h;subst h;simp [go_sem]
 | j+2,h=>simp at h
theorem refMinor (a b c k:Rat) (r1:RL a 400) (r2:RL b 400) (r3:RL c 400) (r4:RL k 400) (r5:RL (a*b) 400) (r6:RL (c*k) 400) (w:World) (R:EnvR w) :
   Calls Tryz.prog 86 #[.string (ratB a),.string (ratB b),.string (ratB c),.string (ratB k)] w (Ret w (.string (ratB ((a*b) - (c*k))))):=by
 have c1:=fun (w:World) (R:EnvR w)=>refRMul_any a b w R r1 r2
 have c2:=fun (w:World) (R:EnvR w)=>refRMul_any c k w R r3 r4
 have c3:=refRSub_any (a*b) (c*k) r5 r6
 have C1:=Lib.hid c1
 have C2:=Lib.hid c2
 have C3:=Lib.hid c3
 clear c1 c2 c3 r1 r2 r3 r4 r5 r6
 have hb:=Below.refl w.heap.size w
 go_enter Tryz.func86,Tryz.ntmps86
 go_wp2_with ((first | (go_at_call 58;first | with_reducible refine (chRB hb R C1).mono ?_ | with_reducible refine (chRB hb R C2).mono ?_) | (go_at_call 55;with_reducible refine (chRB hb R C3).mono ?_));clear hb;rintro e w1 ⟨rfl,hk,hb⟩;clear hk)
 first | go_ret | go_ret2 | go_ret3
 exact ⟨rfl,hb⟩
theorem turn_any (a b c d x y:Rat) (r1:RL a 200) (r2:RL b 200) (r3:RL c 200) (r4:RL d 200) (r5:RL x 200) (r6:RL y 200) (r7:RL c 10000) (r8:RL a 10000) (r9:RL d 10000) (r10:RL b 10000) (r11:RL x 10000) (r12:RL y 10000) (r13:RL (c - a) 10000) (r14:RL (y - b) 10000) (r15:RL (d - b) 10000) (r16:RL (x - a) 10000) (r17:RL ((c - a)*(y - b)) 10000) (r18:RL ((d - b)*(x - a)) 10000) (r19:RL (((c - a)*(y - b)) - ((d - b)*(x - a))) 100000) (w:World) (R:EnvR w) :
   Calls Tryz.prog 45 #[.agg #[.string (ratB a),.string (ratB b)],.agg #[.string (ratB c),.string (ratB d)],.agg #[.string (ratB x),.string (ratB y)]] w (Ret w (.tuple #[.int .i64 (((c - a)*(y - b)) - ((d - b)*(x - a))).num.sign,.int .i64 0])):=by
 have c1:=checkPts3 a b c d x y r1 r2 r3 r4 r5 r6
 have c2:=area_any a b c d x y r7 r8 r9 r10 r11 r12 r13 r14 r15 r16 r17 r18
 have c3:=rsign_any (((c - a)*(y - b)) - ((d - b)*(x - a))) r19
 have C1:=Lib.hid c1
 have C2:=Lib.hid c2
 have C3:=Lib.hid c3
 clear c1 c2 c3 r1 r2 r3 r4 r5 r6 r7 r8 r9 r10 r11 r12 r13 r14 r15 r16 r17 r18 r19
 have hb:=Below.refl w.heap.size w
 go_enter Tryz.func45,Tryz.ntmps45
 go_upto_region 1 with fail
 refine wp_alloc3 (fun w1 a0 a1 a2 hk=>?_)
 replace hb:=hb.trans (hk.mono hb.size)
 clear hk
 obtain ⟨Aa,Ab⟩:=ce2 a0
 obtain ⟨Ac,Ad⟩:=ce2 a1
 obtain ⟨Ae,Af⟩:=ce2 a2
 go_wp2_with ((first | (go_at_call 95;with_reducible refine (zL hb (C1.out _ (R.below hb))).mono ?_) | (go_at_call 97;with_reducible refine (chRB hb R C2).mono ?_) | (go_at_call 96;with_reducible refine (chRB hb R C3).mono ?_));clear hb;rintro e w1 ⟨rfl,hk,hb⟩;clear Aa Ab Ac Ad Ae Af;replace a0:=zB hk a0;replace a1:=zB hk a1;replace a2:=zB hk a2;obtain ⟨Aa,Ab⟩:=ce2 a0;obtain ⟨Ac,Ad⟩:=ce2 a1;obtain ⟨Ae,Af⟩:=ce2 a2;clear hk)
 first | go_ret | go_ret2 | go_ret3
 exact ⟨rfl,hb⟩
theorem toward_any (a b c d k:Rat) (r1:RL a 200) (r2:RL b 200) (r3:RL c 200) (r4:RL d 200) (r5:RL k 200) (r6:RL c 10000) (r7:RL a 10000) (r8:RL d 10000) (r9:RL b 10000) (r10:RL k 10000) (r11:RL (c - a) 10000) (r12:RL (k*(c - a)) 10000) (r13:RL (d - b) 10000) (r14:RL (k*(d - b)) 10000) (r15:RL (a+(k*(c - a))) 200) (r16:RL (b+(k*(d - b))) 200) (w:World) (R:EnvR w) :
   Calls Tryz.prog 48 #[.agg #[.string (ratB a),.string (ratB b)],.agg #[.string (ratB c),.string (ratB d)],.string (ratB k)] w (Ret w (.tuple #[.agg #[.string (ratB (a+(k*(c - a)))),.string (ratB (b+(k*(d - b))))],.int .i64 0])):=by
 have c1:=checkPts2 a b c d r1 r2 r3 r4
 have c2:CR 70 #[.string (ratB k)] (.int .i64 0):=fun w R=>rcheck_any _ 0 (.inl ⟨isRat_of r5,rfl⟩) (Nat.le_trans (size_of_RL r5) (by decide)) w R
 have c3:=orErr2 0 0 0 (by decide)
 have c4:=way_any a b c d r6 r7 r8 r9
 have c5:=rmul_any k (c - a) r10 r11
 have c6:=radd_any a (k*(c - a)) r7 r12
 have c7:=rmul_any k (d - b) r10 r13
 have c8:=radd_any b (k*(d - b)) r9 r14
 have c9:∀ w,EnvR w→Calls Tryz.prog 100 #[.agg #[.string (ratB (a+(k*(c - a)))),.string (ratB (b+(k*(d - b))))],.slice (some ⟨w.heap.size,0,none⟩) 2 2] (w.alloc (Obj.cells #[Value.string (ratB (a+(k*(c - a)))),Value.string (ratB (b+(k*(d - b))))] 22)) (Ret w (.tuple #[.agg #[.string (ratB (a+(k*(c - a)))),.string (ratB (b+(k*(d - b))))],.int .i64 0])):=fun w R=>resP (ratB (a+(k*(c - a)))) (ratB (b+(k*(d - b)))) (ratB (a+(k*(c - a)))) (ratB (b+(k*(d - b)))) (by intro t ht;simp only [List.mem_cons,List.not_mem_nil,or_false] at ht;rcases ht with rfl | rfl;exact ⟨_,rfl,r15⟩;exact ⟨_,rfl,r16⟩) w R
 have C1:=Lib.hid c1
 have C2:=Lib.hid c2
 have C3:=Lib.hid c3
 have C4:=Lib.hid c4
 have C5:=Lib.hid c5
 have C6:=Lib.hid c6
 have C7:=Lib.hid c7
 have C8:=Lib.hid c8
 have C9:=Lib.hid c9
 clear c1 c2 c3 c4 c5 c6 c7 c8 c9 r1 r2 r3 r4 r5 r6 r7 r8 r9 r10 r11 r12 r13 r14 r15 r16
 have hb:=Below.refl w.heap.size w
 go_enter Tryz.func48,Tryz.ntmps48
 go_upto_region 1 with fail
 refine wp_alloc3 (fun w1 a0 a1 a2 hk=>?_)
 replace hb:=hb.trans (hk.mono hb.size)
 clear hk
 obtain ⟨Ah,Ai⟩:=ce2 a0
 obtain ⟨Al,Am⟩:=ce2 a1
 obtain ⟨Aa,Ac,Ab,Ad⟩:=cf2 a2
 go_upto_region 5 with ((first | (go_at_call 95;with_reducible refine (zL hb (C1.out _ (R.below hb))).mono ?_) | (go_at_call 70;with_reducible refine (chRB hb R C2).mono ?_) | (go_at_call 69;with_reducible refine (zL hb (C3.out _ (R.below hb))).mono ?_) | (go_at_call 99;with_reducible refine (chRB hb R C4).mono ?_));clear hb;rintro e w1 ⟨rfl,hk,hb⟩;clear Ah Ai Al Am Aa Ab Ac Ad;replace a0:=zB hk a0;replace a1:=zB hk a1;replace a2:=zB hk a2;obtain ⟨Ah,Ai⟩:=ce2 a0;obtain ⟨Al,Am⟩:=ce2 a1;obtain ⟨Aa,Ac,Ab,Ad⟩:=cf2 a2;clear hk)
 clear Al Am a1
 refine wp_alloc1 (fun w1 Ae hk=>?_)
 clear Ah Ai Aa Ab Ac Ad
 replace a0:=zB hk a0
 replace a2:=zB hk a2
 obtain ⟨Ah,Ai⟩:=ce2 a0
 obtain ⟨Aa,Ac,Ab,Ad⟩:=cf2 a2
 replace hb:=hb.trans (hk.mono hb.size)
 clear hk
 obtain ⟨Aj,Ak⟩:=ce2 Ae
 obtain ⟨At,Au⟩:=cy2 a0
 obtain ⟨Av,Aw⟩:=cy2 a2
 obtain ⟨Ax,Ay⟩:=cy2 Ae
 have Az:=rrR C5 R hb
 have A0:=rrR C6 R hb
 have A1:=rrR C7 R hb
 have A2:=rrR C8 R hb
 have An:=qqR C5 R hb
 have Ao:=qqR C6 R hb
 have Ap:=qqR C7 R hb
 have Aq:=qqR C8 R hb
 refine wp_free1 15 0 (fun i=>if i=15 then Obj.cells #[Value.string ⟨#[]⟩,Value.string ⟨#[]⟩] 30 else Obj.cells #[] 0) (fun i=>if i=15 then Obj.cells #[Value.string (ratB (a+(k*(c - a)))),Value.string (ratB (b+(k*(d - b))))] 30 else Obj.cells #[] 0) (some 10) (by first | assumption | kernel_rfl) (by kernel_rfl) ?lay rfl ?_
 case lay =>
   intro i h1 h2
   obtain rfl:i=15:=by omega
   all_goals exact ⟨_,rfl,rfl,fun a w=>(by first | (go_simp;done) | (go_simp;rfl))⟩
 simp only [List.take_succ_cons,List.take_zero]
 repeat (refine wpB_step (fun K hK=>?_);go_simp;first | (refine hK _ ?_;clear hK K) | (apply Exists.intro;refine ⟨fun _=>?_,hK _ ?_⟩;(first | (with_reducible exact An.out _ _) | (with_reducible exact Ao.out _ _) | (with_reducible exact Ap.out _ _) | (with_reducible exact Aq.out _ _));clear hK K))
 refine wpB_nil ?_
 intro Af
 refine ⟨?_,?_⟩
 · refine ⟨_,rfl,rfl,rfl,fun cs b h=>(by cases h),fun w hw=>?_⟩
   replace hw:w.heap[Af]? = some (Obj.cells #[Value.string ⟨#[]⟩,Value.string ⟨#[]⟩] 30):=hw
   have z0:w.cell? ⟨Af,0,none⟩=some (Value.string ⟨#[]⟩):=zA hw
   have y0:w.frozen? ⟨Af,0,none⟩=false:=zD hw
   have z1:w.cell? ⟨Af,1,none⟩=some (Value.string ⟨#[]⟩):=zA hw
   have y1:w.frozen? ⟨Af,1,none⟩=false:=zD hw
   refine ⟨_,?_,(Wrote.set (i:=1) (Wrote.set (i:=0) (Wrote.refl hw) (Value.string (ratB (a+(k*(c - a)))))) (Value.string (ratB (b+(k*(d - b))))))⟩
   go_simp
 intro w1 hk m0 Ag
 clear Ah Ai Aa Ab Ac Ad Aj Ak
 replace a0:=zB hk a0
 replace a2:=zB hk a2
 replace Ae:=zB hk Ae
 obtain ⟨Ah,Ai⟩:=ce2 a0
 obtain ⟨Aa,Ac,Ab,Ad⟩:=cf2 a2
 obtain ⟨Aj,Ak⟩:=ce2 Ae
 replace hb:=hb.trans (hk.mono hb.size)
 clear hk
 replace Ag:w1.heap[Af]? = some (Obj.cells #[Value.string (ratB (a+(k*(c - a)))),Value.string (ratB (b+(k*(d - b))))] 30):=Ag
 have Ar:w1.cell? ⟨Af,0,none⟩=some (Value.string (ratB (a+(k*(c - a))))):=zA Ag
 have As:w1.cell? ⟨Af,1,none⟩=some (Value.string (ratB (b+(k*(d - b))))):=zA Ag
 clear An Ao Ap Aq Az A0 A1 A2 At Au Av Aw Ax Ay m0
 go_wp2_with (go_at_call 100;with_reducible refine (zL hb (C9.out _ (R.below hb))).mono ?_;clear hb;rintro e w1 ⟨rfl,hk,hb⟩;clear Aa Ab Ac Ad Aj Ak Ar As;replace a2:=zB hk a2;replace Ae:=zB hk Ae;replace Ag:=zB hk Ag;obtain ⟨Aa,Ac,Ab,Ad⟩:=cf2 a2;obtain ⟨Aj,Ak⟩:=ce2 Ae;obtain ⟨Ar,As⟩:=ce2 Ag;clear hk)
 refine bodyPost_ret (v:=.tuple #[.agg #[.string (ratB (a+(k*(c - a)))),.string (ratB (b+(k*(d - b))))],.int .i64 0]) (by simp [results,Tryz.results48,go_sem,Aa,Ab]) rfl ⟨rfl,?_⟩
 repeat' (first | exact hb | refine Below.setCell ?_ (by first | exact Nat.le_refl _ | (dsimp only;omega)) _)
theorem refPArea (a b c d x y:Rat) (r1:RL c 400) (r2:RL a 400) (r3:RL y 400) (r4:RL b 400) (r5:RL d 400) (r6:RL x 400) (r7:RL (c - a) 400) (r8:RL (y - b) 400) (r9:RL (d - b) 400) (r10:RL (x - a) 400) (r11:RL ((c - a)*(y - b)) 400) (r12:RL ((d - b)*(x - a)) 400) (w:World) (R:EnvR w) :
   Calls Tryz.prog 52 #[.agg #[.string (ratB a),.string (ratB b)],.agg #[.string (ratB c),.string (ratB d)],.agg #[.string (ratB x),.string (ratB y)]] w (Ret w (.string (ratB (((c - a)*(y - b)) - ((d - b)*(x - a)))))):=by
 have c1:=refRSub_any c a r1 r2
 have c2:=refRSub_any y b r3 r4
 have c3:=refRSub_any d b r5 r4
 have c4:=refRSub_any x a r6 r2
 have c5:=refMinor (c - a) (y - b) (d - b) (x - a) r7 r8 r9 r10 r11 r12
 have C1:=Lib.hid c1
 have C2:=Lib.hid c2
 have C3:=Lib.hid c3
 have C4:=Lib.hid c4
 have C5:=Lib.hid c5
 clear c1 c2 c3 c4 c5 r1 r2 r3 r4 r5 r6 r7 r8 r9 r10 r11 r12
 have hb:=Below.refl w.heap.size w
 go_enter Tryz.func52,Tryz.ntmps52
 go_upto_region 1 with fail
 refine wp_alloc3 (fun w1 a0 a1 a2 hk=>?_)
 replace hb:=hb.trans (hk.mono hb.size)
 clear hk
 obtain ⟨Aa,Ab⟩:=ce2 a0
 obtain ⟨Ac,Ad⟩:=ce2 a1
 obtain ⟨Ae,Af⟩:=ce2 a2
 go_upto_region 1 with fail
 obtain ⟨Al,Am⟩:=cy2 a0
 obtain ⟨An,Ao⟩:=cy2 a1
 obtain ⟨Ap,Aq⟩:=cy2 a2
 have Ag:=rrR C1 R hb
 have Ah:=rrR C2 R hb
 have Ai:=rrR C3 R hb
 have Aj:=rrR C4 R hb
 have Ak:=rrR C5 R hb
 refine wp_region_quiet_below (by first | assumption | kernel_rfl) (by kernel_rfl) ?_
 repeat (quiet_step (first | (with_reducible exact Ag.out _ _) | (with_reducible exact Ah.out _ _) | (with_reducible exact Ai.out _ _) | (with_reducible exact Aj.out _ _) | (with_reducible exact Ak.out _ _)))
 refine wpQuiet_nil ?_
 intro w1 hw'
 obtain ⟨hk,hb⟩:=zQ hb hw'
 clear Aa Ab Ac Ad Ae Af
 replace a0:=zB hk a0
 replace a1:=zB hk a1
 replace a2:=zB hk a2
 obtain ⟨Aa,Ab⟩:=ce2 a0
 obtain ⟨Ac,Ad⟩:=ce2 a1
 obtain ⟨Ae,Af⟩:=ce2 a2
 clear Ag Ah Ai Aj Ak Al Am An Ao Ap Aq
 clear hk hw'
 go_wp2
 first | go_ret | go_ret2 | go_ret3
 exact ⟨rfl,hb⟩
theorem refPTurn (a b c d x y:Rat) (r1:RL c 400) (r2:RL a 400) (r3:RL y 400) (r4:RL b 400) (r5:RL d 400) (r6:RL x 400) (r7:RL (c - a) 400) (r8:RL (y - b) 400) (r9:RL (d - b) 400) (r10:RL (x - a) 400) (r11:RL ((c - a)*(y - b)) 400) (r12:RL ((d - b)*(x - a)) 400) (w:World) (R:EnvR w) :
   Calls Tryz.prog 51 #[.agg #[.string (ratB a),.string (ratB b)],.agg #[.string (ratB c),.string (ratB d)],.agg #[.string (ratB x),.string (ratB y)]] w (Ret w (.int .i64 (((c - a)*(y - b)) - ((d - b)*(x - a))).num.sign)):=by
 have c1:=refPArea a b c d x y r1 r2 r3 r4 r5 r6 r7 r8 r9 r10 r11 r12
 have c2:=refRSign_any (((c - a)*(y - b)) - ((d - b)*(x - a)))
 have C1:=Lib.hid c1
 have C2:=Lib.hid c2
 clear c1 c2 r1 r2 r3 r4 r5 r6 r7 r8 r9 r10 r11 r12
 have hb:=Below.refl w.heap.size w
 go_enter Tryz.func51,Tryz.ntmps51
 go_upto_region 1 with fail
 refine wp_alloc3 (fun w1 a0 a1 a2 hk=>?_)
 replace hb:=hb.trans (hk.mono hb.size)
 clear hk
 obtain ⟨Aa,Ab⟩:=ce2 a0
 obtain ⟨Ac,Ad⟩:=ce2 a1
 obtain ⟨Ae,Af⟩:=ce2 a2
 go_wp2_with ((first | (go_at_call 52;with_reducible refine (chRB hb R C1).mono ?_) | (go_at_call 42;with_reducible refine (chRB hb R C2).mono ?_));clear hb;rintro e w1 ⟨rfl,hk,hb⟩;clear Aa Ab Ac Ad Ae Af;replace a0:=zB hk a0;replace a1:=zB hk a1;replace a2:=zB hk a2;obtain ⟨Aa,Ab⟩:=ce2 a0;obtain ⟨Ac,Ad⟩:=ce2 a1;obtain ⟨Ae,Af⟩:=ce2 a2;clear hk)
 first | go_ret | go_ret2 | go_ret3
 exact ⟨rfl,hb⟩
theorem refPToward (a b c d k:Rat) (r1:RL c 400) (r2:RL a 400) (r3:RL k 400) (r4:RL (c - a) 400) (r5:RL (k*(c - a)) 400) (r6:RL d 400) (r7:RL b 400) (r8:RL (d - b) 400) (r9:RL (k*(d - b)) 400) (w:World) (R:EnvR w) :
   Calls Tryz.prog 49 #[.agg #[.string (ratB a),.string (ratB b)],.agg #[.string (ratB c),.string (ratB d)],.string (ratB k)] w (Ret w (.agg #[.string (ratB (a+(k*(c - a)))),.string (ratB (b+(k*(d - b))))])):=by
 have c1:=refRSub_any c a r1 r2
 have c2:=fun (w:World) (R:EnvR w)=>refRMul_any k (c - a) w R r3 r4
 have c3:=fun (w:World) (R:EnvR w)=>refRAdd_any a (k*(c - a)) w R r2 r5
 have c4:=refRSub_any d b r6 r7
 have c5:=fun (w:World) (R:EnvR w)=>refRMul_any k (d - b) w R r3 r8
 have c6:=fun (w:World) (R:EnvR w)=>refRAdd_any b (k*(d - b)) w R r7 r9
 have C1:=Lib.hid c1
 have C2:=Lib.hid c2
 have C3:=Lib.hid c3
 have C4:=Lib.hid c4
 have C5:=Lib.hid c5
 have C6:=Lib.hid c6
 clear c1 c2 c3 c4 c5 c6 r1 r2 r3 r4 r5 r6 r7 r8 r9
 have hb:=Below.refl w.heap.size w
 go_enter Tryz.func49,Tryz.ntmps49
 go_upto_region 1 with fail
 refine wp_alloc3 (fun w1 a0 a1 a2 hk=>?_)
 replace hb:=hb.trans (hk.mono hb.size)
 clear hk
 obtain ⟨Ac,Ad⟩:=ce2 a0
 obtain ⟨Ae,Af⟩:=ce2 a1
 obtain ⟨Aa,Ag,Ab,Ah⟩:=cf2 a2
 go_upto_region 1 with fail
 obtain ⟨Ao,Ap⟩:=cy2 a0
 obtain ⟨Aq,Ar⟩:=cy2 a1
 obtain ⟨As,At⟩:=cy2 a2
 have Ai:=rrR C1 R hb
 have Aj:=rrR C2 R hb
 have Ak:=rrR C3 R hb
 have Al:=rrR C4 R hb
 have Am:=rrR C5 R hb
 have An:=rrR C6 R hb
 refine wp_region_tail_below 21 (by first | assumption | kernel_rfl) (by kernel_rfl) ?_
 simp only [List.take_succ_cons,List.take_zero,List.drop_succ_cons,List.drop_zero]
 repeat (quiet_step (first | (with_reducible exact Ai.out _ _) | (with_reducible exact Aj.out _ _) | (with_reducible exact Ak.out _ _) | (with_reducible exact Al.out _ _) | (with_reducible exact Am.out _ _) | (with_reducible exact An.out _ _)))
 refine wpQuiet_nil ?_
 intro w1 hw'
 obtain ⟨hk,hb⟩:=zQ hb hw'
 clear Ac Ad Ae Af Aa Ab Ag Ah
 replace a0:=zB hk a0
 replace a1:=zB hk a1
 replace a2:=zB hk a2
 obtain ⟨Ac,Ad⟩:=ce2 a0
 obtain ⟨Ae,Af⟩:=ce2 a1
 obtain ⟨Aa,Ag,Ab,Ah⟩:=cf2 a2
 clear Ai Aj Ak Al Am An Ao Ap Aq Ar As At
 clear hk hw'
 go_wp2
 refine bodyPost_ret (v:=.agg #[.string (ratB (a+(k*(c - a)))),.string (ratB (b+(k*(d - b))))]) (by simp [results,Tryz.results49,go_sem,Aa,Ab]) rfl ⟨rfl,?_⟩
 repeat' (first | exact hb | refine Below.setCell ?_ (by first | exact Nat.le_refl _ | (dsimp only;omega)) _)
theorem among_any (a b x:Rat) (ra:RL a 10000) (rb:RL b 10000) (rx:RL x 10000) (w:World) (R:EnvR w) :
   Calls Tryz.prog 98 #[.string (ratB a),.string (ratB b),.string (ratB x)] w (Ret w (.bool (decide (0≤(a - x).num.sign*(x - b).num.sign)))):=by
 have c1:=rcompare_any a x (ra.mono (by decide)) (rx.mono (by decide))
 have c2:=rcompare_any x b (rx.mono (by decide)) (rb.mono (by decide))
 have hw:IntKind.i64.wrap ((a - x).num.sign*(x - b).num.sign)=(a - x).num.sign*(x - b).num.sign:=sign_wrap _ _ (sign_in _) (sign_in _)
 obtain ⟨s,es⟩:∃ v,(a - x).num.sign=v:=⟨_,rfl⟩
 try simp only [es] at c1 c2 hw ⊢
 obtain ⟨t,et⟩:∃ v,(x - b).num.sign=v:=⟨_,rfl⟩
 try simp only [et] at c1 c2 hw ⊢
 obtain ⟨va,eva⟩:∃ v,ratB a=v:=⟨_,rfl⟩
 try simp only [eva] at c1 c2 hw ⊢
 obtain ⟨vb,evb⟩:∃ v,ratB b=v:=⟨_,rfl⟩
 try simp only [evb] at c1 c2 hw ⊢
 obtain ⟨vx,evx⟩:∃ v,ratB x=v:=⟨_,rfl⟩
 try simp only [evx] at c1 c2 hw ⊢
 have C1:=Lib.hid c1
 have C2:=Lib.hid c2
 clear c1 c2 es et eva evb evx ra rb rx
 have hb:=Below.refl w.heap.size w
 go_enter Tryz.func98,Tryz.ntmps98
 go_wp2_with ((go_at_call 78;first | with_reducible refine (chRA hb R C1).mono ?_ | with_reducible refine (chRA hb R C2).mono ?_);clear hb;rintro e w1 ⟨rfl,hb⟩)
 go_ret
 exact ⟨rfl,hb⟩
theorem refInside_any (a b x:Rat) (ra:RL a 400) (rb:RL b 400) (rx:RL x 400) (w:World) (R:EnvR w) :
   Calls Tryz.prog 50 #[.string (ratB a),.string (ratB b),.string (ratB x)] w (Ret w (.bool (decide ((x - a).num.sign*(x - b).num.sign≤0)))):=by
 have c1:=refRCompare_any x a (rx.mono (by decide)) (ra.mono (by decide))
 have c2:=refRCompare_any x b (rx.mono (by decide)) (rb.mono (by decide))
 have hw:IntKind.i64.wrap ((x - a).num.sign*(x - b).num.sign)=(x - a).num.sign*(x - b).num.sign:=sign_wrap _ _ (sign_in _) (sign_in _)
 obtain ⟨s,es⟩:∃ v,(x - a).num.sign=v:=⟨_,rfl⟩
 try simp only [es] at c1 c2 hw ⊢
 obtain ⟨t,et⟩:∃ v,(x - b).num.sign=v:=⟨_,rfl⟩
 try simp only [et] at c1 c2 hw ⊢
 obtain ⟨va,eva⟩:∃ v,ratB a=v:=⟨_,rfl⟩
 try simp only [eva] at c1 c2 hw ⊢
 obtain ⟨vb,evb⟩:∃ v,ratB b=v:=⟨_,rfl⟩
 try simp only [evb] at c1 c2 hw ⊢
 obtain ⟨vx,evx⟩:∃ v,ratB x=v:=⟨_,rfl⟩
 try simp only [evx] at c1 c2 hw ⊢
 have C1:=Lib.hid c1
 have C2:=Lib.hid c2
 clear c1 c2 es et eva evb evx ra rb rx
 have hb:=Below.refl w.heap.size w
 go_enter Tryz.func50,Tryz.ntmps50
 go_wp2_with ((go_at_call 101;first | with_reducible refine (chRA hb R C1).mono ?_ | with_reducible refine (chRA hb R C2).mono ?_);clear hb;rintro e w1 ⟨rfl,hb⟩)
 go_ret
 exact ⟨rfl,hb⟩
end Go.Proofs.YtpennccflalobaaGreatDoor.Kl
