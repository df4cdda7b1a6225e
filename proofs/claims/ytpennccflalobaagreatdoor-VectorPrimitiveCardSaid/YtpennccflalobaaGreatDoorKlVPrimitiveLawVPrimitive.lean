import Derived.Test.YtpennccflalobaaGreatDoorKlVPrimitiveVZ
namespace Go.Proofs.YtpennccflalobaaGreatDoor.Kl
open Go Go.RowKit
set_option maxRecDepth 100000
set_option maxHeartbeats 8000000
theorem it_ne1 (n:Nat) (h:n≠1):((itoaB (n:Int)).toList == [49])=false:=by
 refine beq_eq_false_iff_ne.2 (fun g=>h ?_)
 have h1:(itoaB ((1:Nat):Int)).toList=[49]:=by rw [it_1];decide +kernel
 have:itoaB (n:Int)=itoaB ((1:Nat):Int):=by
   have e:=g.trans h1.symm
   rw [Lib.toList_data,Lib.toList_data] at e
   exact ByteArray.ext (Array.toList_inj.1 e)
 have:=itoa_inj this
 omega
theorem prim_sign (a b c:Rat) (h:a≠0∨b≠0∨c≠0):(a*(a*primF a b c)+(b*(b*primF a b c)+c*(c*primF a b c))).num.sign=1:=by
 have hF:=prim_pos a b c h
 have e:a*(a*primF a b c)+(b*(b*primF a b c)+c*(c*primF a b c))=primF a b c*(a*a+b*b+c*c):=by grind
 have sq:∀ q:Rat,0≤q*q:=fun q=>by
   rcases (Rat.le_total:(0:Rat)≤q∨q≤0) with h | h
   · exact Rat.mul_nonneg h h
   · have:0 ≤ -q:=by grind
     have:=Rat.mul_nonneg this this
     grind
 have sp:∀ q:Rat,q≠0→0 < q*q:=fun q hq=>by
   have h0:=sq q
   have hne:q*q≠0:=fun h=>(Rat.mul_eq_zero.1 h).elim hq hq
   grind
 have hs:0 < a*a+b*b+c*c:=by
   have ha:=sq a
   have hb:=sq b
   have hc:=sq c
   rcases h with h | h | h
   · have:=sp a h;grind
   · have:=sp b h;grind
   · have:=sp c h;grind
 have hp:0 < primF a b c*(a*a+b*b+c*c):=Rat.mul_pos hF hs
 rw [e,sign_rat,if_neg (by grind),if_neg (by grind)]
theorem prim_den1 (a b c:Rat) (h:a≠0∨b≠0∨c≠0):(a*primF a b c).den=1∧(b*primF a b c).den=1∧(c*primF a b c).den=1:=by
 have hD:=primD_pos a b c h
 obtain ⟨d1,d2,d3⟩:=primD_dvd a b c
 obtain ⟨m1,m2,m3⟩:=primM_dvd a b c
 unfold primF
 rw [prim_int a _ _ hD d1 m1,prim_int b _ _ hD d2 m2,prim_int c _ _ hD d3 m3]
 exact ⟨rfl,rfl,rfl⟩
theorem RN_share (k:Nat) (_h0:0 < k) (h:k≤99):RN (Rat.divInt 1 (k:Int)) 1 2:=RN_mk 1 k 1 2 (by decide) (by decide) (by omega) (by decide +kernel) (dlen_le _ 2 (by decide) (by omega))
theorem prim_zero (a b c:Rat) (q0:a=0) (q1:b=0) (q2:c=0) (r1:RL a 200) (r2:RL b 200) (r3:RL c 200) (w:World) (R:EnvV w) :
   Calls Tryz.prog 39 #[.agg #[.string (ratB a),.string (ratB b),.string (ratB c)]] w (Ret w (.tuple #[.agg #[.string ⟨#[]⟩,.string ⟨#[]⟩,.string ⟨#[]⟩],.int .i64 17])):=by
 have c1:=fun (w:World) (R:EnvV w)=>vcheck_ok a b c r1 r2 r3 w R.toEnvR
 have eq0:((ratB a).toList == [48])=true:=by rw [ratB_eq_zero];exact decide_eq_true q0
 have pq0:(ratB a).toList=[48]:=(zero_iff _).2 q0
 have eq1:((ratB b).toList == [48])=true:=by rw [ratB_eq_zero];exact decide_eq_true q1
 have pq1:(ratB b).toList=[48]:=(zero_iff _).2 q1
 have eq2:((ratB c).toList == [48])=true:=by rw [ratB_eq_zero];exact decide_eq_true q2
 have pq2:(ratB c).toList=[48]:=(zero_iff _).2 q2
 obtain ⟨Ap,Ag⟩:∃ vq,ratB a=vq:=⟨_,rfl⟩
 obtain ⟨Aq,Ah⟩:∃ vq,ratB b=vq:=⟨_,rfl⟩
 obtain ⟨Ar,Ai⟩:∃ vq,ratB c=vq:=⟨_,rfl⟩
 try simp only [Ag,Ah,Ai] at c1 eq0 pq0 eq1 pq1 eq2 pq2 ⊢
 have C1:=Lib.hid c1
 clear c1 Ag Ah Ai q0 q1 q2 r1 r2 r3
 have hb:=Below.refl w.heap.size w
 have Aa:w.cell? ⟨0,0,none⟩=some (Value.string ⟨#[48]⟩):=R.z0
 have Ab:w.cell? ⟨0,1,none⟩=some (Value.string ⟨#[48]⟩):=R.z1
 have Ac:w.cell? ⟨0,2,none⟩=some (Value.string ⟨#[48]⟩):=R.z2
 go_enter Tryz.func39,Tryz.ntmps39
 go_upto_region 1 with fail
 refine wp_alloc2 (fun w1 a0 a1 hk=>?_)
 replace Aa:=zC hk Aa
 replace Ab:=zC hk Ab
 replace Ac:=zC hk Ac
 replace hb:=hb.trans (hk.mono hb.size)
 clear hk
 obtain ⟨Aj,Ak,Al⟩:=ce3 a0
 obtain ⟨Ad,Am,Ae,An,Af,Ao⟩:=cf3 a1
 go_wp2_with (go_at_call 15;with_reducible refine (chVB hb R C1).mono ?_;clear hb;rintro e w1 ⟨rfl,hk,hb⟩;replace Aa:=zC hk Aa;replace Ab:=zC hk Ab;replace Ac:=zC hk Ac;clear Aj Ak Al Ad Ae Af Am An Ao;replace a0:=zB hk a0;replace a1:=zB hk a1;obtain ⟨Aj,Ak,Al⟩:=ce3 a0;obtain ⟨Ad,Am,Ae,An,Af,Ao⟩:=cf3 a1;clear hk)
 refine bodyPost_ret (v:=.tuple #[.agg #[.string ⟨#[]⟩,.string ⟨#[]⟩,.string ⟨#[]⟩],.int .i64 17]) (by simp [results,Tryz.results39,go_sem,Ad,Ae,Af]) rfl ⟨rfl,?_⟩
 repeat' (first | exact hb | refine Below.setCell ?_ (by first | exact Nat.le_refl _ | (dsimp only;omega)) _)
theorem integral_yes (q:Rat) (h:q.den=1) (rq:RL q 1000) (w:World) (R:EnvR w) :
   Calls Tryz.prog 41 #[.string (ratB q)] w (Ret w (.bool true)):=by
 have c1:CR 79 #[.string (ratB q)] (.tuple #[.string (itoaB q.num),.string ⟨#[49]⟩]):=fun w R=>(by have h2:=refParts_any q w R (rq.mono (by decide));rw [h,it_1] at h2;exact h2)
 obtain ⟨s,es⟩:∃ v,ratB q=v:=⟨_,rfl⟩
 try simp only [es] at c1 ⊢
 obtain ⟨n,en⟩:∃ v,itoaB q.num=v:=⟨_,rfl⟩
 try simp only [en] at c1 ⊢
 have C1:=Lib.hid c1
 clear c1 es en h rq
 have hb:=Below.refl w.heap.size w
 go_enter Tryz.func41,Tryz.ntmps41
 go_wp2_with (go_at_call 79;with_reducible refine (chRA hb R C1).mono ?_;clear hb;rintro e w1 ⟨rfl,hb⟩)
 go_ret
 exact ⟨rfl,hb⟩
theorem integral_no (q:Rat) (h:q.den≠1) (rq:RL q 1000) (w:World) (R:EnvR w) :
   Calls Tryz.prog 41 #[.string (ratB q)] w (Ret w (.bool false)):=by
 have c1:=fun (w:World) (R:EnvR w)=>refParts_any q w R (rq.mono (by decide))
 have e1:((itoaB (q.den:Int)).toList == [49])=false:=it_ne1 _ h
 have e2:¬ (itoaB (q.den:Int)).toList=[49]:=fun g=>by have:=it_ne1 _ h;rw [g] at this;exact absurd this (by decide)
 obtain ⟨s,es⟩:∃ v,ratB q=v:=⟨_,rfl⟩
 try simp only [es] at c1 e1 e2 ⊢
 obtain ⟨n,en⟩:∃ v,itoaB q.num=v:=⟨_,rfl⟩
 try simp only [en] at c1 e1 e2 ⊢
 obtain ⟨d,ed⟩:∃ v,itoaB (q.den:Int)=v:=⟨_,rfl⟩
 try simp only [ed] at c1 e1 e2 ⊢
 have C1:=Lib.hid c1
 clear c1 es en ed h rq
 have hb:=Below.refl w.heap.size w
 go_enter Tryz.func41,Tryz.ntmps41
 go_wp2_with (go_at_call 79;with_reducible refine (chRA hb R C1).mono ?_;clear hb;rintro e w1 ⟨rfl,hb⟩)
 go_ret
 exact ⟨rfl,hb⟩
theorem lawPrimitive_z  (i0 g0 i1 g1 i2 g2:Int) (p0 p1 p2:Rat) (k0:SmallIs i0 g0 p0) (k1:SmallIs i1 g1 p1) (k2:SmallIs i2 g2 p2) (q0:p0=0) (q1:p1=0) (q2:p2=0) (w:World) (R:EnvV w) :
   Calls Tryz.prog 5 #[.agg #[.int .i16 i0,.int .u8 g0,.int .i16 i1,.int .u8 g1,.int .i16 i2,.int .u8 g2]] w (Ret w (.bool true)):=by
 have c1:=known5_any
 have c2:=makeV i0 g0 i1 g1 i2 g2 p0 p1 p2 k0 k1 k2
 have c3:=prim_zero p0 p1 p2 q0 q1 q2 k0.rn.r2 k1.rn.r2 k2.rn.r2
 have c4:=refZero_3 p0 p1 p2 q0 q1 q2
 have eq0:((ratB p0).toList == [48])=true:=by rw [ratB_eq_zero];exact decide_eq_true q0
 have pq0:(ratB p0).toList=[48]:=(zero_iff _).2 q0
 have eq1:((ratB p1).toList == [48])=true:=by rw [ratB_eq_zero];exact decide_eq_true q1
 have pq1:(ratB p1).toList=[48]:=(zero_iff _).2 q1
 have eq2:((ratB p2).toList == [48])=true:=by rw [ratB_eq_zero];exact decide_eq_true q2
 have pq2:(ratB p2).toList=[48]:=(zero_iff _).2 q2
 obtain ⟨Ar,Al⟩:∃ vq,ratB p0=vq:=⟨_,rfl⟩
 obtain ⟨As,Am⟩:∃ vq,ratB p1=vq:=⟨_,rfl⟩
 obtain ⟨At,An⟩:∃ vq,ratB p2=vq:=⟨_,rfl⟩
 try simp only [Al,Am,An] at c1 c2 c3 c4 eq0 pq0 eq1 pq1 eq2 pq2 ⊢
 have C1:=Lib.hid c1
 have C2:=Lib.hid c2
 have C3:=Lib.hid c3
 have C4:=Lib.hid c4
 clear c1 c2 c3 c4 Al Am An k0 k1 k2 q0 q1 q2
 have hb:=Below.refl w.heap.size w
 go_enter Tryz.func5,Tryz.ntmps5
 go_upto_region 1 with fail
 refine wp_alloc1 (fun w1 a0 hk=>?_)
 replace hb:=hb.trans (hk.mono hb.size)
 clear hk
 obtain ⟨Af,Ag,Ah,Ai,Aj,Ak⟩:=ce6 a0
 go_upto_region 4 with ((first | (go_at_call 13;with_reducible refine (chVB hb R C1).mono ?_) | (go_at_call 30;with_reducible refine (chVB hb R C2).mono ?_));clear hb;rintro e w1 ⟨rfl,hk,hb⟩;clear Af Ag Ah Ai Aj Ak;replace a0:=zB hk a0;obtain ⟨Af,Ag,Ah,Ai,Aj,Ak⟩:=ce6 a0;clear hk)
 clear Af Ag Ah Ai Aj Ak a0
 refine wp_alloc1 (fun w1 Aa hk=>?_)
 replace hb:=hb.trans (hk.mono hb.size)
 clear hk
 obtain ⟨Ab,Ac,Ad⟩:=ce3 Aa
 go_upto_region 5 with (go_at_call 39;with_reducible refine (chVB hb R C3).mono ?_;clear hb;rintro e w1 ⟨rfl,hk,hb⟩;clear Ab Ac Ad;replace Aa:=zB hk Aa;obtain ⟨Ab,Ac,Ad⟩:=ce3 Aa;clear hk)
 refine wp_alloc1 (fun w1 Ae hk=>?_)
 clear Ab Ac Ad
 replace Aa:=zB hk Aa
 obtain ⟨Ab,Ac,Ad⟩:=ce3 Aa
 replace hb:=hb.trans (hk.mono hb.size)
 clear hk
 obtain ⟨Ao,Ap,Aq⟩:=ce3 Ae
 go_wp2_with (go_at_call 38;with_reducible refine (chVB hb R C4).mono ?_;clear hb;rintro e w1 ⟨rfl,hk,hb⟩;clear Ab Ac Ad Ao Ap Aq;replace Aa:=zB hk Aa;replace Ae:=zB hk Ae;obtain ⟨Ab,Ac,Ad⟩:=ce3 Aa;obtain ⟨Ao,Ap,Aq⟩:=ce3 Ae;clear hk)
 first | go_ret | go_ret2 | go_ret3
 exact ⟨rfl,hb⟩
theorem lawPrimitive_n  (i0 g0 i1 g1 i2 g2:Int) (p0 p1 p2:Rat) (k0:SmallIs i0 g0 p0) (k1:SmallIs i1 g1 p1) (k2:SmallIs i2 g2 p2) (hn:p0≠0∨p1≠0∨p2≠0) (w:World) (R:EnvV w) :
   Calls Tryz.prog 5 #[.agg #[.int .i16 i0,.int .u8 g0,.int .i16 i1,.int .u8 g1,.int .i16 i2,.int .u8 g2]] w (Ret w (.bool true)):=by
 have Aa:=RN_mul k0.rn (RN_prim (n:=5) (d:=3) hn (by decide) (by decide) (RN.up k0.rn (by decide) (by decide)) (RN.up k1.rn (by decide) (by decide)) (RN.up k2.rn (by decide) (by decide)))
 have Ab:=RN_mul k1.rn (RN_prim (n:=5) (d:=3) hn (by decide) (by decide) (RN.up k0.rn (by decide) (by decide)) (RN.up k1.rn (by decide) (by decide)) (RN.up k2.rn (by decide) (by decide)))
 have Ac:=RN_mul k2.rn (RN_prim (n:=5) (d:=3) hn (by decide) (by decide) (RN.up k0.rn (by decide) (by decide)) (RN.up k1.rn (by decide) (by decide)) (RN.up k2.rn (by decide) (by decide)))
 have Aj:=k0.rn.rl (K:=200)
 have Ak:=k1.rn.rl (K:=200)
 have Al:=k2.rn.rl (K:=200)
 have Ah:=Aa.rl (K:=200)
 have As:=Ab.rl (K:=200)
 have At:=Ac.rl (K:=200)
 have Bi:=Aa.rl (K:=1000)
 have Am:=Ab.rl (K:=1000)
 have An:=Ac.rl (K:=1000)
 have Ai:=k1.rn.rl (K:=400)
 have Au:=Ac.rl (K:=400)
 have Av:=k2.rn.rl (K:=400)
 have Aw:=Ab.rl (K:=400)
 have Ax:=RN_mul k1.rn Ac
 have Bj:=Ax.rl (K:=400)
 have Ay:=RN_mul k2.rn Ab
 have Bk:=Ay.rl (K:=400)
 have Az:=Aa.rl (K:=400)
 have A0:=k0.rn.rl (K:=400)
 have A1:=RN_mul k2.rn Aa
 have Bl:=A1.rl (K:=400)
 have A2:=RN_mul k0.rn Ac
 have Bm:=A2.rl (K:=400)
 have A3:=RN_mul k0.rn Ab
 have Bn:=A3.rl (K:=400)
 have A4:=RN_mul k1.rn Aa
 have Bo:=A4.rl (K:=400)
 have B0:=RN_sub (N:=30) Ax Ay
 have B1:=RN_sub (N:=30) A1 A2
 have B2:=RN_sub (N:=30) A3 A4
 have A5:=RN_mul k1.rn Ab
 have Bp:=A5.rl (K:=400)
 have A6:=RN_mul k2.rn Ac
 have Bq:=A6.rl (K:=400)
 have A7:=RN_mul k0.rn Aa
 have Br:=A7.rl (K:=400)
 have A8:=RN_add (N:=30) A5 A6
 have Bs:=A8.rl (K:=400)
 have B3:=RN_add (N:=42) A7 A8
 have c1:=known5_any
 have c2:=makeV i0 g0 i1 g1 i2 g2 p0 p1 p2 k0 k1 k2
 have c3:=prim_any p0 p1 p2 hn Aj Ak Al Ah As At
 have c4:=refZero_no p0 p1 p2  hn
 have c5:=refRight3_any (p0*(primF p0 p1 p2)) (p1*(primF p0 p1 p2)) (p2*(primF p0 p1 p2)) Ah As At
 have c6:=fun (w:World) (R:EnvV w)=>integral_yes (p0*(primF p0 p1 p2)) (prim_den1 p0 p1 p2 hn).1 Bi w R.toEnvR
 have c7:=fun (w:World) (R:EnvV w)=>integral_yes (p1*(primF p0 p1 p2)) (prim_den1 p0 p1 p2 hn).2.1 Am w R.toEnvR
 have c8:=fun (w:World) (R:EnvV w)=>integral_yes (p2*(primF p0 p1 p2)) (prim_den1 p0 p1 p2 hn).2.2 An w R.toEnvR
 have c9:CV 37 #[.agg #[.string (ratB p0),.string (ratB p1),.string (ratB p2)],.agg #[.string (ratB (p0*(primF p0 p1 p2))),.string (ratB (p1*(primF p0 p1 p2))),.string (ratB (p2*(primF p0 p1 p2)))]] (.agg #[.string ⟨#[48]⟩,.string ⟨#[48]⟩,.string ⟨#[48]⟩]):=fun w R=>(by have h:=refVCross p0 p1 p2 (p0*(primF p0 p1 p2)) (p1*(primF p0 p1 p2)) (p2*(primF p0 p1 p2)) Ai Au Av Aw Bj Bk Az A0 Bl Bm Bn Bo w R.toEnvR;rw [show (p1*(p2*(primF p0 p1 p2))) - (p2*(p1*(primF p0 p1 p2)))=0 from by grind,show (p2*(p0*(primF p0 p1 p2))) - (p0*(p2*(primF p0 p1 p2)))=0 from by grind,show (p0*(p1*(primF p0 p1 p2))) - (p1*(p0*(primF p0 p1 p2)))=0 from by grind,rb_0] at h;exact h)
 have c10:CV 38 #[.agg #[.string ⟨#[48]⟩,.string ⟨#[48]⟩,.string ⟨#[48]⟩]] (.bool true):=fun w R=>(by have h:=refZero_3 (0:Rat) (0:Rat) (0:Rat) rfl rfl rfl  w R;simp only [rb_0] at h;exact h)
 have c11:=fun (w:World) (R:EnvV w)=>refVDot p0 p1 p2 (p0*(primF p0 p1 p2)) (p1*(primF p0 p1 p2)) (p2*(primF p0 p1 p2)) A0 Az Ai Aw Av Au Bp Bq Br Bs w R.toEnvR
 have c12:CV 42 #[.string (ratB ((p0*(p0*(primF p0 p1 p2)))+((p1*(p1*(primF p0 p1 p2)))+(p2*(p2*(primF p0 p1 p2))))))] (.int .i64 1):=fun w R=>(by have h:=refRSign_any ((p0*(p0*(primF p0 p1 p2)))+((p1*(p1*(primF p0 p1 p2)))+(p2*(p2*(primF p0 p1 p2))))) w R.toEnvR;rw [show ((p0*(p0*(primF p0 p1 p2)))+((p1*(p1*(primF p0 p1 p2)))+(p2*(p2*(primF p0 p1 p2))))).num.sign=1 from prim_sign p0 p1 p2 hn] at h;exact h)
 obtain ⟨B4,Bt⟩:∃ vq,ratB ((p0*(p0*(primF p0 p1 p2)))+((p1*(p1*(primF p0 p1 p2)))+(p2*(p2*(primF p0 p1 p2)))))=vq:=⟨_,rfl⟩
 obtain ⟨B5,A9⟩:∃ vq,ratB (p0*(primF p0 p1 p2))=vq:=⟨_,rfl⟩
 obtain ⟨B6,Ba⟩:∃ vq,ratB (p1*(primF p0 p1 p2))=vq:=⟨_,rfl⟩
 obtain ⟨B7,Bb⟩:∃ vq,ratB (p2*(primF p0 p1 p2))=vq:=⟨_,rfl⟩
 obtain ⟨B8,Bu⟩:∃ vq,ratB p0=vq:=⟨_,rfl⟩
 obtain ⟨B9,Bv⟩:∃ vq,ratB p1=vq:=⟨_,rfl⟩
 obtain ⟨Ca,Bw⟩:∃ vq,ratB p2=vq:=⟨_,rfl⟩
 try simp only [Bt,A9,Ba,Bb,Bu,Bv,Bw] at c1 c2 c3 c4 c5 c6 c7 c8 c9 c10 c11 c12 ⊢
 have C1:=Lib.hid c1
 have C2:=Lib.hid c2
 have C3:=Lib.hid c3
 have C4:=Lib.hid c4
 have C5:=Lib.hid c5
 have C6:=Lib.hid c6
 have C7:=Lib.hid c7
 have C8:=Lib.hid c8
 have C9:=Lib.hid c9
 have C10:=Lib.hid c10
 have C11:=Lib.hid c11
 have C12:=Lib.hid c12
 have HY1:=Lib.hid Ba
 have HY2:=Lib.hid A9
 have HY3:=Lib.hid Bb
 have K0:=Lib.hid k0
 have K1:=Lib.hid k1
 have K2:=Lib.hid k2
 clear c1 c2 c3 c4 c5 c6 c7 c8 c9 c10 c11 c12 Bt A9 Ba Bb Bu Bv Bw Aa Ab Ac Aj Ak Al Ah As At Bi Am An Ai Au Av Aw Ax Bj Ay Bk Az A0 A1 Bl A2 Bm A3 Bn A4 Bo B0 B1 B2 A5 Bp A6 Bq A7 Br A8 Bs B3 k0 k1 k2
 have hb:=Below.refl w.heap.size w
 go_enter Tryz.func5,Tryz.ntmps5
 go_upto_region 1 with fail
 refine wp_alloc1 (fun w1 a0 hk=>?_)
 replace hb:=hb.trans (hk.mono hb.size)
 clear hk
 obtain ⟨Bc,Bd,Be,Bf,Bg,Bh⟩:=ce6 a0
 go_upto_region 4 with ((first | (go_at_call 13;with_reducible refine (chVB hb R C1).mono ?_) | (go_at_call 30;with_reducible refine (chVB hb R C2).mono ?_));clear hb;rintro e w1 ⟨rfl,hk,hb⟩;clear Bc Bd Be Bf Bg Bh;replace a0:=zB hk a0;obtain ⟨Bc,Bd,Be,Bf,Bg,Bh⟩:=ce6 a0;clear hk)
 clear Bc Bd Be Bf Bg Bh a0
 refine wp_alloc1 (fun w1 Ad hk=>?_)
 replace hb:=hb.trans (hk.mono hb.size)
 clear hk
 obtain ⟨Ae,Af,Ag⟩:=ce3 Ad
 go_upto_region 5 with (go_at_call 39;with_reducible refine (chVB hb R C3).mono ?_;clear hb;rintro e w1 ⟨rfl,hk,hb⟩;clear Ae Af Ag;replace Ad:=zB hk Ad;obtain ⟨Ae,Af,Ag⟩:=ce3 Ad;clear hk)
 refine wp_alloc1 (fun w1 Ao hk=>?_)
 clear Ae Af Ag
 replace Ad:=zB hk Ad
 obtain ⟨Ae,Af,Ag⟩:=ce3 Ad
 replace hb:=hb.trans (hk.mono hb.size)
 clear hk
 obtain ⟨Ap,Aq,Ar⟩:=ce3 Ao
 go_wp2_with ((first | (go_at_call 38;first | with_reducible refine (chVB hb R C4).mono ?_ | with_reducible refine (chVB hb R C10).mono ?_) | (go_at_call 40;with_reducible refine (chVB hb R C5).mono ?_) | (go_at_call 41;first | with_reducible refine (chVB hb R C6).mono ?_ | with_reducible refine (chVB hb R C7).mono ?_ | with_reducible refine (chVB hb R C8).mono ?_) | (go_at_call 37;with_reducible refine (chVB hb R C9).mono ?_) | (go_at_call 36;with_reducible refine (chVB hb R C11).mono ?_) | (go_at_call 42;with_reducible refine (chVB hb R C12).mono ?_));clear hb;rintro e w1 ⟨rfl,hk,hb⟩;clear Ae Af Ag Ap Aq Ar;replace Ad:=zB hk Ad;replace Ao:=zB hk Ao;obtain ⟨Ae,Af,Ag⟩:=ce3 Ad;obtain ⟨Ap,Aq,Ar⟩:=ce3 Ao;clear hk)
 have HN:=Lib.hid hn
 have HB:=Lib.hid hb
 have HX:=Lib.hid (And.intro Ap (And.intro Aq Ar))
 clear hn hb Ap Aq Ar Ao Ae Af Ag Ad
 go_loopw [6] (fun i wr=>∃ k:Nat,2≤k∧k≤40∧i = .int .i64 k∧Below w1.heap.size w1 wr) (fun i _=>40 - (intOf i).toNat)
 case atStart=>exact ⟨2,by omega,by omega,rfl,Below.refl _ _⟩
 case round =>
   obtain ⟨k,hk2,hk40,rfl,hw⟩:=hrel
   have hb:Below w.heap.size w wr:=HB.out.trans (hw.mono HB.out.size)
   have xp0:=zC hw HX.out.1
   have xp1:=zC hw HX.out.2.1
   have xp2:=zC hw HX.out.2.2
   by_cases hlt:k < 40
   · have nk:=RN_share k (by omega) (by omega)
     have k0:=K0.out
     have k1:=K1.out
     have k2:=K2.out
     have hn:=HN.out
     have Aa:=RN_mul k0.rn (RN_prim (n:=5) (d:=3) hn (by decide) (by decide) (RN.up k0.rn (by decide) (by decide)) (RN.up k1.rn (by decide) (by decide)) (RN.up k2.rn (by decide) (by decide)))
     have Ab:=RN_mul k1.rn (RN_prim (n:=5) (d:=3) hn (by decide) (by decide) (RN.up k0.rn (by decide) (by decide)) (RN.up k1.rn (by decide) (by decide)) (RN.up k2.rn (by decide) (by decide)))
     have Ac:=RN_mul k2.rn (RN_prim (n:=5) (d:=3) hn (by decide) (by decide) (RN.up k0.rn (by decide) (by decide)) (RN.up k1.rn (by decide) (by decide)) (RN.up k2.rn (by decide) (by decide)))
     have Aj:=Aa.rl (K:=400)
     have Ak:=nk.rl (K:=400)
     have Al:=Ab.rl (K:=400)
     have Ah:=Ac.rl (K:=400)
     have Bx:=RN_mul Aa nk
     have By:=RN_mul Ab nk
     have Bz:=RN_mul Ac nk
     have Am:=Bx.rl (K:=1000)
     have An:=By.rl (K:=1000)
     have Ai:=Bz.rl (K:=1000)
     have rs0:=Am
     have rs1:=An
     have rs2:=Ai
     have cO:=fun (w:World) (R:EnvV w)=>refROf_any 1 (k:Int) (by decide) (by decide) (by omega) (by omega) (by omega) w R.toEnvR
     have cS:=fun (w:World) (R:EnvV w)=>refVScale (p0*(primF p0 p1 p2)) (p1*(primF p0 p1 p2)) (p2*(primF p0 p1 p2)) (Rat.divInt 1 (k:Int)) Aj Ak Al Ah w R.toEnvR
     have ey1:=HY1.out
     have ey2:=HY2.out
     have ey3:=HY3.out
     simp only [ey1,ey2,ey3] at cS
     obtain ⟨sk,esk⟩:∃ v,ratB (Rat.divInt 1 (k:Int))=v:=⟨_,rfl⟩
     simp only [esk] at cO cS
     have CO:=Lib.hid cO
     clear cO esk
     clear ey1 ey2 ey3 k0 k1 k2 nk Aa Ab Ac Aj Ak Al Ah Bx By Bz Am An Ai
     by_cases i0:(p0*(primF p0 p1 p2)*Rat.divInt 1 (k:Int)).den=1
     · by_cases i1:(p1*(primF p0 p1 p2)*Rat.divInt 1 (k:Int)).den=1
       · by_cases i2:(p2*(primF p0 p1 p2)*Rat.divInt 1 (k:Int)).den=1
         · exact (prim_no p0 p1 p2 HN.out k hk2 i0 i1 i2).elim
         · skip
           have ci0:=fun (w:World) (R:EnvV w)=>integral_yes (p0*(primF p0 p1 p2)*Rat.divInt 1 (k:Int)) i0 rs0 w R.toEnvR
           have ci1:=fun (w:World) (R:EnvV w)=>integral_yes (p1*(primF p0 p1 p2)*Rat.divInt 1 (k:Int)) i1 rs1 w R.toEnvR
           have ci2:=fun (w:World) (R:EnvV w)=>integral_no (p2*(primF p0 p1 p2)*Rat.divInt 1 (k:Int)) i2 rs2 w R.toEnvR
           obtain ⟨s0,es0⟩:∃ v,ratB (p0*(primF p0 p1 p2)*Rat.divInt 1 (k:Int))=v:=⟨_,rfl⟩
           obtain ⟨s1,es1⟩:∃ v,ratB (p1*(primF p0 p1 p2)*Rat.divInt 1 (k:Int))=v:=⟨_,rfl⟩
           obtain ⟨s2,es2⟩:∃ v,ratB (p2*(primF p0 p1 p2)*Rat.divInt 1 (k:Int))=v:=⟨_,rfl⟩
           simp only [es0,es1,es2] at cS ci0 ci1 ci2
           have CI0:=Lib.hid ci0
           have CI1:=Lib.hid ci1
           have CI2:=Lib.hid ci2
           have CS:=Lib.hid cS
           clear cS es0 es1 es2 rs0 rs1 rs2 ci0 ci1 ci2 i0 i1 i2
           go_wp2_with (first | ((first | (go_at_call 43;with_reducible refine (chVB hb R CO).mono ?_) | (go_at_call 35;with_reducible refine (chVB hb R CS).mono ?_));clear hb;rintro e w9 ⟨rfl,hk,hb⟩;replace hw:=hw.trans (hk.mono hw.size);replace xp0:=zC hk xp0;replace xp1:=zC hk xp1;replace xp2:=zC hk xp2;clear hk) | ((go_at_call 41;first | with_reducible refine (chVB hb R CI1).mono ?_ | with_reducible refine (chVB hb R CI2).mono ?_);clear hb;rintro e w9 ⟨rfl,hk,hb⟩;replace hw:=hw.trans (hk.mono hw.size);replace xp0:=zC hk xp0;replace xp1:=zC hk xp1;replace xp2:=zC hk xp2;replace xq0:=zC hk xq0;replace xq1:=zC hk xq1;replace xq2:=zC hk xq2;clear hk) | (go_at_call 41;((refine calls_alloc1 (fun w1 a9 hk=>?_));replace hb:=hb.trans (hk.mono hb.size);replace hw:=hw.trans (hk.mono hw.size);replace xp0:=zC hk xp0;replace xp1:=zC hk xp1;replace xp2:=zC hk xp2;clear hk;have xq0:w1.cell? ⟨_,0,none⟩=some (Value.string s0):=zA a9;have xq1:w1.cell? ⟨_,1,none⟩=some (Value.string s1):=zA a9;have xq2:w1.cell? ⟨_,2,none⟩=some (Value.string s2):=zA a9;clear a9;((with_reducible refine (zK hb (CI0.out _ (R.below hb))).mono ?_);clear hb;rintro e w9 ⟨rfl,hk,hb⟩;replace hw:=hw.trans (hk.mono hw.size);replace xp0:=zC hk xp0;replace xp1:=zC hk xp1;replace xp2:=zC hk xp2;replace xq0:=zC hk xq0;replace xq1:=zC hk xq1;replace xq2:=zC hk xq2;clear hk))))
           go_roundw
           case rel=>exact ⟨k+1,by omega,by omega,by go_num,hw⟩
           case measure=>simp [intOf];omega
       · skip
         have ci0:=fun (w:World) (R:EnvV w)=>integral_yes (p0*(primF p0 p1 p2)*Rat.divInt 1 (k:Int)) i0 rs0 w R.toEnvR
         have ci1:=fun (w:World) (R:EnvV w)=>integral_no (p1*(primF p0 p1 p2)*Rat.divInt 1 (k:Int)) i1 rs1 w R.toEnvR
         obtain ⟨s0,es0⟩:∃ v,ratB (p0*(primF p0 p1 p2)*Rat.divInt 1 (k:Int))=v:=⟨_,rfl⟩
         obtain ⟨s1,es1⟩:∃ v,ratB (p1*(primF p0 p1 p2)*Rat.divInt 1 (k:Int))=v:=⟨_,rfl⟩
         obtain ⟨s2,es2⟩:∃ v,ratB (p2*(primF p0 p1 p2)*Rat.divInt 1 (k:Int))=v:=⟨_,rfl⟩
         simp only [es0,es1,es2] at cS ci0 ci1
         have CI0:=Lib.hid ci0
         have CI1:=Lib.hid ci1
         have CS:=Lib.hid cS
         clear cS es0 es1 es2 rs0 rs1 rs2 ci0 ci1 i0 i1
         go_wp2_with (first | ((first | (go_at_call 43;with_reducible refine (chVB hb R CO).mono ?_) | (go_at_call 35;with_reducible refine (chVB hb R CS).mono ?_));clear hb;rintro e w9 ⟨rfl,hk,hb⟩;replace hw:=hw.trans (hk.mono hw.size);replace xp0:=zC hk xp0;replace xp1:=zC hk xp1;replace xp2:=zC hk xp2;clear hk) | (go_at_call 41;with_reducible refine (chVB hb R CI1).mono ?_;clear hb;rintro e w9 ⟨rfl,hk,hb⟩;replace hw:=hw.trans (hk.mono hw.size);replace xp0:=zC hk xp0;replace xp1:=zC hk xp1;replace xp2:=zC hk xp2;replace xq0:=zC hk xq0;replace xq1:=zC hk xq1;replace xq2:=zC hk xq2;clear hk) | (go_at_call 41;((refine calls_alloc1 (fun w1 a9 hk=>?_));replace hb:=hb.trans (hk.mono hb.size);replace hw:=hw.trans (hk.mono hw.size);replace xp0:=zC hk xp0;replace xp1:=zC hk xp1;replace xp2:=zC hk xp2;clear hk;have xq0:w1.cell? ⟨_,0,none⟩=some (Value.string s0):=zA a9;have xq1:w1.cell? ⟨_,1,none⟩=some (Value.string s1):=zA a9;have xq2:w1.cell? ⟨_,2,none⟩=some (Value.string s2):=zA a9;clear a9;((with_reducible refine (zK hb (CI0.out _ (R.below hb))).mono ?_);clear hb;rintro e w9 ⟨rfl,hk,hb⟩;replace hw:=hw.trans (hk.mono hw.size);replace xp0:=zC hk xp0;replace xp1:=zC hk xp1;replace xp2:=zC hk xp2;replace xq0:=zC hk xq0;replace xq1:=zC hk xq1;replace xq2:=zC hk xq2;clear hk))))
         go_roundw
         case rel=>exact ⟨k+1,by omega,by omega,by go_num,hw⟩
         case measure=>simp [intOf];omega
     · skip
       have ci0:=fun (w:World) (R:EnvV w)=>integral_no (p0*(primF p0 p1 p2)*Rat.divInt 1 (k:Int)) i0 rs0 w R.toEnvR
       obtain ⟨s0,es0⟩:∃ v,ratB (p0*(primF p0 p1 p2)*Rat.divInt 1 (k:Int))=v:=⟨_,rfl⟩
       obtain ⟨s1,es1⟩:∃ v,ratB (p1*(primF p0 p1 p2)*Rat.divInt 1 (k:Int))=v:=⟨_,rfl⟩
       obtain ⟨s2,es2⟩:∃ v,ratB (p2*(primF p0 p1 p2)*Rat.divInt 1 (k:Int))=v:=⟨_,rfl⟩
       simp only [es0,es1,es2] at cS ci0
       have CI0:=Lib.hid ci0
       have CS:=Lib.hid cS
       clear cS es0 es1 es2 rs0 rs1 rs2 ci0 i0
       go_wp2_with (first | ((first | (go_at_call 43;with_reducible refine (chVB hb R CO).mono ?_) | (go_at_call 35;with_reducible refine (chVB hb R CS).mono ?_));clear hb;rintro e w9 ⟨rfl,hk,hb⟩;replace hw:=hw.trans (hk.mono hw.size);replace xp0:=zC hk xp0;replace xp1:=zC hk xp1;replace xp2:=zC hk xp2;clear hk) | (go_at_call 41;(refine calls_alloc1 (fun w1 a9 hk=>?_));replace hb:=hb.trans (hk.mono hb.size);replace hw:=hw.trans (hk.mono hw.size);replace xp0:=zC hk xp0;replace xp1:=zC hk xp1;replace xp2:=zC hk xp2;clear hk;have xq0:w1.cell? ⟨_,0,none⟩=some (Value.string s0):=zA a9;have xq1:w1.cell? ⟨_,1,none⟩=some (Value.string s1):=zA a9;have xq2:w1.cell? ⟨_,2,none⟩=some (Value.string s2):=zA a9;clear a9;((with_reducible refine (zK hb (CI0.out _ (R.below hb))).mono ?_);clear hb;rintro e w9 ⟨rfl,hk,hb⟩;replace hw:=hw.trans (hk.mono hw.size);replace xp0:=zC hk xp0;replace xp1:=zC hk xp1;replace xp2:=zC hk xp2;replace xq0:=zC hk xq0;replace xq1:=zC hk xq1;replace xq2:=zC hk xq2;clear hk)))
       go_roundw
       case rel=>exact ⟨k+1,by omega,by omega,by go_num,hw⟩
       case measure=>simp [intOf];omega
   · have ek:k=40:=by omega
     clear hw
     go_wp2
     go_ret
     exact ⟨rfl,hb⟩
theorem lawPrimitive (i0 g0 i1 g1 i2 g2:Int) (b0:(-32768≤i0∧i0≤32767)∧(0≤g0∧g0≤255)) (b1:(-32768≤i1∧i1≤32767)∧(0≤g1∧g1≤255)) (b2:(-32768≤i2∧i2≤32767)∧(0≤g2∧g2≤255)) (w:World) (R:EnvV w) :
   Calls Tryz.prog 5 #[.agg #[.int .i16 i0,.int .u8 g0,.int .i16 i1,.int .u8 g1,.int .i16 i2,.int .u8 g2]] w (Ret w (.bool true)):=by
 obtain ⟨p0,k0⟩:∃ p,SmallIs i0 g0 p:=⟨_,b0.1,b0.2,rfl⟩
 obtain ⟨p1,k1⟩:∃ p,SmallIs i1 g1 p:=⟨_,b1.1,b1.2,rfl⟩
 obtain ⟨p2,k2⟩:∃ p,SmallIs i2 g2 p:=⟨_,b2.1,b2.2,rfl⟩
 by_cases q0:p0=0
 · by_cases q1:p1=0
   · by_cases q2:p2=0
     · exact lawPrimitive_z i0 g0 i1 g1 i2 g2 p0 p1 p2 k0 k1 k2 q0 q1 q2 w R
     · exact lawPrimitive_n i0 g0 i1 g1 i2 g2 p0 p1 p2 k0 k1 k2 (Or.inr (Or.inr q2)) w R
   · exact lawPrimitive_n i0 g0 i1 g1 i2 g2 p0 p1 p2 k0 k1 k2 (Or.inr (Or.inl q1)) w R
 · exact lawPrimitive_n i0 g0 i1 g1 i2 g2 p0 p1 p2 k0 k1 k2 (Or.inl q0) w R
end Go.Proofs.YtpennccflalobaaGreatDoor.Kl
