import Derived.Test.YtpennccflalobaaGreatDoorKlVTurnsQMid
import Derived.Test.YtpennccflalobaaGreatDoorKlVTurnsVZ
namespace Go.Proofs.YtpennccflalobaaGreatDoor.Kl
open Go Go.RowKit
set_option maxRecDepth 100000
set_option maxHeartbeats 8000000
theorem sq_sign (z:Int) (h:z≠0):z.sign*z.sign=1:=by
 rcases Int.lt_trichotomy z 0 with h1 | h1 | h1
 · rw [Int.sign_eq_neg_one_of_neg h1];decide
 · exact absurd h1 h
 · rw [Int.sign_eq_one_of_pos h1];decide
theorem tow_one (a c k:Rat) (h:a≠c):(0≤(a - (a+k*(c - a))).num.sign*((a+k*(c - a)) - c).num.sign)↔(k - 0).num.sign*(k - 1).num.sign≤0:=by
 have e1:a - (a+k*(c - a))=(-(k - 0))*(c - a):=by grind
 have e2:(a+k*(c - a)) - c=(k - 1)*(c - a):=by grind
 have hd:(c - a).num≠0:=mt Rat.num_eq_zero.1 (by grind)
 have hs:=sq_sign _ hd
 rw [e1,e2,sign_times,sign_times]
 have e3:(-(k - 0)).num.sign = -(k - 0).num.sign:=by show (-(k - 0).num).sign=_;rw [Int.sign_neg]
 rw [e3]
 generalize (c - a).num.sign=s at *
 generalize (k - 0).num.sign=u
 generalize (k - 1).num.sign=v
 rw [show -u*s*(v*s) = -(u*v)*(s*s) by grind,hs]
 omega
theorem tow_eq (a k:Rat):0≤(a - (a+k*(a - a))).num.sign*((a+k*(a - a)) - a).num.sign:=by
 rw [show a - (a+k*(a - a))=0 by grind];simp
theorem tow_area (a b c d k:Rat):(((c - a)*((b+(k*(d - b))) - b)) - ((d - b)*((a+(k*(c - a))) - a)))=0:=by grind
theorem betw_tow (a b c d k:Rat) (h:a≠c∨b≠d):betwB a b c d (a+(k*(c - a))) (b+(k*(d - b)))=decide ((k - 0).num.sign*(k - 1).num.sign≤0):=by
 unfold betwB
 rw [decide_eq_true (tow_area a b c d k),Bool.and_true,Bool.eq_iff_iff,Bool.and_eq_true,decide_eq_true_iff,decide_eq_true_iff,decide_eq_true_iff]
 by_cases h1:a=c
 · subst h1
   have h2:b≠d:=h.resolve_left (fun k=>k rfl)
   exact ⟨fun g=>(tow_one b d k h2).1 g.2,fun g=>⟨tow_eq a k,(tow_one b d k h2).2 g⟩⟩
 · by_cases h2:b=d
   · subst h2
     exact ⟨fun g=>(tow_one a c k h1).1 g.1,fun g=>⟨(tow_one a c k h1).2 g,tow_eq b k⟩⟩
   · exact ⟨fun g=>(tow_one a c k h1).1 g.1,fun g=>⟨(tow_one a c k h1).2 g,(tow_one b d k h2).2 g⟩⟩
theorem betw_same (a b c d k:Rat) (h:a=c) (g:b=d):betwB a b c d (a+(k*(c - a))) (b+(k*(d - b)))=true:=by
 subst h g
 unfold betwB
 rw [decide_eq_true (tow_area a b a b k),decide_eq_true (tow_eq a k),decide_eq_true (tow_eq b k)];rfl
theorem lawTurns_0  (i0 g0 i1 g1 i2 g2 i3 g3 i4 g4 i5 g5 i6 g6 i7 g7 i8 g8 i9 g9:Int) (p0 p1 p2 p3 p4 p5 p6 p7 p8 p9:Rat) (k0:SmallIs i0 g0 p0) (k1:SmallIs i1 g1 p1) (k2:SmallIs i2 g2 p2) (k3:SmallIs i3 g3 p3) (k4:SmallIs i4 g4 p4) (k5:SmallIs i5 g5 p5) (k6:SmallIs i6 g6 p6) (k7:SmallIs i7 g7 p7) (k8:SmallIs i8 g8 p8) (k9:SmallIs i9 g9 p9) (q0:p0≠p3) (w:World) (R:EnvV w) :
   Calls Tryz.prog 6 #[.agg #[.int .i16 i0,.int .u8 g0,.int .i16 i1,.int .u8 g1,.int .i16 i2,.int .u8 g2,.int .i16 i3,.int .u8 g3,.int .i16 i4,.int .u8 g4,.int .i16 i5,.int .u8 g5],.agg #[.int .i16 i6,.int .u8 g6,.int .i16 i7,.int .u8 g7,.int .i16 i8,.int .u8 g8],.agg #[.int .i16 i9,.int .u8 g9]] w (Ret w (.bool true)):=by
 have Ak:=RN_sub (N:=8) k3.rn k0.rn
 have Ao:=RN_sub (N:=8) k7.rn k1.rn
 have Al:=RN_sub (N:=8) k4.rn k1.rn
 have Ap:=RN_sub (N:=8) k6.rn k0.rn
 have Aq:=RN_mul Ak Ao
 have Ar:=RN_mul Al Ap
 have Bx:=RN_sub (N:=30) Aq Ar
 have B0:=Bx.rl (K:=100000)
 have Bp:=RN_mul k9.rn Ak
 have Bq:=RN_mul k9.rn Al
 have Av:=RN_add (N:=17) k0.rn Bp
 have Aw:=RN_add (N:=17) k1.rn Bq
 have By:=RN_sub (N:=21) Aw k1.rn
 have Bz:=RN_sub (N:=21) Av k0.rn
 have B1:=RN_mul Ak By
 have B2:=RN_mul Al Bz
 have c1:=known5_any
 have c2:=makeP i0 g0 i1 g1 i2 g2 p0 p1 p2 k0 k1 k2
 have c3:=makeP i3 g3 i4 g4 i5 g5 p3 p4 p5 k3 k4 k5
 have c4:=makeP i6 g6 i7 g7 i8 g8 p6 p7 p8 k6 k7 k8
 have c5:=fun (w:World) (R:EnvV w)=>makeS i9 g9 p9 k9 w R.toEnvR
 have c6:=fun (w:World) (R:EnvV w)=>turn_any p0 p1 p3 p4 p6 p7 k0.rn.r2 k1.rn.r2 k3.rn.r2 k4.rn.r2 k6.rn.r2 k7.rn.r2 k3.rn.rm k0.rn.rm k4.rn.rm k1.rn.rm k6.rn.rm k7.rn.rm Ak.rm Ao.rm Al.rm Ap.rm Aq.rm Ar.rm B0 w R.toEnvR
 have c7:=fun (w:World) (R:EnvV w)=>varea_any p0 p1 p3 p4 p6 p7 k0.rn.r2 k1.rn.r2 k3.rn.r2 k4.rn.r2 k6.rn.r2 k7.rn.r2 k3.rn.rm k0.rn.rm k4.rn.rm k1.rn.rm k6.rn.rm k7.rn.rm Ak.rm Ao.rm Al.rm Ap.rm Aq.rm Ar.rm Bx.r2 w R.toEnvR
 have c8:=between_any p0 p1 p3 p4 p6 p7 k0.rn.r2 k1.rn.r2 k3.rn.r2 k4.rn.r2 k6.rn.r2 k7.rn.r2 k0.rn.rm k3.rn.rm k6.rn.rm k1.rn.rm k4.rn.rm k7.rn.rm Ak.rm Ao.rm Al.rm Ap.rm Aq.rm Ar.rm
 have c9:=fun (w:World) (R:EnvV w)=>toward_any p0 p1 p3 p4 p9 k0.rn.r2 k1.rn.r2 k3.rn.r2 k4.rn.r2 k9.rn.r2 k3.rn.rm k0.rn.rm k4.rn.rm k1.rn.rm k9.rn.rm Ak.rm Bp.rm Al.rm Bq.rm Av.r2 Aw.r2 w R.toEnvR
 have c10:=fun (w:World) (R:EnvV w)=>refPToward p0 p1 p3 p4 p9 k3.rn.r4 k0.rn.r4 k9.rn.r4 Ak.r4 Bp.r4 k4.rn.r4 k1.rn.r4 Al.r4 Bq.r4 w R.toEnvR
 have c11:CV 47 #[.agg #[.string (ratB p0),.string (ratB p1)],.agg #[.string (ratB p3),.string (ratB p4)],.agg #[.string (ratB (p0+(p9*(p3 - p0)))),.string (ratB (p1+(p9*(p4 - p1))))]] (.tuple #[.bool (decide ((p9 - (0:Rat)).num.sign*(p9 - (1:Rat)).num.sign≤0)),.int .i64 0]):=fun w R=>(by have h:=between_any p0 p1 p3 p4 (p0+(p9*(p3 - p0))) (p1+(p9*(p4 - p1))) k0.rn.r2 k1.rn.r2 k3.rn.r2 k4.rn.r2 Av.r2 Aw.r2 k0.rn.rm k3.rn.rm Av.rm k1.rn.rm k4.rn.rm Aw.rm Ak.rm By.rm Al.rm Bz.rm B1.rm B2.rm w R;rw [show betwB p0 p1 p3 p4 (p0+(p9*(p3 - p0))) (p1+(p9*(p4 - p1)))=decide ((p9 - (0:Rat)).num.sign*(p9 - (1:Rat)).num.sign≤0) from betw_tow p0 p1 p3 p4 p9 (Or.inl q0)] at h;exact h)
 have c12:CV 50 #[.string ⟨#[48]⟩,.string ⟨#[49]⟩,.string (ratB p9)] (.bool (decide ((p9 - (0:Rat)).num.sign*(p9 - (1:Rat)).num.sign≤0))):=fun w R=>(by have h:=refInside_any (0:Rat) (1:Rat) p9 (RN.rl (K:=400) rn_0) (RN.rl (K:=400) rn_1) k9.rn.r4 w R.toEnvR;simp only [rb_0,rb_1] at h;exact h)
 have c13:=fun (w:World) (R:EnvV w)=>firstErr5 0 0 0 0 0 0 (by first | decide | simp [firstNZ]) w R.toEnvR
 have c14:=fun (w:World) (R:EnvV w)=>refPTurn p0 p1 p3 p4 p6 p7 k3.rn.r4 k0.rn.r4 k7.rn.r4 k1.rn.r4 k4.rn.r4 k6.rn.r4 Ak.r4 Ao.r4 Al.r4 Ap.r4 Aq.r4 Ar.r4 w R.toEnvR
 have c15:=fun (w:World) (R:EnvV w)=>refPArea p0 p1 p3 p4 p6 p7 k3.rn.r4 k0.rn.r4 k7.rn.r4 k1.rn.r4 k4.rn.r4 k6.rn.r4 Ak.r4 Ao.r4 Al.r4 Ap.r4 Aq.r4 Ar.r4 w R.toEnvR
 have c16:=refBetween_any p0 p1 p3 p4 p6 p7 k3.rn.r4 k0.rn.r4 k7.rn.r4 k1.rn.r4 k4.rn.r4 k6.rn.r4 Ak.r4 Ao.r4 Al.r4 Ap.r4 Aq.r4 Ar.r4
 have eq0:((ratB p0).toList == (ratB p3).toList)=false:=beq_eq_false_iff_ne.2 (fun g=>q0 (ratB_li g))
 have pq0:¬ (ratB p0).toList=(ratB p3).toList:=fun g=>q0 (ratB_li g)
 obtain ⟨Dm,B3⟩:∃ vq,ratB (((p3 - p0)*(p7 - p1)) - ((p4 - p1)*(p6 - p0)))=vq:=⟨_,rfl⟩
 obtain ⟨Dn,B4⟩:∃ vq,ratB (p0+(p9*(p3 - p0)))=vq:=⟨_,rfl⟩
 obtain ⟨Do,B5⟩:∃ vq,ratB (p1+(p9*(p4 - p1)))=vq:=⟨_,rfl⟩
 obtain ⟨Br,B6⟩:∃ vq,ratB p0=vq:=⟨_,rfl⟩
 obtain ⟨Bs,B7⟩:∃ vq,ratB p1=vq:=⟨_,rfl⟩
 obtain ⟨Bt,B8⟩:∃ vq,ratB p3=vq:=⟨_,rfl⟩
 obtain ⟨Bu,B9⟩:∃ vq,ratB p4=vq:=⟨_,rfl⟩
 obtain ⟨Bv,Ca⟩:∃ vq,ratB p6=vq:=⟨_,rfl⟩
 obtain ⟨Bw,Cb⟩:∃ vq,ratB p7=vq:=⟨_,rfl⟩
 obtain ⟨Co,Cc⟩:∃ vq,ratB p9=vq:=⟨_,rfl⟩
 try simp only [B3,B4,B5,B6,B7,B8,B9,Ca,Cb,Cc] at c1 c2 c3 c4 c5 c6 c7 c8 c9 c10 c11 c12 c13 c14 c15 c16 eq0 pq0 ⊢
 obtain ⟨ba,eba⟩:∃ vq,betwB p0 p1 p3 p4 p6 p7=vq:=⟨_,rfl⟩
 try simp only [eba] at c1 c2 c3 c4 c5 c6 c7 c8 c9 c10 c11 c12 c13 c14 c15 c16 eq0 pq0 ⊢
 obtain ⟨bi,ebi⟩:∃ vq,decide ((p9 - (0:Rat)).num.sign*(p9 - (1:Rat)).num.sign≤0)=vq:=⟨_,rfl⟩
 try simp only [ebi] at c1 c2 c3 c4 c5 c6 c7 c8 c9 c10 c11 c12 c13 c14 c15 c16 eq0 pq0 ⊢
 obtain ⟨sg,esg⟩:∃ vq,(((p3 - p0)*(p7 - p1)) - ((p4 - p1)*(p6 - p0))).num.sign=vq:=⟨_,rfl⟩
 try simp only [esg] at c1 c2 c3 c4 c5 c6 c7 c8 c9 c10 c11 c12 c13 c14 c15 c16 eq0 pq0 ⊢
 have C1:=Lib.hid c1
 have C2:=Lib.hid c2
 have C3:=Lib.hid c3
 have C4:=Lib.hid c4
 have C5:=Lib.hid c5
 have C6:=Lib.hid c6
 have C7:=Lib.hid c7
 have C8:=Lib.hid c8
 have C9:=Lib.hid c9
 have C10:=Lib.hid c10
 have C11:=Lib.hid c11
 have C12:=Lib.hid c12
 have C13:=Lib.hid c13
 have C14:=Lib.hid c14
 have C15:=Lib.hid c15
 have C16:=Lib.hid c16
 clear c1 c2 c3 c4 c5 c6 c7 c8 c9 c10 c11 c12 c13 c14 c15 c16 B3 B4 B5 B6 B7 B8 B9 Ca Cb Cc eba ebi esg Ak Ao Al Ap Aq Ar Bx B0 Bp Bq Av Aw By Bz B1 B2 k0 k1 k2 k3 k4 k5 k6 k7 k8 k9 q0
 have hb:=Below.refl w.heap.size w
 go_enter Tryz.func6,Tryz.ntmps6
 go_upto_region 1 with fail
 refine wp_alloc3 (fun w1 a0 a1 a2 hk=>?_)
 replace hb:=hb.trans (hk.mono hb.size)
 clear hk
 obtain ⟨Ax,Ay,Az,A0,A1,A2,A3,A4,A5,A6,A7,A8⟩:=ce12 a0
 obtain ⟨A9,Ba,Bb,Bc,Bd,Be⟩:=ce6 a1
 obtain ⟨Bf,Bg⟩:=ce2 a2
 go_upto_region 3 with (go_at_call 13;with_reducible refine (chVB hb R C1).mono ?_;clear hb;rintro e w1 ⟨rfl,hk,hb⟩;clear Ax Ay Az A0 A1 A2 A3 A4 A5 A6 A7 A8 A9 Ba Bb Bc Bd Be Bf Bg;replace a0:=zB hk a0;replace a1:=zB hk a1;replace a2:=zB hk a2;obtain ⟨Ax,Ay,Az,A0,A1,A2,A3,A4,A5,A6,A7,A8⟩:=ce12 a0;obtain ⟨A9,Ba,Bb,Bc,Bd,Be⟩:=ce6 a1;obtain ⟨Bf,Bg⟩:=ce2 a2;clear hk)
 obtain ⟨Cp,Cq,Cr,Cs,Ct,Cu,Cv,Cw,Cx,Cy,Cz,C0⟩:=cy12 a0
 obtain ⟨Da,Db,Dc,Dd,De,Df⟩:=cy6 a1
 obtain ⟨Dg,Dh⟩:=cy2 a2
 have Di:=rrV C2 R hb
 have Dj:=rrV C3 R hb
 have Dk:=rrV C4 R hb
 have Dl:=rrV C5 R hb
 have Cd:=qqV C2 R hb
 have Ce:=qqV C3 R hb
 have Cf:=qqV C4 R hb
 have Cg:=qqV C5 R hb
 refine wp_free3 10 1 (fun i=>if i=10 then Obj.cells #[Value.string ⟨#[]⟩,Value.string ⟨#[]⟩] 30 else if i=11 then Obj.cells #[Value.string ⟨#[]⟩,Value.string ⟨#[]⟩] 30 else if i=12 then Obj.cells #[Value.string ⟨#[]⟩,Value.string ⟨#[]⟩] 30 else Obj.cells #[] 0) (fun i=>if i=10 then Obj.cells #[Value.string Br,Value.string Bs] 30 else if i=11 then Obj.cells #[Value.string Bt,Value.string Bu] 30 else if i=12 then Obj.cells #[Value.string Bv,Value.string Bw] 30 else Obj.cells #[] 0) (some 7) (some 8) (some 9) (by first | assumption | kernel_rfl) (by kernel_rfl) ?lay rfl rfl rfl ?_
 case lay =>
   intro i h1 h2
   obtain rfl | rfl | rfl:i=10∨i=11∨i=12:=by omega
   all_goals exact ⟨_,rfl,rfl,fun a w=>(by first | (go_simp;done) | (go_simp;rfl))⟩
 simp only [List.take_succ_cons,List.take_zero]
 repeat (refine wpB_step (fun K hK=>?_);go_simp;first | (refine hK _ ?_;clear hK K) | (apply Exists.intro;refine ⟨fun _=>?_,hK _ ?_⟩;(first | (with_reducible exact Cd.out _ _) | (with_reducible exact Ce.out _ _) | (with_reducible exact Cf.out _ _) | (with_reducible exact Cg.out _ _));clear hK K))
 refine wpB_nil ?_
 intro As At Au
 refine ⟨?_,?_,?_,?_⟩
 · refine ⟨_,rfl,rfl,rfl,fun cs b h=>(by cases h),fun w hw=>?_⟩
   replace hw:w.heap[As]? = some (Obj.cells #[Value.string ⟨#[]⟩,Value.string ⟨#[]⟩] 30):=hw
   have z0:w.cell? ⟨As,0,none⟩=some (Value.string ⟨#[]⟩):=zA hw
   have y0:w.frozen? ⟨As,0,none⟩=false:=zD hw
   have z1:w.cell? ⟨As,1,none⟩=some (Value.string ⟨#[]⟩):=zA hw
   have y1:w.frozen? ⟨As,1,none⟩=false:=zD hw
   refine ⟨_,?_,(Wrote.set (i:=1) (Wrote.set (i:=0) (Wrote.refl hw) (Value.string Br)) (Value.string Bs))⟩
   go_simp
 · refine ⟨_,rfl,rfl,rfl,fun cs b h=>(by cases h),fun w hw=>?_⟩
   replace hw:w.heap[At]? = some (Obj.cells #[Value.string ⟨#[]⟩,Value.string ⟨#[]⟩] 30):=hw
   have z0:w.cell? ⟨At,0,none⟩=some (Value.string ⟨#[]⟩):=zA hw
   have y0:w.frozen? ⟨At,0,none⟩=false:=zD hw
   have z1:w.cell? ⟨At,1,none⟩=some (Value.string ⟨#[]⟩):=zA hw
   have y1:w.frozen? ⟨At,1,none⟩=false:=zD hw
   refine ⟨_,?_,(Wrote.set (i:=1) (Wrote.set (i:=0) (Wrote.refl hw) (Value.string Bt)) (Value.string Bu))⟩
   go_simp
 · refine ⟨_,rfl,rfl,rfl,fun cs b h=>(by cases h),fun w hw=>?_⟩
   replace hw:w.heap[Au]? = some (Obj.cells #[Value.string ⟨#[]⟩,Value.string ⟨#[]⟩] 30):=hw
   have z0:w.cell? ⟨Au,0,none⟩=some (Value.string ⟨#[]⟩):=zA hw
   have y0:w.frozen? ⟨Au,0,none⟩=false:=zD hw
   have z1:w.cell? ⟨Au,1,none⟩=some (Value.string ⟨#[]⟩):=zA hw
   have y1:w.frozen? ⟨Au,1,none⟩=false:=zD hw
   refine ⟨_,?_,(Wrote.set (i:=1) (Wrote.set (i:=0) (Wrote.refl hw) (Value.string Bv)) (Value.string Bw))⟩
   go_simp
 refine ⟨_,Value.string Co,rfl,Or.inl ⟨rfl,fun p=>?_⟩,?_⟩
 · go_simp
   try exact ⟨rfl,rfl⟩
 intro w1 hk m0 m1 m2 Aa Ab Ac _ _ _
 clear Ax Ay Az A0 A1 A2 A3 A4 A5 A6 A7 A8 A9 Ba Bb Bc Bd Be Bf Bg
 replace a0:=zB hk a0
 replace a1:=zB hk a1
 replace a2:=zB hk a2
 obtain ⟨Ax,Ay,Az,A0,A1,A2,A3,A4,A5,A6,A7,A8⟩:=ce12 a0
 obtain ⟨A9,Ba,Bb,Bc,Bd,Be⟩:=ce6 a1
 obtain ⟨Bf,Bg⟩:=ce2 a2
 replace hb:=hb.trans (hk.mono hb.size)
 clear hk
 replace Aa:w1.heap[As]? = some (Obj.cells #[Value.string Br,Value.string Bs] 30):=Aa
 have Ae:w1.cell? ⟨As,0,none⟩=some (Value.string Br):=zA Aa
 have Af:w1.cell? ⟨As,1,none⟩=some (Value.string Bs):=zA Aa
 replace Ab:w1.heap[At]? = some (Obj.cells #[Value.string Bt,Value.string Bu] 30):=Ab
 have Ag:w1.cell? ⟨At,0,none⟩=some (Value.string Bt):=zA Ab
 have Ah:w1.cell? ⟨At,1,none⟩=some (Value.string Bu):=zA Ab
 replace Ac:w1.heap[Au]? = some (Obj.cells #[Value.string Bv,Value.string Bw] 30):=Ac
 have Ai:w1.cell? ⟨Au,0,none⟩=some (Value.string Bv):=zA Ac
 have Aj:w1.cell? ⟨Au,1,none⟩=some (Value.string Bw):=zA Ac
 clear Cd Ce Cf Cg Di Dj Dk Dl Cp Cq Cr Cs Ct Cu Cv Cw Cx Cy Cz C0 Da Db Dc Dd De Df Dg Dh m0 m1 m2
 go_upto_region 8 with ((first | (go_at_call 45;with_reducible refine (chVB hb R C6).mono ?_) | (go_at_call 46;with_reducible refine (chVB hb R C7).mono ?_) | (go_at_call 47;with_reducible refine (chVB hb R C8).mono ?_) | (go_at_call 48;with_reducible refine (chVB hb R C9).mono ?_));clear hb;rintro e w1 ⟨rfl,hk,hb⟩;clear Ae Af Ag Ah Ai Aj;replace Aa:=zB hk Aa;replace Ab:=zB hk Ab;replace Ac:=zB hk Ac;obtain ⟨Ae,Af⟩:=ce2 Aa;obtain ⟨Ag,Ah⟩:=ce2 Ab;obtain ⟨Ai,Aj⟩:=ce2 Ac;clear hk)
 clear Ax Ay Az A0 A1 A2 A3 A4 A5 A6 A7 A8 a0 A9 Ba Bb Bc Bd Be a1 Bf Bg a2
 refine wp_alloc1 (fun w1 Ad hk=>?_)
 clear Ae Af Ag Ah Ai Aj
 replace Aa:=zB hk Aa
 replace Ab:=zB hk Ab
 replace Ac:=zB hk Ac
 obtain ⟨Ae,Af⟩:=ce2 Aa
 obtain ⟨Ag,Ah⟩:=ce2 Ab
 obtain ⟨Ai,Aj⟩:=ce2 Ac
 replace hb:=hb.trans (hk.mono hb.size)
 clear hk
 obtain ⟨Am,An⟩:=ce2 Ad
 obtain ⟨Bh,Bi⟩:=cy2 Ad
 obtain ⟨Bj,Bk⟩:=cy2 Aa
 obtain ⟨Bl,Bm⟩:=cy2 Ab
 obtain ⟨Bn,Bo⟩:=cy2 Ac
 have Ch:=rrV C10 R hb
 have Ci:=rrV C11 R hb
 refine wp_region_quiet_below (by first | assumption | kernel_rfl) (by kernel_rfl) ?_
 repeat (quiet_step (first | (with_reducible exact Ch.out _ _) | (with_reducible exact Ci.out _ _)))
 refine wpQuiet_nil ?_
 intro w1 hw'
 obtain ⟨hk,hb⟩:=zQ hb hw'
 clear Am An Ae Af Ag Ah Ai Aj
 replace Ad:=zB hk Ad
 replace Aa:=zB hk Aa
 replace Ab:=zB hk Ab
 replace Ac:=zB hk Ac
 obtain ⟨Am,An⟩:=ce2 Ad
 obtain ⟨Ae,Af⟩:=ce2 Aa
 obtain ⟨Ag,Ah⟩:=ce2 Ab
 obtain ⟨Ai,Aj⟩:=ce2 Ac
 clear Ch Ci Bh Bi Bj Bk Bl Bm Bn Bo
 clear hk hw'
 go_upto_region 10 with (go_at_call 50;with_reducible refine (chVB hb R C12).mono ?_;clear hb;rintro e w1 ⟨rfl,hk,hb⟩;clear Am An Ae Af Ag Ah Ai Aj;replace Ad:=zB hk Ad;replace Aa:=zB hk Aa;replace Ab:=zB hk Ab;replace Ac:=zB hk Ac;obtain ⟨Am,An⟩:=ce2 Ad;obtain ⟨Ae,Af⟩:=ce2 Aa;obtain ⟨Ag,Ah⟩:=ce2 Ab;obtain ⟨Ai,Aj⟩:=ce2 Ac;clear hk)
 obtain ⟨Bh,Bi⟩:=cy2 Ad
 obtain ⟨Bj,Bk⟩:=cy2 Aa
 obtain ⟨Bl,Bm⟩:=cy2 Ab
 obtain ⟨Bn,Bo⟩:=cy2 Ac
 refine wp_region_mid 5 1 (by first | assumption | kernel_rfl) (by kernel_rfl) ?_
 simp only [List.take_succ_cons,List.take_zero,List.drop_succ_cons,List.drop_zero]
 repeat (quiet_step (first | fail))
 refine wpQuiet_nil ?_
 intro w1 hw'
 obtain ⟨hk,hb⟩:=zQ hb hw'
 clear Am An Ae Af Ag Ah Ai Aj
 replace Ad:=zB hk Ad
 replace Aa:=zB hk Aa
 replace Ab:=zB hk Ab
 replace Ac:=zB hk Ac
 obtain ⟨Am,An⟩:=ce2 Ad
 obtain ⟨Ae,Af⟩:=ce2 Aa
 obtain ⟨Ag,Ah⟩:=ce2 Ab
 obtain ⟨Ai,Aj⟩:=ce2 Ac
 clear Bh Bi Bj Bk Bl Bm Bn Bo
 clear hk hw'
 go_wp2_with (go_at_call 21;with_reducible refine (zL hb (C13.out _ (R.below hb))).mono ?_;clear hb;rintro e w1 ⟨rfl,hk,hb⟩;clear Am An Ae Af Ag Ah Ai Aj;replace Ad:=zB hk Ad;replace Aa:=zB hk Aa;replace Ab:=zB hk Ab;replace Ac:=zB hk Ac;obtain ⟨Am,An⟩:=ce2 Ad;obtain ⟨Ae,Af⟩:=ce2 Aa;obtain ⟨Ag,Ah⟩:=ce2 Ab;obtain ⟨Ai,Aj⟩:=ce2 Ac;clear hk)
 obtain ⟨Bh,Bi⟩:=cy2 Ad
 obtain ⟨Bj,Bk⟩:=cy2 Aa
 obtain ⟨Bl,Bm⟩:=cy2 Ab
 obtain ⟨Bn,Bo⟩:=cy2 Ac
 have Cj:=rrV C14 R hb
 have Ck:=rrV C15 R hb
 have Cm:=rrV C16 R hb
 have Cn:=rrV C10 R hb
 refine ⟨w1,Below.refl _ _,?_⟩
 repeat (quiet_step (first | (with_reducible exact Cj.out _ _) | (with_reducible exact Ck.out _ _) | (with_reducible exact Cm.out _ _) | (with_reducible exact Cn.out _ _)))
 refine wpQuiet_nil ?_
 intro w1 hw'
 obtain ⟨hk,hb⟩:=zQ hb hw'
 clear Am An Ae Af Ag Ah Ai Aj
 replace Ad:=zB hk Ad
 replace Aa:=zB hk Aa
 replace Ab:=zB hk Ab
 replace Ac:=zB hk Ac
 obtain ⟨Am,An⟩:=ce2 Ad
 obtain ⟨Ae,Af⟩:=ce2 Aa
 obtain ⟨Ag,Ah⟩:=ce2 Ab
 obtain ⟨Ai,Aj⟩:=ce2 Ac
 clear Cj Ck Cm Cn Bh Bi Bj Bk Bl Bm Bn Bo
 clear hk hw'
 go_wp2
 first | go_ret | go_ret2 | go_ret3
 exact ⟨rfl,hb⟩
theorem lawTurns_1  (i0 g0 i1 g1 i2 g2 i3 g3 i4 g4 i5 g5 i6 g6 i7 g7 i8 g8 i9 g9:Int) (p0 p1 p2 p3 p4 p5 p6 p7 p8 p9:Rat) (k0:SmallIs i0 g0 p0) (k1:SmallIs i1 g1 p1) (k2:SmallIs i2 g2 p2) (k3:SmallIs i3 g3 p3) (k4:SmallIs i4 g4 p4) (k5:SmallIs i5 g5 p5) (k6:SmallIs i6 g6 p6) (k7:SmallIs i7 g7 p7) (k8:SmallIs i8 g8 p8) (k9:SmallIs i9 g9 p9) (q0:p0=p3) (q1:p1≠p4) (w:World) (R:EnvV w) :
   Calls Tryz.prog 6 #[.agg #[.int .i16 i0,.int .u8 g0,.int .i16 i1,.int .u8 g1,.int .i16 i2,.int .u8 g2,.int .i16 i3,.int .u8 g3,.int .i16 i4,.int .u8 g4,.int .i16 i5,.int .u8 g5],.agg #[.int .i16 i6,.int .u8 g6,.int .i16 i7,.int .u8 g7,.int .i16 i8,.int .u8 g8],.agg #[.int .i16 i9,.int .u8 g9]] w (Ret w (.bool true)):=by
 have Ak:=RN_sub (N:=8) k3.rn k0.rn
 have Ao:=RN_sub (N:=8) k7.rn k1.rn
 have Al:=RN_sub (N:=8) k4.rn k1.rn
 have Ap:=RN_sub (N:=8) k6.rn k0.rn
 have Aq:=RN_mul Ak Ao
 have Ar:=RN_mul Al Ap
 have Bx:=RN_sub (N:=30) Aq Ar
 have B0:=Bx.rl (K:=100000)
 have Bp:=RN_mul k9.rn Ak
 have Bq:=RN_mul k9.rn Al
 have Av:=RN_add (N:=17) k0.rn Bp
 have Aw:=RN_add (N:=17) k1.rn Bq
 have By:=RN_sub (N:=21) Aw k1.rn
 have Bz:=RN_sub (N:=21) Av k0.rn
 have B1:=RN_mul Ak By
 have B2:=RN_mul Al Bz
 have c1:=known5_any
 have c2:=makeP i0 g0 i1 g1 i2 g2 p0 p1 p2 k0 k1 k2
 have c3:=makeP i3 g3 i4 g4 i5 g5 p3 p4 p5 k3 k4 k5
 have c4:=makeP i6 g6 i7 g7 i8 g8 p6 p7 p8 k6 k7 k8
 have c5:=fun (w:World) (R:EnvV w)=>makeS i9 g9 p9 k9 w R.toEnvR
 have c6:=fun (w:World) (R:EnvV w)=>turn_any p0 p1 p3 p4 p6 p7 k0.rn.r2 k1.rn.r2 k3.rn.r2 k4.rn.r2 k6.rn.r2 k7.rn.r2 k3.rn.rm k0.rn.rm k4.rn.rm k1.rn.rm k6.rn.rm k7.rn.rm Ak.rm Ao.rm Al.rm Ap.rm Aq.rm Ar.rm B0 w R.toEnvR
 have c7:=fun (w:World) (R:EnvV w)=>varea_any p0 p1 p3 p4 p6 p7 k0.rn.r2 k1.rn.r2 k3.rn.r2 k4.rn.r2 k6.rn.r2 k7.rn.r2 k3.rn.rm k0.rn.rm k4.rn.rm k1.rn.rm k6.rn.rm k7.rn.rm Ak.rm Ao.rm Al.rm Ap.rm Aq.rm Ar.rm Bx.r2 w R.toEnvR
 have c8:=between_any p0 p1 p3 p4 p6 p7 k0.rn.r2 k1.rn.r2 k3.rn.r2 k4.rn.r2 k6.rn.r2 k7.rn.r2 k0.rn.rm k3.rn.rm k6.rn.rm k1.rn.rm k4.rn.rm k7.rn.rm Ak.rm Ao.rm Al.rm Ap.rm Aq.rm Ar.rm
 have c9:=fun (w:World) (R:EnvV w)=>toward_any p0 p1 p3 p4 p9 k0.rn.r2 k1.rn.r2 k3.rn.r2 k4.rn.r2 k9.rn.r2 k3.rn.rm k0.rn.rm k4.rn.rm k1.rn.rm k9.rn.rm Ak.rm Bp.rm Al.rm Bq.rm Av.r2 Aw.r2 w R.toEnvR
 have c10:=fun (w:World) (R:EnvV w)=>refPToward p0 p1 p3 p4 p9 k3.rn.r4 k0.rn.r4 k9.rn.r4 Ak.r4 Bp.r4 k4.rn.r4 k1.rn.r4 Al.r4 Bq.r4 w R.toEnvR
 have c11:CV 47 #[.agg #[.string (ratB p0),.string (ratB p1)],.agg #[.string (ratB p3),.string (ratB p4)],.agg #[.string (ratB (p0+(p9*(p3 - p0)))),.string (ratB (p1+(p9*(p4 - p1))))]] (.tuple #[.bool (decide ((p9 - (0:Rat)).num.sign*(p9 - (1:Rat)).num.sign≤0)),.int .i64 0]):=fun w R=>(by have h:=between_any p0 p1 p3 p4 (p0+(p9*(p3 - p0))) (p1+(p9*(p4 - p1))) k0.rn.r2 k1.rn.r2 k3.rn.r2 k4.rn.r2 Av.r2 Aw.r2 k0.rn.rm k3.rn.rm Av.rm k1.rn.rm k4.rn.rm Aw.rm Ak.rm By.rm Al.rm Bz.rm B1.rm B2.rm w R;rw [show betwB p0 p1 p3 p4 (p0+(p9*(p3 - p0))) (p1+(p9*(p4 - p1)))=decide ((p9 - (0:Rat)).num.sign*(p9 - (1:Rat)).num.sign≤0) from betw_tow p0 p1 p3 p4 p9 (Or.inr q1)] at h;exact h)
 have c12:CV 50 #[.string ⟨#[48]⟩,.string ⟨#[49]⟩,.string (ratB p9)] (.bool (decide ((p9 - (0:Rat)).num.sign*(p9 - (1:Rat)).num.sign≤0))):=fun w R=>(by have h:=refInside_any (0:Rat) (1:Rat) p9 (RN.rl (K:=400) rn_0) (RN.rl (K:=400) rn_1) k9.rn.r4 w R.toEnvR;simp only [rb_0,rb_1] at h;exact h)
 have c13:=fun (w:World) (R:EnvV w)=>firstErr5 0 0 0 0 0 0 (by first | decide | simp [firstNZ]) w R.toEnvR
 have c14:=fun (w:World) (R:EnvV w)=>refPTurn p0 p1 p3 p4 p6 p7 k3.rn.r4 k0.rn.r4 k7.rn.r4 k1.rn.r4 k4.rn.r4 k6.rn.r4 Ak.r4 Ao.r4 Al.r4 Ap.r4 Aq.r4 Ar.r4 w R.toEnvR
 have c15:=fun (w:World) (R:EnvV w)=>refPArea p0 p1 p3 p4 p6 p7 k3.rn.r4 k0.rn.r4 k7.rn.r4 k1.rn.r4 k4.rn.r4 k6.rn.r4 Ak.r4 Ao.r4 Al.r4 Ap.r4 Aq.r4 Ar.r4 w R.toEnvR
 have c16:=refBetween_any p0 p1 p3 p4 p6 p7 k3.rn.r4 k0.rn.r4 k7.rn.r4 k1.rn.r4 k4.rn.r4 k6.rn.r4 Ak.r4 Ao.r4 Al.r4 Ap.r4 Aq.r4 Ar.r4
 have eq0:((ratB p0).toList == (ratB p3).toList)=true:=by rw [q0];exact beq_self_eq_true _
 have pq0:(ratB p0).toList=(ratB p3).toList:=by rw [q0]
 have eq1:((ratB p1).toList == (ratB p4).toList)=false:=beq_eq_false_iff_ne.2 (fun g=>q1 (ratB_li g))
 have pq1:¬ (ratB p1).toList=(ratB p4).toList:=fun g=>q1 (ratB_li g)
 obtain ⟨Dm,B3⟩:∃ vq,ratB (((p3 - p0)*(p7 - p1)) - ((p4 - p1)*(p6 - p0)))=vq:=⟨_,rfl⟩
 obtain ⟨Dn,B4⟩:∃ vq,ratB (p0+(p9*(p3 - p0)))=vq:=⟨_,rfl⟩
 obtain ⟨Do,B5⟩:∃ vq,ratB (p1+(p9*(p4 - p1)))=vq:=⟨_,rfl⟩
 obtain ⟨Br,B6⟩:∃ vq,ratB p0=vq:=⟨_,rfl⟩
 obtain ⟨Bs,B7⟩:∃ vq,ratB p1=vq:=⟨_,rfl⟩
 obtain ⟨Bt,B8⟩:∃ vq,ratB p3=vq:=⟨_,rfl⟩
 obtain ⟨Bu,B9⟩:∃ vq,ratB p4=vq:=⟨_,rfl⟩
 obtain ⟨Bv,Ca⟩:∃ vq,ratB p6=vq:=⟨_,rfl⟩
 obtain ⟨Bw,Cb⟩:∃ vq,ratB p7=vq:=⟨_,rfl⟩
 obtain ⟨Co,Cc⟩:∃ vq,ratB p9=vq:=⟨_,rfl⟩
 try simp only [B3,B4,B5,B6,B7,B8,B9,Ca,Cb,Cc] at c1 c2 c3 c4 c5 c6 c7 c8 c9 c10 c11 c12 c13 c14 c15 c16 eq0 pq0 eq1 pq1 ⊢
 obtain ⟨ba,eba⟩:∃ vq,betwB p0 p1 p3 p4 p6 p7=vq:=⟨_,rfl⟩
 try simp only [eba] at c1 c2 c3 c4 c5 c6 c7 c8 c9 c10 c11 c12 c13 c14 c15 c16 eq0 pq0 eq1 pq1 ⊢
 obtain ⟨bi,ebi⟩:∃ vq,decide ((p9 - (0:Rat)).num.sign*(p9 - (1:Rat)).num.sign≤0)=vq:=⟨_,rfl⟩
 try simp only [ebi] at c1 c2 c3 c4 c5 c6 c7 c8 c9 c10 c11 c12 c13 c14 c15 c16 eq0 pq0 eq1 pq1 ⊢
 obtain ⟨sg,esg⟩:∃ vq,(((p3 - p0)*(p7 - p1)) - ((p4 - p1)*(p6 - p0))).num.sign=vq:=⟨_,rfl⟩
 try simp only [esg] at c1 c2 c3 c4 c5 c6 c7 c8 c9 c10 c11 c12 c13 c14 c15 c16 eq0 pq0 eq1 pq1 ⊢
 have C1:=Lib.hid c1
 have C2:=Lib.hid c2
 have C3:=Lib.hid c3
 have C4:=Lib.hid c4
 have C5:=Lib.hid c5
 have C6:=Lib.hid c6
 have C7:=Lib.hid c7
 have C8:=Lib.hid c8
 have C9:=Lib.hid c9
 have C10:=Lib.hid c10
 have C11:=Lib.hid c11
 have C12:=Lib.hid c12
 have C13:=Lib.hid c13
 have C14:=Lib.hid c14
 have C15:=Lib.hid c15
 have C16:=Lib.hid c16
 clear c1 c2 c3 c4 c5 c6 c7 c8 c9 c10 c11 c12 c13 c14 c15 c16 B3 B4 B5 B6 B7 B8 B9 Ca Cb Cc eba ebi esg Ak Ao Al Ap Aq Ar Bx B0 Bp Bq Av Aw By Bz B1 B2 k0 k1 k2 k3 k4 k5 k6 k7 k8 k9 q0 q1
 have hb:=Below.refl w.heap.size w
 go_enter Tryz.func6,Tryz.ntmps6
 go_upto_region 1 with fail
 refine wp_alloc3 (fun w1 a0 a1 a2 hk=>?_)
 replace hb:=hb.trans (hk.mono hb.size)
 clear hk
 obtain ⟨Ax,Ay,Az,A0,A1,A2,A3,A4,A5,A6,A7,A8⟩:=ce12 a0
 obtain ⟨A9,Ba,Bb,Bc,Bd,Be⟩:=ce6 a1
 obtain ⟨Bf,Bg⟩:=ce2 a2
 go_upto_region 3 with (go_at_call 13;with_reducible refine (chVB hb R C1).mono ?_;clear hb;rintro e w1 ⟨rfl,hk,hb⟩;clear Ax Ay Az A0 A1 A2 A3 A4 A5 A6 A7 A8 A9 Ba Bb Bc Bd Be Bf Bg;replace a0:=zB hk a0;replace a1:=zB hk a1;replace a2:=zB hk a2;obtain ⟨Ax,Ay,Az,A0,A1,A2,A3,A4,A5,A6,A7,A8⟩:=ce12 a0;obtain ⟨A9,Ba,Bb,Bc,Bd,Be⟩:=ce6 a1;obtain ⟨Bf,Bg⟩:=ce2 a2;clear hk)
 obtain ⟨Cp,Cq,Cr,Cs,Ct,Cu,Cv,Cw,Cx,Cy,Cz,C0⟩:=cy12 a0
 obtain ⟨Da,Db,Dc,Dd,De,Df⟩:=cy6 a1
 obtain ⟨Dg,Dh⟩:=cy2 a2
 have Di:=rrV C2 R hb
 have Dj:=rrV C3 R hb
 have Dk:=rrV C4 R hb
 have Dl:=rrV C5 R hb
 have Cd:=qqV C2 R hb
 have Ce:=qqV C3 R hb
 have Cf:=qqV C4 R hb
 have Cg:=qqV C5 R hb
 refine wp_free3 10 1 (fun i=>if i=10 then Obj.cells #[Value.string ⟨#[]⟩,Value.string ⟨#[]⟩] 30 else if i=11 then Obj.cells #[Value.string ⟨#[]⟩,Value.string ⟨#[]⟩] 30 else if i=12 then Obj.cells #[Value.string ⟨#[]⟩,Value.string ⟨#[]⟩] 30 else Obj.cells #[] 0) (fun i=>if i=10 then Obj.cells #[Value.string Br,Value.string Bs] 30 else if i=11 then Obj.cells #[Value.string Bt,Value.string Bu] 30 else if i=12 then Obj.cells #[Value.string Bv,Value.string Bw] 30 else Obj.cells #[] 0) (some 7) (some 8) (some 9) (by first | assumption | kernel_rfl) (by kernel_rfl) ?lay rfl rfl rfl ?_
 case lay =>
   intro i h1 h2
   obtain rfl | rfl | rfl:i=10∨i=11∨i=12:=by omega
   all_goals exact ⟨_,rfl,rfl,fun a w=>(by first | (go_simp;done) | (go_simp;rfl))⟩
 simp only [List.take_succ_cons,List.take_zero]
 repeat (refine wpB_step (fun K hK=>?_);go_simp;first | (refine hK _ ?_;clear hK K) | (apply Exists.intro;refine ⟨fun _=>?_,hK _ ?_⟩;(first | (with_reducible exact Cd.out _ _) | (with_reducible exact Ce.out _ _) | (with_reducible exact Cf.out _ _) | (with_reducible exact Cg.out _ _));clear hK K))
 refine wpB_nil ?_
 intro As At Au
 refine ⟨?_,?_,?_,?_⟩
 · refine ⟨_,rfl,rfl,rfl,fun cs b h=>(by cases h),fun w hw=>?_⟩
   replace hw:w.heap[As]? = some (Obj.cells #[Value.string ⟨#[]⟩,Value.string ⟨#[]⟩] 30):=hw
   have z0:w.cell? ⟨As,0,none⟩=some (Value.string ⟨#[]⟩):=zA hw
   have y0:w.frozen? ⟨As,0,none⟩=false:=zD hw
   have z1:w.cell? ⟨As,1,none⟩=some (Value.string ⟨#[]⟩):=zA hw
   have y1:w.frozen? ⟨As,1,none⟩=false:=zD hw
   refine ⟨_,?_,(Wrote.set (i:=1) (Wrote.set (i:=0) (Wrote.refl hw) (Value.string Br)) (Value.string Bs))⟩
   go_simp
 · refine ⟨_,rfl,rfl,rfl,fun cs b h=>(by cases h),fun w hw=>?_⟩
   replace hw:w.heap[At]? = some (Obj.cells #[Value.string ⟨#[]⟩,Value.string ⟨#[]⟩] 30):=hw
   have z0:w.cell? ⟨At,0,none⟩=some (Value.string ⟨#[]⟩):=zA hw
   have y0:w.frozen? ⟨At,0,none⟩=false:=zD hw
   have z1:w.cell? ⟨At,1,none⟩=some (Value.string ⟨#[]⟩):=zA hw
   have y1:w.frozen? ⟨At,1,none⟩=false:=zD hw
   refine ⟨_,?_,(Wrote.set (i:=1) (Wrote.set (i:=0) (Wrote.refl hw) (Value.string Bt)) (Value.string Bu))⟩
   go_simp
 · refine ⟨_,rfl,rfl,rfl,fun cs b h=>(by cases h),fun w hw=>?_⟩
   replace hw:w.heap[Au]? = some (Obj.cells #[Value.string ⟨#[]⟩,Value.string ⟨#[]⟩] 30):=hw
   have z0:w.cell? ⟨Au,0,none⟩=some (Value.string ⟨#[]⟩):=zA hw
   have y0:w.frozen? ⟨Au,0,none⟩=false:=zD hw
   have z1:w.cell? ⟨Au,1,none⟩=some (Value.string ⟨#[]⟩):=zA hw
   have y1:w.frozen? ⟨Au,1,none⟩=false:=zD hw
   refine ⟨_,?_,(Wrote.set (i:=1) (Wrote.set (i:=0) (Wrote.refl hw) (Value.string Bv)) (Value.string Bw))⟩
   go_simp
 refine ⟨_,Value.string Co,rfl,Or.inl ⟨rfl,fun p=>?_⟩,?_⟩
 · go_simp
   try exact ⟨rfl,rfl⟩
 intro w1 hk m0 m1 m2 Aa Ab Ac _ _ _
 clear Ax Ay Az A0 A1 A2 A3 A4 A5 A6 A7 A8 A9 Ba Bb Bc Bd Be Bf Bg
 replace a0:=zB hk a0
 replace a1:=zB hk a1
 replace a2:=zB hk a2
 obtain ⟨Ax,Ay,Az,A0,A1,A2,A3,A4,A5,A6,A7,A8⟩:=ce12 a0
 obtain ⟨A9,Ba,Bb,Bc,Bd,Be⟩:=ce6 a1
 obtain ⟨Bf,Bg⟩:=ce2 a2
 replace hb:=hb.trans (hk.mono hb.size)
 clear hk
 replace Aa:w1.heap[As]? = some (Obj.cells #[Value.string Br,Value.string Bs] 30):=Aa
 have Ae:w1.cell? ⟨As,0,none⟩=some (Value.string Br):=zA Aa
 have Af:w1.cell? ⟨As,1,none⟩=some (Value.string Bs):=zA Aa
 replace Ab:w1.heap[At]? = some (Obj.cells #[Value.string Bt,Value.string Bu] 30):=Ab
 have Ag:w1.cell? ⟨At,0,none⟩=some (Value.string Bt):=zA Ab
 have Ah:w1.cell? ⟨At,1,none⟩=some (Value.string Bu):=zA Ab
 replace Ac:w1.heap[Au]? = some (Obj.cells #[Value.string Bv,Value.string Bw] 30):=Ac
 have Ai:w1.cell? ⟨Au,0,none⟩=some (Value.string Bv):=zA Ac
 have Aj:w1.cell? ⟨Au,1,none⟩=some (Value.string Bw):=zA Ac
 clear Cd Ce Cf Cg Di Dj Dk Dl Cp Cq Cr Cs Ct Cu Cv Cw Cx Cy Cz C0 Da Db Dc Dd De Df Dg Dh m0 m1 m2
 go_upto_region 8 with ((first | (go_at_call 45;with_reducible refine (chVB hb R C6).mono ?_) | (go_at_call 46;with_reducible refine (chVB hb R C7).mono ?_) | (go_at_call 47;with_reducible refine (chVB hb R C8).mono ?_) | (go_at_call 48;with_reducible refine (chVB hb R C9).mono ?_));clear hb;rintro e w1 ⟨rfl,hk,hb⟩;clear Ae Af Ag Ah Ai Aj;replace Aa:=zB hk Aa;replace Ab:=zB hk Ab;replace Ac:=zB hk Ac;obtain ⟨Ae,Af⟩:=ce2 Aa;obtain ⟨Ag,Ah⟩:=ce2 Ab;obtain ⟨Ai,Aj⟩:=ce2 Ac;clear hk)
 clear Ax Ay Az A0 A1 A2 A3 A4 A5 A6 A7 A8 a0 A9 Ba Bb Bc Bd Be a1 Bf Bg a2
 refine wp_alloc1 (fun w1 Ad hk=>?_)
 clear Ae Af Ag Ah Ai Aj
 replace Aa:=zB hk Aa
 replace Ab:=zB hk Ab
 replace Ac:=zB hk Ac
 obtain ⟨Ae,Af⟩:=ce2 Aa
 obtain ⟨Ag,Ah⟩:=ce2 Ab
 obtain ⟨Ai,Aj⟩:=ce2 Ac
 replace hb:=hb.trans (hk.mono hb.size)
 clear hk
 obtain ⟨Am,An⟩:=ce2 Ad
 obtain ⟨Bh,Bi⟩:=cy2 Ad
 obtain ⟨Bj,Bk⟩:=cy2 Aa
 obtain ⟨Bl,Bm⟩:=cy2 Ab
 obtain ⟨Bn,Bo⟩:=cy2 Ac
 have Ch:=rrV C10 R hb
 have Ci:=rrV C11 R hb
 refine wp_region_quiet_below (by first | assumption | kernel_rfl) (by kernel_rfl) ?_
 repeat (quiet_step (first | (with_reducible exact Ch.out _ _) | (with_reducible exact Ci.out _ _)))
 refine wpQuiet_nil ?_
 intro w1 hw'
 obtain ⟨hk,hb⟩:=zQ hb hw'
 clear Am An Ae Af Ag Ah Ai Aj
 replace Ad:=zB hk Ad
 replace Aa:=zB hk Aa
 replace Ab:=zB hk Ab
 replace Ac:=zB hk Ac
 obtain ⟨Am,An⟩:=ce2 Ad
 obtain ⟨Ae,Af⟩:=ce2 Aa
 obtain ⟨Ag,Ah⟩:=ce2 Ab
 obtain ⟨Ai,Aj⟩:=ce2 Ac
 clear Ch Ci Bh Bi Bj Bk Bl Bm Bn Bo
 clear hk hw'
 go_upto_region 10 with (go_at_call 50;with_reducible refine (chVB hb R C12).mono ?_;clear hb;rintro e w1 ⟨rfl,hk,hb⟩;clear Am An Ae Af Ag Ah Ai Aj;replace Ad:=zB hk Ad;replace Aa:=zB hk Aa;replace Ab:=zB hk Ab;replace Ac:=zB hk Ac;obtain ⟨Am,An⟩:=ce2 Ad;obtain ⟨Ae,Af⟩:=ce2 Aa;obtain ⟨Ag,Ah⟩:=ce2 Ab;obtain ⟨Ai,Aj⟩:=ce2 Ac;clear hk)
 obtain ⟨Bh,Bi⟩:=cy2 Ad
 obtain ⟨Bj,Bk⟩:=cy2 Aa
 obtain ⟨Bl,Bm⟩:=cy2 Ab
 obtain ⟨Bn,Bo⟩:=cy2 Ac
 refine wp_region_mid 5 1 (by first | assumption | kernel_rfl) (by kernel_rfl) ?_
 simp only [List.take_succ_cons,List.take_zero,List.drop_succ_cons,List.drop_zero]
 repeat (quiet_step (first | fail))
 refine wpQuiet_nil ?_
 intro w1 hw'
 obtain ⟨hk,hb⟩:=zQ hb hw'
 clear Am An Ae Af Ag Ah Ai Aj
 replace Ad:=zB hk Ad
 replace Aa:=zB hk Aa
 replace Ab:=zB hk Ab
 replace Ac:=zB hk Ac
 obtain ⟨Am,An⟩:=ce2 Ad
 obtain ⟨Ae,Af⟩:=ce2 Aa
 obtain ⟨Ag,Ah⟩:=ce2 Ab
 obtain ⟨Ai,Aj⟩:=ce2 Ac
 clear Bh Bi Bj Bk Bl Bm Bn Bo
 clear hk hw'
 go_wp2_with (go_at_call 21;with_reducible refine (zL hb (C13.out _ (R.below hb))).mono ?_;clear hb;rintro e w1 ⟨rfl,hk,hb⟩;clear Am An Ae Af Ag Ah Ai Aj;replace Ad:=zB hk Ad;replace Aa:=zB hk Aa;replace Ab:=zB hk Ab;replace Ac:=zB hk Ac;obtain ⟨Am,An⟩:=ce2 Ad;obtain ⟨Ae,Af⟩:=ce2 Aa;obtain ⟨Ag,Ah⟩:=ce2 Ab;obtain ⟨Ai,Aj⟩:=ce2 Ac;clear hk)
 obtain ⟨Bh,Bi⟩:=cy2 Ad
 obtain ⟨Bj,Bk⟩:=cy2 Aa
 obtain ⟨Bl,Bm⟩:=cy2 Ab
 obtain ⟨Bn,Bo⟩:=cy2 Ac
 have Cj:=rrV C14 R hb
 have Ck:=rrV C15 R hb
 have Cm:=rrV C16 R hb
 have Cn:=rrV C10 R hb
 refine ⟨w1,Below.refl _ _,?_⟩
 repeat (quiet_step (first | (with_reducible exact Cj.out _ _) | (with_reducible exact Ck.out _ _) | (with_reducible exact Cm.out _ _) | (with_reducible exact Cn.out _ _)))
 refine wpQuiet_nil ?_
 intro w1 hw'
 obtain ⟨hk,hb⟩:=zQ hb hw'
 clear Am An Ae Af Ag Ah Ai Aj
 replace Ad:=zB hk Ad
 replace Aa:=zB hk Aa
 replace Ab:=zB hk Ab
 replace Ac:=zB hk Ac
 obtain ⟨Am,An⟩:=ce2 Ad
 obtain ⟨Ae,Af⟩:=ce2 Aa
 obtain ⟨Ag,Ah⟩:=ce2 Ab
 obtain ⟨Ai,Aj⟩:=ce2 Ac
 clear Cj Ck Cm Cn Bh Bi Bj Bk Bl Bm Bn Bo
 clear hk hw'
 go_wp2
 first | go_ret | go_ret2 | go_ret3
 exact ⟨rfl,hb⟩
theorem lawTurns_2  (i0 g0 i1 g1 i2 g2 i3 g3 i4 g4 i5 g5 i6 g6 i7 g7 i8 g8 i9 g9:Int) (p0 p1 p2 p3 p4 p5 p6 p7 p8 p9:Rat) (k0:SmallIs i0 g0 p0) (k1:SmallIs i1 g1 p1) (k2:SmallIs i2 g2 p2) (k3:SmallIs i3 g3 p3) (k4:SmallIs i4 g4 p4) (k5:SmallIs i5 g5 p5) (k6:SmallIs i6 g6 p6) (k7:SmallIs i7 g7 p7) (k8:SmallIs i8 g8 p8) (k9:SmallIs i9 g9 p9) (q0:p0=p3) (q1:p1=p4) (w:World) (R:EnvV w) :
   Calls Tryz.prog 6 #[.agg #[.int .i16 i0,.int .u8 g0,.int .i16 i1,.int .u8 g1,.int .i16 i2,.int .u8 g2,.int .i16 i3,.int .u8 g3,.int .i16 i4,.int .u8 g4,.int .i16 i5,.int .u8 g5],.agg #[.int .i16 i6,.int .u8 g6,.int .i16 i7,.int .u8 g7,.int .i16 i8,.int .u8 g8],.agg #[.int .i16 i9,.int .u8 g9]] w (Ret w (.bool true)):=by
 have Ae:=RN_sub (N:=8) k3.rn k0.rn
 have Am:=RN_sub (N:=8) k7.rn k1.rn
 have Af:=RN_sub (N:=8) k4.rn k1.rn
 have An:=RN_sub (N:=8) k6.rn k0.rn
 have Ao:=RN_mul Ae Am
 have Ap:=RN_mul Af An
 have Bx:=RN_sub (N:=30) Ao Ap
 have B0:=Bx.rl (K:=100000)
 have Bp:=RN_mul k9.rn Ae
 have Bq:=RN_mul k9.rn Af
 have Av:=RN_add (N:=17) k0.rn Bp
 have Aw:=RN_add (N:=17) k1.rn Bq
 have By:=RN_sub (N:=21) Aw k1.rn
 have Bz:=RN_sub (N:=21) Av k0.rn
 have B1:=RN_mul Ae By
 have B2:=RN_mul Af Bz
 have c1:=known5_any
 have c2:=makeP i0 g0 i1 g1 i2 g2 p0 p1 p2 k0 k1 k2
 have c3:=makeP i3 g3 i4 g4 i5 g5 p3 p4 p5 k3 k4 k5
 have c4:=makeP i6 g6 i7 g7 i8 g8 p6 p7 p8 k6 k7 k8
 have c5:=fun (w:World) (R:EnvV w)=>makeS i9 g9 p9 k9 w R.toEnvR
 have c6:=fun (w:World) (R:EnvV w)=>turn_any p0 p1 p3 p4 p6 p7 k0.rn.r2 k1.rn.r2 k3.rn.r2 k4.rn.r2 k6.rn.r2 k7.rn.r2 k3.rn.rm k0.rn.rm k4.rn.rm k1.rn.rm k6.rn.rm k7.rn.rm Ae.rm Am.rm Af.rm An.rm Ao.rm Ap.rm B0 w R.toEnvR
 have c7:=fun (w:World) (R:EnvV w)=>varea_any p0 p1 p3 p4 p6 p7 k0.rn.r2 k1.rn.r2 k3.rn.r2 k4.rn.r2 k6.rn.r2 k7.rn.r2 k3.rn.rm k0.rn.rm k4.rn.rm k1.rn.rm k6.rn.rm k7.rn.rm Ae.rm Am.rm Af.rm An.rm Ao.rm Ap.rm Bx.r2 w R.toEnvR
 have c8:=between_any p0 p1 p3 p4 p6 p7 k0.rn.r2 k1.rn.r2 k3.rn.r2 k4.rn.r2 k6.rn.r2 k7.rn.r2 k0.rn.rm k3.rn.rm k6.rn.rm k1.rn.rm k4.rn.rm k7.rn.rm Ae.rm Am.rm Af.rm An.rm Ao.rm Ap.rm
 have c9:=fun (w:World) (R:EnvV w)=>toward_any p0 p1 p3 p4 p9 k0.rn.r2 k1.rn.r2 k3.rn.r2 k4.rn.r2 k9.rn.r2 k3.rn.rm k0.rn.rm k4.rn.rm k1.rn.rm k9.rn.rm Ae.rm Bp.rm Af.rm Bq.rm Av.r2 Aw.r2 w R.toEnvR
 have c10:=fun (w:World) (R:EnvV w)=>refPToward p0 p1 p3 p4 p9 k3.rn.r4 k0.rn.r4 k9.rn.r4 Ae.r4 Bp.r4 k4.rn.r4 k1.rn.r4 Af.r4 Bq.r4 w R.toEnvR
 have c11:CV 47 #[.agg #[.string (ratB p0),.string (ratB p1)],.agg #[.string (ratB p3),.string (ratB p4)],.agg #[.string (ratB (p0+(p9*(p3 - p0)))),.string (ratB (p1+(p9*(p4 - p1))))]] (.tuple #[.bool true,.int .i64 0]):=fun w R=>(by have h:=between_any p0 p1 p3 p4 (p0+(p9*(p3 - p0))) (p1+(p9*(p4 - p1))) k0.rn.r2 k1.rn.r2 k3.rn.r2 k4.rn.r2 Av.r2 Aw.r2 k0.rn.rm k3.rn.rm Av.rm k1.rn.rm k4.rn.rm Aw.rm Ae.rm By.rm Af.rm Bz.rm B1.rm B2.rm w R;rw [show betwB p0 p1 p3 p4 (p0+(p9*(p3 - p0))) (p1+(p9*(p4 - p1)))=true from betw_same p0 p1 p3 p4 p9 q0 q1] at h;exact h)
 have c12:=fun (w:World) (R:EnvV w)=>firstErr5 0 0 0 0 0 0 (by first | decide | simp [firstNZ]) w R.toEnvR
 have c13:=fun (w:World) (R:EnvV w)=>refPTurn p0 p1 p3 p4 p6 p7 k3.rn.r4 k0.rn.r4 k7.rn.r4 k1.rn.r4 k4.rn.r4 k6.rn.r4 Ae.r4 Am.r4 Af.r4 An.r4 Ao.r4 Ap.r4 w R.toEnvR
 have c14:=fun (w:World) (R:EnvV w)=>refPArea p0 p1 p3 p4 p6 p7 k3.rn.r4 k0.rn.r4 k7.rn.r4 k1.rn.r4 k4.rn.r4 k6.rn.r4 Ae.r4 Am.r4 Af.r4 An.r4 Ao.r4 Ap.r4 w R.toEnvR
 have c15:=refBetween_any p0 p1 p3 p4 p6 p7 k3.rn.r4 k0.rn.r4 k7.rn.r4 k1.rn.r4 k4.rn.r4 k6.rn.r4 Ae.r4 Am.r4 Af.r4 An.r4 Ao.r4 Ap.r4
 have eq0:((ratB p0).toList == (ratB p3).toList)=true:=by rw [q0];exact beq_self_eq_true _
 have pq0:(ratB p0).toList=(ratB p3).toList:=by rw [q0]
 have eq1:((ratB p1).toList == (ratB p4).toList)=true:=by rw [q1];exact beq_self_eq_true _
 have pq1:(ratB p1).toList=(ratB p4).toList:=by rw [q1]
 obtain ⟨Dm,B3⟩:∃ vq,ratB (((p3 - p0)*(p7 - p1)) - ((p4 - p1)*(p6 - p0)))=vq:=⟨_,rfl⟩
 obtain ⟨Dn,B4⟩:∃ vq,ratB (p0+(p9*(p3 - p0)))=vq:=⟨_,rfl⟩
 obtain ⟨Do,B5⟩:∃ vq,ratB (p1+(p9*(p4 - p1)))=vq:=⟨_,rfl⟩
 obtain ⟨Br,B6⟩:∃ vq,ratB p0=vq:=⟨_,rfl⟩
 obtain ⟨Bs,B7⟩:∃ vq,ratB p1=vq:=⟨_,rfl⟩
 obtain ⟨Bt,B8⟩:∃ vq,ratB p3=vq:=⟨_,rfl⟩
 obtain ⟨Bu,B9⟩:∃ vq,ratB p4=vq:=⟨_,rfl⟩
 obtain ⟨Bv,Ca⟩:∃ vq,ratB p6=vq:=⟨_,rfl⟩
 obtain ⟨Bw,Cb⟩:∃ vq,ratB p7=vq:=⟨_,rfl⟩
 obtain ⟨Co,Cc⟩:∃ vq,ratB p9=vq:=⟨_,rfl⟩
 try simp only [B3,B4,B5,B6,B7,B8,B9,Ca,Cb,Cc] at c1 c2 c3 c4 c5 c6 c7 c8 c9 c10 c11 c12 c13 c14 c15 eq0 pq0 eq1 pq1 ⊢
 obtain ⟨ba,eba⟩:∃ vq,betwB p0 p1 p3 p4 p6 p7=vq:=⟨_,rfl⟩
 try simp only [eba] at c1 c2 c3 c4 c5 c6 c7 c8 c9 c10 c11 c12 c13 c14 c15 eq0 pq0 eq1 pq1 ⊢
 obtain ⟨bi,ebi⟩:∃ vq,decide ((p9 - (0:Rat)).num.sign*(p9 - (1:Rat)).num.sign≤0)=vq:=⟨_,rfl⟩
 try simp only [ebi] at c1 c2 c3 c4 c5 c6 c7 c8 c9 c10 c11 c12 c13 c14 c15 eq0 pq0 eq1 pq1 ⊢
 obtain ⟨sg,esg⟩:∃ vq,(((p3 - p0)*(p7 - p1)) - ((p4 - p1)*(p6 - p0))).num.sign=vq:=⟨_,rfl⟩
 try simp only [esg] at c1 c2 c3 c4 c5 c6 c7 c8 c9 c10 c11 c12 c13 c14 c15 eq0 pq0 eq1 pq1 ⊢
 have C1:=Lib.hid c1
 have C2:=Lib.hid c2
 have C3:=Lib.hid c3
 have C4:=Lib.hid c4
 have C5:=Lib.hid c5
 have C6:=Lib.hid c6
 have C7:=Lib.hid c7
 have C8:=Lib.hid c8
 have C9:=Lib.hid c9
 have C10:=Lib.hid c10
 have C11:=Lib.hid c11
 have C12:=Lib.hid c12
 have C13:=Lib.hid c13
 have C14:=Lib.hid c14
 have C15:=Lib.hid c15
 clear c1 c2 c3 c4 c5 c6 c7 c8 c9 c10 c11 c12 c13 c14 c15 B3 B4 B5 B6 B7 B8 B9 Ca Cb Cc eba ebi esg Ae Am Af An Ao Ap Bx B0 Bp Bq Av Aw By Bz B1 B2 k0 k1 k2 k3 k4 k5 k6 k7 k8 k9 q0 q1
 have hb:=Below.refl w.heap.size w
 go_enter Tryz.func6,Tryz.ntmps6
 go_upto_region 1 with fail
 refine wp_alloc3 (fun w1 a0 a1 a2 hk=>?_)
 replace hb:=hb.trans (hk.mono hb.size)
 clear hk
 obtain ⟨Ax,Ay,Az,A0,A1,A2,A3,A4,A5,A6,A7,A8⟩:=ce12 a0
 obtain ⟨A9,Ba,Bb,Bc,Bd,Be⟩:=ce6 a1
 obtain ⟨Bf,Bg⟩:=ce2 a2
 go_upto_region 3 with (go_at_call 13;with_reducible refine (chVB hb R C1).mono ?_;clear hb;rintro e w1 ⟨rfl,hk,hb⟩;clear Ax Ay Az A0 A1 A2 A3 A4 A5 A6 A7 A8 A9 Ba Bb Bc Bd Be Bf Bg;replace a0:=zB hk a0;replace a1:=zB hk a1;replace a2:=zB hk a2;obtain ⟨Ax,Ay,Az,A0,A1,A2,A3,A4,A5,A6,A7,A8⟩:=ce12 a0;obtain ⟨A9,Ba,Bb,Bc,Bd,Be⟩:=ce6 a1;obtain ⟨Bf,Bg⟩:=ce2 a2;clear hk)
 obtain ⟨Cp,Cq,Cr,Cs,Ct,Cu,Cv,Cw,Cx,Cy,Cz,C0⟩:=cy12 a0
 obtain ⟨Da,Db,Dc,Dd,De,Df⟩:=cy6 a1
 obtain ⟨Dg,Dh⟩:=cy2 a2
 have Di:=rrV C2 R hb
 have Dj:=rrV C3 R hb
 have Dk:=rrV C4 R hb
 have Dl:=rrV C5 R hb
 have Cd:=qqV C2 R hb
 have Ce:=qqV C3 R hb
 have Cf:=qqV C4 R hb
 have Cg:=qqV C5 R hb
 refine wp_free3 10 1 (fun i=>if i=10 then Obj.cells #[Value.string ⟨#[]⟩,Value.string ⟨#[]⟩] 30 else if i=11 then Obj.cells #[Value.string ⟨#[]⟩,Value.string ⟨#[]⟩] 30 else if i=12 then Obj.cells #[Value.string ⟨#[]⟩,Value.string ⟨#[]⟩] 30 else Obj.cells #[] 0) (fun i=>if i=10 then Obj.cells #[Value.string Br,Value.string Bs] 30 else if i=11 then Obj.cells #[Value.string Bt,Value.string Bu] 30 else if i=12 then Obj.cells #[Value.string Bv,Value.string Bw] 30 else Obj.cells #[] 0) (some 7) (some 8) (some 9) (by first | assumption | kernel_rfl) (by kernel_rfl) ?lay rfl rfl rfl ?_
 case lay =>
   intro i h1 h2
   obtain rfl | rfl | rfl:i=10∨i=11∨i=12:=by omega
   all_goals exact ⟨_,rfl,rfl,fun a w=>(by first | (go_simp;done) | (go_simp;rfl))⟩
 simp only [List.take_succ_cons,List.take_zero]
 repeat (refine wpB_step (fun K hK=>?_);go_simp;first | (refine hK _ ?_;clear hK K) | (apply Exists.intro;refine ⟨fun _=>?_,hK _ ?_⟩;(first | (with_reducible exact Cd.out _ _) | (with_reducible exact Ce.out _ _) | (with_reducible exact Cf.out _ _) | (with_reducible exact Cg.out _ _));clear hK K))
 refine wpB_nil ?_
 intro Aq Ar As
 refine ⟨?_,?_,?_,?_⟩
 · refine ⟨_,rfl,rfl,rfl,fun cs b h=>(by cases h),fun w hw=>?_⟩
   replace hw:w.heap[Aq]? = some (Obj.cells #[Value.string ⟨#[]⟩,Value.string ⟨#[]⟩] 30):=hw
   have z0:w.cell? ⟨Aq,0,none⟩=some (Value.string ⟨#[]⟩):=zA hw
   have y0:w.frozen? ⟨Aq,0,none⟩=false:=zD hw
   have z1:w.cell? ⟨Aq,1,none⟩=some (Value.string ⟨#[]⟩):=zA hw
   have y1:w.frozen? ⟨Aq,1,none⟩=false:=zD hw
   refine ⟨_,?_,(Wrote.set (i:=1) (Wrote.set (i:=0) (Wrote.refl hw) (Value.string Br)) (Value.string Bs))⟩
   go_simp
 · refine ⟨_,rfl,rfl,rfl,fun cs b h=>(by cases h),fun w hw=>?_⟩
   replace hw:w.heap[Ar]? = some (Obj.cells #[Value.string ⟨#[]⟩,Value.string ⟨#[]⟩] 30):=hw
   have z0:w.cell? ⟨Ar,0,none⟩=some (Value.string ⟨#[]⟩):=zA hw
   have y0:w.frozen? ⟨Ar,0,none⟩=false:=zD hw
   have z1:w.cell? ⟨Ar,1,none⟩=some (Value.string ⟨#[]⟩):=zA hw
   have y1:w.frozen? ⟨Ar,1,none⟩=false:=zD hw
   refine ⟨_,?_,(Wrote.set (i:=1) (Wrote.set (i:=0) (Wrote.refl hw) (Value.string Bt)) (Value.string Bu))⟩
   go_simp
 · refine ⟨_,rfl,rfl,rfl,fun cs b h=>(by cases h),fun w hw=>?_⟩
   replace hw:w.heap[As]? = some (Obj.cells #[Value.string ⟨#[]⟩,Value.string ⟨#[]⟩] 30):=hw
   have z0:w.cell? ⟨As,0,none⟩=some (Value.string ⟨#[]⟩):=zA hw
   have y0:w.frozen? ⟨As,0,none⟩=false:=zD hw
   have z1:w.cell? ⟨As,1,none⟩=some (Value.string ⟨#[]⟩):=zA hw
   have y1:w.frozen? ⟨As,1,none⟩=false:=zD hw
   refine ⟨_,?_,(Wrote.set (i:=1) (Wrote.set (i:=0) (Wrote.refl hw) (Value.string Bv)) (Value.string Bw))⟩
   go_simp
 refine ⟨_,Value.string Co,rfl,Or.inl ⟨rfl,fun p=>?_⟩,?_⟩
 · go_simp
   try exact ⟨rfl,rfl⟩
 intro w1 hk m0 m1 m2 Aa Ab Ac _ _ _
 clear Ax Ay Az A0 A1 A2 A3 A4 A5 A6 A7 A8 A9 Ba Bb Bc Bd Be Bf Bg
 replace a0:=zB hk a0
 replace a1:=zB hk a1
 replace a2:=zB hk a2
 obtain ⟨Ax,Ay,Az,A0,A1,A2,A3,A4,A5,A6,A7,A8⟩:=ce12 a0
 obtain ⟨A9,Ba,Bb,Bc,Bd,Be⟩:=ce6 a1
 obtain ⟨Bf,Bg⟩:=ce2 a2
 replace hb:=hb.trans (hk.mono hb.size)
 clear hk
 replace Aa:w1.heap[Aq]? = some (Obj.cells #[Value.string Br,Value.string Bs] 30):=Aa
 have Ag:w1.cell? ⟨Aq,0,none⟩=some (Value.string Br):=zA Aa
 have Ah:w1.cell? ⟨Aq,1,none⟩=some (Value.string Bs):=zA Aa
 replace Ab:w1.heap[Ar]? = some (Obj.cells #[Value.string Bt,Value.string Bu] 30):=Ab
 have Ai:w1.cell? ⟨Ar,0,none⟩=some (Value.string Bt):=zA Ab
 have Aj:w1.cell? ⟨Ar,1,none⟩=some (Value.string Bu):=zA Ab
 replace Ac:w1.heap[As]? = some (Obj.cells #[Value.string Bv,Value.string Bw] 30):=Ac
 have Ak:w1.cell? ⟨As,0,none⟩=some (Value.string Bv):=zA Ac
 have Al:w1.cell? ⟨As,1,none⟩=some (Value.string Bw):=zA Ac
 clear Cd Ce Cf Cg Di Dj Dk Dl Cp Cq Cr Cs Ct Cu Cv Cw Cx Cy Cz C0 Da Db Dc Dd De Df Dg Dh m0 m1 m2
 go_upto_region 8 with ((first | (go_at_call 45;with_reducible refine (chVB hb R C6).mono ?_) | (go_at_call 46;with_reducible refine (chVB hb R C7).mono ?_) | (go_at_call 47;with_reducible refine (chVB hb R C8).mono ?_) | (go_at_call 48;with_reducible refine (chVB hb R C9).mono ?_));clear hb;rintro e w1 ⟨rfl,hk,hb⟩;clear Ag Ah Ai Aj Ak Al;replace Aa:=zB hk Aa;replace Ab:=zB hk Ab;replace Ac:=zB hk Ac;obtain ⟨Ag,Ah⟩:=ce2 Aa;obtain ⟨Ai,Aj⟩:=ce2 Ab;obtain ⟨Ak,Al⟩:=ce2 Ac;clear hk)
 clear Ax Ay Az A0 A1 A2 A3 A4 A5 A6 A7 A8 a0 A9 Ba Bb Bc Bd Be a1 Bf Bg a2
 refine wp_alloc1 (fun w1 Ad hk=>?_)
 clear Ag Ah Ai Aj Ak Al
 replace Aa:=zB hk Aa
 replace Ab:=zB hk Ab
 replace Ac:=zB hk Ac
 obtain ⟨Ag,Ah⟩:=ce2 Aa
 obtain ⟨Ai,Aj⟩:=ce2 Ab
 obtain ⟨Ak,Al⟩:=ce2 Ac
 replace hb:=hb.trans (hk.mono hb.size)
 clear hk
 obtain ⟨At,Au⟩:=ce2 Ad
 obtain ⟨Bh,Bi⟩:=cy2 Ad
 obtain ⟨Bj,Bk⟩:=cy2 Aa
 obtain ⟨Bl,Bm⟩:=cy2 Ab
 obtain ⟨Bn,Bo⟩:=cy2 Ac
 have Ch:=rrV C10 R hb
 have Ci:=rrV C11 R hb
 refine wp_region_quiet_below (by first | assumption | kernel_rfl) (by kernel_rfl) ?_
 repeat (quiet_step (first | (with_reducible exact Ch.out _ _) | (with_reducible exact Ci.out _ _)))
 refine wpQuiet_nil ?_
 intro w1 hw'
 obtain ⟨hk,hb⟩:=zQ hb hw'
 clear At Au Ag Ah Ai Aj Ak Al
 replace Ad:=zB hk Ad
 replace Aa:=zB hk Aa
 replace Ab:=zB hk Ab
 replace Ac:=zB hk Ac
 obtain ⟨At,Au⟩:=ce2 Ad
 obtain ⟨Ag,Ah⟩:=ce2 Aa
 obtain ⟨Ai,Aj⟩:=ce2 Ab
 obtain ⟨Ak,Al⟩:=ce2 Ac
 clear Ch Ci Bh Bi Bj Bk Bl Bm Bn Bo
 clear hk hw'
 go_upto_region 10 with fail
 obtain ⟨Bh,Bi⟩:=cy2 Ad
 obtain ⟨Bj,Bk⟩:=cy2 Aa
 obtain ⟨Bl,Bm⟩:=cy2 Ab
 obtain ⟨Bn,Bo⟩:=cy2 Ac
 refine wp_region_mid 5 1 (by first | assumption | kernel_rfl) (by kernel_rfl) ?_
 simp only [List.take_succ_cons,List.take_zero,List.drop_succ_cons,List.drop_zero]
 repeat (quiet_step (first | fail))
 refine wpQuiet_nil ?_
 intro w1 hw'
 obtain ⟨hk,hb⟩:=zQ hb hw'
 clear At Au Ag Ah Ai Aj Ak Al
 replace Ad:=zB hk Ad
 replace Aa:=zB hk Aa
 replace Ab:=zB hk Ab
 replace Ac:=zB hk Ac
 obtain ⟨At,Au⟩:=ce2 Ad
 obtain ⟨Ag,Ah⟩:=ce2 Aa
 obtain ⟨Ai,Aj⟩:=ce2 Ab
 obtain ⟨Ak,Al⟩:=ce2 Ac
 clear Bh Bi Bj Bk Bl Bm Bn Bo
 clear hk hw'
 go_wp2_with (go_at_call 21;with_reducible refine (zL hb (C12.out _ (R.below hb))).mono ?_;clear hb;rintro e w1 ⟨rfl,hk,hb⟩;clear At Au Ag Ah Ai Aj Ak Al;replace Ad:=zB hk Ad;replace Aa:=zB hk Aa;replace Ab:=zB hk Ab;replace Ac:=zB hk Ac;obtain ⟨At,Au⟩:=ce2 Ad;obtain ⟨Ag,Ah⟩:=ce2 Aa;obtain ⟨Ai,Aj⟩:=ce2 Ab;obtain ⟨Ak,Al⟩:=ce2 Ac;clear hk)
 obtain ⟨Bh,Bi⟩:=cy2 Ad
 obtain ⟨Bj,Bk⟩:=cy2 Aa
 obtain ⟨Bl,Bm⟩:=cy2 Ab
 obtain ⟨Bn,Bo⟩:=cy2 Ac
 have Cj:=rrV C13 R hb
 have Ck:=rrV C14 R hb
 have Cm:=rrV C15 R hb
 have Cn:=rrV C10 R hb
 refine ⟨w1,Below.refl _ _,?_⟩
 repeat (quiet_step (first | (with_reducible exact Cj.out _ _) | (with_reducible exact Ck.out _ _) | (with_reducible exact Cm.out _ _) | (with_reducible exact Cn.out _ _)))
 refine wpQuiet_nil ?_
 intro w1 hw'
 obtain ⟨hk,hb⟩:=zQ hb hw'
 clear At Au Ag Ah Ai Aj Ak Al
 replace Ad:=zB hk Ad
 replace Aa:=zB hk Aa
 replace Ab:=zB hk Ab
 replace Ac:=zB hk Ac
 obtain ⟨At,Au⟩:=ce2 Ad
 obtain ⟨Ag,Ah⟩:=ce2 Aa
 obtain ⟨Ai,Aj⟩:=ce2 Ab
 obtain ⟨Ak,Al⟩:=ce2 Ac
 clear Cj Ck Cm Cn Bh Bi Bj Bk Bl Bm Bn Bo
 clear hk hw'
 go_wp2
 first | go_ret | go_ret2 | go_ret3
 exact ⟨rfl,hb⟩
theorem lawTurns (i0 g0 i1 g1 i2 g2 i3 g3 i4 g4 i5 g5 i6 g6 i7 g7 i8 g8 i9 g9:Int) (b0:(-32768≤i0∧i0≤32767)∧(0≤g0∧g0≤255)) (b1:(-32768≤i1∧i1≤32767)∧(0≤g1∧g1≤255)) (b2:(-32768≤i2∧i2≤32767)∧(0≤g2∧g2≤255)) (b3:(-32768≤i3∧i3≤32767)∧(0≤g3∧g3≤255)) (b4:(-32768≤i4∧i4≤32767)∧(0≤g4∧g4≤255)) (b5:(-32768≤i5∧i5≤32767)∧(0≤g5∧g5≤255)) (b6:(-32768≤i6∧i6≤32767)∧(0≤g6∧g6≤255)) (b7:(-32768≤i7∧i7≤32767)∧(0≤g7∧g7≤255)) (b8:(-32768≤i8∧i8≤32767)∧(0≤g8∧g8≤255)) (b9:(-32768≤i9∧i9≤32767)∧(0≤g9∧g9≤255)) (w:World) (R:EnvV w) :
   Calls Tryz.prog 6 #[.agg #[.int .i16 i0,.int .u8 g0,.int .i16 i1,.int .u8 g1,.int .i16 i2,.int .u8 g2,.int .i16 i3,.int .u8 g3,.int .i16 i4,.int .u8 g4,.int .i16 i5,.int .u8 g5],.agg #[.int .i16 i6,.int .u8 g6,.int .i16 i7,.int .u8 g7,.int .i16 i8,.int .u8 g8],.agg #[.int .i16 i9,.int .u8 g9]] w (Ret w (.bool true)):=by
 obtain ⟨p0,k0⟩:∃ p,SmallIs i0 g0 p:=⟨_,b0.1,b0.2,rfl⟩
 obtain ⟨p1,k1⟩:∃ p,SmallIs i1 g1 p:=⟨_,b1.1,b1.2,rfl⟩
 obtain ⟨p2,k2⟩:∃ p,SmallIs i2 g2 p:=⟨_,b2.1,b2.2,rfl⟩
 obtain ⟨p3,k3⟩:∃ p,SmallIs i3 g3 p:=⟨_,b3.1,b3.2,rfl⟩
 obtain ⟨p4,k4⟩:∃ p,SmallIs i4 g4 p:=⟨_,b4.1,b4.2,rfl⟩
 obtain ⟨p5,k5⟩:∃ p,SmallIs i5 g5 p:=⟨_,b5.1,b5.2,rfl⟩
 obtain ⟨p6,k6⟩:∃ p,SmallIs i6 g6 p:=⟨_,b6.1,b6.2,rfl⟩
 obtain ⟨p7,k7⟩:∃ p,SmallIs i7 g7 p:=⟨_,b7.1,b7.2,rfl⟩
 obtain ⟨p8,k8⟩:∃ p,SmallIs i8 g8 p:=⟨_,b8.1,b8.2,rfl⟩
 obtain ⟨p9,k9⟩:∃ p,SmallIs i9 g9 p:=⟨_,b9.1,b9.2,rfl⟩
 by_cases q0:p0=p3
 · by_cases q1:p1=p4
   · exact lawTurns_2 i0 g0 i1 g1 i2 g2 i3 g3 i4 g4 i5 g5 i6 g6 i7 g7 i8 g8 i9 g9 p0 p1 p2 p3 p4 p5 p6 p7 p8 p9 k0 k1 k2 k3 k4 k5 k6 k7 k8 k9 q0 q1 w R
   · exact lawTurns_1 i0 g0 i1 g1 i2 g2 i3 g3 i4 g4 i5 g5 i6 g6 i7 g7 i8 g8 i9 g9 p0 p1 p2 p3 p4 p5 p6 p7 p8 p9 k0 k1 k2 k3 k4 k5 k6 k7 k8 k9 q0 q1 w R
 · exact lawTurns_0 i0 g0 i1 g1 i2 g2 i3 g3 i4 g4 i5 g5 i6 g6 i7 g7 i8 g8 i9 g9 p0 p1 p2 p3 p4 p5 p6 p7 p8 p9 k0 k1 k2 k3 k4 k5 k6 k7 k8 k9 q0 w R
end Go.Proofs.YtpennccflalobaaGreatDoor.Kl
