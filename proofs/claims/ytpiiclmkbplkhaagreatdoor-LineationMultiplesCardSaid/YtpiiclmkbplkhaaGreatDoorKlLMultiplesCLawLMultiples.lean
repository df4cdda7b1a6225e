import Derived.Test.YtpiiclmkbplkhaaGreatDoorKlLMultiplesCLC
import Derived.BigRegion
namespace Go.Proofs.YtpiiclmkbplkhaaGreatDoor.Kl
open Go Go.RowKit
set_option maxRecDepth 100000
set_option maxHeartbeats 8000000
theorem lmult_za  (i0 i1 i2 X0 X1 X2:Int) (d k:Int) (ck:CV 12 #[] (.bool true)) (ca:CV 29 #[.agg #[.int .i8 i0,.int .i8 i1,.int .i8 i2,.int .u8 d]] (.agg #[.int .i64 X0,.int .i64 X1,.int .i64 X2])) (za:CV 28 #[.agg #[.int .i64 X0,.int .i64 X1,.int .i64 X2]] (.bool true)) (w:World) (R:EnvV w) :
   Calls Tryz.prog 10 #[.agg #[.int .i8 i0,.int .i8 i1,.int .i8 i2,.int .u8 d],.int .i8 k] w (Ret w (.bool true)):=by
 have c1:=ck
 have c2:=ca
 have c3:=za
 have C1:=Lib.hid c1
 have C2:=Lib.hid c2
 have C3:=Lib.hid c3
 clear c1 c2 c3 ck ca za
 have hb:=Below.refl w.heap.size w
 go_enter Tryz.func10,Tryz.ntmps10
 go_upto_region 1 with fail
 refine wp_alloc1 (fun w1 a0 hk=>?_)
 replace hb:=hb.trans (hk.mono hb.size)
 clear hk
 obtain ⟨Aa,Ab,Ac,Ad⟩:=ce4 a0
 go_wp2_with ((first | (go_at_call 12;first | with_reducible refine (chVB hb R C1).mono ?_ | with_reducible refine (chVB hb R C1).mono ?_) | (go_at_call 29;with_reducible refine (chVB hb R C2).mono ?_) | (go_at_call 28;with_reducible refine (chVB hb R C3).mono ?_));clear hb;rintro e w1 ⟨rfl,hk,hb⟩;clear Aa Ab Ac Ad;replace a0:=zB hk a0;obtain ⟨Aa,Ab,Ac,Ad⟩:=ce4 a0;clear hk)
 first | go_ret | go_ret2 | go_ret3
 exact ⟨rfl,hb⟩
theorem lmult_zk  (i0 i1 i2 X0 X1 X2:Int) (d k:Int) (ck:CV 12 #[] (.bool true)) (ca:CV 29 #[.agg #[.int .i8 i0,.int .i8 i1,.int .i8 i2,.int .u8 d]] (.agg #[.int .i64 X0,.int .i64 X1,.int .i64 X2])) (za:CV 28 #[.agg #[.int .i64 X0,.int .i64 X1,.int .i64 X2]] (.bool false)) (HK:(k == 0)=true) (w:World) (R:EnvV w) :
   Calls Tryz.prog 10 #[.agg #[.int .i8 i0,.int .i8 i1,.int .i8 i2,.int .u8 d],.int .i8 k] w (Ret w (.bool true)):=by
 have c1:=ck
 have c2:=ca
 have c3:=za
 have gk:(k == 0)=true:=HK
 have gk2:k=0:=(by simpa using HK)
 have C1:=Lib.hid c1
 have C2:=Lib.hid c2
 have C3:=Lib.hid c3
 clear c1 c2 c3 ck ca za HK
 have hb:=Below.refl w.heap.size w
 go_enter Tryz.func10,Tryz.ntmps10
 go_upto_region 1 with fail
 refine wp_alloc1 (fun w1 a0 hk=>?_)
 replace hb:=hb.trans (hk.mono hb.size)
 clear hk
 obtain ⟨Aa,Ab,Ac,Ad⟩:=ce4 a0
 go_wp2_with ((first | (go_at_call 12;first | with_reducible refine (chVB hb R C1).mono ?_ | with_reducible refine (chVB hb R C1).mono ?_) | (go_at_call 29;with_reducible refine (chVB hb R C2).mono ?_) | (go_at_call 28;with_reducible refine (chVB hb R C3).mono ?_));clear hb;rintro e w1 ⟨rfl,hk,hb⟩;clear Aa Ab Ac Ad;replace a0:=zB hk a0;obtain ⟨Aa,Ab,Ac,Ad⟩:=ce4 a0;clear hk)
 first | go_ret | go_ret2 | go_ret3
 exact ⟨rfl,hb⟩
theorem lmult_m  (i0 i1 i2 X0 X1 X2:Int) (d k N EE:Int) (s0 s1 s2 t0 t1 t2 p0 p1 p2:ByteArray) (by' r:ByteArray) (vb:Bool) (ck:CV 12 #[] (.bool true)) (ca:CV 29 #[.agg #[.int .i8 i0,.int .i8 i1,.int .i8 i2,.int .u8 d]] (.agg #[.int .i64 X0,.int .i64 X1,.int .i64 X2])) (za:CV 28 #[.agg #[.int .i64 X0,.int .i64 X1,.int .i64 X2]] (.bool false)) (ma:CV 30 #[.agg #[.int .i8 i0,.int .i8 i1,.int .i8 i2,.int .u8 d]] (.agg #[.string s0,.string s1,.string s2])) (qu:CV 34 #[.int .i64 k,.int .i64 2] (.string by')) (mu0:CV 38 #[.string by',.string s0] (.string t0)) (mu1:CV 38 #[.string by',.string s1] (.string t1)) (mu2:CV 38 #[.string by',.string s2] (.string t2)) (of1:CV 25 #[.agg #[.string s0,.string s1,.string s2]] (.tuple #[.agg #[.string p0,.string p1,.string p2],.int .i64 0])) (of2:CV 25 #[.agg #[.string t0,.string t1,.string t2]] (.tuple #[.agg #[.string p0,.string p1,.string p2],.int .i64 0])) (of3:CV 25 #[.agg #[.string p0,.string p1,.string p2]] (.tuple #[.agg #[.string p0,.string p1,.string p2],.int .i64 0])) (sm:CV 16 #[.agg #[.string s0,.string s1,.string s2],.agg #[.string t0,.string t1,.string t2]] (.tuple #[.bool true,.int .i64 0])) (tr1:CV 26 #[.agg #[.string s0,.string s1,.string s2]] (.tuple #[.int .i64 N,.int .i64 EE])) (tr2:CV 26 #[.agg #[.string p0,.string p1,.string p2]] (.tuple #[.int .i64 N,.int .i64 EE])) (pl1:CV 27 #[.agg #[.string t0,.string t1,.string t2]] (.tuple #[.string r,.bool vb,.int .i64 0])) (pl2:CV 27 #[.agg #[.string p0,.string p1,.string p2]] (.tuple #[.string r,.bool vb,.int .i64 0])) (HK:(k == 0)=false) (HW:IntKind.i64.wrap k=k) (w:World) (R:EnvV w) :
   Calls Tryz.prog 10 #[.agg #[.int .i8 i0,.int .i8 i1,.int .i8 i2,.int .u8 d],.int .i8 k] w (Ret w (.bool true)):=by
 have c1:=ck
 have c2:=ca
 have c3:=za
 have c4:=ma
 have c5:=qu
 have c6:=mu0
 have c7:=mu1
 have c8:=mu2
 have c9:=of1
 have c10:=of2
 have c11:=of3
 have c12:=sm
 have c13:=tr1
 have c14:=tr2
 have c15:=pl1
 have c16:=pl2
 have gk:(k == 0)=false:=HK
 have gk2:¬ k=0:=(by simpa using HK)
 have gw:IntKind.i64.wrap k=k:=HW
 have C1:=Lib.hid c1
 have C2:=Lib.hid c2
 have C3:=Lib.hid c3
 have C4:=Lib.hid c4
 have C5:=Lib.hid c5
 have C6:=Lib.hid c6
 have C7:=Lib.hid c7
 have C8:=Lib.hid c8
 have C9:=Lib.hid c9
 have C10:=Lib.hid c10
 have C11:=Lib.hid c11
 have C12:=Lib.hid c12
 have C13:=Lib.hid c13
 have C14:=Lib.hid c14
 have C15:=Lib.hid c15
 have C16:=Lib.hid c16
 clear c1 c2 c3 c4 c5 c6 c7 c8 c9 c10 c11 c12 c13 c14 c15 c16 ck ca za ma qu mu0 mu1 mu2 of1 of2 of3 sm tr1 tr2 pl1 pl2 HK HW
 have hb:=Below.refl w.heap.size w
 go_enter Tryz.func10,Tryz.ntmps10
 go_upto_region 1 with fail
 refine wp_alloc1 (fun w1 a0 hk=>?_)
 replace hb:=hb.trans (hk.mono hb.size)
 clear hk
 obtain ⟨Av,Aw,Ax,Ay⟩:=ce4 a0
 go_upto_region 4 with ((first | (go_at_call 12;with_reducible refine (chVB hb R C1).mono ?_) | (go_at_call 29;with_reducible refine (chVB hb R C2).mono ?_) | (go_at_call 28;with_reducible refine (chVB hb R C3).mono ?_) | (go_at_call 30;with_reducible refine (chVB hb R C4).mono ?_));clear hb;rintro e w1 ⟨rfl,hk,hb⟩;clear Av Aw Ax Ay;replace a0:=zB hk a0;obtain ⟨Av,Aw,Ax,Ay⟩:=ce4 a0;clear hk)
 clear Av Aw Ax Ay a0
 refine wp_alloc1 (fun w1 Aa hk=>?_)
 replace hb:=hb.trans (hk.mono hb.size)
 clear hk
 obtain ⟨Ac,Ad,Ae⟩:=ce3 Aa
 go_upto_region 5 with (go_at_call 34;with_reducible refine (chVB hb R C5).mono ?_;clear hb;rintro e w1 ⟨rfl,hk,hb⟩;clear Ac Ad Ae;replace Aa:=zB hk Aa;obtain ⟨Ac,Ad,Ae⟩:=ce3 Aa;clear hk)
 obtain ⟨A2,A3,A4⟩:=cy3 Aa
 have A5:=rrV C6 R hb
 have A6:=rrV C7 R hb
 have A7:=rrV C8 R hb
 have Az:=qqV C6 R hb
 have A0:=qqV C7 R hb
 have A1:=qqV C8 R hb
 refine wp_free1 13 0 (fun i=>if i=13 then Obj.cells #[Value.string ⟨#[]⟩,Value.string ⟨#[]⟩,Value.string ⟨#[]⟩] 24 else Obj.cells #[] 0) (fun i=>if i=13 then Obj.cells #[Value.string t0,Value.string t1,Value.string t2] 24 else Obj.cells #[] 0) (some 7) (by first | assumption | kernel_rfl) (by kernel_rfl) ?lay rfl ?_
 case lay =>
   intro i h1 h2
   obtain rfl:i=13:=by omega
   all_goals exact ⟨_,rfl,rfl,fun a w=>(by first | (go_simp;done) | (go_simp;rfl))⟩
 simp only [List.take_succ_cons,List.take_zero]
 repeat (refine wpB_step (fun K hK=>?_);go_simp;first | (refine hK _ ?_;clear hK K) | (apply Exists.intro;refine ⟨fun _=>?_,hK _ ?_⟩;(first | (with_reducible exact Az.out _ _) | (with_reducible exact A0.out _ _) | (with_reducible exact A1.out _ _));clear hK K))
 refine wpB_nil ?_
 intro An
 refine ⟨?_,?_⟩
 · refine ⟨_,rfl,rfl,rfl,fun cs b h=>(by cases h),fun w hw=>?_⟩
   replace hw:w.heap[An]? = some (Obj.cells #[Value.string ⟨#[]⟩,Value.string ⟨#[]⟩,Value.string ⟨#[]⟩] 24):=hw
   have z0:w.cell? ⟨An,0,none⟩=some (Value.string ⟨#[]⟩):=zA hw
   have y0:w.frozen? ⟨An,0,none⟩=false:=zD hw
   have z1:w.cell? ⟨An,1,none⟩=some (Value.string ⟨#[]⟩):=zA hw
   have y1:w.frozen? ⟨An,1,none⟩=false:=zD hw
   have z2:w.cell? ⟨An,2,none⟩=some (Value.string ⟨#[]⟩):=zA hw
   have y2:w.frozen? ⟨An,2,none⟩=false:=zD hw
   refine ⟨_,?_,(Wrote.set (i:=2) (Wrote.set (i:=1) (Wrote.set (i:=0) (Wrote.refl hw) (Value.string t0)) (Value.string t1)) (Value.string t2))⟩
   go_simp
 intro w1 hk m0 Ab
 clear Ac Ad Ae
 replace Aa:=zB hk Aa
 obtain ⟨Ac,Ad,Ae⟩:=ce3 Aa
 replace hb:=hb.trans (hk.mono hb.size)
 clear hk
 replace Ab:w1.heap[An]? = some (Obj.cells #[Value.string t0,Value.string t1,Value.string t2] 24):=Ab
 have Ag:w1.cell? ⟨An,0,none⟩=some (Value.string t0):=zA Ab
 have Ah:w1.cell? ⟨An,1,none⟩=some (Value.string t1):=zA Ab
 have Ai:w1.cell? ⟨An,2,none⟩=some (Value.string t2):=zA Ab
 clear Az A0 A1 A5 A6 A7 A2 A3 A4 m0
 go_upto_region 7 with (go_at_call 25;with_reducible refine (chVB hb R C9).mono ?_;clear hb;rintro e w1 ⟨rfl,hk,hb⟩;clear Ac Ad Ae Ag Ah Ai;replace Aa:=zB hk Aa;replace Ab:=zB hk Ab;obtain ⟨Ac,Ad,Ae⟩:=ce3 Aa;obtain ⟨Ag,Ah,Ai⟩:=ce3 Ab;clear hk)
 refine wp_alloc1 (fun w1 Af hk=>?_)
 clear Ac Ad Ae Ag Ah Ai
 replace Aa:=zB hk Aa
 replace Ab:=zB hk Ab
 obtain ⟨Ac,Ad,Ae⟩:=ce3 Aa
 obtain ⟨Ag,Ah,Ai⟩:=ce3 Ab
 replace hb:=hb.trans (hk.mono hb.size)
 clear hk
 obtain ⟨Ak,Al,Am⟩:=ce3 Af
 go_upto_region 8 with (go_at_call 25;with_reducible refine (chVB hb R C10).mono ?_;clear hb;rintro e w1 ⟨rfl,hk,hb⟩;clear Ac Ad Ae Ak Al Am Ag Ah Ai;replace Aa:=zB hk Aa;replace Af:=zB hk Af;replace Ab:=zB hk Ab;obtain ⟨Ac,Ad,Ae⟩:=ce3 Aa;obtain ⟨Ak,Al,Am⟩:=ce3 Af;obtain ⟨Ag,Ah,Ai⟩:=ce3 Ab;clear hk)
 refine wp_alloc1 (fun w1 Aj hk=>?_)
 clear Ac Ad Ae Ak Al Am Ag Ah Ai
 replace Aa:=zB hk Aa
 replace Af:=zB hk Af
 replace Ab:=zB hk Ab
 obtain ⟨Ac,Ad,Ae⟩:=ce3 Aa
 obtain ⟨Ak,Al,Am⟩:=ce3 Af
 obtain ⟨Ag,Ah,Ai⟩:=ce3 Ab
 replace hb:=hb.trans (hk.mono hb.size)
 clear hk
 obtain ⟨Ao,Ap,Aq⟩:=ce3 Aj
 go_upto_region 9 with (go_at_call 25;with_reducible refine (chVB hb R C11).mono ?_;clear hb;rintro e w1 ⟨rfl,hk,hb⟩;clear Ac Ad Ae Ak Al Am Ao Ap Aq Ag Ah Ai;replace Aa:=zB hk Aa;replace Af:=zB hk Af;replace Aj:=zB hk Aj;replace Ab:=zB hk Ab;obtain ⟨Ac,Ad,Ae⟩:=ce3 Aa;obtain ⟨Ak,Al,Am⟩:=ce3 Af;obtain ⟨Ao,Ap,Aq⟩:=ce3 Aj;obtain ⟨Ag,Ah,Ai⟩:=ce3 Ab;clear hk)
 refine wp_alloc1 (fun w1 Ar hk=>?_)
 clear Ac Ad Ae Ak Al Am Ao Ap Aq Ag Ah Ai
 replace Aa:=zB hk Aa
 replace Af:=zB hk Af
 replace Aj:=zB hk Aj
 replace Ab:=zB hk Ab
 obtain ⟨Ac,Ad,Ae⟩:=ce3 Aa
 obtain ⟨Ak,Al,Am⟩:=ce3 Af
 obtain ⟨Ao,Ap,Aq⟩:=ce3 Aj
 obtain ⟨Ag,Ah,Ai⟩:=ce3 Ab
 replace hb:=hb.trans (hk.mono hb.size)
 clear hk
 obtain ⟨As,At,Au⟩:=ce3 Ar
 go_wp2_with (first | ((first | (go_at_call 16;with_reducible refine (chVB hb R C12).mono ?_) | (go_at_call 26;first | with_reducible refine (chVB hb R C13).mono ?_ | with_reducible refine (chVB hb R C14).mono ?_) | (go_at_call 27;with_reducible refine (chVB hb R C15).mono ?_));clear hb;rintro e w1 ⟨rfl,hk,hb⟩;clear Ac Ad Ae Ak Al Am Ao Ap Aq As At Au Ag Ah Ai;replace Aa:=zB hk Aa;replace Af:=zB hk Af;replace Aj:=zB hk Aj;replace Ar:=zB hk Ar;replace Ab:=zB hk Ab;obtain ⟨Ac,Ad,Ae⟩:=ce3 Aa;obtain ⟨Ak,Al,Am⟩:=ce3 Af;obtain ⟨Ao,Ap,Aq⟩:=ce3 Aj;obtain ⟨As,At,Au⟩:=ce3 Ar;obtain ⟨Ag,Ah,Ai⟩:=ce3 Ab;clear hk) | (go_at_call 27;with_reducible refine (chVB hb R C16).mono ?_;clear hb;rintro e w1 ⟨rfl,hk,hb⟩;clear Ac Ad Ae Ak Al Am Ao Ap Aq As At Au;replace Aa:=zB hk Aa;replace Af:=zB hk Af;replace Aj:=zB hk Aj;replace Ar:=zB hk Ar;obtain ⟨Ac,Ad,Ae⟩:=ce3 Aa;obtain ⟨Ak,Al,Am⟩:=ce3 Af;obtain ⟨Ao,Ap,Aq⟩:=ce3 Aj;obtain ⟨As,At,Au⟩:=ce3 Ar;clear hk))
 first | go_ret | go_ret2 | go_ret3
 exact ⟨rfl,hb⟩
end Go.Proofs.YtpiiclmkbplkhaaGreatDoor.Kl
