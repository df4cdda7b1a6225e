import Derived.Test.YtpiiclmkbplkhaaGreatDoorKlLPlungesCLC
import Derived.BigRegion
namespace Go.Proofs.YtpiiclmkbplkhaaGreatDoor.Kl
open Go Go.RowKit
set_option maxRecDepth 100000
set_option maxHeartbeats 8000000
theorem lplunges_za  (i0 i1 i2 j0 j1 j2 X0 X1 X2:Int) (d e:Int) (ck:CV 12 #[] (.bool true)) (ca:CV 29 #[.agg #[.int .i8 i0,.int .i8 i1,.int .i8 i2,.int .u8 d]] (.agg #[.int .i64 X0,.int .i64 X1,.int .i64 X2])) (za:CV 28 #[.agg #[.int .i64 X0,.int .i64 X1,.int .i64 X2]] (.bool true)) (w:World) (R:EnvV w) :
   Calls Tryz.prog 6 #[.agg #[.int .i8 i0,.int .i8 i1,.int .i8 i2,.int .u8 d],.agg #[.int .i8 j0,.int .i8 j1,.int .i8 j2,.int .u8 e]] w (Ret w (.bool true)):=by
 have c1:=ck
 have c2:=ca
 have c3:=za
 have C1:=Lib.hid c1
 have C2:=Lib.hid c2
 have C3:=Lib.hid c3
 clear c1 c2 c3 ck ca za
 have hb:=Below.refl w.heap.size w
 go_enter Tryz.func6,Tryz.ntmps6
 go_upto_region 1 with fail
 refine wp_alloc2 (fun w1 a0 a1 hk=>?_)
 replace hb:=hb.trans (hk.mono hb.size)
 clear hk
 obtain ⟨Aa,Ab,Ac,Ad⟩:=ce4 a0
 obtain ⟨Ae,Af,Ag,Ah⟩:=ce4 a1
 go_wp2_with ((first | (go_at_call 12;first | with_reducible refine (chVB hb R C1).mono ?_ | with_reducible refine (chVB hb R C1).mono ?_) | (go_at_call 29;with_reducible refine (chVB hb R C2).mono ?_) | (go_at_call 28;with_reducible refine (chVB hb R C3).mono ?_));clear hb;rintro e w1 ⟨rfl,hk,hb⟩;clear Aa Ab Ac Ad Ae Af Ag Ah;replace a0:=zB hk a0;replace a1:=zB hk a1;obtain ⟨Aa,Ab,Ac,Ad⟩:=ce4 a0;obtain ⟨Ae,Af,Ag,Ah⟩:=ce4 a1;clear hk)
 first | go_ret | go_ret2 | go_ret3
 exact ⟨rfl,hb⟩
theorem lplunges_zb  (i0 i1 i2 j0 j1 j2 X0 X1 X2 Y0 Y1 Y2:Int) (d e:Int) (ck:CV 12 #[] (.bool true)) (ca:CV 29 #[.agg #[.int .i8 i0,.int .i8 i1,.int .i8 i2,.int .u8 d]] (.agg #[.int .i64 X0,.int .i64 X1,.int .i64 X2])) (za:CV 28 #[.agg #[.int .i64 X0,.int .i64 X1,.int .i64 X2]] (.bool false)) (cb:CV 29 #[.agg #[.int .i8 j0,.int .i8 j1,.int .i8 j2,.int .u8 e]] (.agg #[.int .i64 Y0,.int .i64 Y1,.int .i64 Y2])) (zb:CV 28 #[.agg #[.int .i64 Y0,.int .i64 Y1,.int .i64 Y2]] (.bool true)) (w:World) (R:EnvV w) :
   Calls Tryz.prog 6 #[.agg #[.int .i8 i0,.int .i8 i1,.int .i8 i2,.int .u8 d],.agg #[.int .i8 j0,.int .i8 j1,.int .i8 j2,.int .u8 e]] w (Ret w (.bool true)):=by
 have c1:=ck
 have c2:=ca
 have c3:=za
 have c4:=cb
 have c5:=zb
 have C1:=Lib.hid c1
 have C2:=Lib.hid c2
 have C3:=Lib.hid c3
 have C4:=Lib.hid c4
 have C5:=Lib.hid c5
 clear c1 c2 c3 c4 c5 ck ca za cb zb
 have hb:=Below.refl w.heap.size w
 go_enter Tryz.func6,Tryz.ntmps6
 go_upto_region 1 with fail
 refine wp_alloc2 (fun w1 a0 a1 hk=>?_)
 replace hb:=hb.trans (hk.mono hb.size)
 clear hk
 obtain ⟨Aa,Ab,Ac,Ad⟩:=ce4 a0
 obtain ⟨Ae,Af,Ag,Ah⟩:=ce4 a1
 go_wp2_with ((first | (go_at_call 12;first | with_reducible refine (chVB hb R C1).mono ?_ | with_reducible refine (chVB hb R C1).mono ?_) | (go_at_call 29;first | with_reducible refine (chVB hb R C2).mono ?_ | with_reducible refine (chVB hb R C4).mono ?_) | (go_at_call 28;first | with_reducible refine (chVB hb R C3).mono ?_ | with_reducible refine (chVB hb R C5).mono ?_));clear hb;rintro e w1 ⟨rfl,hk,hb⟩;clear Aa Ab Ac Ad Ae Af Ag Ah;replace a0:=zB hk a0;replace a1:=zB hk a1;obtain ⟨Aa,Ab,Ac,Ad⟩:=ce4 a0;obtain ⟨Ae,Af,Ag,Ah⟩:=ce4 a1;clear hk)
 first | go_ret | go_ret2 | go_ret3
 exact ⟨rfl,hb⟩
theorem lplunges_vm  (i0 i1 i2 j0 j1 j2 X0 X1 X2 Y0 Y1 Y2:Int) (d e ma0 ma1 fl mb0 mb1 ot zz mg1 ww mg2 df:Int) (s0 s1 s2 t0 t1 t2:ByteArray) (ck:CV 12 #[] (.bool true)) (ca:CV 29 #[.agg #[.int .i8 i0,.int .i8 i1,.int .i8 i2,.int .u8 d]] (.agg #[.int .i64 X0,.int .i64 X1,.int .i64 X2])) (za:CV 28 #[.agg #[.int .i64 X0,.int .i64 X1,.int .i64 X2]] (.bool false)) (cb:CV 29 #[.agg #[.int .i8 j0,.int .i8 j1,.int .i8 j2,.int .u8 e]] (.agg #[.int .i64 Y0,.int .i64 Y1,.int .i64 Y2])) (zb:CV 28 #[.agg #[.int .i64 Y0,.int .i64 Y1,.int .i64 Y2]] (.bool false)) (ma:CV 30 #[.agg #[.int .i8 i0,.int .i8 i1,.int .i8 i2,.int .u8 d]] (.agg #[.string s0,.string s1,.string s2])) (mb:CV 30 #[.agg #[.int .i8 j0,.int .i8 j1,.int .i8 j2,.int .u8 e]] (.agg #[.string t0,.string t1,.string t2])) (hpl:CV 27 #[.agg #[.string s0,.string s1,.string s2]] (.tuple #[.string ⟨#[]⟩,.bool true,.int .i64 0])) (hcp:CV 18 #[.agg #[.string s0,.string s1,.string s2],.agg #[.string t0,.string t1,.string t2]] (.tuple #[.int .i64 (-1),.int .i64 0])) (WM0:IntKind.i64.wrap (X0*X0)=ma0) (WM1:IntKind.i64.wrap (X1*X1)=ma1) (WM2:IntKind.i64.wrap (ma0+ma1)=fl) (WM3:IntKind.i64.wrap (Y0*Y0)=mb0) (WM4:IntKind.i64.wrap (Y1*Y1)=mb1) (WM5:IntKind.i64.wrap (mb0+mb1)=ot) (WM6:IntKind.i64.wrap (X2*X2)=zz) (WM7:IntKind.i64.wrap (zz*ot)=mg1) (WM8:IntKind.i64.wrap (Y2*Y2)=ww) (WM9:IntKind.i64.wrap (ww*fl)=mg2) (WM10:IntKind.i64.wrap (mg1 - mg2)=df) (WC0:(fl == 0)=true) (WC1:decide (df < 0)=true) (w:World) (R:EnvV w) :
   Calls Tryz.prog 6 #[.agg #[.int .i8 i0,.int .i8 i1,.int .i8 i2,.int .u8 d],.agg #[.int .i8 j0,.int .i8 j1,.int .i8 j2,.int .u8 e]] w (Ret w (.bool true)):=by
 have c1:=ck
 have c2:=ca
 have c3:=za
 have c4:=cb
 have c5:=zb
 have c8:=ma
 have c9:=hpl
 have c11:=mb
 have c12:=hcp
 have gm0:IntKind.i64.wrap (X0*X0)=ma0:=WM0
 have gm1:IntKind.i64.wrap (X1*X1)=ma1:=WM1
 have gm2:IntKind.i64.wrap (ma0+ma1)=fl:=WM2
 have gm3:IntKind.i64.wrap (Y0*Y0)=mb0:=WM3
 have gm4:IntKind.i64.wrap (Y1*Y1)=mb1:=WM4
 have gm5:IntKind.i64.wrap (mb0+mb1)=ot:=WM5
 have gm6:IntKind.i64.wrap (X2*X2)=zz:=WM6
 have gm7:IntKind.i64.wrap (zz*ot)=mg1:=WM7
 have gm8:IntKind.i64.wrap (Y2*Y2)=ww:=WM8
 have gm9:IntKind.i64.wrap (ww*fl)=mg2:=WM9
 have gm10:IntKind.i64.wrap (mg1 - mg2)=df:=WM10
 have gc0:(fl == 0)=true:=WC0
 have gc1:decide (df < 0)=true:=WC1
 have C1:=Lib.hid c1
 have C2:=Lib.hid c2
 have C3:=Lib.hid c3
 have C4:=Lib.hid c4
 have C5:=Lib.hid c5
 have C8:=Lib.hid c8
 have C9:=Lib.hid c9
 have C11:=Lib.hid c11
 have C12:=Lib.hid c12
 clear c1 c2 c3 c4 c5 c8 c9 c11 c12 ck ca za cb zb ma mb hpl hcp WM0 WM1 WM2 WM3 WM4 WM5 WM6 WM7 WM8 WM9 WM10 WC0 WC1
 have hb:=Below.refl w.heap.size w
 go_enter Tryz.func6,Tryz.ntmps6
 go_upto_region 1 with fail
 refine wp_alloc2 (fun w1 a0 a1 hk=>?_)
 replace hb:=hb.trans (hk.mono hb.size)
 clear hk
 obtain ⟨Ae,Af,Ag,Ah⟩:=ce4 a0
 obtain ⟨Ai,Aj,Ak,Al⟩:=ce4 a1
 go_upto_region 3 with ((first | (go_at_call 12;with_reducible refine (chVB hb R C1).mono ?_) | (go_at_call 29;first | with_reducible refine (chVB hb R C2).mono ?_ | with_reducible refine (chVB hb R C4).mono ?_) | (go_at_call 28;first | with_reducible refine (chVB hb R C3).mono ?_ | with_reducible refine (chVB hb R C5).mono ?_));clear hb;rintro e w1 ⟨rfl,hk,hb⟩;clear Ae Af Ag Ah Ai Aj Ak Al;replace a0:=zB hk a0;replace a1:=zB hk a1;obtain ⟨Ae,Af,Ag,Ah⟩:=ce4 a0;obtain ⟨Ai,Aj,Ak,Al⟩:=ce4 a1;clear hk)
 obtain ⟨As,At,Au,Av⟩:=cy4 a0
 obtain ⟨Aw,Ax,Ay,Az⟩:=cy4 a1
 have A5:=rrV C2 R hb
 have A6:=rrV C4 R hb
 have A0:=qqV C2 R hb
 have A1:=qqV C4 R hb
 refine wp_free2 4 0 (fun i=>if i=4 then Obj.cells #[Value.int .i64 0,Value.int .i64 0,Value.int .i64 0] 48 else if i=5 then Obj.cells #[Value.int .i64 0,Value.int .i64 0,Value.int .i64 0] 48 else Obj.cells #[] 0) (fun i=>if i=4 then Obj.cells #[Value.int .i64 X0,Value.int .i64 X1,Value.int .i64 X2] 48 else if i=5 then Obj.cells #[Value.int .i64 Y0,Value.int .i64 Y1,Value.int .i64 Y2] 48 else Obj.cells #[] 0) (some 5) (some 6) (by first | assumption | kernel_rfl) (by kernel_rfl) ?lay rfl rfl ?_
 case lay =>
   intro i h1 h2
   obtain rfl | rfl:i=4∨i=5:=by omega
   all_goals exact ⟨_,rfl,rfl,fun a w=>(by first | (go_simp;done) | (go_simp;rfl))⟩
 simp only [List.take_succ_cons,List.take_zero]
 repeat (refine wpB_step (fun K hK=>?_);go_simp;first | (refine hK _ ?_;clear hK K) | (apply Exists.intro;refine ⟨fun _=>?_,hK _ ?_⟩;(first | (with_reducible exact A0.out _ _) | (with_reducible exact A1.out _ _));clear hK K))
 refine wpB_nil ?_
 intro Ac Ad
 refine ⟨?_,?_,?_⟩
 · refine ⟨_,rfl,rfl,rfl,fun cs b h=>(by cases h),fun w hw=>?_⟩
   replace hw:w.heap[Ac]? = some (Obj.cells #[Value.int .i64 0,Value.int .i64 0,Value.int .i64 0] 48):=hw
   have z0:w.cell? ⟨Ac,0,none⟩=some (Value.int .i64 0):=zA hw
   have y0:w.frozen? ⟨Ac,0,none⟩=false:=zD hw
   have z1:w.cell? ⟨Ac,1,none⟩=some (Value.int .i64 0):=zA hw
   have y1:w.frozen? ⟨Ac,1,none⟩=false:=zD hw
   have z2:w.cell? ⟨Ac,2,none⟩=some (Value.int .i64 0):=zA hw
   have y2:w.frozen? ⟨Ac,2,none⟩=false:=zD hw
   refine ⟨_,?_,(Wrote.set (i:=2) (Wrote.set (i:=1) (Wrote.set (i:=0) (Wrote.refl hw) (Value.int .i64 X0)) (Value.int .i64 X1)) (Value.int .i64 X2))⟩
   go_simp
 · refine ⟨_,rfl,rfl,rfl,fun cs b h=>(by cases h),fun w hw=>?_⟩
   replace hw:w.heap[Ad]? = some (Obj.cells #[Value.int .i64 0,Value.int .i64 0,Value.int .i64 0] 48):=hw
   have z0:w.cell? ⟨Ad,0,none⟩=some (Value.int .i64 0):=zA hw
   have y0:w.frozen? ⟨Ad,0,none⟩=false:=zD hw
   have z1:w.cell? ⟨Ad,1,none⟩=some (Value.int .i64 0):=zA hw
   have y1:w.frozen? ⟨Ad,1,none⟩=false:=zD hw
   have z2:w.cell? ⟨Ad,2,none⟩=some (Value.int .i64 0):=zA hw
   have y2:w.frozen? ⟨Ad,2,none⟩=false:=zD hw
   refine ⟨_,?_,(Wrote.set (i:=2) (Wrote.set (i:=1) (Wrote.set (i:=0) (Wrote.refl hw) (Value.int .i64 Y0)) (Value.int .i64 Y1)) (Value.int .i64 Y2))⟩
   go_simp
 intro w1 hk m0 m1 Aa Ab _
 clear Ae Af Ag Ah Ai Aj Ak Al
 replace a0:=zB hk a0
 replace a1:=zB hk a1
 obtain ⟨Ae,Af,Ag,Ah⟩:=ce4 a0
 obtain ⟨Ai,Aj,Ak,Al⟩:=ce4 a1
 replace hb:=hb.trans (hk.mono hb.size)
 clear hk
 replace Aa:w1.heap[Ac]? = some (Obj.cells #[Value.int .i64 X0,Value.int .i64 X1,Value.int .i64 X2] 48):=Aa
 have Am:w1.cell? ⟨Ac,0,none⟩=some (Value.int .i64 X0):=zA Aa
 have An:w1.cell? ⟨Ac,1,none⟩=some (Value.int .i64 X1):=zA Aa
 have Ao:w1.cell? ⟨Ac,2,none⟩=some (Value.int .i64 X2):=zA Aa
 replace Ab:w1.heap[Ad]? = some (Obj.cells #[Value.int .i64 Y0,Value.int .i64 Y1,Value.int .i64 Y2] 48):=Ab
 have Ap:w1.cell? ⟨Ad,0,none⟩=some (Value.int .i64 Y0):=zA Ab
 have Aq:w1.cell? ⟨Ad,1,none⟩=some (Value.int .i64 Y1):=zA Ab
 have Ar:w1.cell? ⟨Ad,2,none⟩=some (Value.int .i64 Y2):=zA Ab
 clear A0 A1 A5 A6 As At Au Av Aw Ax Ay Az m0 m1
 go_upto_region 5 with ((first | (go_at_call 30;with_reducible refine (chVB hb R C8).mono ?_) | (go_at_call 27;with_reducible refine (chVB hb R C9).mono ?_));clear hb;rintro e w1 ⟨rfl,hk,hb⟩;clear Ae Af Ag Ah Ai Aj Ak Al Am An Ao Ap Aq Ar;replace a0:=zB hk a0;replace a1:=zB hk a1;replace Aa:=zB hk Aa;replace Ab:=zB hk Ab;obtain ⟨Ae,Af,Ag,Ah⟩:=ce4 a0;obtain ⟨Ai,Aj,Ak,Al⟩:=ce4 a1;obtain ⟨Am,An,Ao⟩:=ce3 Aa;obtain ⟨Ap,Aq,Ar⟩:=ce3 Ab;clear hk)
 obtain ⟨As,At,Au,Av⟩:=cy4 a0
 obtain ⟨Aw,Ax,Ay,Az⟩:=cy4 a1
 obtain ⟨A7,A8,A9⟩:=cy3 Aa
 obtain ⟨Ba,Bb,Bc⟩:=cy3 Ab
 have A2:=rrV C8 R hb
 have A3:=rrV C11 R hb
 have A4:=rrV C12 R hb
 refine wp_region_quiet_below (by first | assumption | kernel_rfl) (by kernel_rfl) ?_
 repeat (quiet_step (first | (with_reducible exact A2.out _ _) | (with_reducible exact A3.out _ _) | (with_reducible exact A4.out _ _)))
 refine wpQuiet_nil ?_
 intro w1 hw'
 obtain ⟨hk,hb⟩:=zQ hb hw'
 clear Ae Af Ag Ah Ai Aj Ak Al Am An Ao Ap Aq Ar
 replace a0:=zB hk a0
 replace a1:=zB hk a1
 replace Aa:=zB hk Aa
 replace Ab:=zB hk Ab
 obtain ⟨Ae,Af,Ag,Ah⟩:=ce4 a0
 obtain ⟨Ai,Aj,Ak,Al⟩:=ce4 a1
 obtain ⟨Am,An,Ao⟩:=ce3 Aa
 obtain ⟨Ap,Aq,Ar⟩:=ce3 Ab
 clear A2 A3 A4 As At Au Av Aw Ax Ay Az A7 A8 A9 Ba Bb Bc
 clear hk hw'
 go_upto_region 6 with fail
 clear Ae Af Ag Ah a0 Ai Aj Ak Al a1
 go_quiet (fail)
 replace hb:=hb.trans ((below_drewN w1 nq).mono hb.size)
 replace Am:=(show (w1.drewN nq).cell? _=_ from Am)
 replace An:=(show (w1.drewN nq).cell? _=_ from An)
 replace Ao:=(show (w1.drewN nq).cell? _=_ from Ao)
 replace Aa:=(show (w1.drewN nq).heap[_]? = _ from Aa)
 replace Ap:=(show (w1.drewN nq).cell? _=_ from Ap)
 replace Aq:=(show (w1.drewN nq).cell? _=_ from Aq)
 replace Ar:=(show (w1.drewN nq).cell? _=_ from Ar)
 replace Ab:=(show (w1.drewN nq).heap[_]? = _ from Ab)
 obtain ⟨w1,hw2⟩:∃ w2,w1.drewN nq=w2:=⟨_,rfl⟩
 rw [hw2] at hb Am An Ao Aa Ap Aq Ar Ab ⊢
 clear hw2
 go_wp2
 first | go_ret | go_ret2 | go_ret3
 exact ⟨rfl,hb⟩
theorem lplunges_vz  (i0 i1 i2 j0 j1 j2 X0 X1 X2 Y0 Y1 Y2:Int) (d e ma0 ma1 fl mb0 mb1 ot zz mg1 ww mg2 df:Int) (s0 s1 s2 t0 t1 t2:ByteArray) (ck:CV 12 #[] (.bool true)) (ca:CV 29 #[.agg #[.int .i8 i0,.int .i8 i1,.int .i8 i2,.int .u8 d]] (.agg #[.int .i64 X0,.int .i64 X1,.int .i64 X2])) (za:CV 28 #[.agg #[.int .i64 X0,.int .i64 X1,.int .i64 X2]] (.bool false)) (cb:CV 29 #[.agg #[.int .i8 j0,.int .i8 j1,.int .i8 j2,.int .u8 e]] (.agg #[.int .i64 Y0,.int .i64 Y1,.int .i64 Y2])) (zb:CV 28 #[.agg #[.int .i64 Y0,.int .i64 Y1,.int .i64 Y2]] (.bool false)) (ma:CV 30 #[.agg #[.int .i8 i0,.int .i8 i1,.int .i8 i2,.int .u8 d]] (.agg #[.string s0,.string s1,.string s2])) (mb:CV 30 #[.agg #[.int .i8 j0,.int .i8 j1,.int .i8 j2,.int .u8 e]] (.agg #[.string t0,.string t1,.string t2])) (hpl:CV 27 #[.agg #[.string s0,.string s1,.string s2]] (.tuple #[.string ⟨#[]⟩,.bool true,.int .i64 0])) (hcp:CV 18 #[.agg #[.string s0,.string s1,.string s2],.agg #[.string t0,.string t1,.string t2]] (.tuple #[.int .i64 0,.int .i64 0])) (WM0:IntKind.i64.wrap (X0*X0)=ma0) (WM1:IntKind.i64.wrap (X1*X1)=ma1) (WM2:IntKind.i64.wrap (ma0+ma1)=fl) (WM3:IntKind.i64.wrap (Y0*Y0)=mb0) (WM4:IntKind.i64.wrap (Y1*Y1)=mb1) (WM5:IntKind.i64.wrap (mb0+mb1)=ot) (WM6:IntKind.i64.wrap (X2*X2)=zz) (WM7:IntKind.i64.wrap (zz*ot)=mg1) (WM8:IntKind.i64.wrap (Y2*Y2)=ww) (WM9:IntKind.i64.wrap (ww*fl)=mg2) (WM10:IntKind.i64.wrap (mg1 - mg2)=df) (WC0:(fl == 0)=true) (WC1:decide (df < 0)=false) (WC2:decide (0 < df)=false) (w:World) (R:EnvV w) :
   Calls Tryz.prog 6 #[.agg #[.int .i8 i0,.int .i8 i1,.int .i8 i2,.int .u8 d],.agg #[.int .i8 j0,.int .i8 j1,.int .i8 j2,.int .u8 e]] w (Ret w (.bool true)):=by
 have c1:=ck
 have c2:=ca
 have c3:=za
 have c4:=cb
 have c5:=zb
 have c8:=ma
 have c9:=hpl
 have c11:=mb
 have c12:=hcp
 have gm0:IntKind.i64.wrap (X0*X0)=ma0:=WM0
 have gm1:IntKind.i64.wrap (X1*X1)=ma1:=WM1
 have gm2:IntKind.i64.wrap (ma0+ma1)=fl:=WM2
 have gm3:IntKind.i64.wrap (Y0*Y0)=mb0:=WM3
 have gm4:IntKind.i64.wrap (Y1*Y1)=mb1:=WM4
 have gm5:IntKind.i64.wrap (mb0+mb1)=ot:=WM5
 have gm6:IntKind.i64.wrap (X2*X2)=zz:=WM6
 have gm7:IntKind.i64.wrap (zz*ot)=mg1:=WM7
 have gm8:IntKind.i64.wrap (Y2*Y2)=ww:=WM8
 have gm9:IntKind.i64.wrap (ww*fl)=mg2:=WM9
 have gm10:IntKind.i64.wrap (mg1 - mg2)=df:=WM10
 have gc0:(fl == 0)=true:=WC0
 have gc1:decide (df < 0)=false:=WC1
 have gc2:decide (0 < df)=false:=WC2
 have C1:=Lib.hid c1
 have C2:=Lib.hid c2
 have C3:=Lib.hid c3
 have C4:=Lib.hid c4
 have C5:=Lib.hid c5
 have C8:=Lib.hid c8
 have C9:=Lib.hid c9
 have C11:=Lib.hid c11
 have C12:=Lib.hid c12
 clear c1 c2 c3 c4 c5 c8 c9 c11 c12 ck ca za cb zb ma mb hpl hcp WM0 WM1 WM2 WM3 WM4 WM5 WM6 WM7 WM8 WM9 WM10 WC0 WC1 WC2
 have hb:=Below.refl w.heap.size w
 go_enter Tryz.func6,Tryz.ntmps6
 go_upto_region 1 with fail
 refine wp_alloc2 (fun w1 a0 a1 hk=>?_)
 replace hb:=hb.trans (hk.mono hb.size)
 clear hk
 obtain ⟨Ae,Af,Ag,Ah⟩:=ce4 a0
 obtain ⟨Ai,Aj,Ak,Al⟩:=ce4 a1
 go_upto_region 3 with ((first | (go_at_call 12;with_reducible refine (chVB hb R C1).mono ?_) | (go_at_call 29;first | with_reducible refine (chVB hb R C2).mono ?_ | with_reducible refine (chVB hb R C4).mono ?_) | (go_at_call 28;first | with_reducible refine (chVB hb R C3).mono ?_ | with_reducible refine (chVB hb R C5).mono ?_));clear hb;rintro e w1 ⟨rfl,hk,hb⟩;clear Ae Af Ag Ah Ai Aj Ak Al;replace a0:=zB hk a0;replace a1:=zB hk a1;obtain ⟨Ae,Af,Ag,Ah⟩:=ce4 a0;obtain ⟨Ai,Aj,Ak,Al⟩:=ce4 a1;clear hk)
 obtain ⟨As,At,Au,Av⟩:=cy4 a0
 obtain ⟨Aw,Ax,Ay,Az⟩:=cy4 a1
 have A5:=rrV C2 R hb
 have A6:=rrV C4 R hb
 have A0:=qqV C2 R hb
 have A1:=qqV C4 R hb
 refine wp_free2 4 0 (fun i=>if i=4 then Obj.cells #[Value.int .i64 0,Value.int .i64 0,Value.int .i64 0] 48 else if i=5 then Obj.cells #[Value.int .i64 0,Value.int .i64 0,Value.int .i64 0] 48 else Obj.cells #[] 0) (fun i=>if i=4 then Obj.cells #[Value.int .i64 X0,Value.int .i64 X1,Value.int .i64 X2] 48 else if i=5 then Obj.cells #[Value.int .i64 Y0,Value.int .i64 Y1,Value.int .i64 Y2] 48 else Obj.cells #[] 0) (some 5) (some 6) (by first | assumption | kernel_rfl) (by kernel_rfl) ?lay rfl rfl ?_
 case lay =>
   intro i h1 h2
   obtain rfl | rfl:i=4∨i=5:=by omega
   all_goals exact ⟨_,rfl,rfl,fun a w=>(by first | (go_simp;done) | (go_simp;rfl))⟩
 simp only [List.take_succ_cons,List.take_zero]
 repeat (refine wpB_step (fun K hK=>?_);go_simp;first | (refine hK _ ?_;clear hK K) | (apply Exists.intro;refine ⟨fun _=>?_,hK _ ?_⟩;(first | (with_reducible exact A0.out _ _) | (with_reducible exact A1.out _ _));clear hK K))
 refine wpB_nil ?_
 intro Ac Ad
 refine ⟨?_,?_,?_⟩
 · refine ⟨_,rfl,rfl,rfl,fun cs b h=>(by cases h),fun w hw=>?_⟩
   replace hw:w.heap[Ac]? = some (Obj.cells #[Value.int .i64 0,Value.int .i64 0,Value.int .i64 0] 48):=hw
   have z0:w.cell? ⟨Ac,0,none⟩=some (Value.int .i64 0):=zA hw
   have y0:w.frozen? ⟨Ac,0,none⟩=false:=zD hw
   have z1:w.cell? ⟨Ac,1,none⟩=some (Value.int .i64 0):=zA hw
   have y1:w.frozen? ⟨Ac,1,none⟩=false:=zD hw
   have z2:w.cell? ⟨Ac,2,none⟩=some (Value.int .i64 0):=zA hw
   have y2:w.frozen? ⟨Ac,2,none⟩=false:=zD hw
   refine ⟨_,?_,(Wrote.set (i:=2) (Wrote.set (i:=1) (Wrote.set (i:=0) (Wrote.refl hw) (Value.int .i64 X0)) (Value.int .i64 X1)) (Value.int .i64 X2))⟩
   go_simp
 · refine ⟨_,rfl,rfl,rfl,fun cs b h=>(by cases h),fun w hw=>?_⟩
   replace hw:w.heap[Ad]? = some (Obj.cells #[Value.int .i64 0,Value.int .i64 0,Value.int .i64 0] 48):=hw
   have z0:w.cell? ⟨Ad,0,none⟩=some (Value.int .i64 0):=zA hw
   have y0:w.frozen? ⟨Ad,0,none⟩=false:=zD hw
   have z1:w.cell? ⟨Ad,1,none⟩=some (Value.int .i64 0):=zA hw
   have y1:w.frozen? ⟨Ad,1,none⟩=false:=zD hw
   have z2:w.cell? ⟨Ad,2,none⟩=some (Value.int .i64 0):=zA hw
   have y2:w.frozen? ⟨Ad,2,none⟩=false:=zD hw
   refine ⟨_,?_,(Wrote.set (i:=2) (Wrote.set (i:=1) (Wrote.set (i:=0) (Wrote.refl hw) (Value.int .i64 Y0)) (Value.int .i64 Y1)) (Value.int .i64 Y2))⟩
   go_simp
 intro w1 hk m0 m1 Aa Ab _
 clear Ae Af Ag Ah Ai Aj Ak Al
 replace a0:=zB hk a0
 replace a1:=zB hk a1
 obtain ⟨Ae,Af,Ag,Ah⟩:=ce4 a0
 obtain ⟨Ai,Aj,Ak,Al⟩:=ce4 a1
 replace hb:=hb.trans (hk.mono hb.size)
 clear hk
 replace Aa:w1.heap[Ac]? = some (Obj.cells #[Value.int .i64 X0,Value.int .i64 X1,Value.int .i64 X2] 48):=Aa
 have Am:w1.cell? ⟨Ac,0,none⟩=some (Value.int .i64 X0):=zA Aa
 have An:w1.cell? ⟨Ac,1,none⟩=some (Value.int .i64 X1):=zA Aa
 have Ao:w1.cell? ⟨Ac,2,none⟩=some (Value.int .i64 X2):=zA Aa
 replace Ab:w1.heap[Ad]? = some (Obj.cells #[Value.int .i64 Y0,Value.int .i64 Y1,Value.int .i64 Y2] 48):=Ab
 have Ap:w1.cell? ⟨Ad,0,none⟩=some (Value.int .i64 Y0):=zA Ab
 have Aq:w1.cell? ⟨Ad,1,none⟩=some (Value.int .i64 Y1):=zA Ab
 have Ar:w1.cell? ⟨Ad,2,none⟩=some (Value.int .i64 Y2):=zA Ab
 clear A0 A1 A5 A6 As At Au Av Aw Ax Ay Az m0 m1
 go_upto_region 5 with ((first | (go_at_call 30;with_reducible refine (chVB hb R C8).mono ?_) | (go_at_call 27;with_reducible refine (chVB hb R C9).mono ?_));clear hb;rintro e w1 ⟨rfl,hk,hb⟩;clear Ae Af Ag Ah Ai Aj Ak Al Am An Ao Ap Aq Ar;replace a0:=zB hk a0;replace a1:=zB hk a1;replace Aa:=zB hk Aa;replace Ab:=zB hk Ab;obtain ⟨Ae,Af,Ag,Ah⟩:=ce4 a0;obtain ⟨Ai,Aj,Ak,Al⟩:=ce4 a1;obtain ⟨Am,An,Ao⟩:=ce3 Aa;obtain ⟨Ap,Aq,Ar⟩:=ce3 Ab;clear hk)
 obtain ⟨As,At,Au,Av⟩:=cy4 a0
 obtain ⟨Aw,Ax,Ay,Az⟩:=cy4 a1
 obtain ⟨A7,A8,A9⟩:=cy3 Aa
 obtain ⟨Ba,Bb,Bc⟩:=cy3 Ab
 have A2:=rrV C8 R hb
 have A3:=rrV C11 R hb
 have A4:=rrV C12 R hb
 refine wp_region_quiet_below (by first | assumption | kernel_rfl) (by kernel_rfl) ?_
 repeat (quiet_step (first | (with_reducible exact A2.out _ _) | (with_reducible exact A3.out _ _) | (with_reducible exact A4.out _ _)))
 refine wpQuiet_nil ?_
 intro w1 hw'
 obtain ⟨hk,hb⟩:=zQ hb hw'
 clear Ae Af Ag Ah Ai Aj Ak Al Am An Ao Ap Aq Ar
 replace a0:=zB hk a0
 replace a1:=zB hk a1
 replace Aa:=zB hk Aa
 replace Ab:=zB hk Ab
 obtain ⟨Ae,Af,Ag,Ah⟩:=ce4 a0
 obtain ⟨Ai,Aj,Ak,Al⟩:=ce4 a1
 obtain ⟨Am,An,Ao⟩:=ce3 Aa
 obtain ⟨Ap,Aq,Ar⟩:=ce3 Ab
 clear A2 A3 A4 As At Au Av Aw Ax Ay Az A7 A8 A9 Ba Bb Bc
 clear hk hw'
 go_upto_region 6 with fail
 clear Ae Af Ag Ah a0 Ai Aj Ak Al a1
 go_quiet (fail)
 replace hb:=hb.trans ((below_drewN w1 nq).mono hb.size)
 replace Am:=(show (w1.drewN nq).cell? _=_ from Am)
 replace An:=(show (w1.drewN nq).cell? _=_ from An)
 replace Ao:=(show (w1.drewN nq).cell? _=_ from Ao)
 replace Aa:=(show (w1.drewN nq).heap[_]? = _ from Aa)
 replace Ap:=(show (w1.drewN nq).cell? _=_ from Ap)
 replace Aq:=(show (w1.drewN nq).cell? _=_ from Aq)
 replace Ar:=(show (w1.drewN nq).cell? _=_ from Ar)
 replace Ab:=(show (w1.drewN nq).heap[_]? = _ from Ab)
 obtain ⟨w1,hw2⟩:∃ w2,w1.drewN nq=w2:=⟨_,rfl⟩
 rw [hw2] at hb Am An Ao Aa Ap Aq Ar Ab ⊢
 clear hw2
 go_wp2
 first | go_ret | go_ret2 | go_ret3
 exact ⟨rfl,hb⟩
theorem lplunges_vp  (i0 i1 i2 j0 j1 j2 X0 X1 X2 Y0 Y1 Y2:Int) (d e ma0 ma1 fl mb0 mb1 ot zz mg1 ww mg2 df:Int) (s0 s1 s2 t0 t1 t2:ByteArray) (ck:CV 12 #[] (.bool true)) (ca:CV 29 #[.agg #[.int .i8 i0,.int .i8 i1,.int .i8 i2,.int .u8 d]] (.agg #[.int .i64 X0,.int .i64 X1,.int .i64 X2])) (za:CV 28 #[.agg #[.int .i64 X0,.int .i64 X1,.int .i64 X2]] (.bool false)) (cb:CV 29 #[.agg #[.int .i8 j0,.int .i8 j1,.int .i8 j2,.int .u8 e]] (.agg #[.int .i64 Y0,.int .i64 Y1,.int .i64 Y2])) (zb:CV 28 #[.agg #[.int .i64 Y0,.int .i64 Y1,.int .i64 Y2]] (.bool false)) (ma:CV 30 #[.agg #[.int .i8 i0,.int .i8 i1,.int .i8 i2,.int .u8 d]] (.agg #[.string s0,.string s1,.string s2])) (mb:CV 30 #[.agg #[.int .i8 j0,.int .i8 j1,.int .i8 j2,.int .u8 e]] (.agg #[.string t0,.string t1,.string t2])) (hpl:CV 27 #[.agg #[.string s0,.string s1,.string s2]] (.tuple #[.string ⟨#[]⟩,.bool true,.int .i64 0])) (hcp:CV 18 #[.agg #[.string s0,.string s1,.string s2],.agg #[.string t0,.string t1,.string t2]] (.tuple #[.int .i64 1,.int .i64 0])) (WM0:IntKind.i64.wrap (X0*X0)=ma0) (WM1:IntKind.i64.wrap (X1*X1)=ma1) (WM2:IntKind.i64.wrap (ma0+ma1)=fl) (WM3:IntKind.i64.wrap (Y0*Y0)=mb0) (WM4:IntKind.i64.wrap (Y1*Y1)=mb1) (WM5:IntKind.i64.wrap (mb0+mb1)=ot) (WM6:IntKind.i64.wrap (X2*X2)=zz) (WM7:IntKind.i64.wrap (zz*ot)=mg1) (WM8:IntKind.i64.wrap (Y2*Y2)=ww) (WM9:IntKind.i64.wrap (ww*fl)=mg2) (WM10:IntKind.i64.wrap (mg1 - mg2)=df) (WC0:(fl == 0)=true) (WC1:decide (df < 0)=false) (WC2:decide (0 < df)=true) (w:World) (R:EnvV w) :
   Calls Tryz.prog 6 #[.agg #[.int .i8 i0,.int .i8 i1,.int .i8 i2,.int .u8 d],.agg #[.int .i8 j0,.int .i8 j1,.int .i8 j2,.int .u8 e]] w (Ret w (.bool true)):=by
 have c1:=ck
 have c2:=ca
 have c3:=za
 have c4:=cb
 have c5:=zb
 have c8:=ma
 have c9:=hpl
 have c11:=mb
 have c12:=hcp
 have gm0:IntKind.i64.wrap (X0*X0)=ma0:=WM0
 have gm1:IntKind.i64.wrap (X1*X1)=ma1:=WM1
 have gm2:IntKind.i64.wrap (ma0+ma1)=fl:=WM2
 have gm3:IntKind.i64.wrap (Y0*Y0)=mb0:=WM3
 have gm4:IntKind.i64.wrap (Y1*Y1)=mb1:=WM4
 have gm5:IntKind.i64.wrap (mb0+mb1)=ot:=WM5
 have gm6:IntKind.i64.wrap (X2*X2)=zz:=WM6
 have gm7:IntKind.i64.wrap (zz*ot)=mg1:=WM7
 have gm8:IntKind.i64.wrap (Y2*Y2)=ww:=WM8
 have gm9:IntKind.i64.wrap (ww*fl)=mg2:=WM9
 have gm10:IntKind.i64.wrap (mg1 - mg2)=df:=WM10
 have gc0:(fl == 0)=true:=WC0
 have gc1:decide (df < 0)=false:=WC1
 have gc2:decide (0 < df)=true:=WC2
 have C1:=Lib.hid c1
 have C2:=Lib.hid c2
 have C3:=Lib.hid c3
 have C4:=Lib.hid c4
 have C5:=Lib.hid c5
 have C8:=Lib.hid c8
 have C9:=Lib.hid c9
 have C11:=Lib.hid c11
 have C12:=Lib.hid c12
 clear c1 c2 c3 c4 c5 c8 c9 c11 c12 ck ca za cb zb ma mb hpl hcp WM0 WM1 WM2 WM3 WM4 WM5 WM6 WM7 WM8 WM9 WM10 WC0 WC1 WC2
 have hb:=Below.refl w.heap.size w
 go_enter Tryz.func6,Tryz.ntmps6
 go_upto_region 1 with fail
 refine wp_alloc2 (fun w1 a0 a1 hk=>?_)
 replace hb:=hb.trans (hk.mono hb.size)
 clear hk
 obtain ⟨Ae,Af,Ag,Ah⟩:=ce4 a0
 obtain ⟨Ai,Aj,Ak,Al⟩:=ce4 a1
 go_upto_region 3 with ((first | (go_at_call 12;with_reducible refine (chVB hb R C1).mono ?_) | (go_at_call 29;first | with_reducible refine (chVB hb R C2).mono ?_ | with_reducible refine (chVB hb R C4).mono ?_) | (go_at_call 28;first | with_reducible refine (chVB hb R C3).mono ?_ | with_reducible refine (chVB hb R C5).mono ?_));clear hb;rintro e w1 ⟨rfl,hk,hb⟩;clear Ae Af Ag Ah Ai Aj Ak Al;replace a0:=zB hk a0;replace a1:=zB hk a1;obtain ⟨Ae,Af,Ag,Ah⟩:=ce4 a0;obtain ⟨Ai,Aj,Ak,Al⟩:=ce4 a1;clear hk)
 obtain ⟨As,At,Au,Av⟩:=cy4 a0
 obtain ⟨Aw,Ax,Ay,Az⟩:=cy4 a1
 have A5:=rrV C2 R hb
 have A6:=rrV C4 R hb
 have A0:=qqV C2 R hb
 have A1:=qqV C4 R hb
 refine wp_free2 4 0 (fun i=>if i=4 then Obj.cells #[Value.int .i64 0,Value.int .i64 0,Value.int .i64 0] 48 else if i=5 then Obj.cells #[Value.int .i64 0,Value.int .i64 0,Value.int .i64 0] 48 else Obj.cells #[] 0) (fun i=>if i=4 then Obj.cells #[Value.int .i64 X0,Value.int .i64 X1,Value.int .i64 X2] 48 else if i=5 then Obj.cells #[Value.int .i64 Y0,Value.int .i64 Y1,Value.int .i64 Y2] 48 else Obj.cells #[] 0) (some 5) (some 6) (by first | assumption | kernel_rfl) (by kernel_rfl) ?lay rfl rfl ?_
 case lay =>
   intro i h1 h2
   obtain rfl | rfl:i=4∨i=5:=by omega
   all_goals exact ⟨_,rfl,rfl,fun a w=>(by first | (go_simp;done) | (go_simp;rfl))⟩
 simp only [List.take_succ_cons,List.take_zero]
 repeat (refine wpB_step (fun K hK=>?_);go_simp;first | (refine hK _ ?_;clear hK K) | (apply Exists.intro;refine ⟨fun _=>?_,hK _ ?_⟩;(first | (with_reducible exact A0.out _ _) | (with_reducible exact A1.out _ _));clear hK K))
 refine wpB_nil ?_
 intro Ac Ad
 refine ⟨?_,?_,?_⟩
 · refine ⟨_,rfl,rfl,rfl,fun cs b h=>(by cases h),fun w hw=>?_⟩
   replace hw:w.heap[Ac]? = some (Obj.cells #[Value.int .i64 0,Value.int .i64 0,Value.int .i64 0] 48):=hw
   have z0:w.cell? ⟨Ac,0,none⟩=some (Value.int .i64 0):=zA hw
   have y0:w.frozen? ⟨Ac,0,none⟩=false:=zD hw
   have z1:w.cell? ⟨Ac,1,none⟩=some (Value.int .i64 0):=zA hw
   have y1:w.frozen? ⟨Ac,1,none⟩=false:=zD hw
   have z2:w.cell? ⟨Ac,2,none⟩=some (Value.int .i64 0):=zA hw
   have y2:w.frozen? ⟨Ac,2,none⟩=false:=zD hw
   refine ⟨_,?_,(Wrote.set (i:=2) (Wrote.set (i:=1) (Wrote.set (i:=0) (Wrote.refl hw) (Value.int .i64 X0)) (Value.int .i64 X1)) (Value.int .i64 X2))⟩
   go_simp
 · refine ⟨_,rfl,rfl,rfl,fun cs b h=>(by cases h),fun w hw=>?_⟩
   replace hw:w.heap[Ad]? = some (Obj.cells #[Value.int .i64 0,Value.int .i64 0,Value.int .i64 0] 48):=hw
   have z0:w.cell? ⟨Ad,0,none⟩=some (Value.int .i64 0):=zA hw
   have y0:w.frozen? ⟨Ad,0,none⟩=false:=zD hw
   have z1:w.cell? ⟨Ad,1,none⟩=some (Value.int .i64 0):=zA hw
   have y1:w.frozen? ⟨Ad,1,none⟩=false:=zD hw
   have z2:w.cell? ⟨Ad,2,none⟩=some (Value.int .i64 0):=zA hw
   have y2:w.frozen? ⟨Ad,2,none⟩=false:=zD hw
   refine ⟨_,?_,(Wrote.set (i:=2) (Wrote.set (i:=1) (Wrote.set (i:=0) (Wrote.refl hw) (Value.int .i64 Y0)) (Value.int .i64 Y1)) (Value.int .i64 Y2))⟩
   go_simp
 intro w1 hk m0 m1 Aa Ab _
 clear Ae Af Ag Ah Ai Aj Ak Al
 replace a0:=zB hk a0
 replace a1:=zB hk a1
 obtain ⟨Ae,Af,Ag,Ah⟩:=ce4 a0
 obtain ⟨Ai,Aj,Ak,Al⟩:=ce4 a1
 replace hb:=hb.trans (hk.mono hb.size)
 clear hk
 replace Aa:w1.heap[Ac]? = some (Obj.cells #[Value.int .i64 X0,Value.int .i64 X1,Value.int .i64 X2] 48):=Aa
 have Am:w1.cell? ⟨Ac,0,none⟩=some (Value.int .i64 X0):=zA Aa
 have An:w1.cell? ⟨Ac,1,none⟩=some (Value.int .i64 X1):=zA Aa
 have Ao:w1.cell? ⟨Ac,2,none⟩=some (Value.int .i64 X2):=zA Aa
 replace Ab:w1.heap[Ad]? = some (Obj.cells #[Value.int .i64 Y0,Value.int .i64 Y1,Value.int .i64 Y2] 48):=Ab
 have Ap:w1.cell? ⟨Ad,0,none⟩=some (Value.int .i64 Y0):=zA Ab
 have Aq:w1.cell? ⟨Ad,1,none⟩=some (Value.int .i64 Y1):=zA Ab
 have Ar:w1.cell? ⟨Ad,2,none⟩=some (Value.int .i64 Y2):=zA Ab
 clear A0 A1 A5 A6 As At Au Av Aw Ax Ay Az m0 m1
 go_upto_region 5 with ((first | (go_at_call 30;with_reducible refine (chVB hb R C8).mono ?_) | (go_at_call 27;with_reducible refine (chVB hb R C9).mono ?_));clear hb;rintro e w1 ⟨rfl,hk,hb⟩;clear Ae Af Ag Ah Ai Aj Ak Al Am An Ao Ap Aq Ar;replace a0:=zB hk a0;replace a1:=zB hk a1;replace Aa:=zB hk Aa;replace Ab:=zB hk Ab;obtain ⟨Ae,Af,Ag,Ah⟩:=ce4 a0;obtain ⟨Ai,Aj,Ak,Al⟩:=ce4 a1;obtain ⟨Am,An,Ao⟩:=ce3 Aa;obtain ⟨Ap,Aq,Ar⟩:=ce3 Ab;clear hk)
 obtain ⟨As,At,Au,Av⟩:=cy4 a0
 obtain ⟨Aw,Ax,Ay,Az⟩:=cy4 a1
 obtain ⟨A7,A8,A9⟩:=cy3 Aa
 obtain ⟨Ba,Bb,Bc⟩:=cy3 Ab
 have A2:=rrV C8 R hb
 have A3:=rrV C11 R hb
 have A4:=rrV C12 R hb
 refine wp_region_quiet_below (by first | assumption | kernel_rfl) (by kernel_rfl) ?_
 repeat (quiet_step (first | (with_reducible exact A2.out _ _) | (with_reducible exact A3.out _ _) | (with_reducible exact A4.out _ _)))
 refine wpQuiet_nil ?_
 intro w1 hw'
 obtain ⟨hk,hb⟩:=zQ hb hw'
 clear Ae Af Ag Ah Ai Aj Ak Al Am An Ao Ap Aq Ar
 replace a0:=zB hk a0
 replace a1:=zB hk a1
 replace Aa:=zB hk Aa
 replace Ab:=zB hk Ab
 obtain ⟨Ae,Af,Ag,Ah⟩:=ce4 a0
 obtain ⟨Ai,Aj,Ak,Al⟩:=ce4 a1
 obtain ⟨Am,An,Ao⟩:=ce3 Aa
 obtain ⟨Ap,Aq,Ar⟩:=ce3 Ab
 clear A2 A3 A4 As At Au Av Aw Ax Ay Az A7 A8 A9 Ba Bb Bc
 clear hk hw'
 go_upto_region 6 with fail
 clear Ae Af Ag Ah a0 Ai Aj Ak Al a1
 go_quiet (fail)
 replace hb:=hb.trans ((below_drewN w1 nq).mono hb.size)
 replace Am:=(show (w1.drewN nq).cell? _=_ from Am)
 replace An:=(show (w1.drewN nq).cell? _=_ from An)
 replace Ao:=(show (w1.drewN nq).cell? _=_ from Ao)
 replace Aa:=(show (w1.drewN nq).heap[_]? = _ from Aa)
 replace Ap:=(show (w1.drewN nq).cell? _=_ from Ap)
 replace Aq:=(show (w1.drewN nq).cell? _=_ from Aq)
 replace Ar:=(show (w1.drewN nq).cell? _=_ from Ar)
 replace Ab:=(show (w1.drewN nq).heap[_]? = _ from Ab)
 obtain ⟨w1,hw2⟩:∃ w2,w1.drewN nq=w2:=⟨_,rfl⟩
 rw [hw2] at hb Am An Ao Aa Ap Aq Ar Ab ⊢
 clear hw2
 go_wp2
 first | go_ret | go_ret2 | go_ret3
 exact ⟨rfl,hb⟩
theorem lplunges_nm  (i0 i1 i2 j0 j1 j2 X0 X1 X2 Y0 Y1 Y2:Int) (d e ma0 ma1 fl mb0 mb1 ot zz mg1 ww mg2 df:Int) (r:ByteArray) (s0 s1 s2 t0 t1 t2:ByteArray) (ck:CV 12 #[] (.bool true)) (ca:CV 29 #[.agg #[.int .i8 i0,.int .i8 i1,.int .i8 i2,.int .u8 d]] (.agg #[.int .i64 X0,.int .i64 X1,.int .i64 X2])) (za:CV 28 #[.agg #[.int .i64 X0,.int .i64 X1,.int .i64 X2]] (.bool false)) (cb:CV 29 #[.agg #[.int .i8 j0,.int .i8 j1,.int .i8 j2,.int .u8 e]] (.agg #[.int .i64 Y0,.int .i64 Y1,.int .i64 Y2])) (zb:CV 28 #[.agg #[.int .i64 Y0,.int .i64 Y1,.int .i64 Y2]] (.bool false)) (ma:CV 30 #[.agg #[.int .i8 i0,.int .i8 i1,.int .i8 i2,.int .u8 d]] (.agg #[.string s0,.string s1,.string s2])) (mb:CV 30 #[.agg #[.int .i8 j0,.int .i8 j1,.int .i8 j2,.int .u8 e]] (.agg #[.string t0,.string t1,.string t2])) (hpl:CV 27 #[.agg #[.string s0,.string s1,.string s2]] (.tuple #[.string r,.bool false,.int .i64 0])) (hcp:CV 18 #[.agg #[.string s0,.string s1,.string s2],.agg #[.string t0,.string t1,.string t2]] (.tuple #[.int .i64 (-1),.int .i64 0])) (hquo:CV 34 #[.int .i64 zz,.int .i64 fl] (.string r)) (WM0:IntKind.i64.wrap (X0*X0)=ma0) (WM1:IntKind.i64.wrap (X1*X1)=ma1) (WM2:IntKind.i64.wrap (ma0+ma1)=fl) (WM3:IntKind.i64.wrap (Y0*Y0)=mb0) (WM4:IntKind.i64.wrap (Y1*Y1)=mb1) (WM5:IntKind.i64.wrap (mb0+mb1)=ot) (WM6:IntKind.i64.wrap (X2*X2)=zz) (WM7:IntKind.i64.wrap (zz*ot)=mg1) (WM8:IntKind.i64.wrap (Y2*Y2)=ww) (WM9:IntKind.i64.wrap (ww*fl)=mg2) (WM10:IntKind.i64.wrap (mg1 - mg2)=df) (WC0:(fl == 0)=false) (WC1:decide (df < 0)=true) (w:World) (R:EnvV w) :
   Calls Tryz.prog 6 #[.agg #[.int .i8 i0,.int .i8 i1,.int .i8 i2,.int .u8 d],.agg #[.int .i8 j0,.int .i8 j1,.int .i8 j2,.int .u8 e]] w (Ret w (.bool true)):=by
 have c1:=ck
 have c2:=ca
 have c3:=za
 have c4:=cb
 have c5:=zb
 have c8:=ma
 have c9:=hpl
 have c11:=mb
 have c12:=hcp
 have c13:=hquo
 have gm0:IntKind.i64.wrap (X0*X0)=ma0:=WM0
 have gm1:IntKind.i64.wrap (X1*X1)=ma1:=WM1
 have gm2:IntKind.i64.wrap (ma0+ma1)=fl:=WM2
 have gm3:IntKind.i64.wrap (Y0*Y0)=mb0:=WM3
 have gm4:IntKind.i64.wrap (Y1*Y1)=mb1:=WM4
 have gm5:IntKind.i64.wrap (mb0+mb1)=ot:=WM5
 have gm6:IntKind.i64.wrap (X2*X2)=zz:=WM6
 have gm7:IntKind.i64.wrap (zz*ot)=mg1:=WM7
 have gm8:IntKind.i64.wrap (Y2*Y2)=ww:=WM8
 have gm9:IntKind.i64.wrap (ww*fl)=mg2:=WM9
 have gm10:IntKind.i64.wrap (mg1 - mg2)=df:=WM10
 have gc0:(fl == 0)=false:=WC0
 have gc1:decide (df < 0)=true:=WC1
 have C1:=Lib.hid c1
 have C2:=Lib.hid c2
 have C3:=Lib.hid c3
 have C4:=Lib.hid c4
 have C5:=Lib.hid c5
 have C8:=Lib.hid c8
 have C9:=Lib.hid c9
 have C11:=Lib.hid c11
 have C12:=Lib.hid c12
 have C13:=Lib.hid c13
 clear c1 c2 c3 c4 c5 c8 c9 c11 c12 c13 ck ca za cb zb ma mb hpl hcp hquo WM0 WM1 WM2 WM3 WM4 WM5 WM6 WM7 WM8 WM9 WM10 WC0 WC1
 have hb:=Below.refl w.heap.size w
 go_enter Tryz.func6,Tryz.ntmps6
 go_upto_region 1 with fail
 refine wp_alloc2 (fun w1 a0 a1 hk=>?_)
 replace hb:=hb.trans (hk.mono hb.size)
 clear hk
 obtain ⟨Ae,Af,Ag,Ah⟩:=ce4 a0
 obtain ⟨Ai,Aj,Ak,Al⟩:=ce4 a1
 go_upto_region 3 with ((first | (go_at_call 12;with_reducible refine (chVB hb R C1).mono ?_) | (go_at_call 29;first | with_reducible refine (chVB hb R C2).mono ?_ | with_reducible refine (chVB hb R C4).mono ?_) | (go_at_call 28;first | with_reducible refine (chVB hb R C3).mono ?_ | with_reducible refine (chVB hb R C5).mono ?_));clear hb;rintro e w1 ⟨rfl,hk,hb⟩;clear Ae Af Ag Ah Ai Aj Ak Al;replace a0:=zB hk a0;replace a1:=zB hk a1;obtain ⟨Ae,Af,Ag,Ah⟩:=ce4 a0;obtain ⟨Ai,Aj,Ak,Al⟩:=ce4 a1;clear hk)
 obtain ⟨As,At,Au,Av⟩:=cy4 a0
 obtain ⟨Aw,Ax,Ay,Az⟩:=cy4 a1
 have A5:=rrV C2 R hb
 have A6:=rrV C4 R hb
 have A0:=qqV C2 R hb
 have A1:=qqV C4 R hb
 refine wp_free2 4 0 (fun i=>if i=4 then Obj.cells #[Value.int .i64 0,Value.int .i64 0,Value.int .i64 0] 48 else if i=5 then Obj.cells #[Value.int .i64 0,Value.int .i64 0,Value.int .i64 0] 48 else Obj.cells #[] 0) (fun i=>if i=4 then Obj.cells #[Value.int .i64 X0,Value.int .i64 X1,Value.int .i64 X2] 48 else if i=5 then Obj.cells #[Value.int .i64 Y0,Value.int .i64 Y1,Value.int .i64 Y2] 48 else Obj.cells #[] 0) (some 5) (some 6) (by first | assumption | kernel_rfl) (by kernel_rfl) ?lay rfl rfl ?_
 case lay =>
   intro i h1 h2
   obtain rfl | rfl:i=4∨i=5:=by omega
   all_goals exact ⟨_,rfl,rfl,fun a w=>(by first | (go_simp;done) | (go_simp;rfl))⟩
 simp only [List.take_succ_cons,List.take_zero]
 repeat (refine wpB_step (fun K hK=>?_);go_simp;first | (refine hK _ ?_;clear hK K) | (apply Exists.intro;refine ⟨fun _=>?_,hK _ ?_⟩;(first | (with_reducible exact A0.out _ _) | (with_reducible exact A1.out _ _));clear hK K))
 refine wpB_nil ?_
 intro Ac Ad
 refine ⟨?_,?_,?_⟩
 · refine ⟨_,rfl,rfl,rfl,fun cs b h=>(by cases h),fun w hw=>?_⟩
   replace hw:w.heap[Ac]? = some (Obj.cells #[Value.int .i64 0,Value.int .i64 0,Value.int .i64 0] 48):=hw
   have z0:w.cell? ⟨Ac,0,none⟩=some (Value.int .i64 0):=zA hw
   have y0:w.frozen? ⟨Ac,0,none⟩=false:=zD hw
   have z1:w.cell? ⟨Ac,1,none⟩=some (Value.int .i64 0):=zA hw
   have y1:w.frozen? ⟨Ac,1,none⟩=false:=zD hw
   have z2:w.cell? ⟨Ac,2,none⟩=some (Value.int .i64 0):=zA hw
   have y2:w.frozen? ⟨Ac,2,none⟩=false:=zD hw
   refine ⟨_,?_,(Wrote.set (i:=2) (Wrote.set (i:=1) (Wrote.set (i:=0) (Wrote.refl hw) (Value.int .i64 X0)) (Value.int .i64 X1)) (Value.int .i64 X2))⟩
   go_simp
 · refine ⟨_,rfl,rfl,rfl,fun cs b h=>(by cases h),fun w hw=>?_⟩
   replace hw:w.heap[Ad]? = some (Obj.cells #[Value.int .i64 0,Value.int .i64 0,Value.int .i64 0] 48):=hw
   have z0:w.cell? ⟨Ad,0,none⟩=some (Value.int .i64 0):=zA hw
   have y0:w.frozen? ⟨Ad,0,none⟩=false:=zD hw
   have z1:w.cell? ⟨Ad,1,none⟩=some (Value.int .i64 0):=zA hw
   have y1:w.frozen? ⟨Ad,1,none⟩=false:=zD hw
   have z2:w.cell? ⟨Ad,2,none⟩=some (Value.int .i64 0):=zA hw
   have y2:w.frozen? ⟨Ad,2,none⟩=false:=zD hw
   refine ⟨_,?_,(Wrote.set (i:=2) (Wrote.set (i:=1) (Wrote.set (i:=0) (Wrote.refl hw) (Value.int .i64 Y0)) (Value.int .i64 Y1)) (Value.int .i64 Y2))⟩
   go_simp
 intro w1 hk m0 m1 Aa Ab _
 clear Ae Af Ag Ah Ai Aj Ak Al
 replace a0:=zB hk a0
 replace a1:=zB hk a1
 obtain ⟨Ae,Af,Ag,Ah⟩:=ce4 a0
 obtain ⟨Ai,Aj,Ak,Al⟩:=ce4 a1
 replace hb:=hb.trans (hk.mono hb.size)
 clear hk
 replace Aa:w1.heap[Ac]? = some (Obj.cells #[Value.int .i64 X0,Value.int .i64 X1,Value.int .i64 X2] 48):=Aa
 have Am:w1.cell? ⟨Ac,0,none⟩=some (Value.int .i64 X0):=zA Aa
 have An:w1.cell? ⟨Ac,1,none⟩=some (Value.int .i64 X1):=zA Aa
 have Ao:w1.cell? ⟨Ac,2,none⟩=some (Value.int .i64 X2):=zA Aa
 replace Ab:w1.heap[Ad]? = some (Obj.cells #[Value.int .i64 Y0,Value.int .i64 Y1,Value.int .i64 Y2] 48):=Ab
 have Ap:w1.cell? ⟨Ad,0,none⟩=some (Value.int .i64 Y0):=zA Ab
 have Aq:w1.cell? ⟨Ad,1,none⟩=some (Value.int .i64 Y1):=zA Ab
 have Ar:w1.cell? ⟨Ad,2,none⟩=some (Value.int .i64 Y2):=zA Ab
 clear A0 A1 A5 A6 As At Au Av Aw Ax Ay Az m0 m1
 go_upto_region 5 with ((first | (go_at_call 30;with_reducible refine (chVB hb R C8).mono ?_) | (go_at_call 27;with_reducible refine (chVB hb R C9).mono ?_));clear hb;rintro e w1 ⟨rfl,hk,hb⟩;clear Ae Af Ag Ah Ai Aj Ak Al Am An Ao Ap Aq Ar;replace a0:=zB hk a0;replace a1:=zB hk a1;replace Aa:=zB hk Aa;replace Ab:=zB hk Ab;obtain ⟨Ae,Af,Ag,Ah⟩:=ce4 a0;obtain ⟨Ai,Aj,Ak,Al⟩:=ce4 a1;obtain ⟨Am,An,Ao⟩:=ce3 Aa;obtain ⟨Ap,Aq,Ar⟩:=ce3 Ab;clear hk)
 obtain ⟨As,At,Au,Av⟩:=cy4 a0
 obtain ⟨Aw,Ax,Ay,Az⟩:=cy4 a1
 obtain ⟨A7,A8,A9⟩:=cy3 Aa
 obtain ⟨Ba,Bb,Bc⟩:=cy3 Ab
 have A2:=rrV C8 R hb
 have A3:=rrV C11 R hb
 have A4:=rrV C12 R hb
 refine wp_region_quiet_below (by first | assumption | kernel_rfl) (by kernel_rfl) ?_
 repeat (quiet_step (first | (with_reducible exact A2.out _ _) | (with_reducible exact A3.out _ _) | (with_reducible exact A4.out _ _)))
 refine wpQuiet_nil ?_
 intro w1 hw'
 obtain ⟨hk,hb⟩:=zQ hb hw'
 clear Ae Af Ag Ah Ai Aj Ak Al Am An Ao Ap Aq Ar
 replace a0:=zB hk a0
 replace a1:=zB hk a1
 replace Aa:=zB hk Aa
 replace Ab:=zB hk Ab
 obtain ⟨Ae,Af,Ag,Ah⟩:=ce4 a0
 obtain ⟨Ai,Aj,Ak,Al⟩:=ce4 a1
 obtain ⟨Am,An,Ao⟩:=ce3 Aa
 obtain ⟨Ap,Aq,Ar⟩:=ce3 Ab
 clear A2 A3 A4 As At Au Av Aw Ax Ay Az A7 A8 A9 Ba Bb Bc
 clear hk hw'
 go_upto_region 6 with fail
 clear Ae Af Ag Ah a0 Ai Aj Ak Al a1
 go_quiet (fail)
 replace hb:=hb.trans ((below_drewN w1 nq).mono hb.size)
 replace Am:=(show (w1.drewN nq).cell? _=_ from Am)
 replace An:=(show (w1.drewN nq).cell? _=_ from An)
 replace Ao:=(show (w1.drewN nq).cell? _=_ from Ao)
 replace Aa:=(show (w1.drewN nq).heap[_]? = _ from Aa)
 replace Ap:=(show (w1.drewN nq).cell? _=_ from Ap)
 replace Aq:=(show (w1.drewN nq).cell? _=_ from Aq)
 replace Ar:=(show (w1.drewN nq).cell? _=_ from Ar)
 replace Ab:=(show (w1.drewN nq).heap[_]? = _ from Ab)
 obtain ⟨w1,hw2⟩:∃ w2,w1.drewN nq=w2:=⟨_,rfl⟩
 rw [hw2] at hb Am An Ao Aa Ap Aq Ar Ab ⊢
 clear hw2
 go_wp2_with (go_at_call 34;with_reducible refine (chVB hb R C13).mono ?_;clear hb;rintro e w1 ⟨rfl,hk,hb⟩;clear Am An Ao;replace Aa:=zB hk Aa;obtain ⟨Am,An,Ao⟩:=ce3 Aa;clear hk)
 first | go_ret | go_ret2 | go_ret3
 exact ⟨rfl,hb⟩
theorem lplunges_nz  (i0 i1 i2 j0 j1 j2 X0 X1 X2 Y0 Y1 Y2:Int) (d e ma0 ma1 fl mb0 mb1 ot zz mg1 ww mg2 df:Int) (r:ByteArray) (s0 s1 s2 t0 t1 t2:ByteArray) (ck:CV 12 #[] (.bool true)) (ca:CV 29 #[.agg #[.int .i8 i0,.int .i8 i1,.int .i8 i2,.int .u8 d]] (.agg #[.int .i64 X0,.int .i64 X1,.int .i64 X2])) (za:CV 28 #[.agg #[.int .i64 X0,.int .i64 X1,.int .i64 X2]] (.bool false)) (cb:CV 29 #[.agg #[.int .i8 j0,.int .i8 j1,.int .i8 j2,.int .u8 e]] (.agg #[.int .i64 Y0,.int .i64 Y1,.int .i64 Y2])) (zb:CV 28 #[.agg #[.int .i64 Y0,.int .i64 Y1,.int .i64 Y2]] (.bool false)) (ma:CV 30 #[.agg #[.int .i8 i0,.int .i8 i1,.int .i8 i2,.int .u8 d]] (.agg #[.string s0,.string s1,.string s2])) (mb:CV 30 #[.agg #[.int .i8 j0,.int .i8 j1,.int .i8 j2,.int .u8 e]] (.agg #[.string t0,.string t1,.string t2])) (hpl:CV 27 #[.agg #[.string s0,.string s1,.string s2]] (.tuple #[.string r,.bool false,.int .i64 0])) (hcp:CV 18 #[.agg #[.string s0,.string s1,.string s2],.agg #[.string t0,.string t1,.string t2]] (.tuple #[.int .i64 0,.int .i64 0])) (hquo:CV 34 #[.int .i64 zz,.int .i64 fl] (.string r)) (WM0:IntKind.i64.wrap (X0*X0)=ma0) (WM1:IntKind.i64.wrap (X1*X1)=ma1) (WM2:IntKind.i64.wrap (ma0+ma1)=fl) (WM3:IntKind.i64.wrap (Y0*Y0)=mb0) (WM4:IntKind.i64.wrap (Y1*Y1)=mb1) (WM5:IntKind.i64.wrap (mb0+mb1)=ot) (WM6:IntKind.i64.wrap (X2*X2)=zz) (WM7:IntKind.i64.wrap (zz*ot)=mg1) (WM8:IntKind.i64.wrap (Y2*Y2)=ww) (WM9:IntKind.i64.wrap (ww*fl)=mg2) (WM10:IntKind.i64.wrap (mg1 - mg2)=df) (WC0:(fl == 0)=false) (WC1:decide (df < 0)=false) (WC2:decide (0 < df)=false) (w:World) (R:EnvV w) :
   Calls Tryz.prog 6 #[.agg #[.int .i8 i0,.int .i8 i1,.int .i8 i2,.int .u8 d],.agg #[.int .i8 j0,.int .i8 j1,.int .i8 j2,.int .u8 e]] w (Ret w (.bool true)):=by
 have c1:=ck
 have c2:=ca
 have c3:=za
 have c4:=cb
 have c5:=zb
 have c8:=ma
 have c9:=hpl
 have c11:=mb
 have c12:=hcp
 have c13:=hquo
 have gm0:IntKind.i64.wrap (X0*X0)=ma0:=WM0
 have gm1:IntKind.i64.wrap (X1*X1)=ma1:=WM1
 have gm2:IntKind.i64.wrap (ma0+ma1)=fl:=WM2
 have gm3:IntKind.i64.wrap (Y0*Y0)=mb0:=WM3
 have gm4:IntKind.i64.wrap (Y1*Y1)=mb1:=WM4
 have gm5:IntKind.i64.wrap (mb0+mb1)=ot:=WM5
 have gm6:IntKind.i64.wrap (X2*X2)=zz:=WM6
 have gm7:IntKind.i64.wrap (zz*ot)=mg1:=WM7
 have gm8:IntKind.i64.wrap (Y2*Y2)=ww:=WM8
 have gm9:IntKind.i64.wrap (ww*fl)=mg2:=WM9
 have gm10:IntKind.i64.wrap (mg1 - mg2)=df:=WM10
 have gc0:(fl == 0)=false:=WC0
 have gc1:decide (df < 0)=false:=WC1
 have gc2:decide (0 < df)=false:=WC2
 have C1:=Lib.hid c1
 have C2:=Lib.hid c2
 have C3:=Lib.hid c3
 have C4:=Lib.hid c4
 have C5:=Lib.hid c5
 have C8:=Lib.hid c8
 have C9:=Lib.hid c9
 have C11:=Lib.hid c11
 have C12:=Lib.hid c12
 have C13:=Lib.hid c13
 clear c1 c2 c3 c4 c5 c8 c9 c11 c12 c13 ck ca za cb zb ma mb hpl hcp hquo WM0 WM1 WM2 WM3 WM4 WM5 WM6 WM7 WM8 WM9 WM10 WC0 WC1 WC2
 have hb:=Below.refl w.heap.size w
 go_enter Tryz.func6,Tryz.ntmps6
 go_upto_region 1 with fail
 refine wp_alloc2 (fun w1 a0 a1 hk=>?_)
 replace hb:=hb.trans (hk.mono hb.size)
 clear hk
 obtain ⟨Ae,Af,Ag,Ah⟩:=ce4 a0
 obtain ⟨Ai,Aj,Ak,Al⟩:=ce4 a1
 go_upto_region 3 with ((first | (go_at_call 12;with_reducible refine (chVB hb R C1).mono ?_) | (go_at_call 29;first | with_reducible refine (chVB hb R C2).mono ?_ | with_reducible refine (chVB hb R C4).mono ?_) | (go_at_call 28;first | with_reducible refine (chVB hb R C3).mono ?_ | with_reducible refine (chVB hb R C5).mono ?_));clear hb;rintro e w1 ⟨rfl,hk,hb⟩;clear Ae Af Ag Ah Ai Aj Ak Al;replace a0:=zB hk a0;replace a1:=zB hk a1;obtain ⟨Ae,Af,Ag,Ah⟩:=ce4 a0;obtain ⟨Ai,Aj,Ak,Al⟩:=ce4 a1;clear hk)
 obtain ⟨As,At,Au,Av⟩:=cy4 a0
 obtain ⟨Aw,Ax,Ay,Az⟩:=cy4 a1
 have A5:=rrV C2 R hb
 have A6:=rrV C4 R hb
 have A0:=qqV C2 R hb
 have A1:=qqV C4 R hb
 refine wp_free2 4 0 (fun i=>if i=4 then Obj.cells #[Value.int .i64 0,Value.int .i64 0,Value.int .i64 0] 48 else if i=5 then Obj.cells #[Value.int .i64 0,Value.int .i64 0,Value.int .i64 0] 48 else Obj.cells #[] 0) (fun i=>if i=4 then Obj.cells #[Value.int .i64 X0,Value.int .i64 X1,Value.int .i64 X2] 48 else if i=5 then Obj.cells #[Value.int .i64 Y0,Value.int .i64 Y1,Value.int .i64 Y2] 48 else Obj.cells #[] 0) (some 5) (some 6) (by first | assumption | kernel_rfl) (by kernel_rfl) ?lay rfl rfl ?_
 case lay =>
   intro i h1 h2
   obtain rfl | rfl:i=4∨i=5:=by omega
   all_goals exact ⟨_,rfl,rfl,fun a w=>(by first | (go_simp;done) | (go_simp;rfl))⟩
 simp only [List.take_succ_cons,List.take_zero]
 repeat (refine wpB_step (fun K hK=>?_);go_simp;first | (refine hK _ ?_;clear hK K) | (apply Exists.intro;refine ⟨fun _=>?_,hK _ ?_⟩;(first | (with_reducible exact A0.out _ _) | (with_reducible exact A1.out _ _));clear hK K))
 refine wpB_nil ?_
 intro Ac Ad
 refine ⟨?_,?_,?_⟩
 · refine ⟨_,rfl,rfl,rfl,fun cs b h=>(by cases h),fun w hw=>?_⟩
   replace hw:w.heap[Ac]? = some (Obj.cells #[Value.int .i64 0,Value.int .i64 0,Value.int .i64 0] 48):=hw
   have z0:w.cell? ⟨Ac,0,none⟩=some (Value.int .i64 0):=zA hw
   have y0:w.frozen? ⟨Ac,0,none⟩=false:=zD hw
   have z1:w.cell? ⟨Ac,1,none⟩=some (Value.int .i64 0):=zA hw
   have y1:w.frozen? ⟨Ac,1,none⟩=false:=zD hw
   have z2:w.cell? ⟨Ac,2,none⟩=some (Value.int .i64 0):=zA hw
   have y2:w.frozen? ⟨Ac,2,none⟩=false:=zD hw
   refine ⟨_,?_,(Wrote.set (i:=2) (Wrote.set (i:=1) (Wrote.set (i:=0) (Wrote.refl hw) (Value.int .i64 X0)) (Value.int .i64 X1)) (Value.int .i64 X2))⟩
   go_simp
 · refine ⟨_,rfl,rfl,rfl,fun cs b h=>(by cases h),fun w hw=>?_⟩
   replace hw:w.heap[Ad]? = some (Obj.cells #[Value.int .i64 0,Value.int .i64 0,Value.int .i64 0] 48):=hw
   have z0:w.cell? ⟨Ad,0,none⟩=some (Value.int .i64 0):=zA hw
   have y0:w.frozen? ⟨Ad,0,none⟩=false:=zD hw
   have z1:w.cell? ⟨Ad,1,none⟩=some (Value.int .i64 0):=zA hw
   have y1:w.frozen? ⟨Ad,1,none⟩=false:=zD hw
   have z2:w.cell? ⟨Ad,2,none⟩=some (Value.int .i64 0):=zA hw
   have y2:w.frozen? ⟨Ad,2,none⟩=false:=zD hw
   refine ⟨_,?_,(Wrote.set (i:=2) (Wrote.set (i:=1) (Wrote.set (i:=0) (Wrote.refl hw) (Value.int .i64 Y0)) (Value.int .i64 Y1)) (Value.int .i64 Y2))⟩
   go_simp
 intro w1 hk m0 m1 Aa Ab _
 clear Ae Af Ag Ah Ai Aj Ak Al
 replace a0:=zB hk a0
 replace a1:=zB hk a1
 obtain ⟨Ae,Af,Ag,Ah⟩:=ce4 a0
 obtain ⟨Ai,Aj,Ak,Al⟩:=ce4 a1
 replace hb:=hb.trans (hk.mono hb.size)
 clear hk
 replace Aa:w1.heap[Ac]? = some (Obj.cells #[Value.int .i64 X0,Value.int .i64 X1,Value.int .i64 X2] 48):=Aa
 have Am:w1.cell? ⟨Ac,0,none⟩=some (Value.int .i64 X0):=zA Aa
 have An:w1.cell? ⟨Ac,1,none⟩=some (Value.int .i64 X1):=zA Aa
 have Ao:w1.cell? ⟨Ac,2,none⟩=some (Value.int .i64 X2):=zA Aa
 replace Ab:w1.heap[Ad]? = some (Obj.cells #[Value.int .i64 Y0,Value.int .i64 Y1,Value.int .i64 Y2] 48):=Ab
 have Ap:w1.cell? ⟨Ad,0,none⟩=some (Value.int .i64 Y0):=zA Ab
 have Aq:w1.cell? ⟨Ad,1,none⟩=some (Value.int .i64 Y1):=zA Ab
 have Ar:w1.cell? ⟨Ad,2,none⟩=some (Value.int .i64 Y2):=zA Ab
 clear A0 A1 A5 A6 As At Au Av Aw Ax Ay Az m0 m1
 go_upto_region 5 with ((first | (go_at_call 30;with_reducible refine (chVB hb R C8).mono ?_) | (go_at_call 27;with_reducible refine (chVB hb R C9).mono ?_));clear hb;rintro e w1 ⟨rfl,hk,hb⟩;clear Ae Af Ag Ah Ai Aj Ak Al Am An Ao Ap Aq Ar;replace a0:=zB hk a0;replace a1:=zB hk a1;replace Aa:=zB hk Aa;replace Ab:=zB hk Ab;obtain ⟨Ae,Af,Ag,Ah⟩:=ce4 a0;obtain ⟨Ai,Aj,Ak,Al⟩:=ce4 a1;obtain ⟨Am,An,Ao⟩:=ce3 Aa;obtain ⟨Ap,Aq,Ar⟩:=ce3 Ab;clear hk)
 obtain ⟨As,At,Au,Av⟩:=cy4 a0
 obtain ⟨Aw,Ax,Ay,Az⟩:=cy4 a1
 obtain ⟨A7,A8,A9⟩:=cy3 Aa
 obtain ⟨Ba,Bb,Bc⟩:=cy3 Ab
 have A2:=rrV C8 R hb
 have A3:=rrV C11 R hb
 have A4:=rrV C12 R hb
 refine wp_region_quiet_below (by first | assumption | kernel_rfl) (by kernel_rfl) ?_
 repeat (quiet_step (first | (with_reducible exact A2.out _ _) | (with_reducible exact A3.out _ _) | (with_reducible exact A4.out _ _)))
 refine wpQuiet_nil ?_
 intro w1 hw'
 obtain ⟨hk,hb⟩:=zQ hb hw'
 clear Ae Af Ag Ah Ai Aj Ak Al Am An Ao Ap Aq Ar
 replace a0:=zB hk a0
 replace a1:=zB hk a1
 replace Aa:=zB hk Aa
 replace Ab:=zB hk Ab
 obtain ⟨Ae,Af,Ag,Ah⟩:=ce4 a0
 obtain ⟨Ai,Aj,Ak,Al⟩:=ce4 a1
 obtain ⟨Am,An,Ao⟩:=ce3 Aa
 obtain ⟨Ap,Aq,Ar⟩:=ce3 Ab
 clear A2 A3 A4 As At Au Av Aw Ax Ay Az A7 A8 A9 Ba Bb Bc
 clear hk hw'
 go_upto_region 6 with fail
 clear Ae Af Ag Ah a0 Ai Aj Ak Al a1
 go_quiet (fail)
 replace hb:=hb.trans ((below_drewN w1 nq).mono hb.size)
 replace Am:=(show (w1.drewN nq).cell? _=_ from Am)
 replace An:=(show (w1.drewN nq).cell? _=_ from An)
 replace Ao:=(show (w1.drewN nq).cell? _=_ from Ao)
 replace Aa:=(show (w1.drewN nq).heap[_]? = _ from Aa)
 replace Ap:=(show (w1.drewN nq).cell? _=_ from Ap)
 replace Aq:=(show (w1.drewN nq).cell? _=_ from Aq)
 replace Ar:=(show (w1.drewN nq).cell? _=_ from Ar)
 replace Ab:=(show (w1.drewN nq).heap[_]? = _ from Ab)
 obtain ⟨w1,hw2⟩:∃ w2,w1.drewN nq=w2:=⟨_,rfl⟩
 rw [hw2] at hb Am An Ao Aa Ap Aq Ar Ab ⊢
 clear hw2
 go_wp2_with (go_at_call 34;with_reducible refine (chVB hb R C13).mono ?_;clear hb;rintro e w1 ⟨rfl,hk,hb⟩;clear Am An Ao;replace Aa:=zB hk Aa;obtain ⟨Am,An,Ao⟩:=ce3 Aa;clear hk)
 first | go_ret | go_ret2 | go_ret3
 exact ⟨rfl,hb⟩
theorem lplunges_np  (i0 i1 i2 j0 j1 j2 X0 X1 X2 Y0 Y1 Y2:Int) (d e ma0 ma1 fl mb0 mb1 ot zz mg1 ww mg2 df:Int) (r:ByteArray) (s0 s1 s2 t0 t1 t2:ByteArray) (ck:CV 12 #[] (.bool true)) (ca:CV 29 #[.agg #[.int .i8 i0,.int .i8 i1,.int .i8 i2,.int .u8 d]] (.agg #[.int .i64 X0,.int .i64 X1,.int .i64 X2])) (za:CV 28 #[.agg #[.int .i64 X0,.int .i64 X1,.int .i64 X2]] (.bool false)) (cb:CV 29 #[.agg #[.int .i8 j0,.int .i8 j1,.int .i8 j2,.int .u8 e]] (.agg #[.int .i64 Y0,.int .i64 Y1,.int .i64 Y2])) (zb:CV 28 #[.agg #[.int .i64 Y0,.int .i64 Y1,.int .i64 Y2]] (.bool false)) (ma:CV 30 #[.agg #[.int .i8 i0,.int .i8 i1,.int .i8 i2,.int .u8 d]] (.agg #[.string s0,.string s1,.string s2])) (mb:CV 30 #[.agg #[.int .i8 j0,.int .i8 j1,.int .i8 j2,.int .u8 e]] (.agg #[.string t0,.string t1,.string t2])) (hpl:CV 27 #[.agg #[.string s0,.string s1,.string s2]] (.tuple #[.string r,.bool false,.int .i64 0])) (hcp:CV 18 #[.agg #[.string s0,.string s1,.string s2],.agg #[.string t0,.string t1,.string t2]] (.tuple #[.int .i64 1,.int .i64 0])) (hquo:CV 34 #[.int .i64 zz,.int .i64 fl] (.string r)) (WM0:IntKind.i64.wrap (X0*X0)=ma0) (WM1:IntKind.i64.wrap (X1*X1)=ma1) (WM2:IntKind.i64.wrap (ma0+ma1)=fl) (WM3:IntKind.i64.wrap (Y0*Y0)=mb0) (WM4:IntKind.i64.wrap (Y1*Y1)=mb1) (WM5:IntKind.i64.wrap (mb0+mb1)=ot) (WM6:IntKind.i64.wrap (X2*X2)=zz) (WM7:IntKind.i64.wrap (zz*ot)=mg1) (WM8:IntKind.i64.wrap (Y2*Y2)=ww) (WM9:IntKind.i64.wrap (ww*fl)=mg2) (WM10:IntKind.i64.wrap (mg1 - mg2)=df) (WC0:(fl == 0)=false) (WC1:decide (df < 0)=false) (WC2:decide (0 < df)=true) (w:World) (R:EnvV w) :
   Calls Tryz.prog 6 #[.agg #[.int .i8 i0,.int .i8 i1,.int .i8 i2,.int .u8 d],.agg #[.int .i8 j0,.int .i8 j1,.int .i8 j2,.int .u8 e]] w (Ret w (.bool true)):=by
 have c1:=ck
 have c2:=ca
 have c3:=za
 have c4:=cb
 have c5:=zb
 have c8:=ma
 have c9:=hpl
 have c11:=mb
 have c12:=hcp
 have c13:=hquo
 have gm0:IntKind.i64.wrap (X0*X0)=ma0:=WM0
 have gm1:IntKind.i64.wrap (X1*X1)=ma1:=WM1
 have gm2:IntKind.i64.wrap (ma0+ma1)=fl:=WM2
 have gm3:IntKind.i64.wrap (Y0*Y0)=mb0:=WM3
 have gm4:IntKind.i64.wrap (Y1*Y1)=mb1:=WM4
 have gm5:IntKind.i64.wrap (mb0+mb1)=ot:=WM5
 have gm6:IntKind.i64.wrap (X2*X2)=zz:=WM6
 have gm7:IntKind.i64.wrap (zz*ot)=mg1:=WM7
 have gm8:IntKind.i64.wrap (Y2*Y2)=ww:=WM8
 have gm9:IntKind.i64.wrap (ww*fl)=mg2:=WM9
 have gm10:IntKind.i64.wrap (mg1 - mg2)=df:=WM10
 have gc0:(fl == 0)=false:=WC0
 have gc1:decide (df < 0)=false:=WC1
 have gc2:decide (0 < df)=true:=WC2
 have C1:=Lib.hid c1
 have C2:=Lib.hid c2
 have C3:=Lib.hid c3
 have C4:=Lib.hid c4
 have C5:=Lib.hid c5
 have C8:=Lib.hid c8
 have C9:=Lib.hid c9
 have C11:=Lib.hid c11
 have C12:=Lib.hid c12
 have C13:=Lib.hid c13
 clear c1 c2 c3 c4 c5 c8 c9 c11 c12 c13 ck ca za cb zb ma mb hpl hcp hquo WM0 WM1 WM2 WM3 WM4 WM5 WM6 WM7 WM8 WM9 WM10 WC0 WC1 WC2
 have hb:=Below.refl w.heap.size w
 go_enter Tryz.func6,Tryz.ntmps6
 go_upto_region 1 with fail
 refine wp_alloc2 (fun w1 a0 a1 hk=>?_)
 replace hb:=hb.trans (hk.mono hb.size)
 clear hk
 obtain ⟨Ae,Af,Ag,Ah⟩:=ce4 a0
 obtain ⟨Ai,Aj,Ak,Al⟩:=ce4 a1
 go_upto_region 3 with ((first | (go_at_call 12;with_reducible refine (chVB hb R C1).mono ?_) | (go_at_call 29;first | with_reducible refine (chVB hb R C2).mono ?_ | with_reducible refine (chVB hb R C4).mono ?_) | (go_at_call 28;first | with_reducible refine (chVB hb R C3).mono ?_ | with_reducible refine (chVB hb R C5).mono ?_));clear hb;rintro e w1 ⟨rfl,hk,hb⟩;clear Ae Af Ag Ah Ai Aj Ak Al;replace a0:=zB hk a0;replace a1:=zB hk a1;obtain ⟨Ae,Af,Ag,Ah⟩:=ce4 a0;obtain ⟨Ai,Aj,Ak,Al⟩:=ce4 a1;clear hk)
 obtain ⟨As,At,Au,Av⟩:=cy4 a0
 obtain ⟨Aw,Ax,Ay,Az⟩:=cy4 a1
 have A5:=rrV C2 R hb
 have A6:=rrV C4 R hb
 have A0:=qqV C2 R hb
 have A1:=qqV C4 R hb
 refine wp_free2 4 0 (fun i=>if i=4 then Obj.cells #[Value.int .i64 0,Value.int .i64 0,Value.int .i64 0] 48 else if i=5 then Obj.cells #[Value.int .i64 0,Value.int .i64 0,Value.int .i64 0] 48 else Obj.cells #[] 0) (fun i=>if i=4 then Obj.cells #[Value.int .i64 X0,Value.int .i64 X1,Value.int .i64 X2] 48 else if i=5 then Obj.cells #[Value.int .i64 Y0,Value.int .i64 Y1,Value.int .i64 Y2] 48 else Obj.cells #[] 0) (some 5) (some 6) (by first | assumption | kernel_rfl) (by kernel_rfl) ?lay rfl rfl ?_
 case lay =>
   intro i h1 h2
   obtain rfl | rfl:i=4∨i=5:=by omega
   all_goals exact ⟨_,rfl,rfl,fun a w=>(by first | (go_simp;done) | (go_simp;rfl))⟩
 simp only [List.take_succ_cons,List.take_zero]
 repeat (refine wpB_step (fun K hK=>?_);go_simp;first | (refine hK _ ?_;clear hK K) | (apply Exists.intro;refine ⟨fun _=>?_,hK _ ?_⟩;(first | (with_reducible exact A0.out _ _) | (with_reducible exact A1.out _ _));clear hK K))
 refine wpB_nil ?_
 intro Ac Ad
 refine ⟨?_,?_,?_⟩
 · refine ⟨_,rfl,rfl,rfl,fun cs b h=>(by cases h),fun w hw=>?_⟩
   replace hw:w.heap[Ac]? = some (Obj.cells #[Value.int .i64 0,Value.int .i64 0,Value.int .i64 0] 48):=hw
   have z0:w.cell? ⟨Ac,0,none⟩=some (Value.int .i64 0):=zA hw
   have y0:w.frozen? ⟨Ac,0,none⟩=false:=zD hw
   have z1:w.cell? ⟨Ac,1,none⟩=some (Value.int .i64 0):=zA hw
   have y1:w.frozen? ⟨Ac,1,none⟩=false:=zD hw
   have z2:w.cell? ⟨Ac,2,none⟩=some (Value.int .i64 0):=zA hw
   have y2:w.frozen? ⟨Ac,2,none⟩=false:=zD hw
   refine ⟨_,?_,(Wrote.set (i:=2) (Wrote.set (i:=1) (Wrote.set (i:=0) (Wrote.refl hw) (Value.int .i64 X0)) (Value.int .i64 X1)) (Value.int .i64 X2))⟩
   go_simp
 · refine ⟨_,rfl,rfl,rfl,fun cs b h=>(by cases h),fun w hw=>?_⟩
   replace hw:w.heap[Ad]? = some (Obj.cells #[Value.int .i64 0,Value.int .i64 0,Value.int .i64 0] 48):=hw
   have z0:w.cell? ⟨Ad,0,none⟩=some (Value.int .i64 0):=zA hw
   have y0:w.frozen? ⟨Ad,0,none⟩=false:=zD hw
   have z1:w.cell? ⟨Ad,1,none⟩=some (Value.int .i64 0):=zA hw
   have y1:w.frozen? ⟨Ad,1,none⟩=false:=zD hw
   have z2:w.cell? ⟨Ad,2,none⟩=some (Value.int .i64 0):=zA hw
   have y2:w.frozen? ⟨Ad,2,none⟩=false:=zD hw
   refine ⟨_,?_,(Wrote.set (i:=2) (Wrote.set (i:=1) (Wrote.set (i:=0) (Wrote.refl hw) (Value.int .i64 Y0)) (Value.int .i64 Y1)) (Value.int .i64 Y2))⟩
   go_simp
 intro w1 hk m0 m1 Aa Ab _
 clear Ae Af Ag Ah Ai Aj Ak Al
 replace a0:=zB hk a0
 replace a1:=zB hk a1
 obtain ⟨Ae,Af,Ag,Ah⟩:=ce4 a0
 obtain ⟨Ai,Aj,Ak,Al⟩:=ce4 a1
 replace hb:=hb.trans (hk.mono hb.size)
 clear hk
 replace Aa:w1.heap[Ac]? = some (Obj.cells #[Value.int .i64 X0,Value.int .i64 X1,Value.int .i64 X2] 48):=Aa
 have Am:w1.cell? ⟨Ac,0,none⟩=some (Value.int .i64 X0):=zA Aa
 have An:w1.cell? ⟨Ac,1,none⟩=some (Value.int .i64 X1):=zA Aa
 have Ao:w1.cell? ⟨Ac,2,none⟩=some (Value.int .i64 X2):=zA Aa
 replace Ab:w1.heap[Ad]? = some (Obj.cells #[Value.int .i64 Y0,Value.int .i64 Y1,Value.int .i64 Y2] 48):=Ab
 have Ap:w1.cell? ⟨Ad,0,none⟩=some (Value.int .i64 Y0):=zA Ab
 have Aq:w1.cell? ⟨Ad,1,none⟩=some (Value.int .i64 Y1):=zA Ab
 have Ar:w1.cell? ⟨Ad,2,none⟩=some (Value.int .i64 Y2):=zA Ab
 clear A0 A1 A5 A6 As At Au Av Aw Ax Ay Az m0 m1
 go_upto_region 5 with ((first | (go_at_call 30;with_reducible refine (chVB hb R C8).mono ?_) | (go_at_call 27;with_reducible refine (chVB hb R C9).mono ?_));clear hb;rintro e w1 ⟨rfl,hk,hb⟩;clear Ae Af Ag Ah Ai Aj Ak Al Am An Ao Ap Aq Ar;replace a0:=zB hk a0;replace a1:=zB hk a1;replace Aa:=zB hk Aa;replace Ab:=zB hk Ab;obtain ⟨Ae,Af,Ag,Ah⟩:=ce4 a0;obtain ⟨Ai,Aj,Ak,Al⟩:=ce4 a1;obtain ⟨Am,An,Ao⟩:=ce3 Aa;obtain ⟨Ap,Aq,Ar⟩:=ce3 Ab;clear hk)
 obtain ⟨As,At,Au,Av⟩:=cy4 a0
 obtain ⟨Aw,Ax,Ay,Az⟩:=cy4 a1
 obtain ⟨A7,A8,A9⟩:=cy3 Aa
 obtain ⟨Ba,Bb,Bc⟩:=cy3 Ab
 have A2:=rrV C8 R hb
 have A3:=rrV C11 R hb
 have A4:=rrV C12 R hb
 refine wp_region_quiet_below (by first | assumption | kernel_rfl) (by kernel_rfl) ?_
 repeat (quiet_step (first | (with_reducible exact A2.out _ _) | (with_reducible exact A3.out _ _) | (with_reducible exact A4.out _ _)))
 refine wpQuiet_nil ?_
 intro w1 hw'
 obtain ⟨hk,hb⟩:=zQ hb hw'
 clear Ae Af Ag Ah Ai Aj Ak Al Am An Ao Ap Aq Ar
 replace a0:=zB hk a0
 replace a1:=zB hk a1
 replace Aa:=zB hk Aa
 replace Ab:=zB hk Ab
 obtain ⟨Ae,Af,Ag,Ah⟩:=ce4 a0
 obtain ⟨Ai,Aj,Ak,Al⟩:=ce4 a1
 obtain ⟨Am,An,Ao⟩:=ce3 Aa
 obtain ⟨Ap,Aq,Ar⟩:=ce3 Ab
 clear A2 A3 A4 As At Au Av Aw Ax Ay Az A7 A8 A9 Ba Bb Bc
 clear hk hw'
 go_upto_region 6 with fail
 clear Ae Af Ag Ah a0 Ai Aj Ak Al a1
 go_quiet (fail)
 replace hb:=hb.trans ((below_drewN w1 nq).mono hb.size)
 replace Am:=(show (w1.drewN nq).cell? _=_ from Am)
 replace An:=(show (w1.drewN nq).cell? _=_ from An)
 replace Ao:=(show (w1.drewN nq).cell? _=_ from Ao)
 replace Aa:=(show (w1.drewN nq).heap[_]? = _ from Aa)
 replace Ap:=(show (w1.drewN nq).cell? _=_ from Ap)
 replace Aq:=(show (w1.drewN nq).cell? _=_ from Aq)
 replace Ar:=(show (w1.drewN nq).cell? _=_ from Ar)
 replace Ab:=(show (w1.drewN nq).heap[_]? = _ from Ab)
 obtain ⟨w1,hw2⟩:∃ w2,w1.drewN nq=w2:=⟨_,rfl⟩
 rw [hw2] at hb Am An Ao Aa Ap Aq Ar Ab ⊢
 clear hw2
 go_wp2_with (go_at_call 34;with_reducible refine (chVB hb R C13).mono ?_;clear hb;rintro e w1 ⟨rfl,hk,hb⟩;clear Am An Ao;replace Aa:=zB hk Aa;obtain ⟨Am,An,Ao⟩:=ce3 Aa;clear hk)
 first | go_ret | go_ret2 | go_ret3
 exact ⟨rfl,hb⟩
end Go.Proofs.YtpiiclmkbplkhaaGreatDoor.Kl
