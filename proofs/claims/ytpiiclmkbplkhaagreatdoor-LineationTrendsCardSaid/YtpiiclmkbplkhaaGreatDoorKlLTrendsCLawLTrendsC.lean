import Derived.Test.YtpiiclmkbplkhaaGreatDoorKlLTrendsCLBZ
import Derived.BigRegion
namespace Go.Proofs.YtpiiclmkbplkhaaGreatDoor.Kl
open Go Go.RowKit
set_option maxRecDepth 100000
set_option maxHeartbeats 8000000
theorem ltrends_10a  (i0 i1 i2 j0 j1 j2 X0 X1 X2 Y0 Y1 Y2 U0 U1 U2 V0 V1 V2:Int) (d e N M p1 p2 tu:Int) (s0 s1 s2 t0 t1 t2:ByteArray) (ck:CV 12 #[] (.bool true)) (ca:CV 29 #[.agg #[.int .i8 i0,.int .i8 i1,.int .i8 i2,.int .u8 d]] (.agg #[.int .i64 X0,.int .i64 X1,.int .i64 X2])) (za:CV 28 #[.agg #[.int .i64 X0,.int .i64 X1,.int .i64 X2]] (.bool false)) (cb:CV 29 #[.agg #[.int .i8 j0,.int .i8 j1,.int .i8 j2,.int .u8 e]] (.agg #[.int .i64 Y0,.int .i64 Y1,.int .i64 Y2])) (zb:CV 28 #[.agg #[.int .i64 Y0,.int .i64 Y1,.int .i64 Y2]] (.bool false)) (ma:CV 30 #[.agg #[.int .i8 i0,.int .i8 i1,.int .i8 i2,.int .u8 d]] (.agg #[.string s0,.string s1,.string s2])) (mb:CV 30 #[.agg #[.int .i8 j0,.int .i8 j1,.int .i8 j2,.int .u8 e]] (.agg #[.string t0,.string t1,.string t2])) (da:CV 32 #[.agg #[.int .i64 X0,.int .i64 X1,.int .i64 X2]] (.agg #[.int .i64 U0,.int .i64 U1,.int .i64 U2])) (db:CV 32 #[.agg #[.int .i64 Y0,.int .i64 Y1,.int .i64 Y2]] (.agg #[.int .i64 V0,.int .i64 V1,.int .i64 V2])) (tr:CV 26 #[.agg #[.string s0,.string s1,.string s2]] (.tuple #[.int .i64 N,.int .i64 0])) (ct:CV 17 #[.agg #[.string s0,.string s1,.string s2],.agg #[.string t0,.string t1,.string t2]] (.tuple #[.int .i64 (-1),.int .i64 0])) (ou:CV 33 #[.int .i64 U0,.int .i64 U1] (.int .i64 N)) (ov:CV 33 #[.int .i64 V0,.int .i64 V1] (.int .i64 M)) (WM0:IntKind.i64.wrap (U0*V1)=p1) (WM1:IntKind.i64.wrap (U1*V0)=p2) (WM2:IntKind.i64.wrap (p1 - p2)=tu) (WC0:(U0 == 0)=true) (WC1:(U1 == 0)=false) (WC2:(V0 == 0)=false) (WC3:decide (N < M)=true) (w:World) (R:EnvV w) :
   Calls Tryz.prog 5 #[.agg #[.int .i8 i0,.int .i8 i1,.int .i8 i2,.int .u8 d],.agg #[.int .i8 j0,.int .i8 j1,.int .i8 j2,.int .u8 e]] w (Ret w (.bool true)):=by
 have c1:=ck
 have c2:=ca
 have c3:=za
 have c4:=cb
 have c5:=zb
 have c7:=da
 have c9:=db
 have c10:=ma
 have c11:=tr
 have c13:=mb
 have c14:=ct
 have c15:=ou
 have c16:=ov
 have gm0:IntKind.i64.wrap (U0*V1)=p1:=WM0
 have gm1:IntKind.i64.wrap (U1*V0)=p2:=WM1
 have gm2:IntKind.i64.wrap (p1 - p2)=tu:=WM2
 have gc0:(U0 == 0)=true:=WC0
 have gc1:(U1 == 0)=false:=WC1
 have gc2:(V0 == 0)=false:=WC2
 have gc3:decide (N < M)=true:=WC3
 have C1:=Lib.hid c1
 have C2:=Lib.hid c2
 have C3:=Lib.hid c3
 have C4:=Lib.hid c4
 have C5:=Lib.hid c5
 have C7:=Lib.hid c7
 have C9:=Lib.hid c9
 have C10:=Lib.hid c10
 have C11:=Lib.hid c11
 have C13:=Lib.hid c13
 have C14:=Lib.hid c14
 have C15:=Lib.hid c15
 have C16:=Lib.hid c16
 clear c1 c2 c3 c4 c5 c7 c9 c10 c11 c13 c14 c15 c16 ck ca za cb zb ma mb da db tr ct ou ov WM0 WM1 WM2 WC0 WC1 WC2 WC3
 have hb:=Below.refl w.heap.size w
 go_enter Tryz.func5,Tryz.ntmps5
 go_upto_region 1 with fail
 refine wp_alloc2 (fun w1 a0 a1 hk=>?_)
 replace hb:=hb.trans (hk.mono hb.size)
 clear hk
 obtain ⟨Ae,Af,Ag,Ah⟩:=ce4 a0
 obtain ⟨Ai,Aj,Ak,Al⟩:=ce4 a1
 go_upto_region 3 with ((first | (go_at_call 12;with_reducible refine (chVB hb R C1).mono ?_) | (go_at_call 29;first | with_reducible refine (chVB hb R C2).mono ?_ | with_reducible refine (chVB hb R C4).mono ?_) | (go_at_call 28;first | with_reducible refine (chVB hb R C3).mono ?_ | with_reducible refine (chVB hb R C5).mono ?_));clear hb;rintro e w1 ⟨rfl,hk,hb⟩;clear Ae Af Ag Ah Ai Aj Ak Al;replace a0:=zB hk a0;replace a1:=zB hk a1;obtain ⟨Ae,Af,Ag,Ah⟩:=ce4 a0;obtain ⟨Ai,Aj,Ak,Al⟩:=ce4 a1;clear hk)
 obtain ⟨As,At,Au,Av⟩:=cy4 a0
 obtain ⟨Aw,Ax,Ay,Az⟩:=cy4 a1
 have A7:=rrV C2 R hb
 have A8:=rrV C7 R hb
 have A9:=rrV C4 R hb
 have Ba:=rrV C9 R hb
 have A0:=qqV C2 R hb
 have A1:=qqV C7 R hb
 have A2:=qqV C4 R hb
 have A3:=qqV C9 R hb
 refine wp_free2 6 0 (fun i=>if i=6 then Obj.cells #[Value.int .i64 0,Value.int .i64 0,Value.int .i64 0] 48 else if i=7 then Obj.cells #[Value.int .i64 0,Value.int .i64 0,Value.int .i64 0] 48 else Obj.cells #[] 0) (fun i=>if i=6 then Obj.cells #[Value.int .i64 U0,Value.int .i64 U1,Value.int .i64 U2] 48 else if i=7 then Obj.cells #[Value.int .i64 V0,Value.int .i64 V1,Value.int .i64 V2] 48 else Obj.cells #[] 0) (some 5) (some 6) (by first | assumption | kernel_rfl) (by kernel_rfl) ?lay rfl rfl ?_
 case lay =>
   intro i h1 h2
   obtain rfl | rfl:i=6∨i=7:=by omega
   all_goals exact ⟨_,rfl,rfl,fun a w=>(by first | (go_simp;done) | (go_simp;rfl))⟩
 simp only [List.take_succ_cons,List.take_zero]
 repeat (refine wpB_step (fun K hK=>?_);go_simp;first | (refine hK _ ?_;clear hK K) | (apply Exists.intro;refine ⟨fun _=>?_,hK _ ?_⟩;(first | (with_reducible exact A0.out _ _) | (with_reducible exact A1.out _ _) | (with_reducible exact A2.out _ _) | (with_reducible exact A3.out _ _));clear hK K))
 refine wpB_nil ?_
 intro Ac Ad
 refine ⟨?_,?_,?_⟩
 · refine ⟨_,rfl,rfl,rfl,fun cs b h=>(by cases h),fun w hw=>?_⟩
   replace hw:w.heap[Ac]? = some (Obj.cells #[Value.int .i64 0,Value.int .i64 0,Value.int .i64 0] 48):=hw
   have z0:w.cell? ⟨Ac,0,none⟩=some (Value.int .i64 0):=zA hw
   have y0:w.frozen? ⟨Ac,0,none⟩=false:=zD hw
   have z1:w.cell? ⟨Ac,1,none⟩=some (Value.int .i64 0):=zA hw
   have y1:w.frozen? ⟨Ac,1,none⟩=false:=zD hw
   have z2:w.cell? ⟨Ac,2,none⟩=some (Value.int .i64 0):=zA hw
   have y2:w.frozen? ⟨Ac,2,none⟩=false:=zD hw
   refine ⟨_,?_,(Wrote.set (i:=2) (Wrote.set (i:=1) (Wrote.set (i:=0) (Wrote.refl hw) (Value.int .i64 U0)) (Value.int .i64 U1)) (Value.int .i64 U2))⟩
   go_simp
 · refine ⟨_,rfl,rfl,rfl,fun cs b h=>(by cases h),fun w hw=>?_⟩
   replace hw:w.heap[Ad]? = some (Obj.cells #[Value.int .i64 0,Value.int .i64 0,Value.int .i64 0] 48):=hw
   have z0:w.cell? ⟨Ad,0,none⟩=some (Value.int .i64 0):=zA hw
   have y0:w.frozen? ⟨Ad,0,none⟩=false:=zD hw
   have z1:w.cell? ⟨Ad,1,none⟩=some (Value.int .i64 0):=zA hw
   have y1:w.frozen? ⟨Ad,1,none⟩=false:=zD hw
   have z2:w.cell? ⟨Ad,2,none⟩=some (Value.int .i64 0):=zA hw
   have y2:w.frozen? ⟨Ad,2,none⟩=false:=zD hw
   refine ⟨_,?_,(Wrote.set (i:=2) (Wrote.set (i:=1) (Wrote.set (i:=0) (Wrote.refl hw) (Value.int .i64 V0)) (Value.int .i64 V1)) (Value.int .i64 V2))⟩
   go_simp
 intro w1 hk m0 m1 Ab Aa _
 clear Ae Af Ag Ah Ai Aj Ak Al
 replace a0:=zB hk a0
 replace a1:=zB hk a1
 obtain ⟨Ae,Af,Ag,Ah⟩:=ce4 a0
 obtain ⟨Ai,Aj,Ak,Al⟩:=ce4 a1
 replace hb:=hb.trans (hk.mono hb.size)
 clear hk
 replace Ab:w1.heap[Ac]? = some (Obj.cells #[Value.int .i64 U0,Value.int .i64 U1,Value.int .i64 U2] 48):=Ab
 have Ap:w1.cell? ⟨Ac,0,none⟩=some (Value.int .i64 U0):=zA Ab
 have Aq:w1.cell? ⟨Ac,1,none⟩=some (Value.int .i64 U1):=zA Ab
 have Ar:w1.cell? ⟨Ac,2,none⟩=some (Value.int .i64 U2):=zA Ab
 replace Aa:w1.heap[Ad]? = some (Obj.cells #[Value.int .i64 V0,Value.int .i64 V1,Value.int .i64 V2] 48):=Aa
 have Am:w1.cell? ⟨Ad,0,none⟩=some (Value.int .i64 V0):=zA Aa
 have An:w1.cell? ⟨Ad,1,none⟩=some (Value.int .i64 V1):=zA Aa
 have Ao:w1.cell? ⟨Ad,2,none⟩=some (Value.int .i64 V2):=zA Aa
 clear A0 A1 A2 A3 A7 A8 A9 Ba As At Au Av Aw Ax Ay Az m0 m1
 go_upto_region 5 with ((first | (go_at_call 30;with_reducible refine (chVB hb R C10).mono ?_) | (go_at_call 26;with_reducible refine (chVB hb R C11).mono ?_));clear hb;rintro e w1 ⟨rfl,hk,hb⟩;clear Ae Af Ag Ah Ai Aj Ak Al Ap Aq Ar Am An Ao;replace a0:=zB hk a0;replace a1:=zB hk a1;replace Ab:=zB hk Ab;replace Aa:=zB hk Aa;obtain ⟨Ae,Af,Ag,Ah⟩:=ce4 a0;obtain ⟨Ai,Aj,Ak,Al⟩:=ce4 a1;obtain ⟨Ap,Aq,Ar⟩:=ce3 Ab;obtain ⟨Am,An,Ao⟩:=ce3 Aa;clear hk)
 obtain ⟨As,At,Au,Av⟩:=cy4 a0
 obtain ⟨Aw,Ax,Ay,Az⟩:=cy4 a1
 obtain ⟨Bb,Bc,Bd⟩:=cy3 Ab
 obtain ⟨Be,Bf,Bg⟩:=cy3 Aa
 have A4:=rrV C10 R hb
 have A5:=rrV C13 R hb
 have A6:=rrV C14 R hb
 refine wp_region_quiet_below (by first | assumption | kernel_rfl) (by kernel_rfl) ?_
 repeat (quiet_step (first | (with_reducible exact A4.out _ _) | (with_reducible exact A5.out _ _) | (with_reducible exact A6.out _ _)))
 refine wpQuiet_nil ?_
 intro w1 hw'
 obtain ⟨hk,hb⟩:=zQ hb hw'
 clear Ae Af Ag Ah Ai Aj Ak Al Ap Aq Ar Am An Ao
 replace a0:=zB hk a0
 replace a1:=zB hk a1
 replace Ab:=zB hk Ab
 replace Aa:=zB hk Aa
 obtain ⟨Ae,Af,Ag,Ah⟩:=ce4 a0
 obtain ⟨Ai,Aj,Ak,Al⟩:=ce4 a1
 obtain ⟨Ap,Aq,Ar⟩:=ce3 Ab
 obtain ⟨Am,An,Ao⟩:=ce3 Aa
 clear A4 A5 A6 As At Au Av Aw Ax Ay Az Bb Bc Bd Be Bf Bg
 clear hk hw'
 go_wp2_with (first | (go_at_call 33;with_reducible refine (chVB hb R C15).mono ?_;clear hb;rintro e w1 ⟨rfl,hk,hb⟩;clear Ap Aq Ar Am An Ao;replace Ab:=zB hk Ab;replace Aa:=zB hk Aa;obtain ⟨Ap,Aq,Ar⟩:=ce3 Ab;obtain ⟨Am,An,Ao⟩:=ce3 Aa;clear hk) | (go_at_call 33;with_reducible refine (chVB hb R C16).mono ?_;clear hb;rintro e w1 ⟨rfl,hk,hb⟩;clear Am An Ao;replace Aa:=zB hk Aa;obtain ⟨Am,An,Ao⟩:=ce3 Aa;clear hk))
 first | go_ret | go_ret2 | go_ret3
 exact ⟨rfl,hb⟩
theorem ltrends_10b  (i0 i1 i2 j0 j1 j2 X0 X1 X2 Y0 Y1 Y2 U0 U1 U2 V0 V1 V2:Int) (d e N p1 p2 tu:Int) (s0 s1 s2 t0 t1 t2:ByteArray) (ck:CV 12 #[] (.bool true)) (ca:CV 29 #[.agg #[.int .i8 i0,.int .i8 i1,.int .i8 i2,.int .u8 d]] (.agg #[.int .i64 X0,.int .i64 X1,.int .i64 X2])) (za:CV 28 #[.agg #[.int .i64 X0,.int .i64 X1,.int .i64 X2]] (.bool false)) (cb:CV 29 #[.agg #[.int .i8 j0,.int .i8 j1,.int .i8 j2,.int .u8 e]] (.agg #[.int .i64 Y0,.int .i64 Y1,.int .i64 Y2])) (zb:CV 28 #[.agg #[.int .i64 Y0,.int .i64 Y1,.int .i64 Y2]] (.bool false)) (ma:CV 30 #[.agg #[.int .i8 i0,.int .i8 i1,.int .i8 i2,.int .u8 d]] (.agg #[.string s0,.string s1,.string s2])) (mb:CV 30 #[.agg #[.int .i8 j0,.int .i8 j1,.int .i8 j2,.int .u8 e]] (.agg #[.string t0,.string t1,.string t2])) (da:CV 32 #[.agg #[.int .i64 X0,.int .i64 X1,.int .i64 X2]] (.agg #[.int .i64 U0,.int .i64 U1,.int .i64 U2])) (db:CV 32 #[.agg #[.int .i64 Y0,.int .i64 Y1,.int .i64 Y2]] (.agg #[.int .i64 V0,.int .i64 V1,.int .i64 V2])) (tr:CV 26 #[.agg #[.string s0,.string s1,.string s2]] (.tuple #[.int .i64 N,.int .i64 0])) (ct:CV 17 #[.agg #[.string s0,.string s1,.string s2],.agg #[.string t0,.string t1,.string t2]] (.tuple #[.int .i64 (-1),.int .i64 0])) (ou:CV 33 #[.int .i64 U0,.int .i64 U1] (.int .i64 N)) (ov:CV 33 #[.int .i64 V0,.int .i64 V1] (.int .i64 N)) (WM0:IntKind.i64.wrap (U0*V1)=p1) (WM1:IntKind.i64.wrap (U1*V0)=p2) (WM2:IntKind.i64.wrap (p1 - p2)=tu) (WC0:(U0 == 0)=true) (WC1:(U1 == 0)=false) (WC2:(V0 == 0)=false) (WC3:decide (N < N)=false) (WC4:(N == N)=true) (WC5:decide (tu < 0)=true) (w:World) (R:EnvV w) :
   Calls Tryz.prog 5 #[.agg #[.int .i8 i0,.int .i8 i1,.int .i8 i2,.int .u8 d],.agg #[.int .i8 j0,.int .i8 j1,.int .i8 j2,.int .u8 e]] w (Ret w (.bool true)):=by
 have c1:=ck
 have c2:=ca
 have c3:=za
 have c4:=cb
 have c5:=zb
 have c7:=da
 have c9:=db
 have c10:=ma
 have c11:=tr
 have c13:=mb
 have c14:=ct
 have c15:=ou
 have c16:=ov
 have gm0:IntKind.i64.wrap (U0*V1)=p1:=WM0
 have gm1:IntKind.i64.wrap (U1*V0)=p2:=WM1
 have gm2:IntKind.i64.wrap (p1 - p2)=tu:=WM2
 have gc0:(U0 == 0)=true:=WC0
 have gc1:(U1 == 0)=false:=WC1
 have gc2:(V0 == 0)=false:=WC2
 have gc3:decide (N < N)=false:=WC3
 have gc4:(N == N)=true:=WC4
 have gc5:decide (tu < 0)=true:=WC5
 have C1:=Lib.hid c1
 have C2:=Lib.hid c2
 have C3:=Lib.hid c3
 have C4:=Lib.hid c4
 have C5:=Lib.hid c5
 have C7:=Lib.hid c7
 have C9:=Lib.hid c9
 have C10:=Lib.hid c10
 have C11:=Lib.hid c11
 have C13:=Lib.hid c13
 have C14:=Lib.hid c14
 have C15:=Lib.hid c15
 have C16:=Lib.hid c16
 clear c1 c2 c3 c4 c5 c7 c9 c10 c11 c13 c14 c15 c16 ck ca za cb zb ma mb da db tr ct ou ov WM0 WM1 WM2 WC0 WC1 WC2 WC3 WC4 WC5
 have hb:=Below.refl w.heap.size w
 go_enter Tryz.func5,Tryz.ntmps5
 go_upto_region 1 with fail
 refine wp_alloc2 (fun w1 a0 a1 hk=>?_)
 replace hb:=hb.trans (hk.mono hb.size)
 clear hk
 obtain ⟨Ae,Af,Ag,Ah⟩:=ce4 a0
 obtain ⟨Ai,Aj,Ak,Al⟩:=ce4 a1
 go_upto_region 3 with ((first | (go_at_call 12;with_reducible refine (chVB hb R C1).mono ?_) | (go_at_call 29;first | with_reducible refine (chVB hb R C2).mono ?_ | with_reducible refine (chVB hb R C4).mono ?_) | (go_at_call 28;first | with_reducible refine (chVB hb R C3).mono ?_ | with_reducible refine (chVB hb R C5).mono ?_));clear hb;rintro e w1 ⟨rfl,hk,hb⟩;clear Ae Af Ag Ah Ai Aj Ak Al;replace a0:=zB hk a0;replace a1:=zB hk a1;obtain ⟨Ae,Af,Ag,Ah⟩:=ce4 a0;obtain ⟨Ai,Aj,Ak,Al⟩:=ce4 a1;clear hk)
 obtain ⟨As,At,Au,Av⟩:=cy4 a0
 obtain ⟨Aw,Ax,Ay,Az⟩:=cy4 a1
 have A7:=rrV C2 R hb
 have A8:=rrV C7 R hb
 have A9:=rrV C4 R hb
 have Ba:=rrV C9 R hb
 have A0:=qqV C2 R hb
 have A1:=qqV C7 R hb
 have A2:=qqV C4 R hb
 have A3:=qqV C9 R hb
 refine wp_free2 6 0 (fun i=>if i=6 then Obj.cells #[Value.int .i64 0,Value.int .i64 0,Value.int .i64 0] 48 else if i=7 then Obj.cells #[Value.int .i64 0,Value.int .i64 0,Value.int .i64 0] 48 else Obj.cells #[] 0) (fun i=>if i=6 then Obj.cells #[Value.int .i64 U0,Value.int .i64 U1,Value.int .i64 U2] 48 else if i=7 then Obj.cells #[Value.int .i64 V0,Value.int .i64 V1,Value.int .i64 V2] 48 else Obj.cells #[] 0) (some 5) (some 6) (by first | assumption | kernel_rfl) (by kernel_rfl) ?lay rfl rfl ?_
 case lay =>
   intro i h1 h2
   obtain rfl | rfl:i=6∨i=7:=by omega
   all_goals exact ⟨_,rfl,rfl,fun a w=>(by first | (go_simp;done) | (go_simp;rfl))⟩
 simp only [List.take_succ_cons,List.take_zero]
 repeat (refine wpB_step (fun K hK=>?_);go_simp;first | (refine hK _ ?_;clear hK K) | (apply Exists.intro;refine ⟨fun _=>?_,hK _ ?_⟩;(first | (with_reducible exact A0.out _ _) | (with_reducible exact A1.out _ _) | (with_reducible exact A2.out _ _) | (with_reducible exact A3.out _ _));clear hK K))
 refine wpB_nil ?_
 intro Ac Ad
 refine ⟨?_,?_,?_⟩
 · refine ⟨_,rfl,rfl,rfl,fun cs b h=>(by cases h),fun w hw=>?_⟩
   replace hw:w.heap[Ac]? = some (Obj.cells #[Value.int .i64 0,Value.int .i64 0,Value.int .i64 0] 48):=hw
   have z0:w.cell? ⟨Ac,0,none⟩=some (Value.int .i64 0):=zA hw
   have y0:w.frozen? ⟨Ac,0,none⟩=false:=zD hw
   have z1:w.cell? ⟨Ac,1,none⟩=some (Value.int .i64 0):=zA hw
   have y1:w.frozen? ⟨Ac,1,none⟩=false:=zD hw
   have z2:w.cell? ⟨Ac,2,none⟩=some (Value.int .i64 0):=zA hw
   have y2:w.frozen? ⟨Ac,2,none⟩=false:=zD hw
   refine ⟨_,?_,(Wrote.set (i:=2) (Wrote.set (i:=1) (Wrote.set (i:=0) (Wrote.refl hw) (Value.int .i64 U0)) (Value.int .i64 U1)) (Value.int .i64 U2))⟩
   go_simp
 · refine ⟨_,rfl,rfl,rfl,fun cs b h=>(by cases h),fun w hw=>?_⟩
   replace hw:w.heap[Ad]? = some (Obj.cells #[Value.int .i64 0,Value.int .i64 0,Value.int .i64 0] 48):=hw
   have z0:w.cell? ⟨Ad,0,none⟩=some (Value.int .i64 0):=zA hw
   have y0:w.frozen? ⟨Ad,0,none⟩=false:=zD hw
   have z1:w.cell? ⟨Ad,1,none⟩=some (Value.int .i64 0):=zA hw
   have y1:w.frozen? ⟨Ad,1,none⟩=false:=zD hw
   have z2:w.cell? ⟨Ad,2,none⟩=some (Value.int .i64 0):=zA hw
   have y2:w.frozen? ⟨Ad,2,none⟩=false:=zD hw
   refine ⟨_,?_,(Wrote.set (i:=2) (Wrote.set (i:=1) (Wrote.set (i:=0) (Wrote.refl hw) (Value.int .i64 V0)) (Value.int .i64 V1)) (Value.int .i64 V2))⟩
   go_simp
 intro w1 hk m0 m1 Ab Aa _
 clear Ae Af Ag Ah Ai Aj Ak Al
 replace a0:=zB hk a0
 replace a1:=zB hk a1
 obtain ⟨Ae,Af,Ag,Ah⟩:=ce4 a0
 obtain ⟨Ai,Aj,Ak,Al⟩:=ce4 a1
 replace hb:=hb.trans (hk.mono hb.size)
 clear hk
 replace Ab:w1.heap[Ac]? = some (Obj.cells #[Value.int .i64 U0,Value.int .i64 U1,Value.int .i64 U2] 48):=Ab
 have Ap:w1.cell? ⟨Ac,0,none⟩=some (Value.int .i64 U0):=zA Ab
 have Aq:w1.cell? ⟨Ac,1,none⟩=some (Value.int .i64 U1):=zA Ab
 have Ar:w1.cell? ⟨Ac,2,none⟩=some (Value.int .i64 U2):=zA Ab
 replace Aa:w1.heap[Ad]? = some (Obj.cells #[Value.int .i64 V0,Value.int .i64 V1,Value.int .i64 V2] 48):=Aa
 have Am:w1.cell? ⟨Ad,0,none⟩=some (Value.int .i64 V0):=zA Aa
 have An:w1.cell? ⟨Ad,1,none⟩=some (Value.int .i64 V1):=zA Aa
 have Ao:w1.cell? ⟨Ad,2,none⟩=some (Value.int .i64 V2):=zA Aa
 clear A0 A1 A2 A3 A7 A8 A9 Ba As At Au Av Aw Ax Ay Az m0 m1
 go_upto_region 5 with ((first | (go_at_call 30;with_reducible refine (chVB hb R C10).mono ?_) | (go_at_call 26;with_reducible refine (chVB hb R C11).mono ?_));clear hb;rintro e w1 ⟨rfl,hk,hb⟩;clear Ae Af Ag Ah Ai Aj Ak Al Ap Aq Ar Am An Ao;replace a0:=zB hk a0;replace a1:=zB hk a1;replace Ab:=zB hk Ab;replace Aa:=zB hk Aa;obtain ⟨Ae,Af,Ag,Ah⟩:=ce4 a0;obtain ⟨Ai,Aj,Ak,Al⟩:=ce4 a1;obtain ⟨Ap,Aq,Ar⟩:=ce3 Ab;obtain ⟨Am,An,Ao⟩:=ce3 Aa;clear hk)
 obtain ⟨As,At,Au,Av⟩:=cy4 a0
 obtain ⟨Aw,Ax,Ay,Az⟩:=cy4 a1
 obtain ⟨Bb,Bc,Bd⟩:=cy3 Ab
 obtain ⟨Be,Bf,Bg⟩:=cy3 Aa
 have A4:=rrV C10 R hb
 have A5:=rrV C13 R hb
 have A6:=rrV C14 R hb
 refine wp_region_quiet_below (by first | assumption | kernel_rfl) (by kernel_rfl) ?_
 repeat (quiet_step (first | (with_reducible exact A4.out _ _) | (with_reducible exact A5.out _ _) | (with_reducible exact A6.out _ _)))
 refine wpQuiet_nil ?_
 intro w1 hw'
 obtain ⟨hk,hb⟩:=zQ hb hw'
 clear Ae Af Ag Ah Ai Aj Ak Al Ap Aq Ar Am An Ao
 replace a0:=zB hk a0
 replace a1:=zB hk a1
 replace Ab:=zB hk Ab
 replace Aa:=zB hk Aa
 obtain ⟨Ae,Af,Ag,Ah⟩:=ce4 a0
 obtain ⟨Ai,Aj,Ak,Al⟩:=ce4 a1
 obtain ⟨Ap,Aq,Ar⟩:=ce3 Ab
 obtain ⟨Am,An,Ao⟩:=ce3 Aa
 clear A4 A5 A6 As At Au Av Aw Ax Ay Az Bb Bc Bd Be Bf Bg
 clear hk hw'
 go_wp2_with (first | (go_at_call 33;with_reducible refine (chVB hb R C15).mono ?_;clear hb;rintro e w1 ⟨rfl,hk,hb⟩;clear Ap Aq Ar Am An Ao;replace Ab:=zB hk Ab;replace Aa:=zB hk Aa;obtain ⟨Ap,Aq,Ar⟩:=ce3 Ab;obtain ⟨Am,An,Ao⟩:=ce3 Aa;clear hk) | (go_at_call 33;with_reducible refine (chVB hb R C16).mono ?_;clear hb;rintro e w1 ⟨rfl,hk,hb⟩;clear Am An Ao;replace Aa:=zB hk Aa;obtain ⟨Am,An,Ao⟩:=ce3 Aa;clear hk))
 first | go_ret | go_ret2 | go_ret3
 exact ⟨rfl,hb⟩
theorem ltrends_10c  (i0 i1 i2 j0 j1 j2 X0 X1 X2 Y0 Y1 Y2 U0 U1 U2 V0 V1 V2:Int) (d e N M p1 p2 tu:Int) (s0 s1 s2 t0 t1 t2:ByteArray) (ck:CV 12 #[] (.bool true)) (ca:CV 29 #[.agg #[.int .i8 i0,.int .i8 i1,.int .i8 i2,.int .u8 d]] (.agg #[.int .i64 X0,.int .i64 X1,.int .i64 X2])) (za:CV 28 #[.agg #[.int .i64 X0,.int .i64 X1,.int .i64 X2]] (.bool false)) (cb:CV 29 #[.agg #[.int .i8 j0,.int .i8 j1,.int .i8 j2,.int .u8 e]] (.agg #[.int .i64 Y0,.int .i64 Y1,.int .i64 Y2])) (zb:CV 28 #[.agg #[.int .i64 Y0,.int .i64 Y1,.int .i64 Y2]] (.bool false)) (ma:CV 30 #[.agg #[.int .i8 i0,.int .i8 i1,.int .i8 i2,.int .u8 d]] (.agg #[.string s0,.string s1,.string s2])) (mb:CV 30 #[.agg #[.int .i8 j0,.int .i8 j1,.int .i8 j2,.int .u8 e]] (.agg #[.string t0,.string t1,.string t2])) (da:CV 32 #[.agg #[.int .i64 X0,.int .i64 X1,.int .i64 X2]] (.agg #[.int .i64 U0,.int .i64 U1,.int .i64 U2])) (db:CV 32 #[.agg #[.int .i64 Y0,.int .i64 Y1,.int .i64 Y2]] (.agg #[.int .i64 V0,.int .i64 V1,.int .i64 V2])) (tr:CV 26 #[.agg #[.string s0,.string s1,.string s2]] (.tuple #[.int .i64 N,.int .i64 0])) (ct:CV 17 #[.agg #[.string s0,.string s1,.string s2],.agg #[.string t0,.string t1,.string t2]] (.tuple #[.int .i64 1,.int .i64 0])) (ou:CV 33 #[.int .i64 U0,.int .i64 U1] (.int .i64 N)) (ov:CV 33 #[.int .i64 V0,.int .i64 V1] (.int .i64 M)) (WM0:IntKind.i64.wrap (U0*V1)=p1) (WM1:IntKind.i64.wrap (U1*V0)=p2) (WM2:IntKind.i64.wrap (p1 - p2)=tu) (WC0:(U0 == 0)=true) (WC1:(U1 == 0)=false) (WC2:(V0 == 0)=false) (WC3:decide (N < M)=false) (WC4:(N == M)=false) (WC5:decide (M < N)=true) (w:World) (R:EnvV w) :
   Calls Tryz.prog 5 #[.agg #[.int .i8 i0,.int .i8 i1,.int .i8 i2,.int .u8 d],.agg #[.int .i8 j0,.int .i8 j1,.int .i8 j2,.int .u8 e]] w (Ret w (.bool true)):=by
 have c1:=ck
 have c2:=ca
 have c3:=za
 have c4:=cb
 have c5:=zb
 have c7:=da
 have c9:=db
 have c10:=ma
 have c11:=tr
 have c13:=mb
 have c14:=ct
 have c15:=ou
 have c16:=ov
 have gm0:IntKind.i64.wrap (U0*V1)=p1:=WM0
 have gm1:IntKind.i64.wrap (U1*V0)=p2:=WM1
 have gm2:IntKind.i64.wrap (p1 - p2)=tu:=WM2
 have gc0:(U0 == 0)=true:=WC0
 have gc1:(U1 == 0)=false:=WC1
 have gc2:(V0 == 0)=false:=WC2
 have gc3:decide (N < M)=false:=WC3
 have gc4:(N == M)=false:=WC4
 have gc5:decide (M < N)=true:=WC5
 have C1:=Lib.hid c1
 have C2:=Lib.hid c2
 have C3:=Lib.hid c3
 have C4:=Lib.hid c4
 have C5:=Lib.hid c5
 have C7:=Lib.hid c7
 have C9:=Lib.hid c9
 have C10:=Lib.hid c10
 have C11:=Lib.hid c11
 have C13:=Lib.hid c13
 have C14:=Lib.hid c14
 have C15:=Lib.hid c15
 have C16:=Lib.hid c16
 clear c1 c2 c3 c4 c5 c7 c9 c10 c11 c13 c14 c15 c16 ck ca za cb zb ma mb da db tr ct ou ov WM0 WM1 WM2 WC0 WC1 WC2 WC3 WC4 WC5
 have hb:=Below.refl w.heap.size w
 go_enter Tryz.func5,Tryz.ntmps5
 go_upto_region 1 with fail
 refine wp_alloc2 (fun w1 a0 a1 hk=>?_)
 replace hb:=hb.trans (hk.mono hb.size)
 clear hk
 obtain ⟨Ae,Af,Ag,Ah⟩:=ce4 a0
 obtain ⟨Ai,Aj,Ak,Al⟩:=ce4 a1
 go_upto_region 3 with ((first | (go_at_call 12;with_reducible refine (chVB hb R C1).mono ?_) | (go_at_call 29;first | with_reducible refine (chVB hb R C2).mono ?_ | with_reducible refine (chVB hb R C4).mono ?_) | (go_at_call 28;first | with_reducible refine (chVB hb R C3).mono ?_ | with_reducible refine (chVB hb R C5).mono ?_));clear hb;rintro e w1 ⟨rfl,hk,hb⟩;clear Ae Af Ag Ah Ai Aj Ak Al;replace a0:=zB hk a0;replace a1:=zB hk a1;obtain ⟨Ae,Af,Ag,Ah⟩:=ce4 a0;obtain ⟨Ai,Aj,Ak,Al⟩:=ce4 a1;clear hk)
 obtain ⟨As,At,Au,Av⟩:=cy4 a0
 obtain ⟨Aw,Ax,Ay,Az⟩:=cy4 a1
 have A7:=rrV C2 R hb
 have A8:=rrV C7 R hb
 have A9:=rrV C4 R hb
 have Ba:=rrV C9 R hb
 have A0:=qqV C2 R hb
 have A1:=qqV C7 R hb
 have A2:=qqV C4 R hb
 have A3:=qqV C9 R hb
 refine wp_free2 6 0 (fun i=>if i=6 then Obj.cells #[Value.int .i64 0,Value.int .i64 0,Value.int .i64 0] 48 else if i=7 then Obj.cells #[Value.int .i64 0,Value.int .i64 0,Value.int .i64 0] 48 else Obj.cells #[] 0) (fun i=>if i=6 then Obj.cells #[Value.int .i64 U0,Value.int .i64 U1,Value.int .i64 U2] 48 else if i=7 then Obj.cells #[Value.int .i64 V0,Value.int .i64 V1,Value.int .i64 V2] 48 else Obj.cells #[] 0) (some 5) (some 6) (by first | assumption | kernel_rfl) (by kernel_rfl) ?lay rfl rfl ?_
 case lay =>
   intro i h1 h2
   obtain rfl | rfl:i=6∨i=7:=by omega
   all_goals exact ⟨_,rfl,rfl,fun a w=>(by first | (go_simp;done) | (go_simp;rfl))⟩
 simp only [List.take_succ_cons,List.take_zero]
 repeat (refine wpB_step (fun K hK=>?_);go_simp;first | (refine hK _ ?_;clear hK K) | (apply Exists.intro;refine ⟨fun _=>?_,hK _ ?_⟩;(first | (with_reducible exact A0.out _ _) | (with_reducible exact A1.out _ _) | (with_reducible exact A2.out _ _) | (with_reducible exact A3.out _ _));clear hK K))
 refine wpB_nil ?_
 intro Ac Ad
 refine ⟨?_,?_,?_⟩
 · refine ⟨_,rfl,rfl,rfl,fun cs b h=>(by cases h),fun w hw=>?_⟩
   replace hw:w.heap[Ac]? = some (Obj.cells #[Value.int .i64 0,Value.int .i64 0,Value.int .i64 0] 48):=hw
   have z0:w.cell? ⟨Ac,0,none⟩=some (Value.int .i64 0):=zA hw
   have y0:w.frozen? ⟨Ac,0,none⟩=false:=zD hw
   have z1:w.cell? ⟨Ac,1,none⟩=some (Value.int .i64 0):=zA hw
   have y1:w.frozen? ⟨Ac,1,none⟩=false:=zD hw
   have z2:w.cell? ⟨Ac,2,none⟩=some (Value.int .i64 0):=zA hw
   have y2:w.frozen? ⟨Ac,2,none⟩=false:=zD hw
   refine ⟨_,?_,(Wrote.set (i:=2) (Wrote.set (i:=1) (Wrote.set (i:=0) (Wrote.refl hw) (Value.int .i64 U0)) (Value.int .i64 U1)) (Value.int .i64 U2))⟩
   go_simp
 · refine ⟨_,rfl,rfl,rfl,fun cs b h=>(by cases h),fun w hw=>?_⟩
   replace hw:w.heap[Ad]? = some (Obj.cells #[Value.int .i64 0,Value.int .i64 0,Value.int .i64 0] 48):=hw
   have z0:w.cell? ⟨Ad,0,none⟩=some (Value.int .i64 0):=zA hw
   have y0:w.frozen? ⟨Ad,0,none⟩=false:=zD hw
   have z1:w.cell? ⟨Ad,1,none⟩=some (Value.int .i64 0):=zA hw
   have y1:w.frozen? ⟨Ad,1,none⟩=false:=zD hw
   have z2:w.cell? ⟨Ad,2,none⟩=some (Value.int .i64 0):=zA hw
   have y2:w.frozen? ⟨Ad,2,none⟩=false:=zD hw
   refine ⟨_,?_,(Wrote.set (i:=2) (Wrote.set (i:=1) (Wrote.set (i:=0) (Wrote.refl hw) (Value.int .i64 V0)) (Value.int .i64 V1)) (Value.int .i64 V2))⟩
   go_simp
 intro w1 hk m0 m1 Ab Aa _
 clear Ae Af Ag Ah Ai Aj Ak Al
 replace a0:=zB hk a0
 replace a1:=zB hk a1
 obtain ⟨Ae,Af,Ag,Ah⟩:=ce4 a0
 obtain ⟨Ai,Aj,Ak,Al⟩:=ce4 a1
 replace hb:=hb.trans (hk.mono hb.size)
 clear hk
 replace Ab:w1.heap[Ac]? = some (Obj.cells #[Value.int .i64 U0,Value.int .i64 U1,Value.int .i64 U2] 48):=Ab
 have Ap:w1.cell? ⟨Ac,0,none⟩=some (Value.int .i64 U0):=zA Ab
 have Aq:w1.cell? ⟨Ac,1,none⟩=some (Value.int .i64 U1):=zA Ab
 have Ar:w1.cell? ⟨Ac,2,none⟩=some (Value.int .i64 U2):=zA Ab
 replace Aa:w1.heap[Ad]? = some (Obj.cells #[Value.int .i64 V0,Value.int .i64 V1,Value.int .i64 V2] 48):=Aa
 have Am:w1.cell? ⟨Ad,0,none⟩=some (Value.int .i64 V0):=zA Aa
 have An:w1.cell? ⟨Ad,1,none⟩=some (Value.int .i64 V1):=zA Aa
 have Ao:w1.cell? ⟨Ad,2,none⟩=some (Value.int .i64 V2):=zA Aa
 clear A0 A1 A2 A3 A7 A8 A9 Ba As At Au Av Aw Ax Ay Az m0 m1
 go_upto_region 5 with ((first | (go_at_call 30;with_reducible refine (chVB hb R C10).mono ?_) | (go_at_call 26;with_reducible refine (chVB hb R C11).mono ?_));clear hb;rintro e w1 ⟨rfl,hk,hb⟩;clear Ae Af Ag Ah Ai Aj Ak Al Ap Aq Ar Am An Ao;replace a0:=zB hk a0;replace a1:=zB hk a1;replace Ab:=zB hk Ab;replace Aa:=zB hk Aa;obtain ⟨Ae,Af,Ag,Ah⟩:=ce4 a0;obtain ⟨Ai,Aj,Ak,Al⟩:=ce4 a1;obtain ⟨Ap,Aq,Ar⟩:=ce3 Ab;obtain ⟨Am,An,Ao⟩:=ce3 Aa;clear hk)
 obtain ⟨As,At,Au,Av⟩:=cy4 a0
 obtain ⟨Aw,Ax,Ay,Az⟩:=cy4 a1
 obtain ⟨Bb,Bc,Bd⟩:=cy3 Ab
 obtain ⟨Be,Bf,Bg⟩:=cy3 Aa
 have A4:=rrV C10 R hb
 have A5:=rrV C13 R hb
 have A6:=rrV C14 R hb
 refine wp_region_quiet_below (by first | assumption | kernel_rfl) (by kernel_rfl) ?_
 repeat (quiet_step (first | (with_reducible exact A4.out _ _) | (with_reducible exact A5.out _ _) | (with_reducible exact A6.out _ _)))
 refine wpQuiet_nil ?_
 intro w1 hw'
 obtain ⟨hk,hb⟩:=zQ hb hw'
 clear Ae Af Ag Ah Ai Aj Ak Al Ap Aq Ar Am An Ao
 replace a0:=zB hk a0
 replace a1:=zB hk a1
 replace Ab:=zB hk Ab
 replace Aa:=zB hk Aa
 obtain ⟨Ae,Af,Ag,Ah⟩:=ce4 a0
 obtain ⟨Ai,Aj,Ak,Al⟩:=ce4 a1
 obtain ⟨Ap,Aq,Ar⟩:=ce3 Ab
 obtain ⟨Am,An,Ao⟩:=ce3 Aa
 clear A4 A5 A6 As At Au Av Aw Ax Ay Az Bb Bc Bd Be Bf Bg
 clear hk hw'
 go_wp2_with (first | (go_at_call 33;with_reducible refine (chVB hb R C15).mono ?_;clear hb;rintro e w1 ⟨rfl,hk,hb⟩;clear Ap Aq Ar Am An Ao;replace Ab:=zB hk Ab;replace Aa:=zB hk Aa;obtain ⟨Ap,Aq,Ar⟩:=ce3 Ab;obtain ⟨Am,An,Ao⟩:=ce3 Aa;clear hk) | (go_at_call 33;with_reducible refine (chVB hb R C16).mono ?_;clear hb;rintro e w1 ⟨rfl,hk,hb⟩;clear Am An Ao;replace Aa:=zB hk Aa;obtain ⟨Am,An,Ao⟩:=ce3 Aa;clear hk))
 first | go_ret | go_ret2 | go_ret3
 exact ⟨rfl,hb⟩
theorem ltrends_10d  (i0 i1 i2 j0 j1 j2 X0 X1 X2 Y0 Y1 Y2 U0 U1 U2 V0 V1 V2:Int) (d e N p1 p2 tu:Int) (s0 s1 s2 t0 t1 t2:ByteArray) (ck:CV 12 #[] (.bool true)) (ca:CV 29 #[.agg #[.int .i8 i0,.int .i8 i1,.int .i8 i2,.int .u8 d]] (.agg #[.int .i64 X0,.int .i64 X1,.int .i64 X2])) (za:CV 28 #[.agg #[.int .i64 X0,.int .i64 X1,.int .i64 X2]] (.bool false)) (cb:CV 29 #[.agg #[.int .i8 j0,.int .i8 j1,.int .i8 j2,.int .u8 e]] (.agg #[.int .i64 Y0,.int .i64 Y1,.int .i64 Y2])) (zb:CV 28 #[.agg #[.int .i64 Y0,.int .i64 Y1,.int .i64 Y2]] (.bool false)) (ma:CV 30 #[.agg #[.int .i8 i0,.int .i8 i1,.int .i8 i2,.int .u8 d]] (.agg #[.string s0,.string s1,.string s2])) (mb:CV 30 #[.agg #[.int .i8 j0,.int .i8 j1,.int .i8 j2,.int .u8 e]] (.agg #[.string t0,.string t1,.string t2])) (da:CV 32 #[.agg #[.int .i64 X0,.int .i64 X1,.int .i64 X2]] (.agg #[.int .i64 U0,.int .i64 U1,.int .i64 U2])) (db:CV 32 #[.agg #[.int .i64 Y0,.int .i64 Y1,.int .i64 Y2]] (.agg #[.int .i64 V0,.int .i64 V1,.int .i64 V2])) (tr:CV 26 #[.agg #[.string s0,.string s1,.string s2]] (.tuple #[.int .i64 N,.int .i64 0])) (ct:CV 17 #[.agg #[.string s0,.string s1,.string s2],.agg #[.string t0,.string t1,.string t2]] (.tuple #[.int .i64 1,.int .i64 0])) (ou:CV 33 #[.int .i64 U0,.int .i64 U1] (.int .i64 N)) (ov:CV 33 #[.int .i64 V0,.int .i64 V1] (.int .i64 N)) (WM0:IntKind.i64.wrap (U0*V1)=p1) (WM1:IntKind.i64.wrap (U1*V0)=p2) (WM2:IntKind.i64.wrap (p1 - p2)=tu) (WC0:(U0 == 0)=true) (WC1:(U1 == 0)=false) (WC2:(V0 == 0)=false) (WC3:decide (N < N)=false) (WC4:(N == N)=true) (WC5:decide (tu < 0)=false) (WC6:decide (N < N)=false) (WC7:decide (0 < tu)=true) (w:World) (R:EnvV w) :
   Calls Tryz.prog 5 #[.agg #[.int .i8 i0,.int .i8 i1,.int .i8 i2,.int .u8 d],.agg #[.int .i8 j0,.int .i8 j1,.int .i8 j2,.int .u8 e]] w (Ret w (.bool true)):=by
 have c1:=ck
 have c2:=ca
 have c3:=za
 have c4:=cb
 have c5:=zb
 have c7:=da
 have c9:=db
 have c10:=ma
 have c11:=tr
 have c13:=mb
 have c14:=ct
 have c15:=ou
 have c16:=ov
 have gm0:IntKind.i64.wrap (U0*V1)=p1:=WM0
 have gm1:IntKind.i64.wrap (U1*V0)=p2:=WM1
 have gm2:IntKind.i64.wrap (p1 - p2)=tu:=WM2
 have gc0:(U0 == 0)=true:=WC0
 have gc1:(U1 == 0)=false:=WC1
 have gc2:(V0 == 0)=false:=WC2
 have gc3:decide (N < N)=false:=WC3
 have gc4:(N == N)=true:=WC4
 have gc5:decide (tu < 0)=false:=WC5
 have gc6:decide (N < N)=false:=WC6
 have gc7:decide (0 < tu)=true:=WC7
 have C1:=Lib.hid c1
 have C2:=Lib.hid c2
 have C3:=Lib.hid c3
 have C4:=Lib.hid c4
 have C5:=Lib.hid c5
 have C7:=Lib.hid c7
 have C9:=Lib.hid c9
 have C10:=Lib.hid c10
 have C11:=Lib.hid c11
 have C13:=Lib.hid c13
 have C14:=Lib.hid c14
 have C15:=Lib.hid c15
 have C16:=Lib.hid c16
 clear c1 c2 c3 c4 c5 c7 c9 c10 c11 c13 c14 c15 c16 ck ca za cb zb ma mb da db tr ct ou ov WM0 WM1 WM2 WC0 WC1 WC2 WC3 WC4 WC5 WC6 WC7
 have hb:=Below.refl w.heap.size w
 go_enter Tryz.func5,Tryz.ntmps5
 go_upto_region 1 with fail
 refine wp_alloc2 (fun w1 a0 a1 hk=>?_)
 replace hb:=hb.trans (hk.mono hb.size)
 clear hk
 obtain ⟨Ae,Af,Ag,Ah⟩:=ce4 a0
 obtain ⟨Ai,Aj,Ak,Al⟩:=ce4 a1
 go_upto_region 3 with ((first | (go_at_call 12;with_reducible refine (chVB hb R C1).mono ?_) | (go_at_call 29;first | with_reducible refine (chVB hb R C2).mono ?_ | with_reducible refine (chVB hb R C4).mono ?_) | (go_at_call 28;first | with_reducible refine (chVB hb R C3).mono ?_ | with_reducible refine (chVB hb R C5).mono ?_));clear hb;rintro e w1 ⟨rfl,hk,hb⟩;clear Ae Af Ag Ah Ai Aj Ak Al;replace a0:=zB hk a0;replace a1:=zB hk a1;obtain ⟨Ae,Af,Ag,Ah⟩:=ce4 a0;obtain ⟨Ai,Aj,Ak,Al⟩:=ce4 a1;clear hk)
 obtain ⟨As,At,Au,Av⟩:=cy4 a0
 obtain ⟨Aw,Ax,Ay,Az⟩:=cy4 a1
 have A7:=rrV C2 R hb
 have A8:=rrV C7 R hb
 have A9:=rrV C4 R hb
 have Ba:=rrV C9 R hb
 have A0:=qqV C2 R hb
 have A1:=qqV C7 R hb
 have A2:=qqV C4 R hb
 have A3:=qqV C9 R hb
 refine wp_free2 6 0 (fun i=>if i=6 then Obj.cells #[Value.int .i64 0,Value.int .i64 0,Value.int .i64 0] 48 else if i=7 then Obj.cells #[Value.int .i64 0,Value.int .i64 0,Value.int .i64 0] 48 else Obj.cells #[] 0) (fun i=>if i=6 then Obj.cells #[Value.int .i64 U0,Value.int .i64 U1,Value.int .i64 U2] 48 else if i=7 then Obj.cells #[Value.int .i64 V0,Value.int .i64 V1,Value.int .i64 V2] 48 else Obj.cells #[] 0) (some 5) (some 6) (by first | assumption | kernel_rfl) (by kernel_rfl) ?lay rfl rfl ?_
 case lay =>
   intro i h1 h2
   obtain rfl | rfl:i=6∨i=7:=by omega
   all_goals exact ⟨_,rfl,rfl,fun a w=>(by first | (go_simp;done) | (go_simp;rfl))⟩
 simp only [List.take_succ_cons,List.take_zero]
 repeat (refine wpB_step (fun K hK=>?_);go_simp;first | (refine hK _ ?_;clear hK K) | (apply Exists.intro;refine ⟨fun _=>?_,hK _ ?_⟩;(first | (with_reducible exact A0.out _ _) | (with_reducible exact A1.out _ _) | (with_reducible exact A2.out _ _) | (with_reducible exact A3.out _ _));clear hK K))
 refine wpB_nil ?_
 intro Ac Ad
 refine ⟨?_,?_,?_⟩
 · refine ⟨_,rfl,rfl,rfl,fun cs b h=>(by cases h),fun w hw=>?_⟩
   replace hw:w.heap[Ac]? = some (Obj.cells #[Value.int .i64 0,Value.int .i64 0,Value.int .i64 0] 48):=hw
   have z0:w.cell? ⟨Ac,0,none⟩=some (Value.int .i64 0):=zA hw
   have y0:w.frozen? ⟨Ac,0,none⟩=false:=zD hw
   have z1:w.cell? ⟨Ac,1,none⟩=some (Value.int .i64 0):=zA hw
   have y1:w.frozen? ⟨Ac,1,none⟩=false:=zD hw
   have z2:w.cell? ⟨Ac,2,none⟩=some (Value.int .i64 0):=zA hw
   have y2:w.frozen? ⟨Ac,2,none⟩=false:=zD hw
   refine ⟨_,?_,(Wrote.set (i:=2) (Wrote.set (i:=1) (Wrote.set (i:=0) (Wrote.refl hw) (Value.int .i64 U0)) (Value.int .i64 U1)) (Value.int .i64 U2))⟩
   go_simp
 · refine ⟨_,rfl,rfl,rfl,fun cs b h=>(by cases h),fun w hw=>?_⟩
   replace hw:w.heap[Ad]? = some (Obj.cells #[Value.int .i64 0,Value.int .i64 0,Value.int .i64 0] 48):=hw
   have z0:w.cell? ⟨Ad,0,none⟩=some (Value.int .i64 0):=zA hw
   have y0:w.frozen? ⟨Ad,0,none⟩=false:=zD hw
   have z1:w.cell? ⟨Ad,1,none⟩=some (Value.int .i64 0):=zA hw
   have y1:w.frozen? ⟨Ad,1,none⟩=false:=zD hw
   have z2:w.cell? ⟨Ad,2,none⟩=some (Value.int .i64 0):=zA hw
   have y2:w.frozen? ⟨Ad,2,none⟩=false:=zD hw
   refine ⟨_,?_,(Wrote.set (i:=2) (Wrote.set (i:=1) (Wrote.set (i:=0) (Wrote.refl hw) (Value.int .i64 V0)) (Value.int .i64 V1)) (Value.int .i64 V2))⟩
   go_simp
 intro w1 hk m0 m1 Ab Aa _
 clear Ae Af Ag Ah Ai Aj Ak Al
 replace a0:=zB hk a0
 replace a1:=zB hk a1
 obtain ⟨Ae,Af,Ag,Ah⟩:=ce4 a0
 obtain ⟨Ai,Aj,Ak,Al⟩:=ce4 a1
 replace hb:=hb.trans (hk.mono hb.size)
 clear hk
 replace Ab:w1.heap[Ac]? = some (Obj.cells #[Value.int .i64 U0,Value.int .i64 U1,Value.int .i64 U2] 48):=Ab
 have Ap:w1.cell? ⟨Ac,0,none⟩=some (Value.int .i64 U0):=zA Ab
 have Aq:w1.cell? ⟨Ac,1,none⟩=some (Value.int .i64 U1):=zA Ab
 have Ar:w1.cell? ⟨Ac,2,none⟩=some (Value.int .i64 U2):=zA Ab
 replace Aa:w1.heap[Ad]? = some (Obj.cells #[Value.int .i64 V0,Value.int .i64 V1,Value.int .i64 V2] 48):=Aa
 have Am:w1.cell? ⟨Ad,0,none⟩=some (Value.int .i64 V0):=zA Aa
 have An:w1.cell? ⟨Ad,1,none⟩=some (Value.int .i64 V1):=zA Aa
 have Ao:w1.cell? ⟨Ad,2,none⟩=some (Value.int .i64 V2):=zA Aa
 clear A0 A1 A2 A3 A7 A8 A9 Ba As At Au Av Aw Ax Ay Az m0 m1
 go_upto_region 5 with ((first | (go_at_call 30;with_reducible refine (chVB hb R C10).mono ?_) | (go_at_call 26;with_reducible refine (chVB hb R C11).mono ?_));clear hb;rintro e w1 ⟨rfl,hk,hb⟩;clear Ae Af Ag Ah Ai Aj Ak Al Ap Aq Ar Am An Ao;replace a0:=zB hk a0;replace a1:=zB hk a1;replace Ab:=zB hk Ab;replace Aa:=zB hk Aa;obtain ⟨Ae,Af,Ag,Ah⟩:=ce4 a0;obtain ⟨Ai,Aj,Ak,Al⟩:=ce4 a1;obtain ⟨Ap,Aq,Ar⟩:=ce3 Ab;obtain ⟨Am,An,Ao⟩:=ce3 Aa;clear hk)
 obtain ⟨As,At,Au,Av⟩:=cy4 a0
 obtain ⟨Aw,Ax,Ay,Az⟩:=cy4 a1
 obtain ⟨Bb,Bc,Bd⟩:=cy3 Ab
 obtain ⟨Be,Bf,Bg⟩:=cy3 Aa
 have A4:=rrV C10 R hb
 have A5:=rrV C13 R hb
 have A6:=rrV C14 R hb
 refine wp_region_quiet_below (by first | assumption | kernel_rfl) (by kernel_rfl) ?_
 repeat (quiet_step (first | (with_reducible exact A4.out _ _) | (with_reducible exact A5.out _ _) | (with_reducible exact A6.out _ _)))
 refine wpQuiet_nil ?_
 intro w1 hw'
 obtain ⟨hk,hb⟩:=zQ hb hw'
 clear Ae Af Ag Ah Ai Aj Ak Al Ap Aq Ar Am An Ao
 replace a0:=zB hk a0
 replace a1:=zB hk a1
 replace Ab:=zB hk Ab
 replace Aa:=zB hk Aa
 obtain ⟨Ae,Af,Ag,Ah⟩:=ce4 a0
 obtain ⟨Ai,Aj,Ak,Al⟩:=ce4 a1
 obtain ⟨Ap,Aq,Ar⟩:=ce3 Ab
 obtain ⟨Am,An,Ao⟩:=ce3 Aa
 clear A4 A5 A6 As At Au Av Aw Ax Ay Az Bb Bc Bd Be Bf Bg
 clear hk hw'
 go_wp2_with (first | (go_at_call 33;with_reducible refine (chVB hb R C15).mono ?_;clear hb;rintro e w1 ⟨rfl,hk,hb⟩;clear Ap Aq Ar Am An Ao;replace Ab:=zB hk Ab;replace Aa:=zB hk Aa;obtain ⟨Ap,Aq,Ar⟩:=ce3 Ab;obtain ⟨Am,An,Ao⟩:=ce3 Aa;clear hk) | (go_at_call 33;with_reducible refine (chVB hb R C16).mono ?_;clear hb;rintro e w1 ⟨rfl,hk,hb⟩;clear Am An Ao;replace Aa:=zB hk Aa;obtain ⟨Am,An,Ao⟩:=ce3 Aa;clear hk))
 first | go_ret | go_ret2 | go_ret3
 exact ⟨rfl,hb⟩
theorem ltrends_10e  (i0 i1 i2 j0 j1 j2 X0 X1 X2 Y0 Y1 Y2 U0 U1 U2 V0 V1 V2:Int) (d e N p1 p2 tu:Int) (s0 s1 s2 t0 t1 t2:ByteArray) (ck:CV 12 #[] (.bool true)) (ca:CV 29 #[.agg #[.int .i8 i0,.int .i8 i1,.int .i8 i2,.int .u8 d]] (.agg #[.int .i64 X0,.int .i64 X1,.int .i64 X2])) (za:CV 28 #[.agg #[.int .i64 X0,.int .i64 X1,.int .i64 X2]] (.bool false)) (cb:CV 29 #[.agg #[.int .i8 j0,.int .i8 j1,.int .i8 j2,.int .u8 e]] (.agg #[.int .i64 Y0,.int .i64 Y1,.int .i64 Y2])) (zb:CV 28 #[.agg #[.int .i64 Y0,.int .i64 Y1,.int .i64 Y2]] (.bool false)) (ma:CV 30 #[.agg #[.int .i8 i0,.int .i8 i1,.int .i8 i2,.int .u8 d]] (.agg #[.string s0,.string s1,.string s2])) (mb:CV 30 #[.agg #[.int .i8 j0,.int .i8 j1,.int .i8 j2,.int .u8 e]] (.agg #[.string t0,.string t1,.string t2])) (da:CV 32 #[.agg #[.int .i64 X0,.int .i64 X1,.int .i64 X2]] (.agg #[.int .i64 U0,.int .i64 U1,.int .i64 U2])) (db:CV 32 #[.agg #[.int .i64 Y0,.int .i64 Y1,.int .i64 Y2]] (.agg #[.int .i64 V0,.int .i64 V1,.int .i64 V2])) (tr:CV 26 #[.agg #[.string s0,.string s1,.string s2]] (.tuple #[.int .i64 N,.int .i64 0])) (ct:CV 17 #[.agg #[.string s0,.string s1,.string s2],.agg #[.string t0,.string t1,.string t2]] (.tuple #[.int .i64 0,.int .i64 0])) (ou:CV 33 #[.int .i64 U0,.int .i64 U1] (.int .i64 N)) (ov:CV 33 #[.int .i64 V0,.int .i64 V1] (.int .i64 N)) (WM0:IntKind.i64.wrap (U0*V1)=p1) (WM1:IntKind.i64.wrap (U1*V0)=p2) (WM2:IntKind.i64.wrap (p1 - p2)=tu) (WC0:(U0 == 0)=true) (WC1:(U1 == 0)=false) (WC2:(V0 == 0)=false) (WC3:decide (N < N)=false) (WC4:(N == N)=true) (WC5:decide (tu < 0)=false) (WC6:decide (N < N)=false) (WC7:decide (0 < tu)=false) (w:World) (R:EnvV w) :
   Calls Tryz.prog 5 #[.agg #[.int .i8 i0,.int .i8 i1,.int .i8 i2,.int .u8 d],.agg #[.int .i8 j0,.int .i8 j1,.int .i8 j2,.int .u8 e]] w (Ret w (.bool true)):=by
 have c1:=ck
 have c2:=ca
 have c3:=za
 have c4:=cb
 have c5:=zb
 have c7:=da
 have c9:=db
 have c10:=ma
 have c11:=tr
 have c13:=mb
 have c14:=ct
 have c15:=ou
 have c16:=ov
 have gm0:IntKind.i64.wrap (U0*V1)=p1:=WM0
 have gm1:IntKind.i64.wrap (U1*V0)=p2:=WM1
 have gm2:IntKind.i64.wrap (p1 - p2)=tu:=WM2
 have gc0:(U0 == 0)=true:=WC0
 have gc1:(U1 == 0)=false:=WC1
 have gc2:(V0 == 0)=false:=WC2
 have gc3:decide (N < N)=false:=WC3
 have gc4:(N == N)=true:=WC4
 have gc5:decide (tu < 0)=false:=WC5
 have gc6:decide (N < N)=false:=WC6
 have gc7:decide (0 < tu)=false:=WC7
 have C1:=Lib.hid c1
 have C2:=Lib.hid c2
 have C3:=Lib.hid c3
 have C4:=Lib.hid c4
 have C5:=Lib.hid c5
 have C7:=Lib.hid c7
 have C9:=Lib.hid c9
 have C10:=Lib.hid c10
 have C11:=Lib.hid c11
 have C13:=Lib.hid c13
 have C14:=Lib.hid c14
 have C15:=Lib.hid c15
 have C16:=Lib.hid c16
 clear c1 c2 c3 c4 c5 c7 c9 c10 c11 c13 c14 c15 c16 ck ca za cb zb ma mb da db tr ct ou ov WM0 WM1 WM2 WC0 WC1 WC2 WC3 WC4 WC5 WC6 WC7
 have hb:=Below.refl w.heap.size w
 go_enter Tryz.func5,Tryz.ntmps5
 go_upto_region 1 with fail
 refine wp_alloc2 (fun w1 a0 a1 hk=>?_)
 replace hb:=hb.trans (hk.mono hb.size)
 clear hk
 obtain ⟨Ae,Af,Ag,Ah⟩:=ce4 a0
 obtain ⟨Ai,Aj,Ak,Al⟩:=ce4 a1
 go_upto_region 3 with ((first | (go_at_call 12;with_reducible refine (chVB hb R C1).mono ?_) | (go_at_call 29;first | with_reducible refine (chVB hb R C2).mono ?_ | with_reducible refine (chVB hb R C4).mono ?_) | (go_at_call 28;first | with_reducible refine (chVB hb R C3).mono ?_ | with_reducible refine (chVB hb R C5).mono ?_));clear hb;rintro e w1 ⟨rfl,hk,hb⟩;clear Ae Af Ag Ah Ai Aj Ak Al;replace a0:=zB hk a0;replace a1:=zB hk a1;obtain ⟨Ae,Af,Ag,Ah⟩:=ce4 a0;obtain ⟨Ai,Aj,Ak,Al⟩:=ce4 a1;clear hk)
 obtain ⟨As,At,Au,Av⟩:=cy4 a0
 obtain ⟨Aw,Ax,Ay,Az⟩:=cy4 a1
 have A7:=rrV C2 R hb
 have A8:=rrV C7 R hb
 have A9:=rrV C4 R hb
 have Ba:=rrV C9 R hb
 have A0:=qqV C2 R hb
 have A1:=qqV C7 R hb
 have A2:=qqV C4 R hb
 have A3:=qqV C9 R hb
 refine wp_free2 6 0 (fun i=>if i=6 then Obj.cells #[Value.int .i64 0,Value.int .i64 0,Value.int .i64 0] 48 else if i=7 then Obj.cells #[Value.int .i64 0,Value.int .i64 0,Value.int .i64 0] 48 else Obj.cells #[] 0) (fun i=>if i=6 then Obj.cells #[Value.int .i64 U0,Value.int .i64 U1,Value.int .i64 U2] 48 else if i=7 then Obj.cells #[Value.int .i64 V0,Value.int .i64 V1,Value.int .i64 V2] 48 else Obj.cells #[] 0) (some 5) (some 6) (by first | assumption | kernel_rfl) (by kernel_rfl) ?lay rfl rfl ?_
 case lay =>
   intro i h1 h2
   obtain rfl | rfl:i=6∨i=7:=by omega
   all_goals exact ⟨_,rfl,rfl,fun a w=>(by first | (go_simp;done) | (go_simp;rfl))⟩
 simp only [List.take_succ_cons,List.take_zero]
 repeat (refine wpB_step (fun K hK=>?_);go_simp;first | (refine hK _ ?_;clear hK K) | (apply Exists.intro;refine ⟨fun _=>?_,hK _ ?_⟩;(first | (with_reducible exact A0.out _ _) | (with_reducible exact A1.out _ _) | (with_reducible exact A2.out _ _) | (with_reducible exact A3.out _ _));clear hK K))
 refine wpB_nil ?_
 intro Ac Ad
 refine ⟨?_,?_,?_⟩
 · refine ⟨_,rfl,rfl,rfl,fun cs b h=>(by cases h),fun w hw=>?_⟩
   replace hw:w.heap[Ac]? = some (Obj.cells #[Value.int .i64 0,Value.int .i64 0,Value.int .i64 0] 48):=hw
   have z0:w.cell? ⟨Ac,0,none⟩=some (Value.int .i64 0):=zA hw
   have y0:w.frozen? ⟨Ac,0,none⟩=false:=zD hw
   have z1:w.cell? ⟨Ac,1,none⟩=some (Value.int .i64 0):=zA hw
   have y1:w.frozen? ⟨Ac,1,none⟩=false:=zD hw
   have z2:w.cell? ⟨Ac,2,none⟩=some (Value.int .i64 0):=zA hw
   have y2:w.frozen? ⟨Ac,2,none⟩=false:=zD hw
   refine ⟨_,?_,(Wrote.set (i:=2) (Wrote.set (i:=1) (Wrote.set (i:=0) (Wrote.refl hw) (Value.int .i64 U0)) (Value.int .i64 U1)) (Value.int .i64 U2))⟩
   go_simp
 · refine ⟨_,rfl,rfl,rfl,fun cs b h=>(by cases h),fun w hw=>?_⟩
   replace hw:w.heap[Ad]? = some (Obj.cells #[Value.int .i64 0,Value.int .i64 0,Value.int .i64 0] 48):=hw
   have z0:w.cell? ⟨Ad,0,none⟩=some (Value.int .i64 0):=zA hw
   have y0:w.frozen? ⟨Ad,0,none⟩=false:=zD hw
   have z1:w.cell? ⟨Ad,1,none⟩=some (Value.int .i64 0):=zA hw
   have y1:w.frozen? ⟨Ad,1,none⟩=false:=zD hw
   have z2:w.cell? ⟨Ad,2,none⟩=some (Value.int .i64 0):=zA hw
   have y2:w.frozen? ⟨Ad,2,none⟩=false:=zD hw
   refine ⟨_,?_,(Wrote.set (i:=2) (Wrote.set (i:=1) (Wrote.set (i:=0) (Wrote.refl hw) (Value.int .i64 V0)) (Value.int .i64 V1)) (Value.int .i64 V2))⟩
   go_simp
 intro w1 hk m0 m1 Ab Aa _
 clear Ae Af Ag Ah Ai Aj Ak Al
 replace a0:=zB hk a0
 replace a1:=zB hk a1
 obtain ⟨Ae,Af,Ag,Ah⟩:=ce4 a0
 obtain ⟨Ai,Aj,Ak,Al⟩:=ce4 a1
 replace hb:=hb.trans (hk.mono hb.size)
 clear hk
 replace Ab:w1.heap[Ac]? = some (Obj.cells #[Value.int .i64 U0,Value.int .i64 U1,Value.int .i64 U2] 48):=Ab
 have Ap:w1.cell? ⟨Ac,0,none⟩=some (Value.int .i64 U0):=zA Ab
 have Aq:w1.cell? ⟨Ac,1,none⟩=some (Value.int .i64 U1):=zA Ab
 have Ar:w1.cell? ⟨Ac,2,none⟩=some (Value.int .i64 U2):=zA Ab
 replace Aa:w1.heap[Ad]? = some (Obj.cells #[Value.int .i64 V0,Value.int .i64 V1,Value.int .i64 V2] 48):=Aa
 have Am:w1.cell? ⟨Ad,0,none⟩=some (Value.int .i64 V0):=zA Aa
 have An:w1.cell? ⟨Ad,1,none⟩=some (Value.int .i64 V1):=zA Aa
 have Ao:w1.cell? ⟨Ad,2,none⟩=some (Value.int .i64 V2):=zA Aa
 clear A0 A1 A2 A3 A7 A8 A9 Ba As At Au Av Aw Ax Ay Az m0 m1
 go_upto_region 5 with ((first | (go_at_call 30;with_reducible refine (chVB hb R C10).mono ?_) | (go_at_call 26;with_reducible refine (chVB hb R C11).mono ?_));clear hb;rintro e w1 ⟨rfl,hk,hb⟩;clear Ae Af Ag Ah Ai Aj Ak Al Ap Aq Ar Am An Ao;replace a0:=zB hk a0;replace a1:=zB hk a1;replace Ab:=zB hk Ab;replace Aa:=zB hk Aa;obtain ⟨Ae,Af,Ag,Ah⟩:=ce4 a0;obtain ⟨Ai,Aj,Ak,Al⟩:=ce4 a1;obtain ⟨Ap,Aq,Ar⟩:=ce3 Ab;obtain ⟨Am,An,Ao⟩:=ce3 Aa;clear hk)
 obtain ⟨As,At,Au,Av⟩:=cy4 a0
 obtain ⟨Aw,Ax,Ay,Az⟩:=cy4 a1
 obtain ⟨Bb,Bc,Bd⟩:=cy3 Ab
 obtain ⟨Be,Bf,Bg⟩:=cy3 Aa
 have A4:=rrV C10 R hb
 have A5:=rrV C13 R hb
 have A6:=rrV C14 R hb
 refine wp_region_quiet_below (by first | assumption | kernel_rfl) (by kernel_rfl) ?_
 repeat (quiet_step (first | (with_reducible exact A4.out _ _) | (with_reducible exact A5.out _ _) | (with_reducible exact A6.out _ _)))
 refine wpQuiet_nil ?_
 intro w1 hw'
 obtain ⟨hk,hb⟩:=zQ hb hw'
 clear Ae Af Ag Ah Ai Aj Ak Al Ap Aq Ar Am An Ao
 replace a0:=zB hk a0
 replace a1:=zB hk a1
 replace Ab:=zB hk Ab
 replace Aa:=zB hk Aa
 obtain ⟨Ae,Af,Ag,Ah⟩:=ce4 a0
 obtain ⟨Ai,Aj,Ak,Al⟩:=ce4 a1
 obtain ⟨Ap,Aq,Ar⟩:=ce3 Ab
 obtain ⟨Am,An,Ao⟩:=ce3 Aa
 clear A4 A5 A6 As At Au Av Aw Ax Ay Az Bb Bc Bd Be Bf Bg
 clear hk hw'
 go_wp2_with (first | (go_at_call 33;with_reducible refine (chVB hb R C15).mono ?_;clear hb;rintro e w1 ⟨rfl,hk,hb⟩;clear Ap Aq Ar Am An Ao;replace Ab:=zB hk Ab;replace Aa:=zB hk Aa;obtain ⟨Ap,Aq,Ar⟩:=ce3 Ab;obtain ⟨Am,An,Ao⟩:=ce3 Aa;clear hk) | (go_at_call 33;with_reducible refine (chVB hb R C16).mono ?_;clear hb;rintro e w1 ⟨rfl,hk,hb⟩;clear Am An Ao;replace Aa:=zB hk Aa;obtain ⟨Am,An,Ao⟩:=ce3 Aa;clear hk))
 first | go_ret | go_ret2 | go_ret3
 exact ⟨rfl,hb⟩
theorem ltrends_11a  (i0 i1 i2 j0 j1 j2 X0 X1 X2 Y0 Y1 Y2 U0 U1 U2 V0 V1 V2:Int) (d e N M p1 p2 tu:Int) (s0 s1 s2 t0 t1 t2:ByteArray) (ck:CV 12 #[] (.bool true)) (ca:CV 29 #[.agg #[.int .i8 i0,.int .i8 i1,.int .i8 i2,.int .u8 d]] (.agg #[.int .i64 X0,.int .i64 X1,.int .i64 X2])) (za:CV 28 #[.agg #[.int .i64 X0,.int .i64 X1,.int .i64 X2]] (.bool false)) (cb:CV 29 #[.agg #[.int .i8 j0,.int .i8 j1,.int .i8 j2,.int .u8 e]] (.agg #[.int .i64 Y0,.int .i64 Y1,.int .i64 Y2])) (zb:CV 28 #[.agg #[.int .i64 Y0,.int .i64 Y1,.int .i64 Y2]] (.bool false)) (ma:CV 30 #[.agg #[.int .i8 i0,.int .i8 i1,.int .i8 i2,.int .u8 d]] (.agg #[.string s0,.string s1,.string s2])) (mb:CV 30 #[.agg #[.int .i8 j0,.int .i8 j1,.int .i8 j2,.int .u8 e]] (.agg #[.string t0,.string t1,.string t2])) (da:CV 32 #[.agg #[.int .i64 X0,.int .i64 X1,.int .i64 X2]] (.agg #[.int .i64 U0,.int .i64 U1,.int .i64 U2])) (db:CV 32 #[.agg #[.int .i64 Y0,.int .i64 Y1,.int .i64 Y2]] (.agg #[.int .i64 V0,.int .i64 V1,.int .i64 V2])) (tr:CV 26 #[.agg #[.string s0,.string s1,.string s2]] (.tuple #[.int .i64 N,.int .i64 0])) (ct:CV 17 #[.agg #[.string s0,.string s1,.string s2],.agg #[.string t0,.string t1,.string t2]] (.tuple #[.int .i64 (-1),.int .i64 0])) (ou:CV 33 #[.int .i64 U0,.int .i64 U1] (.int .i64 N)) (ov:CV 33 #[.int .i64 V0,.int .i64 V1] (.int .i64 M)) (WM0:IntKind.i64.wrap (U0*V1)=p1) (WM1:IntKind.i64.wrap (U1*V0)=p2) (WM2:IntKind.i64.wrap (p1 - p2)=tu) (WC0:(U0 == 0)=true) (WC1:(U1 == 0)=false) (WC2:(V0 == 0)=true) (WC3:(V1 == 0)=false) (WC4:decide (N < M)=true) (w:World) (R:EnvV w) :
   Calls Tryz.prog 5 #[.agg #[.int .i8 i0,.int .i8 i1,.int .i8 i2,.int .u8 d],.agg #[.int .i8 j0,.int .i8 j1,.int .i8 j2,.int .u8 e]] w (Ret w (.bool true)):=by
 have c1:=ck
 have c2:=ca
 have c3:=za
 have c4:=cb
 have c5:=zb
 have c7:=da
 have c9:=db
 have c10:=ma
 have c11:=tr
 have c13:=mb
 have c14:=ct
 have c15:=ou
 have c16:=ov
 have gm0:IntKind.i64.wrap (U0*V1)=p1:=WM0
 have gm1:IntKind.i64.wrap (U1*V0)=p2:=WM1
 have gm2:IntKind.i64.wrap (p1 - p2)=tu:=WM2
 have gc0:(U0 == 0)=true:=WC0
 have gc1:(U1 == 0)=false:=WC1
 have gc2:(V0 == 0)=true:=WC2
 have gc3:(V1 == 0)=false:=WC3
 have gc4:decide (N < M)=true:=WC4
 have C1:=Lib.hid c1
 have C2:=Lib.hid c2
 have C3:=Lib.hid c3
 have C4:=Lib.hid c4
 have C5:=Lib.hid c5
 have C7:=Lib.hid c7
 have C9:=Lib.hid c9
 have C10:=Lib.hid c10
 have C11:=Lib.hid c11
 have C13:=Lib.hid c13
 have C14:=Lib.hid c14
 have C15:=Lib.hid c15
 have C16:=Lib.hid c16
 clear c1 c2 c3 c4 c5 c7 c9 c10 c11 c13 c14 c15 c16 ck ca za cb zb ma mb da db tr ct ou ov WM0 WM1 WM2 WC0 WC1 WC2 WC3 WC4
 have hb:=Below.refl w.heap.size w
 go_enter Tryz.func5,Tryz.ntmps5
 go_upto_region 1 with fail
 refine wp_alloc2 (fun w1 a0 a1 hk=>?_)
 replace hb:=hb.trans (hk.mono hb.size)
 clear hk
 obtain ⟨Ae,Af,Ag,Ah⟩:=ce4 a0
 obtain ⟨Ai,Aj,Ak,Al⟩:=ce4 a1
 go_upto_region 3 with ((first | (go_at_call 12;with_reducible refine (chVB hb R C1).mono ?_) | (go_at_call 29;first | with_reducible refine (chVB hb R C2).mono ?_ | with_reducible refine (chVB hb R C4).mono ?_) | (go_at_call 28;first | with_reducible refine (chVB hb R C3).mono ?_ | with_reducible refine (chVB hb R C5).mono ?_));clear hb;rintro e w1 ⟨rfl,hk,hb⟩;clear Ae Af Ag Ah Ai Aj Ak Al;replace a0:=zB hk a0;replace a1:=zB hk a1;obtain ⟨Ae,Af,Ag,Ah⟩:=ce4 a0;obtain ⟨Ai,Aj,Ak,Al⟩:=ce4 a1;clear hk)
 obtain ⟨As,At,Au,Av⟩:=cy4 a0
 obtain ⟨Aw,Ax,Ay,Az⟩:=cy4 a1
 have A7:=rrV C2 R hb
 have A8:=rrV C7 R hb
 have A9:=rrV C4 R hb
 have Ba:=rrV C9 R hb
 have A0:=qqV C2 R hb
 have A1:=qqV C7 R hb
 have A2:=qqV C4 R hb
 have A3:=qqV C9 R hb
 refine wp_free2 6 0 (fun i=>if i=6 then Obj.cells #[Value.int .i64 0,Value.int .i64 0,Value.int .i64 0] 48 else if i=7 then Obj.cells #[Value.int .i64 0,Value.int .i64 0,Value.int .i64 0] 48 else Obj.cells #[] 0) (fun i=>if i=6 then Obj.cells #[Value.int .i64 U0,Value.int .i64 U1,Value.int .i64 U2] 48 else if i=7 then Obj.cells #[Value.int .i64 V0,Value.int .i64 V1,Value.int .i64 V2] 48 else Obj.cells #[] 0) (some 5) (some 6) (by first | assumption | kernel_rfl) (by kernel_rfl) ?lay rfl rfl ?_
 case lay =>
   intro i h1 h2
   obtain rfl | rfl:i=6∨i=7:=by omega
   all_goals exact ⟨_,rfl,rfl,fun a w=>(by first | (go_simp;done) | (go_simp;rfl))⟩
 simp only [List.take_succ_cons,List.take_zero]
 repeat (refine wpB_step (fun K hK=>?_);go_simp;first | (refine hK _ ?_;clear hK K) | (apply Exists.intro;refine ⟨fun _=>?_,hK _ ?_⟩;(first | (with_reducible exact A0.out _ _) | (with_reducible exact A1.out _ _) | (with_reducible exact A2.out _ _) | (with_reducible exact A3.out _ _));clear hK K))
 refine wpB_nil ?_
 intro Ac Ad
 refine ⟨?_,?_,?_⟩
 · refine ⟨_,rfl,rfl,rfl,fun cs b h=>(by cases h),fun w hw=>?_⟩
   replace hw:w.heap[Ac]? = some (Obj.cells #[Value.int .i64 0,Value.int .i64 0,Value.int .i64 0] 48):=hw
   have z0:w.cell? ⟨Ac,0,none⟩=some (Value.int .i64 0):=zA hw
   have y0:w.frozen? ⟨Ac,0,none⟩=false:=zD hw
   have z1:w.cell? ⟨Ac,1,none⟩=some (Value.int .i64 0):=zA hw
   have y1:w.frozen? ⟨Ac,1,none⟩=false:=zD hw
   have z2:w.cell? ⟨Ac,2,none⟩=some (Value.int .i64 0):=zA hw
   have y2:w.frozen? ⟨Ac,2,none⟩=false:=zD hw
   refine ⟨_,?_,(Wrote.set (i:=2) (Wrote.set (i:=1) (Wrote.set (i:=0) (Wrote.refl hw) (Value.int .i64 U0)) (Value.int .i64 U1)) (Value.int .i64 U2))⟩
   go_simp
 · refine ⟨_,rfl,rfl,rfl,fun cs b h=>(by cases h),fun w hw=>?_⟩
   replace hw:w.heap[Ad]? = some (Obj.cells #[Value.int .i64 0,Value.int .i64 0,Value.int .i64 0] 48):=hw
   have z0:w.cell? ⟨Ad,0,none⟩=some (Value.int .i64 0):=zA hw
   have y0:w.frozen? ⟨Ad,0,none⟩=false:=zD hw
   have z1:w.cell? ⟨Ad,1,none⟩=some (Value.int .i64 0):=zA hw
   have y1:w.frozen? ⟨Ad,1,none⟩=false:=zD hw
   have z2:w.cell? ⟨Ad,2,none⟩=some (Value.int .i64 0):=zA hw
   have y2:w.frozen? ⟨Ad,2,none⟩=false:=zD hw
   refine ⟨_,?_,(Wrote.set (i:=2) (Wrote.set (i:=1) (Wrote.set (i:=0) (Wrote.refl hw) (Value.int .i64 V0)) (Value.int .i64 V1)) (Value.int .i64 V2))⟩
   go_simp
 intro w1 hk m0 m1 Ab Aa _
 clear Ae Af Ag Ah Ai Aj Ak Al
 replace a0:=zB hk a0
 replace a1:=zB hk a1
 obtain ⟨Ae,Af,Ag,Ah⟩:=ce4 a0
 obtain ⟨Ai,Aj,Ak,Al⟩:=ce4 a1
 replace hb:=hb.trans (hk.mono hb.size)
 clear hk
 replace Ab:w1.heap[Ac]? = some (Obj.cells #[Value.int .i64 U0,Value.int .i64 U1,Value.int .i64 U2] 48):=Ab
 have Ap:w1.cell? ⟨Ac,0,none⟩=some (Value.int .i64 U0):=zA Ab
 have Aq:w1.cell? ⟨Ac,1,none⟩=some (Value.int .i64 U1):=zA Ab
 have Ar:w1.cell? ⟨Ac,2,none⟩=some (Value.int .i64 U2):=zA Ab
 replace Aa:w1.heap[Ad]? = some (Obj.cells #[Value.int .i64 V0,Value.int .i64 V1,Value.int .i64 V2] 48):=Aa
 have Am:w1.cell? ⟨Ad,0,none⟩=some (Value.int .i64 V0):=zA Aa
 have An:w1.cell? ⟨Ad,1,none⟩=some (Value.int .i64 V1):=zA Aa
 have Ao:w1.cell? ⟨Ad,2,none⟩=some (Value.int .i64 V2):=zA Aa
 clear A0 A1 A2 A3 A7 A8 A9 Ba As At Au Av Aw Ax Ay Az m0 m1
 go_upto_region 5 with ((first | (go_at_call 30;with_reducible refine (chVB hb R C10).mono ?_) | (go_at_call 26;with_reducible refine (chVB hb R C11).mono ?_));clear hb;rintro e w1 ⟨rfl,hk,hb⟩;clear Ae Af Ag Ah Ai Aj Ak Al Ap Aq Ar Am An Ao;replace a0:=zB hk a0;replace a1:=zB hk a1;replace Ab:=zB hk Ab;replace Aa:=zB hk Aa;obtain ⟨Ae,Af,Ag,Ah⟩:=ce4 a0;obtain ⟨Ai,Aj,Ak,Al⟩:=ce4 a1;obtain ⟨Ap,Aq,Ar⟩:=ce3 Ab;obtain ⟨Am,An,Ao⟩:=ce3 Aa;clear hk)
 obtain ⟨As,At,Au,Av⟩:=cy4 a0
 obtain ⟨Aw,Ax,Ay,Az⟩:=cy4 a1
 obtain ⟨Bb,Bc,Bd⟩:=cy3 Ab
 obtain ⟨Be,Bf,Bg⟩:=cy3 Aa
 have A4:=rrV C10 R hb
 have A5:=rrV C13 R hb
 have A6:=rrV C14 R hb
 refine wp_region_quiet_below (by first | assumption | kernel_rfl) (by kernel_rfl) ?_
 repeat (quiet_step (first | (with_reducible exact A4.out _ _) | (with_reducible exact A5.out _ _) | (with_reducible exact A6.out _ _)))
 refine wpQuiet_nil ?_
 intro w1 hw'
 obtain ⟨hk,hb⟩:=zQ hb hw'
 clear Ae Af Ag Ah Ai Aj Ak Al Ap Aq Ar Am An Ao
 replace a0:=zB hk a0
 replace a1:=zB hk a1
 replace Ab:=zB hk Ab
 replace Aa:=zB hk Aa
 obtain ⟨Ae,Af,Ag,Ah⟩:=ce4 a0
 obtain ⟨Ai,Aj,Ak,Al⟩:=ce4 a1
 obtain ⟨Ap,Aq,Ar⟩:=ce3 Ab
 obtain ⟨Am,An,Ao⟩:=ce3 Aa
 clear A4 A5 A6 As At Au Av Aw Ax Ay Az Bb Bc Bd Be Bf Bg
 clear hk hw'
 go_wp2_with (first | (go_at_call 33;with_reducible refine (chVB hb R C15).mono ?_;clear hb;rintro e w1 ⟨rfl,hk,hb⟩;clear Ap Aq Ar Am An Ao;replace Ab:=zB hk Ab;replace Aa:=zB hk Aa;obtain ⟨Ap,Aq,Ar⟩:=ce3 Ab;obtain ⟨Am,An,Ao⟩:=ce3 Aa;clear hk) | (go_at_call 33;with_reducible refine (chVB hb R C16).mono ?_;clear hb;rintro e w1 ⟨rfl,hk,hb⟩;clear Am An Ao;replace Aa:=zB hk Aa;obtain ⟨Am,An,Ao⟩:=ce3 Aa;clear hk))
 first | go_ret | go_ret2 | go_ret3
 exact ⟨rfl,hb⟩
theorem ltrends_11b  (i0 i1 i2 j0 j1 j2 X0 X1 X2 Y0 Y1 Y2 U0 U1 U2 V0 V1 V2:Int) (d e N p1 p2 tu:Int) (s0 s1 s2 t0 t1 t2:ByteArray) (ck:CV 12 #[] (.bool true)) (ca:CV 29 #[.agg #[.int .i8 i0,.int .i8 i1,.int .i8 i2,.int .u8 d]] (.agg #[.int .i64 X0,.int .i64 X1,.int .i64 X2])) (za:CV 28 #[.agg #[.int .i64 X0,.int .i64 X1,.int .i64 X2]] (.bool false)) (cb:CV 29 #[.agg #[.int .i8 j0,.int .i8 j1,.int .i8 j2,.int .u8 e]] (.agg #[.int .i64 Y0,.int .i64 Y1,.int .i64 Y2])) (zb:CV 28 #[.agg #[.int .i64 Y0,.int .i64 Y1,.int .i64 Y2]] (.bool false)) (ma:CV 30 #[.agg #[.int .i8 i0,.int .i8 i1,.int .i8 i2,.int .u8 d]] (.agg #[.string s0,.string s1,.string s2])) (mb:CV 30 #[.agg #[.int .i8 j0,.int .i8 j1,.int .i8 j2,.int .u8 e]] (.agg #[.string t0,.string t1,.string t2])) (da:CV 32 #[.agg #[.int .i64 X0,.int .i64 X1,.int .i64 X2]] (.agg #[.int .i64 U0,.int .i64 U1,.int .i64 U2])) (db:CV 32 #[.agg #[.int .i64 Y0,.int .i64 Y1,.int .i64 Y2]] (.agg #[.int .i64 V0,.int .i64 V1,.int .i64 V2])) (tr:CV 26 #[.agg #[.string s0,.string s1,.string s2]] (.tuple #[.int .i64 N,.int .i64 0])) (ct:CV 17 #[.agg #[.string s0,.string s1,.string s2],.agg #[.string t0,.string t1,.string t2]] (.tuple #[.int .i64 (-1),.int .i64 0])) (ou:CV 33 #[.int .i64 U0,.int .i64 U1] (.int .i64 N)) (ov:CV 33 #[.int .i64 V0,.int .i64 V1] (.int .i64 N)) (WM0:IntKind.i64.wrap (U0*V1)=p1) (WM1:IntKind.i64.wrap (U1*V0)=p2) (WM2:IntKind.i64.wrap (p1 - p2)=tu) (WC0:(U0 == 0)=true) (WC1:(U1 == 0)=false) (WC2:(V0 == 0)=true) (WC3:(V1 == 0)=false) (WC4:decide (N < N)=false) (WC5:(N == N)=true) (WC6:decide (tu < 0)=true) (w:World) (R:EnvV w) :
   Calls Tryz.prog 5 #[.agg #[.int .i8 i0,.int .i8 i1,.int .i8 i2,.int .u8 d],.agg #[.int .i8 j0,.int .i8 j1,.int .i8 j2,.int .u8 e]] w (Ret w (.bool true)):=by
 have c1:=ck
 have c2:=ca
 have c3:=za
 have c4:=cb
 have c5:=zb
 have c7:=da
 have c9:=db
 have c10:=ma
 have c11:=tr
 have c13:=mb
 have c14:=ct
 have c15:=ou
 have c16:=ov
 have gm0:IntKind.i64.wrap (U0*V1)=p1:=WM0
 have gm1:IntKind.i64.wrap (U1*V0)=p2:=WM1
 have gm2:IntKind.i64.wrap (p1 - p2)=tu:=WM2
 have gc0:(U0 == 0)=true:=WC0
 have gc1:(U1 == 0)=false:=WC1
 have gc2:(V0 == 0)=true:=WC2
 have gc3:(V1 == 0)=false:=WC3
 have gc4:decide (N < N)=false:=WC4
 have gc5:(N == N)=true:=WC5
 have gc6:decide (tu < 0)=true:=WC6
 have C1:=Lib.hid c1
 have C2:=Lib.hid c2
 have C3:=Lib.hid c3
 have C4:=Lib.hid c4
 have C5:=Lib.hid c5
 have C7:=Lib.hid c7
 have C9:=Lib.hid c9
 have C10:=Lib.hid c10
 have C11:=Lib.hid c11
 have C13:=Lib.hid c13
 have C14:=Lib.hid c14
 have C15:=Lib.hid c15
 have C16:=Lib.hid c16
 clear c1 c2 c3 c4 c5 c7 c9 c10 c11 c13 c14 c15 c16 ck ca za cb zb ma mb da db tr ct ou ov WM0 WM1 WM2 WC0 WC1 WC2 WC3 WC4 WC5 WC6
 have hb:=Below.refl w.heap.size w
 go_enter Tryz.func5,Tryz.ntmps5
 go_upto_region 1 with fail
 refine wp_alloc2 (fun w1 a0 a1 hk=>?_)
 replace hb:=hb.trans (hk.mono hb.size)
 clear hk
 obtain ⟨Ae,Af,Ag,Ah⟩:=ce4 a0
 obtain ⟨Ai,Aj,Ak,Al⟩:=ce4 a1
 go_upto_region 3 with ((first | (go_at_call 12;with_reducible refine (chVB hb R C1).mono ?_) | (go_at_call 29;first | with_reducible refine (chVB hb R C2).mono ?_ | with_reducible refine (chVB hb R C4).mono ?_) | (go_at_call 28;first | with_reducible refine (chVB hb R C3).mono ?_ | with_reducible refine (chVB hb R C5).mono ?_));clear hb;rintro e w1 ⟨rfl,hk,hb⟩;clear Ae Af Ag Ah Ai Aj Ak Al;replace a0:=zB hk a0;replace a1:=zB hk a1;obtain ⟨Ae,Af,Ag,Ah⟩:=ce4 a0;obtain ⟨Ai,Aj,Ak,Al⟩:=ce4 a1;clear hk)
 obtain ⟨As,At,Au,Av⟩:=cy4 a0
 obtain ⟨Aw,Ax,Ay,Az⟩:=cy4 a1
 have A7:=rrV C2 R hb
 have A8:=rrV C7 R hb
 have A9:=rrV C4 R hb
 have Ba:=rrV C9 R hb
 have A0:=qqV C2 R hb
 have A1:=qqV C7 R hb
 have A2:=qqV C4 R hb
 have A3:=qqV C9 R hb
 refine wp_free2 6 0 (fun i=>if i=6 then Obj.cells #[Value.int .i64 0,Value.int .i64 0,Value.int .i64 0] 48 else if i=7 then Obj.cells #[Value.int .i64 0,Value.int .i64 0,Value.int .i64 0] 48 else Obj.cells #[] 0) (fun i=>if i=6 then Obj.cells #[Value.int .i64 U0,Value.int .i64 U1,Value.int .i64 U2] 48 else if i=7 then Obj.cells #[Value.int .i64 V0,Value.int .i64 V1,Value.int .i64 V2] 48 else Obj.cells #[] 0) (some 5) (some 6) (by first | assumption | kernel_rfl) (by kernel_rfl) ?lay rfl rfl ?_
 case lay =>
   intro i h1 h2
   obtain rfl | rfl:i=6∨i=7:=by omega
   all_goals exact ⟨_,rfl,rfl,fun a w=>(by first | (go_simp;done) | (go_simp;rfl))⟩
 simp only [List.take_succ_cons,List.take_zero]
 repeat (refine wpB_step (fun K hK=>?_);go_simp;first | (refine hK _ ?_;clear hK K) | (apply Exists.intro;refine ⟨fun _=>?_,hK _ ?_⟩;(first | (with_reducible exact A0.out _ _) | (with_reducible exact A1.out _ _) | (with_reducible exact A2.out _ _) | (with_reducible exact A3.out _ _));clear hK K))
 refine wpB_nil ?_
 intro Ac Ad
 refine ⟨?_,?_,?_⟩
 · refine ⟨_,rfl,rfl,rfl,fun cs b h=>(by cases h),fun w hw=>?_⟩
   replace hw:w.heap[Ac]? = some (Obj.cells #[Value.int .i64 0,Value.int .i64 0,Value.int .i64 0] 48):=hw
   have z0:w.cell? ⟨Ac,0,none⟩=some (Value.int .i64 0):=zA hw
   have y0:w.frozen? ⟨Ac,0,none⟩=false:=zD hw
   have z1:w.cell? ⟨Ac,1,none⟩=some (Value.int .i64 0):=zA hw
   have y1:w.frozen? ⟨Ac,1,none⟩=false:=zD hw
   have z2:w.cell? ⟨Ac,2,none⟩=some (Value.int .i64 0):=zA hw
   have y2:w.frozen? ⟨Ac,2,none⟩=false:=zD hw
   refine ⟨_,?_,(Wrote.set (i:=2) (Wrote.set (i:=1) (Wrote.set (i:=0) (Wrote.refl hw) (Value.int .i64 U0)) (Value.int .i64 U1)) (Value.int .i64 U2))⟩
   go_simp
 · refine ⟨_,rfl,rfl,rfl,fun cs b h=>(by cases h),fun w hw=>?_⟩
   replace hw:w.heap[Ad]? = some (Obj.cells #[Value.int .i64 0,Value.int .i64 0,Value.int .i64 0] 48):=hw
   have z0:w.cell? ⟨Ad,0,none⟩=some (Value.int .i64 0):=zA hw
   have y0:w.frozen? ⟨Ad,0,none⟩=false:=zD hw
   have z1:w.cell? ⟨Ad,1,none⟩=some (Value.int .i64 0):=zA hw
   have y1:w.frozen? ⟨Ad,1,none⟩=false:=zD hw
   have z2:w.cell? ⟨Ad,2,none⟩=some (Value.int .i64 0):=zA hw
   have y2:w.frozen? ⟨Ad,2,none⟩=false:=zD hw
   refine ⟨_,?_,(Wrote.set (i:=2) (Wrote.set (i:=1) (Wrote.set (i:=0) (Wrote.refl hw) (Value.int .i64 V0)) (Value.int .i64 V1)) (Value.int .i64 V2))⟩
   go_simp
 intro w1 hk m0 m1 Ab Aa _
 clear Ae Af Ag Ah Ai Aj Ak Al
 replace a0:=zB hk a0
 replace a1:=zB hk a1
 obtain ⟨Ae,Af,Ag,Ah⟩:=ce4 a0
 obtain ⟨Ai,Aj,Ak,Al⟩:=ce4 a1
 replace hb:=hb.trans (hk.mono hb.size)
 clear hk
 replace Ab:w1.heap[Ac]? = some (Obj.cells #[Value.int .i64 U0,Value.int .i64 U1,Value.int .i64 U2] 48):=Ab
 have Ap:w1.cell? ⟨Ac,0,none⟩=some (Value.int .i64 U0):=zA Ab
 have Aq:w1.cell? ⟨Ac,1,none⟩=some (Value.int .i64 U1):=zA Ab
 have Ar:w1.cell? ⟨Ac,2,none⟩=some (Value.int .i64 U2):=zA Ab
 replace Aa:w1.heap[Ad]? = some (Obj.cells #[Value.int .i64 V0,Value.int .i64 V1,Value.int .i64 V2] 48):=Aa
 have Am:w1.cell? ⟨Ad,0,none⟩=some (Value.int .i64 V0):=zA Aa
 have An:w1.cell? ⟨Ad,1,none⟩=some (Value.int .i64 V1):=zA Aa
 have Ao:w1.cell? ⟨Ad,2,none⟩=some (Value.int .i64 V2):=zA Aa
 clear A0 A1 A2 A3 A7 A8 A9 Ba As At Au Av Aw Ax Ay Az m0 m1
 go_upto_region 5 with ((first | (go_at_call 30;with_reducible refine (chVB hb R C10).mono ?_) | (go_at_call 26;with_reducible refine (chVB hb R C11).mono ?_));clear hb;rintro e w1 ⟨rfl,hk,hb⟩;clear Ae Af Ag Ah Ai Aj Ak Al Ap Aq Ar Am An Ao;replace a0:=zB hk a0;replace a1:=zB hk a1;replace Ab:=zB hk Ab;replace Aa:=zB hk Aa;obtain ⟨Ae,Af,Ag,Ah⟩:=ce4 a0;obtain ⟨Ai,Aj,Ak,Al⟩:=ce4 a1;obtain ⟨Ap,Aq,Ar⟩:=ce3 Ab;obtain ⟨Am,An,Ao⟩:=ce3 Aa;clear hk)
 obtain ⟨As,At,Au,Av⟩:=cy4 a0
 obtain ⟨Aw,Ax,Ay,Az⟩:=cy4 a1
 obtain ⟨Bb,Bc,Bd⟩:=cy3 Ab
 obtain ⟨Be,Bf,Bg⟩:=cy3 Aa
 have A4:=rrV C10 R hb
 have A5:=rrV C13 R hb
 have A6:=rrV C14 R hb
 refine wp_region_quiet_below (by first | assumption | kernel_rfl) (by kernel_rfl) ?_
 repeat (quiet_step (first | (with_reducible exact A4.out _ _) | (with_reducible exact A5.out _ _) | (with_reducible exact A6.out _ _)))
 refine wpQuiet_nil ?_
 intro w1 hw'
 obtain ⟨hk,hb⟩:=zQ hb hw'
 clear Ae Af Ag Ah Ai Aj Ak Al Ap Aq Ar Am An Ao
 replace a0:=zB hk a0
 replace a1:=zB hk a1
 replace Ab:=zB hk Ab
 replace Aa:=zB hk Aa
 obtain ⟨Ae,Af,Ag,Ah⟩:=ce4 a0
 obtain ⟨Ai,Aj,Ak,Al⟩:=ce4 a1
 obtain ⟨Ap,Aq,Ar⟩:=ce3 Ab
 obtain ⟨Am,An,Ao⟩:=ce3 Aa
 clear A4 A5 A6 As At Au Av Aw Ax Ay Az Bb Bc Bd Be Bf Bg
 clear hk hw'
 go_wp2_with (first | (go_at_call 33;with_reducible refine (chVB hb R C15).mono ?_;clear hb;rintro e w1 ⟨rfl,hk,hb⟩;clear Ap Aq Ar Am An Ao;replace Ab:=zB hk Ab;replace Aa:=zB hk Aa;obtain ⟨Ap,Aq,Ar⟩:=ce3 Ab;obtain ⟨Am,An,Ao⟩:=ce3 Aa;clear hk) | (go_at_call 33;with_reducible refine (chVB hb R C16).mono ?_;clear hb;rintro e w1 ⟨rfl,hk,hb⟩;clear Am An Ao;replace Aa:=zB hk Aa;obtain ⟨Am,An,Ao⟩:=ce3 Aa;clear hk))
 first | go_ret | go_ret2 | go_ret3
 exact ⟨rfl,hb⟩
theorem ltrends_11c  (i0 i1 i2 j0 j1 j2 X0 X1 X2 Y0 Y1 Y2 U0 U1 U2 V0 V1 V2:Int) (d e N M p1 p2 tu:Int) (s0 s1 s2 t0 t1 t2:ByteArray) (ck:CV 12 #[] (.bool true)) (ca:CV 29 #[.agg #[.int .i8 i0,.int .i8 i1,.int .i8 i2,.int .u8 d]] (.agg #[.int .i64 X0,.int .i64 X1,.int .i64 X2])) (za:CV 28 #[.agg #[.int .i64 X0,.int .i64 X1,.int .i64 X2]] (.bool false)) (cb:CV 29 #[.agg #[.int .i8 j0,.int .i8 j1,.int .i8 j2,.int .u8 e]] (.agg #[.int .i64 Y0,.int .i64 Y1,.int .i64 Y2])) (zb:CV 28 #[.agg #[.int .i64 Y0,.int .i64 Y1,.int .i64 Y2]] (.bool false)) (ma:CV 30 #[.agg #[.int .i8 i0,.int .i8 i1,.int .i8 i2,.int .u8 d]] (.agg #[.string s0,.string s1,.string s2])) (mb:CV 30 #[.agg #[.int .i8 j0,.int .i8 j1,.int .i8 j2,.int .u8 e]] (.agg #[.string t0,.string t1,.string t2])) (da:CV 32 #[.agg #[.int .i64 X0,.int .i64 X1,.int .i64 X2]] (.agg #[.int .i64 U0,.int .i64 U1,.int .i64 U2])) (db:CV 32 #[.agg #[.int .i64 Y0,.int .i64 Y1,.int .i64 Y2]] (.agg #[.int .i64 V0,.int .i64 V1,.int .i64 V2])) (tr:CV 26 #[.agg #[.string s0,.string s1,.string s2]] (.tuple #[.int .i64 N,.int .i64 0])) (ct:CV 17 #[.agg #[.string s0,.string s1,.string s2],.agg #[.string t0,.string t1,.string t2]] (.tuple #[.int .i64 1,.int .i64 0])) (ou:CV 33 #[.int .i64 U0,.int .i64 U1] (.int .i64 N)) (ov:CV 33 #[.int .i64 V0,.int .i64 V1] (.int .i64 M)) (WM0:IntKind.i64.wrap (U0*V1)=p1) (WM1:IntKind.i64.wrap (U1*V0)=p2) (WM2:IntKind.i64.wrap (p1 - p2)=tu) (WC0:(U0 == 0)=true) (WC1:(U1 == 0)=false) (WC2:(V0 == 0)=true) (WC3:(V1 == 0)=false) (WC4:decide (N < M)=false) (WC5:(N == M)=false) (WC6:decide (M < N)=true) (w:World) (R:EnvV w) :
   Calls Tryz.prog 5 #[.agg #[.int .i8 i0,.int .i8 i1,.int .i8 i2,.int .u8 d],.agg #[.int .i8 j0,.int .i8 j1,.int .i8 j2,.int .u8 e]] w (Ret w (.bool true)):=by
 have c1:=ck
 have c2:=ca
 have c3:=za
 have c4:=cb
 have c5:=zb
 have c7:=da
 have c9:=db
 have c10:=ma
 have c11:=tr
 have c13:=mb
 have c14:=ct
 have c15:=ou
 have c16:=ov
 have gm0:IntKind.i64.wrap (U0*V1)=p1:=WM0
 have gm1:IntKind.i64.wrap (U1*V0)=p2:=WM1
 have gm2:IntKind.i64.wrap (p1 - p2)=tu:=WM2
 have gc0:(U0 == 0)=true:=WC0
 have gc1:(U1 == 0)=false:=WC1
 have gc2:(V0 == 0)=true:=WC2
 have gc3:(V1 == 0)=false:=WC3
 have gc4:decide (N < M)=false:=WC4
 have gc5:(N == M)=false:=WC5
 have gc6:decide (M < N)=true:=WC6
 have C1:=Lib.hid c1
 have C2:=Lib.hid c2
 have C3:=Lib.hid c3
 have C4:=Lib.hid c4
 have C5:=Lib.hid c5
 have C7:=Lib.hid c7
 have C9:=Lib.hid c9
 have C10:=Lib.hid c10
 have C11:=Lib.hid c11
 have C13:=Lib.hid c13
 have C14:=Lib.hid c14
 have C15:=Lib.hid c15
 have C16:=Lib.hid c16
 clear c1 c2 c3 c4 c5 c7 c9 c10 c11 c13 c14 c15 c16 ck ca za cb zb ma mb da db tr ct ou ov WM0 WM1 WM2 WC0 WC1 WC2 WC3 WC4 WC5 WC6
 have hb:=Below.refl w.heap.size w
 go_enter Tryz.func5,Tryz.ntmps5
 go_upto_region 1 with fail
 refine wp_alloc2 (fun w1 a0 a1 hk=>?_)
 replace hb:=hb.trans (hk.mono hb.size)
 clear hk
 obtain ⟨Ae,Af,Ag,Ah⟩:=ce4 a0
 obtain ⟨Ai,Aj,Ak,Al⟩:=ce4 a1
 go_upto_region 3 with ((first | (go_at_call 12;with_reducible refine (chVB hb R C1).mono ?_) | (go_at_call 29;first | with_reducible refine (chVB hb R C2).mono ?_ | with_reducible refine (chVB hb R C4).mono ?_) | (go_at_call 28;first | with_reducible refine (chVB hb R C3).mono ?_ | with_reducible refine (chVB hb R C5).mono ?_));clear hb;rintro e w1 ⟨rfl,hk,hb⟩;clear Ae Af Ag Ah Ai Aj Ak Al;replace a0:=zB hk a0;replace a1:=zB hk a1;obtain ⟨Ae,Af,Ag,Ah⟩:=ce4 a0;obtain ⟨Ai,Aj,Ak,Al⟩:=ce4 a1;clear hk)
 obtain ⟨As,At,Au,Av⟩:=cy4 a0
 obtain ⟨Aw,Ax,Ay,Az⟩:=cy4 a1
 have A7:=rrV C2 R hb
 have A8:=rrV C7 R hb
 have A9:=rrV C4 R hb
 have Ba:=rrV C9 R hb
 have A0:=qqV C2 R hb
 have A1:=qqV C7 R hb
 have A2:=qqV C4 R hb
 have A3:=qqV C9 R hb
 refine wp_free2 6 0 (fun i=>if i=6 then Obj.cells #[Value.int .i64 0,Value.int .i64 0,Value.int .i64 0] 48 else if i=7 then Obj.cells #[Value.int .i64 0,Value.int .i64 0,Value.int .i64 0] 48 else Obj.cells #[] 0) (fun i=>if i=6 then Obj.cells #[Value.int .i64 U0,Value.int .i64 U1,Value.int .i64 U2] 48 else if i=7 then Obj.cells #[Value.int .i64 V0,Value.int .i64 V1,Value.int .i64 V2] 48 else Obj.cells #[] 0) (some 5) (some 6) (by first | assumption | kernel_rfl) (by kernel_rfl) ?lay rfl rfl ?_
 case lay =>
   intro i h1 h2
   obtain rfl | rfl:i=6∨i=7:=by omega
   all_goals exact ⟨_,rfl,rfl,fun a w=>(by first | (go_simp;done) | (go_simp;rfl))⟩
 simp only [List.take_succ_cons,List.take_zero]
 repeat (refine wpB_step (fun K hK=>?_);go_simp;first | (refine hK _ ?_;clear hK K) | (apply Exists.intro;refine ⟨fun _=>?_,hK _ ?_⟩;(first | (with_reducible exact A0.out _ _) | (with_reducible exact A1.out _ _) | (with_reducible exact A2.out _ _) | (with_reducible exact A3.out _ _));clear hK K))
 refine wpB_nil ?_
 intro Ac Ad
 refine ⟨?_,?_,?_⟩
 · refine ⟨_,rfl,rfl,rfl,fun cs b h=>(by cases h),fun w hw=>?_⟩
   replace hw:w.heap[Ac]? = some (Obj.cells #[Value.int .i64 0,Value.int .i64 0,Value.int .i64 0] 48):=hw
   have z0:w.cell? ⟨Ac,0,none⟩=some (Value.int .i64 0):=zA hw
   have y0:w.frozen? ⟨Ac,0,none⟩=false:=zD hw
   have z1:w.cell? ⟨Ac,1,none⟩=some (Value.int .i64 0):=zA hw
   have y1:w.frozen? ⟨Ac,1,none⟩=false:=zD hw
   have z2:w.cell? ⟨Ac,2,none⟩=some (Value.int .i64 0):=zA hw
   have y2:w.frozen? ⟨Ac,2,none⟩=false:=zD hw
   refine ⟨_,?_,(Wrote.set (i:=2) (Wrote.set (i:=1) (Wrote.set (i:=0) (Wrote.refl hw) (Value.int .i64 U0)) (Value.int .i64 U1)) (Value.int .i64 U2))⟩
   go_simp
 · refine ⟨_,rfl,rfl,rfl,fun cs b h=>(by cases h),fun w hw=>?_⟩
   replace hw:w.heap[Ad]? = some (Obj.cells #[Value.int .i64 0,Value.int .i64 0,Value.int .i64 0] 48):=hw
   have z0:w.cell? ⟨Ad,0,none⟩=some (Value.int .i64 0):=zA hw
   have y0:w.frozen? ⟨Ad,0,none⟩=false:=zD hw
   have z1:w.cell? ⟨Ad,1,none⟩=some (Value.int .i64 0):=zA hw
   have y1:w.frozen? ⟨Ad,1,none⟩=false:=zD hw
   have z2:w.cell? ⟨Ad,2,none⟩=some (Value.int .i64 0):=zA hw
   have y2:w.frozen? ⟨Ad,2,none⟩=false:=zD hw
   refine ⟨_,?_,(Wrote.set (i:=2) (Wrote.set (i:=1) (Wrote.set (i:=0) (Wrote.refl hw) (Value.int .i64 V0)) (Value.int .i64 V1)) (Value.int .i64 V2))⟩
   go_simp
 intro w1 hk m0 m1 Ab Aa _
 clear Ae Af Ag Ah Ai Aj Ak Al
 replace a0:=zB hk a0
 replace a1:=zB hk a1
 obtain ⟨Ae,Af,Ag,Ah⟩:=ce4 a0
 obtain ⟨Ai,Aj,Ak,Al⟩:=ce4 a1
 replace hb:=hb.trans (hk.mono hb.size)
 clear hk
 replace Ab:w1.heap[Ac]? = some (Obj.cells #[Value.int .i64 U0,Value.int .i64 U1,Value.int .i64 U2] 48):=Ab
 have Ap:w1.cell? ⟨Ac,0,none⟩=some (Value.int .i64 U0):=zA Ab
 have Aq:w1.cell? ⟨Ac,1,none⟩=some (Value.int .i64 U1):=zA Ab
 have Ar:w1.cell? ⟨Ac,2,none⟩=some (Value.int .i64 U2):=zA Ab
 replace Aa:w1.heap[Ad]? = some (Obj.cells #[Value.int .i64 V0,Value.int .i64 V1,Value.int .i64 V2] 48):=Aa
 have Am:w1.cell? ⟨Ad,0,none⟩=some (Value.int .i64 V0):=zA Aa
 have An:w1.cell? ⟨Ad,1,none⟩=some (Value.int .i64 V1):=zA Aa
 have Ao:w1.cell? ⟨Ad,2,none⟩=some (Value.int .i64 V2):=zA Aa
 clear A0 A1 A2 A3 A7 A8 A9 Ba As At Au Av Aw Ax Ay Az m0 m1
 go_upto_region 5 with ((first | (go_at_call 30;with_reducible refine (chVB hb R C10).mono ?_) | (go_at_call 26;with_reducible refine (chVB hb R C11).mono ?_));clear hb;rintro e w1 ⟨rfl,hk,hb⟩;clear Ae Af Ag Ah Ai Aj Ak Al Ap Aq Ar Am An Ao;replace a0:=zB hk a0;replace a1:=zB hk a1;replace Ab:=zB hk Ab;replace Aa:=zB hk Aa;obtain ⟨Ae,Af,Ag,Ah⟩:=ce4 a0;obtain ⟨Ai,Aj,Ak,Al⟩:=ce4 a1;obtain ⟨Ap,Aq,Ar⟩:=ce3 Ab;obtain ⟨Am,An,Ao⟩:=ce3 Aa;clear hk)
 obtain ⟨As,At,Au,Av⟩:=cy4 a0
 obtain ⟨Aw,Ax,Ay,Az⟩:=cy4 a1
 obtain ⟨Bb,Bc,Bd⟩:=cy3 Ab
 obtain ⟨Be,Bf,Bg⟩:=cy3 Aa
 have A4:=rrV C10 R hb
 have A5:=rrV C13 R hb
 have A6:=rrV C14 R hb
 refine wp_region_quiet_below (by first | assumption | kernel_rfl) (by kernel_rfl) ?_
 repeat (quiet_step (first | (with_reducible exact A4.out _ _) | (with_reducible exact A5.out _ _) | (with_reducible exact A6.out _ _)))
 refine wpQuiet_nil ?_
 intro w1 hw'
 obtain ⟨hk,hb⟩:=zQ hb hw'
 clear Ae Af Ag Ah Ai Aj Ak Al Ap Aq Ar Am An Ao
 replace a0:=zB hk a0
 replace a1:=zB hk a1
 replace Ab:=zB hk Ab
 replace Aa:=zB hk Aa
 obtain ⟨Ae,Af,Ag,Ah⟩:=ce4 a0
 obtain ⟨Ai,Aj,Ak,Al⟩:=ce4 a1
 obtain ⟨Ap,Aq,Ar⟩:=ce3 Ab
 obtain ⟨Am,An,Ao⟩:=ce3 Aa
 clear A4 A5 A6 As At Au Av Aw Ax Ay Az Bb Bc Bd Be Bf Bg
 clear hk hw'
 go_wp2_with (first | (go_at_call 33;with_reducible refine (chVB hb R C15).mono ?_;clear hb;rintro e w1 ⟨rfl,hk,hb⟩;clear Ap Aq Ar Am An Ao;replace Ab:=zB hk Ab;replace Aa:=zB hk Aa;obtain ⟨Ap,Aq,Ar⟩:=ce3 Ab;obtain ⟨Am,An,Ao⟩:=ce3 Aa;clear hk) | (go_at_call 33;with_reducible refine (chVB hb R C16).mono ?_;clear hb;rintro e w1 ⟨rfl,hk,hb⟩;clear Am An Ao;replace Aa:=zB hk Aa;obtain ⟨Am,An,Ao⟩:=ce3 Aa;clear hk))
 first | go_ret | go_ret2 | go_ret3
 exact ⟨rfl,hb⟩
theorem ltrends_11d  (i0 i1 i2 j0 j1 j2 X0 X1 X2 Y0 Y1 Y2 U0 U1 U2 V0 V1 V2:Int) (d e N p1 p2 tu:Int) (s0 s1 s2 t0 t1 t2:ByteArray) (ck:CV 12 #[] (.bool true)) (ca:CV 29 #[.agg #[.int .i8 i0,.int .i8 i1,.int .i8 i2,.int .u8 d]] (.agg #[.int .i64 X0,.int .i64 X1,.int .i64 X2])) (za:CV 28 #[.agg #[.int .i64 X0,.int .i64 X1,.int .i64 X2]] (.bool false)) (cb:CV 29 #[.agg #[.int .i8 j0,.int .i8 j1,.int .i8 j2,.int .u8 e]] (.agg #[.int .i64 Y0,.int .i64 Y1,.int .i64 Y2])) (zb:CV 28 #[.agg #[.int .i64 Y0,.int .i64 Y1,.int .i64 Y2]] (.bool false)) (ma:CV 30 #[.agg #[.int .i8 i0,.int .i8 i1,.int .i8 i2,.int .u8 d]] (.agg #[.string s0,.string s1,.string s2])) (mb:CV 30 #[.agg #[.int .i8 j0,.int .i8 j1,.int .i8 j2,.int .u8 e]] (.agg #[.string t0,.string t1,.string t2])) (da:CV 32 #[.agg #[.int .i64 X0,.int .i64 X1,.int .i64 X2]] (.agg #[.int .i64 U0,.int .i64 U1,.int .i64 U2])) (db:CV 32 #[.agg #[.int .i64 Y0,.int .i64 Y1,.int .i64 Y2]] (.agg #[.int .i64 V0,.int .i64 V1,.int .i64 V2])) (tr:CV 26 #[.agg #[.string s0,.string s1,.string s2]] (.tuple #[.int .i64 N,.int .i64 0])) (ct:CV 17 #[.agg #[.string s0,.string s1,.string s2],.agg #[.string t0,.string t1,.string t2]] (.tuple #[.int .i64 1,.int .i64 0])) (ou:CV 33 #[.int .i64 U0,.int .i64 U1] (.int .i64 N)) (ov:CV 33 #[.int .i64 V0,.int .i64 V1] (.int .i64 N)) (WM0:IntKind.i64.wrap (U0*V1)=p1) (WM1:IntKind.i64.wrap (U1*V0)=p2) (WM2:IntKind.i64.wrap (p1 - p2)=tu) (WC0:(U0 == 0)=true) (WC1:(U1 == 0)=false) (WC2:(V0 == 0)=true) (WC3:(V1 == 0)=false) (WC4:decide (N < N)=false) (WC5:(N == N)=true) (WC6:decide (tu < 0)=false) (WC7:decide (N < N)=false) (WC8:decide (0 < tu)=true) (w:World) (R:EnvV w) :
   Calls Tryz.prog 5 #[.agg #[.int .i8 i0,.int .i8 i1,.int .i8 i2,.int .u8 d],.agg #[.int .i8 j0,.int .i8 j1,.int .i8 j2,.int .u8 e]] w (Ret w (.bool true)):=by
 have c1:=ck
 have c2:=ca
 have c3:=za
 have c4:=cb
 have c5:=zb
 have c7:=da
 have c9:=db
 have c10:=ma
 have c11:=tr
 have c13:=mb
 have c14:=ct
 have c15:=ou
 have c16:=ov
 have gm0:IntKind.i64.wrap (U0*V1)=p1:=WM0
 have gm1:IntKind.i64.wrap (U1*V0)=p2:=WM1
 have gm2:IntKind.i64.wrap (p1 - p2)=tu:=WM2
 have gc0:(U0 == 0)=true:=WC0
 have gc1:(U1 == 0)=false:=WC1
 have gc2:(V0 == 0)=true:=WC2
 have gc3:(V1 == 0)=false:=WC3
 have gc4:decide (N < N)=false:=WC4
 have gc5:(N == N)=true:=WC5
 have gc6:decide (tu < 0)=false:=WC6
 have gc7:decide (N < N)=false:=WC7
 have gc8:decide (0 < tu)=true:=WC8
 have C1:=Lib.hid c1
 have C2:=Lib.hid c2
 have C3:=Lib.hid c3
 have C4:=Lib.hid c4
 have C5:=Lib.hid c5
 have C7:=Lib.hid c7
 have C9:=Lib.hid c9
 have C10:=Lib.hid c10
 have C11:=Lib.hid c11
 have C13:=Lib.hid c13
 have C14:=Lib.hid c14
 have C15:=Lib.hid c15
 have C16:=Lib.hid c16
 clear c1 c2 c3 c4 c5 c7 c9 c10 c11 c13 c14 c15 c16 ck ca za cb zb ma mb da db tr ct ou ov WM0 WM1 WM2 WC0 WC1 WC2 WC3 WC4 WC5 WC6 WC7 WC8
 have hb:=Below.refl w.heap.size w
 go_enter Tryz.func5,Tryz.ntmps5
 go_upto_region 1 with fail
 refine wp_alloc2 (fun w1 a0 a1 hk=>?_)
 replace hb:=hb.trans (hk.mono hb.size)
 clear hk
 obtain ⟨Ae,Af,Ag,Ah⟩:=ce4 a0
 obtain ⟨Ai,Aj,Ak,Al⟩:=ce4 a1
 go_upto_region 3 with ((first | (go_at_call 12;with_reducible refine (chVB hb R C1).mono ?_) | (go_at_call 29;first | with_reducible refine (chVB hb R C2).mono ?_ | with_reducible refine (chVB hb R C4).mono ?_) | (go_at_call 28;first | with_reducible refine (chVB hb R C3).mono ?_ | with_reducible refine (chVB hb R C5).mono ?_));clear hb;rintro e w1 ⟨rfl,hk,hb⟩;clear Ae Af Ag Ah Ai Aj Ak Al;replace a0:=zB hk a0;replace a1:=zB hk a1;obtain ⟨Ae,Af,Ag,Ah⟩:=ce4 a0;obtain ⟨Ai,Aj,Ak,Al⟩:=ce4 a1;clear hk)
 obtain ⟨As,At,Au,Av⟩:=cy4 a0
 obtain ⟨Aw,Ax,Ay,Az⟩:=cy4 a1
 have A7:=rrV C2 R hb
 have A8:=rrV C7 R hb
 have A9:=rrV C4 R hb
 have Ba:=rrV C9 R hb
 have A0:=qqV C2 R hb
 have A1:=qqV C7 R hb
 have A2:=qqV C4 R hb
 have A3:=qqV C9 R hb
 refine wp_free2 6 0 (fun i=>if i=6 then Obj.cells #[Value.int .i64 0,Value.int .i64 0,Value.int .i64 0] 48 else if i=7 then Obj.cells #[Value.int .i64 0,Value.int .i64 0,Value.int .i64 0] 48 else Obj.cells #[] 0) (fun i=>if i=6 then Obj.cells #[Value.int .i64 U0,Value.int .i64 U1,Value.int .i64 U2] 48 else if i=7 then Obj.cells #[Value.int .i64 V0,Value.int .i64 V1,Value.int .i64 V2] 48 else Obj.cells #[] 0) (some 5) (some 6) (by first | assumption | kernel_rfl) (by kernel_rfl) ?lay rfl rfl ?_
 case lay =>
   intro i h1 h2
   obtain rfl | rfl:i=6∨i=7:=by omega
   all_goals exact ⟨_,rfl,rfl,fun a w=>(by first | (go_simp;done) | (go_simp;rfl))⟩
 simp only [List.take_succ_cons,List.take_zero]
 repeat (refine wpB_step (fun K hK=>?_);go_simp;first | (refine hK _ ?_;clear hK K) | (apply Exists.intro;refine ⟨fun _=>?_,hK _ ?_⟩;(first | (with_reducible exact A0.out _ _) | (with_reducible exact A1.out _ _) | (with_reducible exact A2.out _ _) | (with_reducible exact A3.out _ _));clear hK K))
 refine wpB_nil ?_
 intro Ac Ad
 refine ⟨?_,?_,?_⟩
 · refine ⟨_,rfl,rfl,rfl,fun cs b h=>(by cases h),fun w hw=>?_⟩
   replace hw:w.heap[Ac]? = some (Obj.cells #[Value.int .i64 0,Value.int .i64 0,Value.int .i64 0] 48):=hw
   have z0:w.cell? ⟨Ac,0,none⟩=some (Value.int .i64 0):=zA hw
   have y0:w.frozen? ⟨Ac,0,none⟩=false:=zD hw
   have z1:w.cell? ⟨Ac,1,none⟩=some (Value.int .i64 0):=zA hw
   have y1:w.frozen? ⟨Ac,1,none⟩=false:=zD hw
   have z2:w.cell? ⟨Ac,2,none⟩=some (Value.int .i64 0):=zA hw
   have y2:w.frozen? ⟨Ac,2,none⟩=false:=zD hw
   refine ⟨_,?_,(Wrote.set (i:=2) (Wrote.set (i:=1) (Wrote.set (i:=0) (Wrote.refl hw) (Value.int .i64 U0)) (Value.int .i64 U1)) (Value.int .i64 U2))⟩
   go_simp
 · refine ⟨_,rfl,rfl,rfl,fun cs b h=>(by cases h),fun w hw=>?_⟩
   replace hw:w.heap[Ad]? = some (Obj.cells #[Value.int .i64 0,Value.int .i64 0,Value.int .i64 0] 48):=hw
   have z0:w.cell? ⟨Ad,0,none⟩=some (Value.int .i64 0):=zA hw
   have y0:w.frozen? ⟨Ad,0,none⟩=false:=zD hw
   have z1:w.cell? ⟨Ad,1,none⟩=some (Value.int .i64 0):=zA hw
   have y1:w.frozen? ⟨Ad,1,none⟩=false:=zD hw
   have z2:w.cell? ⟨Ad,2,none⟩=some (Value.int .i64 0):=zA hw
   have y2:w.frozen? ⟨Ad,2,none⟩=false:=zD hw
   refine ⟨_,?_,(Wrote.set (i:=2) (Wrote.set (i:=1) (Wrote.set (i:=0) (Wrote.refl hw) (Value.int .i64 V0)) (Value.int .i64 V1)) (Value.int .i64 V2))⟩
   go_simp
 intro w1 hk m0 m1 Ab Aa _
 clear Ae Af Ag Ah Ai Aj Ak Al
 replace a0:=zB hk a0
 replace a1:=zB hk a1
 obtain ⟨Ae,Af,Ag,Ah⟩:=ce4 a0
 obtain ⟨Ai,Aj,Ak,Al⟩:=ce4 a1
 replace hb:=hb.trans (hk.mono hb.size)
 clear hk
 replace Ab:w1.heap[Ac]? = some (Obj.cells #[Value.int .i64 U0,Value.int .i64 U1,Value.int .i64 U2] 48):=Ab
 have Ap:w1.cell? ⟨Ac,0,none⟩=some (Value.int .i64 U0):=zA Ab
 have Aq:w1.cell? ⟨Ac,1,none⟩=some (Value.int .i64 U1):=zA Ab
 have Ar:w1.cell? ⟨Ac,2,none⟩=some (Value.int .i64 U2):=zA Ab
 replace Aa:w1.heap[Ad]? = some (Obj.cells #[Value.int .i64 V0,Value.int .i64 V1,Value.int .i64 V2] 48):=Aa
 have Am:w1.cell? ⟨Ad,0,none⟩=some (Value.int .i64 V0):=zA Aa
 have An:w1.cell? ⟨Ad,1,none⟩=some (Value.int .i64 V1):=zA Aa
 have Ao:w1.cell? ⟨Ad,2,none⟩=some (Value.int .i64 V2):=zA Aa
 clear A0 A1 A2 A3 A7 A8 A9 Ba As At Au Av Aw Ax Ay Az m0 m1
 go_upto_region 5 with ((first | (go_at_call 30;with_reducible refine (chVB hb R C10).mono ?_) | (go_at_call 26;with_reducible refine (chVB hb R C11).mono ?_));clear hb;rintro e w1 ⟨rfl,hk,hb⟩;clear Ae Af Ag Ah Ai Aj Ak Al Ap Aq Ar Am An Ao;replace a0:=zB hk a0;replace a1:=zB hk a1;replace Ab:=zB hk Ab;replace Aa:=zB hk Aa;obtain ⟨Ae,Af,Ag,Ah⟩:=ce4 a0;obtain ⟨Ai,Aj,Ak,Al⟩:=ce4 a1;obtain ⟨Ap,Aq,Ar⟩:=ce3 Ab;obtain ⟨Am,An,Ao⟩:=ce3 Aa;clear hk)
 obtain ⟨As,At,Au,Av⟩:=cy4 a0
 obtain ⟨Aw,Ax,Ay,Az⟩:=cy4 a1
 obtain ⟨Bb,Bc,Bd⟩:=cy3 Ab
 obtain ⟨Be,Bf,Bg⟩:=cy3 Aa
 have A4:=rrV C10 R hb
 have A5:=rrV C13 R hb
 have A6:=rrV C14 R hb
 refine wp_region_quiet_below (by first | assumption | kernel_rfl) (by kernel_rfl) ?_
 repeat (quiet_step (first | (with_reducible exact A4.out _ _) | (with_reducible exact A5.out _ _) | (with_reducible exact A6.out _ _)))
 refine wpQuiet_nil ?_
 intro w1 hw'
 obtain ⟨hk,hb⟩:=zQ hb hw'
 clear Ae Af Ag Ah Ai Aj Ak Al Ap Aq Ar Am An Ao
 replace a0:=zB hk a0
 replace a1:=zB hk a1
 replace Ab:=zB hk Ab
 replace Aa:=zB hk Aa
 obtain ⟨Ae,Af,Ag,Ah⟩:=ce4 a0
 obtain ⟨Ai,Aj,Ak,Al⟩:=ce4 a1
 obtain ⟨Ap,Aq,Ar⟩:=ce3 Ab
 obtain ⟨Am,An,Ao⟩:=ce3 Aa
 clear A4 A5 A6 As At Au Av Aw Ax Ay Az Bb Bc Bd Be Bf Bg
 clear hk hw'
 go_wp2_with (first | (go_at_call 33;with_reducible refine (chVB hb R C15).mono ?_;clear hb;rintro e w1 ⟨rfl,hk,hb⟩;clear Ap Aq Ar Am An Ao;replace Ab:=zB hk Ab;replace Aa:=zB hk Aa;obtain ⟨Ap,Aq,Ar⟩:=ce3 Ab;obtain ⟨Am,An,Ao⟩:=ce3 Aa;clear hk) | (go_at_call 33;with_reducible refine (chVB hb R C16).mono ?_;clear hb;rintro e w1 ⟨rfl,hk,hb⟩;clear Am An Ao;replace Aa:=zB hk Aa;obtain ⟨Am,An,Ao⟩:=ce3 Aa;clear hk))
 first | go_ret | go_ret2 | go_ret3
 exact ⟨rfl,hb⟩
theorem ltrends_11e  (i0 i1 i2 j0 j1 j2 X0 X1 X2 Y0 Y1 Y2 U0 U1 U2 V0 V1 V2:Int) (d e N p1 p2 tu:Int) (s0 s1 s2 t0 t1 t2:ByteArray) (ck:CV 12 #[] (.bool true)) (ca:CV 29 #[.agg #[.int .i8 i0,.int .i8 i1,.int .i8 i2,.int .u8 d]] (.agg #[.int .i64 X0,.int .i64 X1,.int .i64 X2])) (za:CV 28 #[.agg #[.int .i64 X0,.int .i64 X1,.int .i64 X2]] (.bool false)) (cb:CV 29 #[.agg #[.int .i8 j0,.int .i8 j1,.int .i8 j2,.int .u8 e]] (.agg #[.int .i64 Y0,.int .i64 Y1,.int .i64 Y2])) (zb:CV 28 #[.agg #[.int .i64 Y0,.int .i64 Y1,.int .i64 Y2]] (.bool false)) (ma:CV 30 #[.agg #[.int .i8 i0,.int .i8 i1,.int .i8 i2,.int .u8 d]] (.agg #[.string s0,.string s1,.string s2])) (mb:CV 30 #[.agg #[.int .i8 j0,.int .i8 j1,.int .i8 j2,.int .u8 e]] (.agg #[.string t0,.string t1,.string t2])) (da:CV 32 #[.agg #[.int .i64 X0,.int .i64 X1,.int .i64 X2]] (.agg #[.int .i64 U0,.int .i64 U1,.int .i64 U2])) (db:CV 32 #[.agg #[.int .i64 Y0,.int .i64 Y1,.int .i64 Y2]] (.agg #[.int .i64 V0,.int .i64 V1,.int .i64 V2])) (tr:CV 26 #[.agg #[.string s0,.string s1,.string s2]] (.tuple #[.int .i64 N,.int .i64 0])) (ct:CV 17 #[.agg #[.string s0,.string s1,.string s2],.agg #[.string t0,.string t1,.string t2]] (.tuple #[.int .i64 0,.int .i64 0])) (ou:CV 33 #[.int .i64 U0,.int .i64 U1] (.int .i64 N)) (ov:CV 33 #[.int .i64 V0,.int .i64 V1] (.int .i64 N)) (WM0:IntKind.i64.wrap (U0*V1)=p1) (WM1:IntKind.i64.wrap (U1*V0)=p2) (WM2:IntKind.i64.wrap (p1 - p2)=tu) (WC0:(U0 == 0)=true) (WC1:(U1 == 0)=false) (WC2:(V0 == 0)=true) (WC3:(V1 == 0)=false) (WC4:decide (N < N)=false) (WC5:(N == N)=true) (WC6:decide (tu < 0)=false) (WC7:decide (N < N)=false) (WC8:decide (0 < tu)=false) (w:World) (R:EnvV w) :
   Calls Tryz.prog 5 #[.agg #[.int .i8 i0,.int .i8 i1,.int .i8 i2,.int .u8 d],.agg #[.int .i8 j0,.int .i8 j1,.int .i8 j2,.int .u8 e]] w (Ret w (.bool true)):=by
 have c1:=ck
 have c2:=ca
 have c3:=za
 have c4:=cb
 have c5:=zb
 have c7:=da
 have c9:=db
 have c10:=ma
 have c11:=tr
 have c13:=mb
 have c14:=ct
 have c15:=ou
 have c16:=ov
 have gm0:IntKind.i64.wrap (U0*V1)=p1:=WM0
 have gm1:IntKind.i64.wrap (U1*V0)=p2:=WM1
 have gm2:IntKind.i64.wrap (p1 - p2)=tu:=WM2
 have gc0:(U0 == 0)=true:=WC0
 have gc1:(U1 == 0)=false:=WC1
 have gc2:(V0 == 0)=true:=WC2
 have gc3:(V1 == 0)=false:=WC3
 have gc4:decide (N < N)=false:=WC4
 have gc5:(N == N)=true:=WC5
 have gc6:decide (tu < 0)=false:=WC6
 have gc7:decide (N < N)=false:=WC7
 have gc8:decide (0 < tu)=false:=WC8
 have C1:=Lib.hid c1
 have C2:=Lib.hid c2
 have C3:=Lib.hid c3
 have C4:=Lib.hid c4
 have C5:=Lib.hid c5
 have C7:=Lib.hid c7
 have C9:=Lib.hid c9
 have C10:=Lib.hid c10
 have C11:=Lib.hid c11
 have C13:=Lib.hid c13
 have C14:=Lib.hid c14
 have C15:=Lib.hid c15
 have C16:=Lib.hid c16
 clear c1 c2 c3 c4 c5 c7 c9 c10 c11 c13 c14 c15 c16 ck ca za cb zb ma mb da db tr ct ou ov WM0 WM1 WM2 WC0 WC1 WC2 WC3 WC4 WC5 WC6 WC7 WC8
 have hb:=Below.refl w.heap.size w
 go_enter Tryz.func5,Tryz.ntmps5
 go_upto_region 1 with fail
 refine wp_alloc2 (fun w1 a0 a1 hk=>?_)
 replace hb:=hb.trans (hk.mono hb.size)
 clear hk
 obtain ⟨Ae,Af,Ag,Ah⟩:=ce4 a0
 obtain ⟨Ai,Aj,Ak,Al⟩:=ce4 a1
 go_upto_region 3 with ((first | (go_at_call 12;with_reducible refine (chVB hb R C1).mono ?_) | (go_at_call 29;first | with_reducible refine (chVB hb R C2).mono ?_ | with_reducible refine (chVB hb R C4).mono ?_) | (go_at_call 28;first | with_reducible refine (chVB hb R C3).mono ?_ | with_reducible refine (chVB hb R C5).mono ?_));clear hb;rintro e w1 ⟨rfl,hk,hb⟩;clear Ae Af Ag Ah Ai Aj Ak Al;replace a0:=zB hk a0;replace a1:=zB hk a1;obtain ⟨Ae,Af,Ag,Ah⟩:=ce4 a0;obtain ⟨Ai,Aj,Ak,Al⟩:=ce4 a1;clear hk)
 obtain ⟨As,At,Au,Av⟩:=cy4 a0
 obtain ⟨Aw,Ax,Ay,Az⟩:=cy4 a1
 have A7:=rrV C2 R hb
 have A8:=rrV C7 R hb
 have A9:=rrV C4 R hb
 have Ba:=rrV C9 R hb
 have A0:=qqV C2 R hb
 have A1:=qqV C7 R hb
 have A2:=qqV C4 R hb
 have A3:=qqV C9 R hb
 refine wp_free2 6 0 (fun i=>if i=6 then Obj.cells #[Value.int .i64 0,Value.int .i64 0,Value.int .i64 0] 48 else if i=7 then Obj.cells #[Value.int .i64 0,Value.int .i64 0,Value.int .i64 0] 48 else Obj.cells #[] 0) (fun i=>if i=6 then Obj.cells #[Value.int .i64 U0,Value.int .i64 U1,Value.int .i64 U2] 48 else if i=7 then Obj.cells #[Value.int .i64 V0,Value.int .i64 V1,Value.int .i64 V2] 48 else Obj.cells #[] 0) (some 5) (some 6) (by first | assumption | kernel_rfl) (by kernel_rfl) ?lay rfl rfl ?_
 case lay =>
   intro i h1 h2
   obtain rfl | rfl:i=6∨i=7:=by omega
   all_goals exact ⟨_,rfl,rfl,fun a w=>(by first | (go_simp;done) | (go_simp;rfl))⟩
 simp only [List.take_succ_cons,List.take_zero]
 repeat (refine wpB_step (fun K hK=>?_);go_simp;first | (refine hK _ ?_;clear hK K) | (apply Exists.intro;refine ⟨fun _=>?_,hK _ ?_⟩;(first | (with_reducible exact A0.out _ _) | (with_reducible exact A1.out _ _) | (with_reducible exact A2.out _ _) | (with_reducible exact A3.out _ _));clear hK K))
 refine wpB_nil ?_
 intro Ac Ad
 refine ⟨?_,?_,?_⟩
 · refine ⟨_,rfl,rfl,rfl,fun cs b h=>(by cases h),fun w hw=>?_⟩
   replace hw:w.heap[Ac]? = some (Obj.cells #[Value.int .i64 0,Value.int .i64 0,Value.int .i64 0] 48):=hw
   have z0:w.cell? ⟨Ac,0,none⟩=some (Value.int .i64 0):=zA hw
   have y0:w.frozen? ⟨Ac,0,none⟩=false:=zD hw
   have z1:w.cell? ⟨Ac,1,none⟩=some (Value.int .i64 0):=zA hw
   have y1:w.frozen? ⟨Ac,1,none⟩=false:=zD hw
   have z2:w.cell? ⟨Ac,2,none⟩=some (Value.int .i64 0):=zA hw
   have y2:w.frozen? ⟨Ac,2,none⟩=false:=zD hw
   refine ⟨_,?_,(Wrote.set (i:=2) (Wrote.set (i:=1) (Wrote.set (i:=0) (Wrote.refl hw) (Value.int .i64 U0)) (Value.int .i64 U1)) (Value.int .i64 U2))⟩
   go_simp
 · refine ⟨_,rfl,rfl,rfl,fun cs b h=>(by cases h),fun w hw=>?_⟩
   replace hw:w.heap[Ad]? = some (Obj.cells #[Value.int .i64 0,Value.int .i64 0,Value.int .i64 0] 48):=hw
   have z0:w.cell? ⟨Ad,0,none⟩=some (Value.int .i64 0):=zA hw
   have y0:w.frozen? ⟨Ad,0,none⟩=false:=zD hw
   have z1:w.cell? ⟨Ad,1,none⟩=some (Value.int .i64 0):=zA hw
   have y1:w.frozen? ⟨Ad,1,none⟩=false:=zD hw
   have z2:w.cell? ⟨Ad,2,none⟩=some (Value.int .i64 0):=zA hw
   have y2:w.frozen? ⟨Ad,2,none⟩=false:=zD hw
   refine ⟨_,?_,(Wrote.set (i:=2) (Wrote.set (i:=1) (Wrote.set (i:=0) (Wrote.refl hw) (Value.int .i64 V0)) (Value.int .i64 V1)) (Value.int .i64 V2))⟩
   go_simp
 intro w1 hk m0 m1 Ab Aa _
 clear Ae Af Ag Ah Ai Aj Ak Al
 replace a0:=zB hk a0
 replace a1:=zB hk a1
 obtain ⟨Ae,Af,Ag,Ah⟩:=ce4 a0
 obtain ⟨Ai,Aj,Ak,Al⟩:=ce4 a1
 replace hb:=hb.trans (hk.mono hb.size)
 clear hk
 replace Ab:w1.heap[Ac]? = some (Obj.cells #[Value.int .i64 U0,Value.int .i64 U1,Value.int .i64 U2] 48):=Ab
 have Ap:w1.cell? ⟨Ac,0,none⟩=some (Value.int .i64 U0):=zA Ab
 have Aq:w1.cell? ⟨Ac,1,none⟩=some (Value.int .i64 U1):=zA Ab
 have Ar:w1.cell? ⟨Ac,2,none⟩=some (Value.int .i64 U2):=zA Ab
 replace Aa:w1.heap[Ad]? = some (Obj.cells #[Value.int .i64 V0,Value.int .i64 V1,Value.int .i64 V2] 48):=Aa
 have Am:w1.cell? ⟨Ad,0,none⟩=some (Value.int .i64 V0):=zA Aa
 have An:w1.cell? ⟨Ad,1,none⟩=some (Value.int .i64 V1):=zA Aa
 have Ao:w1.cell? ⟨Ad,2,none⟩=some (Value.int .i64 V2):=zA Aa
 clear A0 A1 A2 A3 A7 A8 A9 Ba As At Au Av Aw Ax Ay Az m0 m1
 go_upto_region 5 with ((first | (go_at_call 30;with_reducible refine (chVB hb R C10).mono ?_) | (go_at_call 26;with_reducible refine (chVB hb R C11).mono ?_));clear hb;rintro e w1 ⟨rfl,hk,hb⟩;clear Ae Af Ag Ah Ai Aj Ak Al Ap Aq Ar Am An Ao;replace a0:=zB hk a0;replace a1:=zB hk a1;replace Ab:=zB hk Ab;replace Aa:=zB hk Aa;obtain ⟨Ae,Af,Ag,Ah⟩:=ce4 a0;obtain ⟨Ai,Aj,Ak,Al⟩:=ce4 a1;obtain ⟨Ap,Aq,Ar⟩:=ce3 Ab;obtain ⟨Am,An,Ao⟩:=ce3 Aa;clear hk)
 obtain ⟨As,At,Au,Av⟩:=cy4 a0
 obtain ⟨Aw,Ax,Ay,Az⟩:=cy4 a1
 obtain ⟨Bb,Bc,Bd⟩:=cy3 Ab
 obtain ⟨Be,Bf,Bg⟩:=cy3 Aa
 have A4:=rrV C10 R hb
 have A5:=rrV C13 R hb
 have A6:=rrV C14 R hb
 refine wp_region_quiet_below (by first | assumption | kernel_rfl) (by kernel_rfl) ?_
 repeat (quiet_step (first | (with_reducible exact A4.out _ _) | (with_reducible exact A5.out _ _) | (with_reducible exact A6.out _ _)))
 refine wpQuiet_nil ?_
 intro w1 hw'
 obtain ⟨hk,hb⟩:=zQ hb hw'
 clear Ae Af Ag Ah Ai Aj Ak Al Ap Aq Ar Am An Ao
 replace a0:=zB hk a0
 replace a1:=zB hk a1
 replace Ab:=zB hk Ab
 replace Aa:=zB hk Aa
 obtain ⟨Ae,Af,Ag,Ah⟩:=ce4 a0
 obtain ⟨Ai,Aj,Ak,Al⟩:=ce4 a1
 obtain ⟨Ap,Aq,Ar⟩:=ce3 Ab
 obtain ⟨Am,An,Ao⟩:=ce3 Aa
 clear A4 A5 A6 As At Au Av Aw Ax Ay Az Bb Bc Bd Be Bf Bg
 clear hk hw'
 go_wp2_with (first | (go_at_call 33;with_reducible refine (chVB hb R C15).mono ?_;clear hb;rintro e w1 ⟨rfl,hk,hb⟩;clear Ap Aq Ar Am An Ao;replace Ab:=zB hk Ab;replace Aa:=zB hk Aa;obtain ⟨Ap,Aq,Ar⟩:=ce3 Ab;obtain ⟨Am,An,Ao⟩:=ce3 Aa;clear hk) | (go_at_call 33;with_reducible refine (chVB hb R C16).mono ?_;clear hb;rintro e w1 ⟨rfl,hk,hb⟩;clear Am An Ao;replace Aa:=zB hk Aa;obtain ⟨Am,An,Ao⟩:=ce3 Aa;clear hk))
 first | go_ret | go_ret2 | go_ret3
 exact ⟨rfl,hb⟩
end Go.Proofs.YtpiiclmkbplkhaaGreatDoor.Kl
