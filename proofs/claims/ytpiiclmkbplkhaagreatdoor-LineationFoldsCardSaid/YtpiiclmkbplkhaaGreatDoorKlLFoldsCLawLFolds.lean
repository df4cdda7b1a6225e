import Derived.Test.YtpiiclmkbplkhaaGreatDoorKlLFoldsCLC
import Derived.BigRegion
namespace Go.Proofs.YtpiiclmkbplkhaaGreatDoor.Kl
open Go Go.RowKit
set_option maxRecDepth 100000
set_option maxHeartbeats 8000000
theorem lfolds_za  (i0 i1 i2 j0 j1 j2 X0 X1 X2:Int) (d e:Int) (ck:CV 12 #[] (.bool true)) (ca:CV 29 #[.agg #[.int .i8 i0,.int .i8 i1,.int .i8 i2,.int .u8 d]] (.agg #[.int .i64 X0,.int .i64 X1,.int .i64 X2])) (za:CV 28 #[.agg #[.int .i64 X0,.int .i64 X1,.int .i64 X2]] (.bool true)) (w:World) (R:EnvV w) :
   Calls Tryz.prog 9 #[.agg #[.int .i8 i0,.int .i8 i1,.int .i8 i2,.int .u8 d],.agg #[.int .i8 j0,.int .i8 j1,.int .i8 j2,.int .u8 e]] w (Ret w (.bool true)):=by
 have c1:=ck
 have c2:=ca
 have c3:=za
 have C1:=Lib.hid c1
 have C2:=Lib.hid c2
 have C3:=Lib.hid c3
 clear c1 c2 c3 ck ca za
 have hb:=Below.refl w.heap.size w
 go_enter Tryz.func9,Tryz.ntmps9
 go_upto_region 1 with fail
 refine wp_alloc2 (fun w1 a0 a1 hk=>?_)
 replace hb:=hb.trans (hk.mono hb.size)
 clear hk
 obtain ⟨Aa,Ab,Ac,Ad⟩:=ce4 a0
 obtain ⟨Ae,Af,Ag,Ah⟩:=ce4 a1
 go_wp2_with ((first | (go_at_call 12;first | with_reducible refine (chVB hb R C1).mono ?_ | with_reducible refine (chVB hb R C1).mono ?_) | (go_at_call 29;with_reducible refine (chVB hb R C2).mono ?_) | (go_at_call 28;with_reducible refine (chVB hb R C3).mono ?_));clear hb;rintro e w1 ⟨rfl,hk,hb⟩;clear Aa Ab Ac Ad Ae Af Ag Ah;replace a0:=zB hk a0;replace a1:=zB hk a1;obtain ⟨Aa,Ab,Ac,Ad⟩:=ce4 a0;obtain ⟨Ae,Af,Ag,Ah⟩:=ce4 a1;clear hk)
 first | go_ret | go_ret2 | go_ret3
 exact ⟨rfl,hb⟩
theorem lfolds_zb  (i0 i1 i2 j0 j1 j2 X0 X1 X2 Y0 Y1 Y2:Int) (d e:Int) (ck:CV 12 #[] (.bool true)) (ca:CV 29 #[.agg #[.int .i8 i0,.int .i8 i1,.int .i8 i2,.int .u8 d]] (.agg #[.int .i64 X0,.int .i64 X1,.int .i64 X2])) (za:CV 28 #[.agg #[.int .i64 X0,.int .i64 X1,.int .i64 X2]] (.bool false)) (cb:CV 29 #[.agg #[.int .i8 j0,.int .i8 j1,.int .i8 j2,.int .u8 e]] (.agg #[.int .i64 Y0,.int .i64 Y1,.int .i64 Y2])) (zb:CV 28 #[.agg #[.int .i64 Y0,.int .i64 Y1,.int .i64 Y2]] (.bool true)) (w:World) (R:EnvV w) :
   Calls Tryz.prog 9 #[.agg #[.int .i8 i0,.int .i8 i1,.int .i8 i2,.int .u8 d],.agg #[.int .i8 j0,.int .i8 j1,.int .i8 j2,.int .u8 e]] w (Ret w (.bool true)):=by
 have c1:=ck
 have c2:=ca
 have c3:=za
 have c4:=cb
 have c5:=zb
 have C1:=Lib.hid c1
 have C2:=Lib.hid c2
 have C3:=Lib.hid c3
 have C4:=Lib.hid c4
 have C5:=Lib.hid c5
 clear c1 c2 c3 c4 c5 ck ca za cb zb
 have hb:=Below.refl w.heap.size w
 go_enter Tryz.func9,Tryz.ntmps9
 go_upto_region 1 with fail
 refine wp_alloc2 (fun w1 a0 a1 hk=>?_)
 replace hb:=hb.trans (hk.mono hb.size)
 clear hk
 obtain ⟨Aa,Ab,Ac,Ad⟩:=ce4 a0
 obtain ⟨Ae,Af,Ag,Ah⟩:=ce4 a1
 go_wp2_with ((first | (go_at_call 12;first | with_reducible refine (chVB hb R C1).mono ?_ | with_reducible refine (chVB hb R C1).mono ?_) | (go_at_call 29;first | with_reducible refine (chVB hb R C2).mono ?_ | with_reducible refine (chVB hb R C4).mono ?_) | (go_at_call 28;first | with_reducible refine (chVB hb R C3).mono ?_ | with_reducible refine (chVB hb R C5).mono ?_));clear hb;rintro e w1 ⟨rfl,hk,hb⟩;clear Aa Ab Ac Ad Ae Af Ag Ah;replace a0:=zB hk a0;replace a1:=zB hk a1;obtain ⟨Aa,Ab,Ac,Ad⟩:=ce4 a0;obtain ⟨Ae,Af,Ag,Ah⟩:=ce4 a1;clear hk)
 first | go_ret | go_ret2 | go_ret3
 exact ⟨rfl,hb⟩
theorem lfolds_1  (i0 i1 i2 j0 j1 j2 X0 X1 X2 Y0 Y1 Y2:Int) (d e dd m n sq d4 dq s3:Int) (s0 s1 s2 t0 t1 t2:ByteArray) (ck:CV 12 #[] (.bool true)) (ca:CV 29 #[.agg #[.int .i8 i0,.int .i8 i1,.int .i8 i2,.int .u8 d]] (.agg #[.int .i64 X0,.int .i64 X1,.int .i64 X2])) (za:CV 28 #[.agg #[.int .i64 X0,.int .i64 X1,.int .i64 X2]] (.bool false)) (cb:CV 29 #[.agg #[.int .i8 j0,.int .i8 j1,.int .i8 j2,.int .u8 e]] (.agg #[.int .i64 Y0,.int .i64 Y1,.int .i64 Y2])) (zb:CV 28 #[.agg #[.int .i64 Y0,.int .i64 Y1,.int .i64 Y2]] (.bool false)) (ma:CV 30 #[.agg #[.int .i8 i0,.int .i8 i1,.int .i8 i2,.int .u8 d]] (.agg #[.string s0,.string s1,.string s2])) (mb:CV 30 #[.agg #[.int .i8 j0,.int .i8 j1,.int .i8 j2,.int .u8 e]] (.agg #[.string t0,.string t1,.string t2])) (cdd:CV 35 #[.agg #[.int .i64 X0,.int .i64 X1,.int .i64 X2],.agg #[.int .i64 Y0,.int .i64 Y1,.int .i64 Y2]] (.int .i64 dd)) (cm:CV 35 #[.agg #[.int .i64 X0,.int .i64 X1,.int .i64 X2],.agg #[.int .i64 X0,.int .i64 X1,.int .i64 X2]] (.int .i64 m)) (cn:CV 35 #[.agg #[.int .i64 Y0,.int .i64 Y1,.int .i64 Y2],.agg #[.int .i64 Y0,.int .i64 Y1,.int .i64 Y2]] (.int .i64 n)) (cI:CV 24 #[.agg #[.string s0,.string s1,.string s2],.agg #[.string t0,.string t1,.string t2]] (.tuple #[.int .i64 1,.int .i64 0])) (WM0:IntKind.i64.wrap (m*n)=sq) (WM1:IntKind.i64.wrap (4*dd)=d4) (WM2:IntKind.i64.wrap (d4*dd)=dq) (WM3:IntKind.i64.wrap (3*sq)=s3) (WC0:decide (0 < dd)=true) (WC1:decide (sq < dq)=true) (w:World) (R:EnvV w) :
   Calls Tryz.prog 9 #[.agg #[.int .i8 i0,.int .i8 i1,.int .i8 i2,.int .u8 d],.agg #[.int .i8 j0,.int .i8 j1,.int .i8 j2,.int .u8 e]] w (Ret w (.bool true)):=by
 have c1:=ck
 have c2:=ca
 have c3:=za
 have c4:=cb
 have c5:=zb
 have c6:=ma
 have c7:=mb
 have c8:=cI
 have c11:=cdd
 have c14:=cm
 have c17:=cn
 have gm0:IntKind.i64.wrap (m*n)=sq:=WM0
 have gm1:IntKind.i64.wrap (4*dd)=d4:=WM1
 have gm2:IntKind.i64.wrap (d4*dd)=dq:=WM2
 have gm3:IntKind.i64.wrap (3*sq)=s3:=WM3
 have gc0:decide (0 < dd)=true:=WC0
 have gc1:decide (sq < dq)=true:=WC1
 have C1:=Lib.hid c1
 have C2:=Lib.hid c2
 have C3:=Lib.hid c3
 have C4:=Lib.hid c4
 have C5:=Lib.hid c5
 have C6:=Lib.hid c6
 have C7:=Lib.hid c7
 have C8:=Lib.hid c8
 have C11:=Lib.hid c11
 have C14:=Lib.hid c14
 have C17:=Lib.hid c17
 clear c1 c2 c3 c4 c5 c6 c7 c8 c11 c14 c17 ck ca za cb zb ma mb cdd cm cn cI WM0 WM1 WM2 WM3 WC0 WC1
 have hb:=Below.refl w.heap.size w
 go_enter Tryz.func9,Tryz.ntmps9
 go_upto_region 1 with fail
 refine wp_alloc2 (fun w1 a0 a1 hk=>?_)
 replace hb:=hb.trans (hk.mono hb.size)
 clear hk
 obtain ⟨Aa,Ab,Ac,Ad⟩:=ce4 a0
 obtain ⟨Ae,Af,Ag,Ah⟩:=ce4 a1
 go_upto_region 3 with ((first | (go_at_call 12;with_reducible refine (chVB hb R C1).mono ?_) | (go_at_call 29;first | with_reducible refine (chVB hb R C2).mono ?_ | with_reducible refine (chVB hb R C4).mono ?_) | (go_at_call 28;first | with_reducible refine (chVB hb R C3).mono ?_ | with_reducible refine (chVB hb R C5).mono ?_));clear hb;rintro e w1 ⟨rfl,hk,hb⟩;clear Aa Ab Ac Ad Ae Af Ag Ah;replace a0:=zB hk a0;replace a1:=zB hk a1;obtain ⟨Aa,Ab,Ac,Ad⟩:=ce4 a0;obtain ⟨Ae,Af,Ag,Ah⟩:=ce4 a1;clear hk)
 obtain ⟨Ai,Aj,Ak,Al⟩:=cy4 a0
 obtain ⟨Am,An,Ao,Ap⟩:=cy4 a1
 have Aq:=rrV C6 R hb
 have Ar:=rrV C7 R hb
 have As:=rrV C8 R hb
 refine wp_region_quiet_below (by first | assumption | kernel_rfl) (by kernel_rfl) ?_
 repeat (quiet_step (first | (with_reducible exact Aq.out _ _) | (with_reducible exact Ar.out _ _) | (with_reducible exact As.out _ _)))
 refine wpQuiet_nil ?_
 intro w1 hw'
 obtain ⟨hk,hb⟩:=zQ hb hw'
 clear Aa Ab Ac Ad Ae Af Ag Ah
 replace a0:=zB hk a0
 replace a1:=zB hk a1
 obtain ⟨Aa,Ab,Ac,Ad⟩:=ce4 a0
 obtain ⟨Ae,Af,Ag,Ah⟩:=ce4 a1
 clear Aq Ar As Ai Aj Ak Al Am An Ao Ap
 clear hk hw'
 go_upto_region 4 with fail
 obtain ⟨Ai,Aj,Ak,Al⟩:=cy4 a0
 obtain ⟨Am,An,Ao,Ap⟩:=cy4 a1
 have At:=rrV C2 R hb
 have Au:=rrV C4 R hb
 have Av:=rrV C11 R hb
 have Aw:=rrV C2 R hb
 have Ax:=rrV C2 R hb
 have Ay:=rrV C14 R hb
 have Az:=rrV C4 R hb
 have A0:=rrV C4 R hb
 have A1:=rrV C17 R hb
 refine wp_region_quiet_below (by first | assumption | kernel_rfl) (by kernel_rfl) ?_
 repeat (quiet_step (first | (with_reducible exact At.out _ _) | (with_reducible exact Au.out _ _) | (with_reducible exact Av.out _ _) | (with_reducible exact Aw.out _ _) | (with_reducible exact Ax.out _ _) | (with_reducible exact Ay.out _ _) | (with_reducible exact Az.out _ _) | (with_reducible exact A0.out _ _) | (with_reducible exact A1.out _ _)))
 refine wpQuiet_nil ?_
 intro w1 hw'
 obtain ⟨hk,hb⟩:=zQ hb hw'
 clear Aa Ab Ac Ad Ae Af Ag Ah
 replace a0:=zB hk a0
 replace a1:=zB hk a1
 obtain ⟨Aa,Ab,Ac,Ad⟩:=ce4 a0
 obtain ⟨Ae,Af,Ag,Ah⟩:=ce4 a1
 clear At Au Av Aw Ax Ay Az A0 A1 Ai Aj Ak Al Am An Ao Ap
 clear hk hw'
 go_wp2
 first | go_ret | go_ret2 | go_ret3
 exact ⟨rfl,hb⟩
theorem lfolds_2  (i0 i1 i2 j0 j1 j2 X0 X1 X2 Y0 Y1 Y2:Int) (d e dd m n sq d4 dq s3:Int) (s0 s1 s2 t0 t1 t2:ByteArray) (ck:CV 12 #[] (.bool true)) (ca:CV 29 #[.agg #[.int .i8 i0,.int .i8 i1,.int .i8 i2,.int .u8 d]] (.agg #[.int .i64 X0,.int .i64 X1,.int .i64 X2])) (za:CV 28 #[.agg #[.int .i64 X0,.int .i64 X1,.int .i64 X2]] (.bool false)) (cb:CV 29 #[.agg #[.int .i8 j0,.int .i8 j1,.int .i8 j2,.int .u8 e]] (.agg #[.int .i64 Y0,.int .i64 Y1,.int .i64 Y2])) (zb:CV 28 #[.agg #[.int .i64 Y0,.int .i64 Y1,.int .i64 Y2]] (.bool false)) (ma:CV 30 #[.agg #[.int .i8 i0,.int .i8 i1,.int .i8 i2,.int .u8 d]] (.agg #[.string s0,.string s1,.string s2])) (mb:CV 30 #[.agg #[.int .i8 j0,.int .i8 j1,.int .i8 j2,.int .u8 e]] (.agg #[.string t0,.string t1,.string t2])) (cdd:CV 35 #[.agg #[.int .i64 X0,.int .i64 X1,.int .i64 X2],.agg #[.int .i64 Y0,.int .i64 Y1,.int .i64 Y2]] (.int .i64 dd)) (cm:CV 35 #[.agg #[.int .i64 X0,.int .i64 X1,.int .i64 X2],.agg #[.int .i64 X0,.int .i64 X1,.int .i64 X2]] (.int .i64 m)) (cn:CV 35 #[.agg #[.int .i64 Y0,.int .i64 Y1,.int .i64 Y2],.agg #[.int .i64 Y0,.int .i64 Y1,.int .i64 Y2]] (.int .i64 n)) (cI:CV 24 #[.agg #[.string s0,.string s1,.string s2],.agg #[.string t0,.string t1,.string t2]] (.tuple #[.int .i64 2,.int .i64 0])) (WM0:IntKind.i64.wrap (m*n)=sq) (WM1:IntKind.i64.wrap (4*dd)=d4) (WM2:IntKind.i64.wrap (d4*dd)=dq) (WM3:IntKind.i64.wrap (3*sq)=s3) (WC0:decide (0 < dd)=true) (WC1:decide (sq < dq)=false) (w:World) (R:EnvV w) :
   Calls Tryz.prog 9 #[.agg #[.int .i8 i0,.int .i8 i1,.int .i8 i2,.int .u8 d],.agg #[.int .i8 j0,.int .i8 j1,.int .i8 j2,.int .u8 e]] w (Ret w (.bool true)):=by
 have c1:=ck
 have c2:=ca
 have c3:=za
 have c4:=cb
 have c5:=zb
 have c6:=ma
 have c7:=mb
 have c8:=cI
 have c11:=cdd
 have c14:=cm
 have c17:=cn
 have gm0:IntKind.i64.wrap (m*n)=sq:=WM0
 have gm1:IntKind.i64.wrap (4*dd)=d4:=WM1
 have gm2:IntKind.i64.wrap (d4*dd)=dq:=WM2
 have gm3:IntKind.i64.wrap (3*sq)=s3:=WM3
 have gc0:decide (0 < dd)=true:=WC0
 have gc1:decide (sq < dq)=false:=WC1
 have C1:=Lib.hid c1
 have C2:=Lib.hid c2
 have C3:=Lib.hid c3
 have C4:=Lib.hid c4
 have C5:=Lib.hid c5
 have C6:=Lib.hid c6
 have C7:=Lib.hid c7
 have C8:=Lib.hid c8
 have C11:=Lib.hid c11
 have C14:=Lib.hid c14
 have C17:=Lib.hid c17
 clear c1 c2 c3 c4 c5 c6 c7 c8 c11 c14 c17 ck ca za cb zb ma mb cdd cm cn cI WM0 WM1 WM2 WM3 WC0 WC1
 have hb:=Below.refl w.heap.size w
 go_enter Tryz.func9,Tryz.ntmps9
 go_upto_region 1 with fail
 refine wp_alloc2 (fun w1 a0 a1 hk=>?_)
 replace hb:=hb.trans (hk.mono hb.size)
 clear hk
 obtain ⟨Aa,Ab,Ac,Ad⟩:=ce4 a0
 obtain ⟨Ae,Af,Ag,Ah⟩:=ce4 a1
 go_upto_region 3 with ((first | (go_at_call 12;with_reducible refine (chVB hb R C1).mono ?_) | (go_at_call 29;first | with_reducible refine (chVB hb R C2).mono ?_ | with_reducible refine (chVB hb R C4).mono ?_) | (go_at_call 28;first | with_reducible refine (chVB hb R C3).mono ?_ | with_reducible refine (chVB hb R C5).mono ?_));clear hb;rintro e w1 ⟨rfl,hk,hb⟩;clear Aa Ab Ac Ad Ae Af Ag Ah;replace a0:=zB hk a0;replace a1:=zB hk a1;obtain ⟨Aa,Ab,Ac,Ad⟩:=ce4 a0;obtain ⟨Ae,Af,Ag,Ah⟩:=ce4 a1;clear hk)
 obtain ⟨Ai,Aj,Ak,Al⟩:=cy4 a0
 obtain ⟨Am,An,Ao,Ap⟩:=cy4 a1
 have Aq:=rrV C6 R hb
 have Ar:=rrV C7 R hb
 have As:=rrV C8 R hb
 refine wp_region_quiet_below (by first | assumption | kernel_rfl) (by kernel_rfl) ?_
 repeat (quiet_step (first | (with_reducible exact Aq.out _ _) | (with_reducible exact Ar.out _ _) | (with_reducible exact As.out _ _)))
 refine wpQuiet_nil ?_
 intro w1 hw'
 obtain ⟨hk,hb⟩:=zQ hb hw'
 clear Aa Ab Ac Ad Ae Af Ag Ah
 replace a0:=zB hk a0
 replace a1:=zB hk a1
 obtain ⟨Aa,Ab,Ac,Ad⟩:=ce4 a0
 obtain ⟨Ae,Af,Ag,Ah⟩:=ce4 a1
 clear Aq Ar As Ai Aj Ak Al Am An Ao Ap
 clear hk hw'
 go_upto_region 4 with fail
 obtain ⟨Ai,Aj,Ak,Al⟩:=cy4 a0
 obtain ⟨Am,An,Ao,Ap⟩:=cy4 a1
 have At:=rrV C2 R hb
 have Au:=rrV C4 R hb
 have Av:=rrV C11 R hb
 have Aw:=rrV C2 R hb
 have Ax:=rrV C2 R hb
 have Ay:=rrV C14 R hb
 have Az:=rrV C4 R hb
 have A0:=rrV C4 R hb
 have A1:=rrV C17 R hb
 refine wp_region_quiet_below (by first | assumption | kernel_rfl) (by kernel_rfl) ?_
 repeat (quiet_step (first | (with_reducible exact At.out _ _) | (with_reducible exact Au.out _ _) | (with_reducible exact Av.out _ _) | (with_reducible exact Aw.out _ _) | (with_reducible exact Ax.out _ _) | (with_reducible exact Ay.out _ _) | (with_reducible exact Az.out _ _) | (with_reducible exact A0.out _ _) | (with_reducible exact A1.out _ _)))
 refine wpQuiet_nil ?_
 intro w1 hw'
 obtain ⟨hk,hb⟩:=zQ hb hw'
 clear Aa Ab Ac Ad Ae Af Ag Ah
 replace a0:=zB hk a0
 replace a1:=zB hk a1
 obtain ⟨Aa,Ab,Ac,Ad⟩:=ce4 a0
 obtain ⟨Ae,Af,Ag,Ah⟩:=ce4 a1
 clear At Au Av Aw Ax Ay Az A0 A1 Ai Aj Ak Al Am An Ao Ap
 clear hk hw'
 go_wp2
 first | go_ret | go_ret2 | go_ret3
 exact ⟨rfl,hb⟩
theorem lfolds_3  (i0 i1 i2 j0 j1 j2 X0 X1 X2 Y0 Y1 Y2:Int) (d e dd m n sq d4 dq s3:Int) (s0 s1 s2 t0 t1 t2:ByteArray) (ck:CV 12 #[] (.bool true)) (ca:CV 29 #[.agg #[.int .i8 i0,.int .i8 i1,.int .i8 i2,.int .u8 d]] (.agg #[.int .i64 X0,.int .i64 X1,.int .i64 X2])) (za:CV 28 #[.agg #[.int .i64 X0,.int .i64 X1,.int .i64 X2]] (.bool false)) (cb:CV 29 #[.agg #[.int .i8 j0,.int .i8 j1,.int .i8 j2,.int .u8 e]] (.agg #[.int .i64 Y0,.int .i64 Y1,.int .i64 Y2])) (zb:CV 28 #[.agg #[.int .i64 Y0,.int .i64 Y1,.int .i64 Y2]] (.bool false)) (ma:CV 30 #[.agg #[.int .i8 i0,.int .i8 i1,.int .i8 i2,.int .u8 d]] (.agg #[.string s0,.string s1,.string s2])) (mb:CV 30 #[.agg #[.int .i8 j0,.int .i8 j1,.int .i8 j2,.int .u8 e]] (.agg #[.string t0,.string t1,.string t2])) (cdd:CV 35 #[.agg #[.int .i64 X0,.int .i64 X1,.int .i64 X2],.agg #[.int .i64 Y0,.int .i64 Y1,.int .i64 Y2]] (.int .i64 dd)) (cm:CV 35 #[.agg #[.int .i64 X0,.int .i64 X1,.int .i64 X2],.agg #[.int .i64 X0,.int .i64 X1,.int .i64 X2]] (.int .i64 m)) (cn:CV 35 #[.agg #[.int .i64 Y0,.int .i64 Y1,.int .i64 Y2],.agg #[.int .i64 Y0,.int .i64 Y1,.int .i64 Y2]] (.int .i64 n)) (cI:CV 24 #[.agg #[.string s0,.string s1,.string s2],.agg #[.string t0,.string t1,.string t2]] (.tuple #[.int .i64 3,.int .i64 0])) (WM0:IntKind.i64.wrap (m*n)=sq) (WM1:IntKind.i64.wrap (4*dd)=d4) (WM2:IntKind.i64.wrap (d4*dd)=dq) (WM3:IntKind.i64.wrap (3*sq)=s3) (WC0:decide (0 < dd)=false) (WC1:decide (dq < sq)=true) (w:World) (R:EnvV w) :
   Calls Tryz.prog 9 #[.agg #[.int .i8 i0,.int .i8 i1,.int .i8 i2,.int .u8 d],.agg #[.int .i8 j0,.int .i8 j1,.int .i8 j2,.int .u8 e]] w (Ret w (.bool true)):=by
 have c1:=ck
 have c2:=ca
 have c3:=za
 have c4:=cb
 have c5:=zb
 have c6:=ma
 have c7:=mb
 have c8:=cI
 have c11:=cdd
 have c14:=cm
 have c17:=cn
 have gm0:IntKind.i64.wrap (m*n)=sq:=WM0
 have gm1:IntKind.i64.wrap (4*dd)=d4:=WM1
 have gm2:IntKind.i64.wrap (d4*dd)=dq:=WM2
 have gm3:IntKind.i64.wrap (3*sq)=s3:=WM3
 have gc0:decide (0 < dd)=false:=WC0
 have gc1:decide (dq < sq)=true:=WC1
 have C1:=Lib.hid c1
 have C2:=Lib.hid c2
 have C3:=Lib.hid c3
 have C4:=Lib.hid c4
 have C5:=Lib.hid c5
 have C6:=Lib.hid c6
 have C7:=Lib.hid c7
 have C8:=Lib.hid c8
 have C11:=Lib.hid c11
 have C14:=Lib.hid c14
 have C17:=Lib.hid c17
 clear c1 c2 c3 c4 c5 c6 c7 c8 c11 c14 c17 ck ca za cb zb ma mb cdd cm cn cI WM0 WM1 WM2 WM3 WC0 WC1
 have hb:=Below.refl w.heap.size w
 go_enter Tryz.func9,Tryz.ntmps9
 go_upto_region 1 with fail
 refine wp_alloc2 (fun w1 a0 a1 hk=>?_)
 replace hb:=hb.trans (hk.mono hb.size)
 clear hk
 obtain ⟨Aa,Ab,Ac,Ad⟩:=ce4 a0
 obtain ⟨Ae,Af,Ag,Ah⟩:=ce4 a1
 go_upto_region 3 with ((first | (go_at_call 12;with_reducible refine (chVB hb R C1).mono ?_) | (go_at_call 29;first | with_reducible refine (chVB hb R C2).mono ?_ | with_reducible refine (chVB hb R C4).mono ?_) | (go_at_call 28;first | with_reducible refine (chVB hb R C3).mono ?_ | with_reducible refine (chVB hb R C5).mono ?_));clear hb;rintro e w1 ⟨rfl,hk,hb⟩;clear Aa Ab Ac Ad Ae Af Ag Ah;replace a0:=zB hk a0;replace a1:=zB hk a1;obtain ⟨Aa,Ab,Ac,Ad⟩:=ce4 a0;obtain ⟨Ae,Af,Ag,Ah⟩:=ce4 a1;clear hk)
 obtain ⟨Ai,Aj,Ak,Al⟩:=cy4 a0
 obtain ⟨Am,An,Ao,Ap⟩:=cy4 a1
 have Aq:=rrV C6 R hb
 have Ar:=rrV C7 R hb
 have As:=rrV C8 R hb
 refine wp_region_quiet_below (by first | assumption | kernel_rfl) (by kernel_rfl) ?_
 repeat (quiet_step (first | (with_reducible exact Aq.out _ _) | (with_reducible exact Ar.out _ _) | (with_reducible exact As.out _ _)))
 refine wpQuiet_nil ?_
 intro w1 hw'
 obtain ⟨hk,hb⟩:=zQ hb hw'
 clear Aa Ab Ac Ad Ae Af Ag Ah
 replace a0:=zB hk a0
 replace a1:=zB hk a1
 obtain ⟨Aa,Ab,Ac,Ad⟩:=ce4 a0
 obtain ⟨Ae,Af,Ag,Ah⟩:=ce4 a1
 clear Aq Ar As Ai Aj Ak Al Am An Ao Ap
 clear hk hw'
 go_upto_region 4 with fail
 obtain ⟨Ai,Aj,Ak,Al⟩:=cy4 a0
 obtain ⟨Am,An,Ao,Ap⟩:=cy4 a1
 have At:=rrV C2 R hb
 have Au:=rrV C4 R hb
 have Av:=rrV C11 R hb
 have Aw:=rrV C2 R hb
 have Ax:=rrV C2 R hb
 have Ay:=rrV C14 R hb
 have Az:=rrV C4 R hb
 have A0:=rrV C4 R hb
 have A1:=rrV C17 R hb
 refine wp_region_quiet_below (by first | assumption | kernel_rfl) (by kernel_rfl) ?_
 repeat (quiet_step (first | (with_reducible exact At.out _ _) | (with_reducible exact Au.out _ _) | (with_reducible exact Av.out _ _) | (with_reducible exact Aw.out _ _) | (with_reducible exact Ax.out _ _) | (with_reducible exact Ay.out _ _) | (with_reducible exact Az.out _ _) | (with_reducible exact A0.out _ _) | (with_reducible exact A1.out _ _)))
 refine wpQuiet_nil ?_
 intro w1 hw'
 obtain ⟨hk,hb⟩:=zQ hb hw'
 clear Aa Ab Ac Ad Ae Af Ag Ah
 replace a0:=zB hk a0
 replace a1:=zB hk a1
 obtain ⟨Aa,Ab,Ac,Ad⟩:=ce4 a0
 obtain ⟨Ae,Af,Ag,Ah⟩:=ce4 a1
 clear At Au Av Aw Ax Ay Az A0 A1 Ai Aj Ak Al Am An Ao Ap
 clear hk hw'
 go_wp2
 first | go_ret | go_ret2 | go_ret3
 exact ⟨rfl,hb⟩
theorem lfolds_4  (i0 i1 i2 j0 j1 j2 X0 X1 X2 Y0 Y1 Y2:Int) (d e dd m n sq d4 dq s3:Int) (s0 s1 s2 t0 t1 t2:ByteArray) (ck:CV 12 #[] (.bool true)) (ca:CV 29 #[.agg #[.int .i8 i0,.int .i8 i1,.int .i8 i2,.int .u8 d]] (.agg #[.int .i64 X0,.int .i64 X1,.int .i64 X2])) (za:CV 28 #[.agg #[.int .i64 X0,.int .i64 X1,.int .i64 X2]] (.bool false)) (cb:CV 29 #[.agg #[.int .i8 j0,.int .i8 j1,.int .i8 j2,.int .u8 e]] (.agg #[.int .i64 Y0,.int .i64 Y1,.int .i64 Y2])) (zb:CV 28 #[.agg #[.int .i64 Y0,.int .i64 Y1,.int .i64 Y2]] (.bool false)) (ma:CV 30 #[.agg #[.int .i8 i0,.int .i8 i1,.int .i8 i2,.int .u8 d]] (.agg #[.string s0,.string s1,.string s2])) (mb:CV 30 #[.agg #[.int .i8 j0,.int .i8 j1,.int .i8 j2,.int .u8 e]] (.agg #[.string t0,.string t1,.string t2])) (cdd:CV 35 #[.agg #[.int .i64 X0,.int .i64 X1,.int .i64 X2],.agg #[.int .i64 Y0,.int .i64 Y1,.int .i64 Y2]] (.int .i64 dd)) (cm:CV 35 #[.agg #[.int .i64 X0,.int .i64 X1,.int .i64 X2],.agg #[.int .i64 X0,.int .i64 X1,.int .i64 X2]] (.int .i64 m)) (cn:CV 35 #[.agg #[.int .i64 Y0,.int .i64 Y1,.int .i64 Y2],.agg #[.int .i64 Y0,.int .i64 Y1,.int .i64 Y2]] (.int .i64 n)) (cI:CV 24 #[.agg #[.string s0,.string s1,.string s2],.agg #[.string t0,.string t1,.string t2]] (.tuple #[.int .i64 4,.int .i64 0])) (WM0:IntKind.i64.wrap (m*n)=sq) (WM1:IntKind.i64.wrap (4*dd)=d4) (WM2:IntKind.i64.wrap (d4*dd)=dq) (WM3:IntKind.i64.wrap (3*sq)=s3) (WC0:decide (0 < dd)=false) (WC1:decide (dq < sq)=false) (WC2:decide (dq < s3)=true) (w:World) (R:EnvV w) :
   Calls Tryz.prog 9 #[.agg #[.int .i8 i0,.int .i8 i1,.int .i8 i2,.int .u8 d],.agg #[.int .i8 j0,.int .i8 j1,.int .i8 j2,.int .u8 e]] w (Ret w (.bool true)):=by
 have c1:=ck
 have c2:=ca
 have c3:=za
 have c4:=cb
 have c5:=zb
 have c6:=ma
 have c7:=mb
 have c8:=cI
 have c11:=cdd
 have c14:=cm
 have c17:=cn
 have gm0:IntKind.i64.wrap (m*n)=sq:=WM0
 have gm1:IntKind.i64.wrap (4*dd)=d4:=WM1
 have gm2:IntKind.i64.wrap (d4*dd)=dq:=WM2
 have gm3:IntKind.i64.wrap (3*sq)=s3:=WM3
 have gc0:decide (0 < dd)=false:=WC0
 have gc1:decide (dq < sq)=false:=WC1
 have gc2:decide (dq < s3)=true:=WC2
 have C1:=Lib.hid c1
 have C2:=Lib.hid c2
 have C3:=Lib.hid c3
 have C4:=Lib.hid c4
 have C5:=Lib.hid c5
 have C6:=Lib.hid c6
 have C7:=Lib.hid c7
 have C8:=Lib.hid c8
 have C11:=Lib.hid c11
 have C14:=Lib.hid c14
 have C17:=Lib.hid c17
 clear c1 c2 c3 c4 c5 c6 c7 c8 c11 c14 c17 ck ca za cb zb ma mb cdd cm cn cI WM0 WM1 WM2 WM3 WC0 WC1 WC2
 have hb:=Below.refl w.heap.size w
 go_enter Tryz.func9,Tryz.ntmps9
 go_upto_region 1 with fail
 refine wp_alloc2 (fun w1 a0 a1 hk=>?_)
 replace hb:=hb.trans (hk.mono hb.size)
 clear hk
 obtain ⟨Aa,Ab,Ac,Ad⟩:=ce4 a0
 obtain ⟨Ae,Af,Ag,Ah⟩:=ce4 a1
 go_upto_region 3 with ((first | (go_at_call 12;with_reducible refine (chVB hb R C1).mono ?_) | (go_at_call 29;first | with_reducible refine (chVB hb R C2).mono ?_ | with_reducible refine (chVB hb R C4).mono ?_) | (go_at_call 28;first | with_reducible refine (chVB hb R C3).mono ?_ | with_reducible refine (chVB hb R C5).mono ?_));clear hb;rintro e w1 ⟨rfl,hk,hb⟩;clear Aa Ab Ac Ad Ae Af Ag Ah;replace a0:=zB hk a0;replace a1:=zB hk a1;obtain ⟨Aa,Ab,Ac,Ad⟩:=ce4 a0;obtain ⟨Ae,Af,Ag,Ah⟩:=ce4 a1;clear hk)
 obtain ⟨Ai,Aj,Ak,Al⟩:=cy4 a0
 obtain ⟨Am,An,Ao,Ap⟩:=cy4 a1
 have Aq:=rrV C6 R hb
 have Ar:=rrV C7 R hb
 have As:=rrV C8 R hb
 refine wp_region_quiet_below (by first | assumption | kernel_rfl) (by kernel_rfl) ?_
 repeat (quiet_step (first | (with_reducible exact Aq.out _ _) | (with_reducible exact Ar.out _ _) | (with_reducible exact As.out _ _)))
 refine wpQuiet_nil ?_
 intro w1 hw'
 obtain ⟨hk,hb⟩:=zQ hb hw'
 clear Aa Ab Ac Ad Ae Af Ag Ah
 replace a0:=zB hk a0
 replace a1:=zB hk a1
 obtain ⟨Aa,Ab,Ac,Ad⟩:=ce4 a0
 obtain ⟨Ae,Af,Ag,Ah⟩:=ce4 a1
 clear Aq Ar As Ai Aj Ak Al Am An Ao Ap
 clear hk hw'
 go_upto_region 4 with fail
 obtain ⟨Ai,Aj,Ak,Al⟩:=cy4 a0
 obtain ⟨Am,An,Ao,Ap⟩:=cy4 a1
 have At:=rrV C2 R hb
 have Au:=rrV C4 R hb
 have Av:=rrV C11 R hb
 have Aw:=rrV C2 R hb
 have Ax:=rrV C2 R hb
 have Ay:=rrV C14 R hb
 have Az:=rrV C4 R hb
 have A0:=rrV C4 R hb
 have A1:=rrV C17 R hb
 refine wp_region_quiet_below (by first | assumption | kernel_rfl) (by kernel_rfl) ?_
 repeat (quiet_step (first | (with_reducible exact At.out _ _) | (with_reducible exact Au.out _ _) | (with_reducible exact Av.out _ _) | (with_reducible exact Aw.out _ _) | (with_reducible exact Ax.out _ _) | (with_reducible exact Ay.out _ _) | (with_reducible exact Az.out _ _) | (with_reducible exact A0.out _ _) | (with_reducible exact A1.out _ _)))
 refine wpQuiet_nil ?_
 intro w1 hw'
 obtain ⟨hk,hb⟩:=zQ hb hw'
 clear Aa Ab Ac Ad Ae Af Ag Ah
 replace a0:=zB hk a0
 replace a1:=zB hk a1
 obtain ⟨Aa,Ab,Ac,Ad⟩:=ce4 a0
 obtain ⟨Ae,Af,Ag,Ah⟩:=ce4 a1
 clear At Au Av Aw Ax Ay Az A0 A1 Ai Aj Ak Al Am An Ao Ap
 clear hk hw'
 go_wp2
 first | go_ret | go_ret2 | go_ret3
 exact ⟨rfl,hb⟩
theorem lfolds_5  (i0 i1 i2 j0 j1 j2 X0 X1 X2 Y0 Y1 Y2:Int) (d e dd m n sq d4 dq s3:Int) (s0 s1 s2 t0 t1 t2:ByteArray) (ck:CV 12 #[] (.bool true)) (ca:CV 29 #[.agg #[.int .i8 i0,.int .i8 i1,.int .i8 i2,.int .u8 d]] (.agg #[.int .i64 X0,.int .i64 X1,.int .i64 X2])) (za:CV 28 #[.agg #[.int .i64 X0,.int .i64 X1,.int .i64 X2]] (.bool false)) (cb:CV 29 #[.agg #[.int .i8 j0,.int .i8 j1,.int .i8 j2,.int .u8 e]] (.agg #[.int .i64 Y0,.int .i64 Y1,.int .i64 Y2])) (zb:CV 28 #[.agg #[.int .i64 Y0,.int .i64 Y1,.int .i64 Y2]] (.bool false)) (ma:CV 30 #[.agg #[.int .i8 i0,.int .i8 i1,.int .i8 i2,.int .u8 d]] (.agg #[.string s0,.string s1,.string s2])) (mb:CV 30 #[.agg #[.int .i8 j0,.int .i8 j1,.int .i8 j2,.int .u8 e]] (.agg #[.string t0,.string t1,.string t2])) (cdd:CV 35 #[.agg #[.int .i64 X0,.int .i64 X1,.int .i64 X2],.agg #[.int .i64 Y0,.int .i64 Y1,.int .i64 Y2]] (.int .i64 dd)) (cm:CV 35 #[.agg #[.int .i64 X0,.int .i64 X1,.int .i64 X2],.agg #[.int .i64 X0,.int .i64 X1,.int .i64 X2]] (.int .i64 m)) (cn:CV 35 #[.agg #[.int .i64 Y0,.int .i64 Y1,.int .i64 Y2],.agg #[.int .i64 Y0,.int .i64 Y1,.int .i64 Y2]] (.int .i64 n)) (cI:CV 24 #[.agg #[.string s0,.string s1,.string s2],.agg #[.string t0,.string t1,.string t2]] (.tuple #[.int .i64 5,.int .i64 0])) (WM0:IntKind.i64.wrap (m*n)=sq) (WM1:IntKind.i64.wrap (4*dd)=d4) (WM2:IntKind.i64.wrap (d4*dd)=dq) (WM3:IntKind.i64.wrap (3*sq)=s3) (WC0:decide (0 < dd)=false) (WC1:decide (dq < sq)=false) (WC2:decide (dq < s3)=false) (w:World) (R:EnvV w) :
   Calls Tryz.prog 9 #[.agg #[.int .i8 i0,.int .i8 i1,.int .i8 i2,.int .u8 d],.agg #[.int .i8 j0,.int .i8 j1,.int .i8 j2,.int .u8 e]] w (Ret w (.bool true)):=by
 have c1:=ck
 have c2:=ca
 have c3:=za
 have c4:=cb
 have c5:=zb
 have c6:=ma
 have c7:=mb
 have c8:=cI
 have c11:=cdd
 have c14:=cm
 have c17:=cn
 have gm0:IntKind.i64.wrap (m*n)=sq:=WM0
 have gm1:IntKind.i64.wrap (4*dd)=d4:=WM1
 have gm2:IntKind.i64.wrap (d4*dd)=dq:=WM2
 have gm3:IntKind.i64.wrap (3*sq)=s3:=WM3
 have gc0:decide (0 < dd)=false:=WC0
 have gc1:decide (dq < sq)=false:=WC1
 have gc2:decide (dq < s3)=false:=WC2
 have C1:=Lib.hid c1
 have C2:=Lib.hid c2
 have C3:=Lib.hid c3
 have C4:=Lib.hid c4
 have C5:=Lib.hid c5
 have C6:=Lib.hid c6
 have C7:=Lib.hid c7
 have C8:=Lib.hid c8
 have C11:=Lib.hid c11
 have C14:=Lib.hid c14
 have C17:=Lib.hid c17
 clear c1 c2 c3 c4 c5 c6 c7 c8 c11 c14 c17 ck ca za cb zb ma mb cdd cm cn cI WM0 WM1 WM2 WM3 WC0 WC1 WC2
 have hb:=Below.refl w.heap.size w
 go_enter Tryz.func9,Tryz.ntmps9
 go_upto_region 1 with fail
 refine wp_alloc2 (fun w1 a0 a1 hk=>?_)
 replace hb:=hb.trans (hk.mono hb.size)
 clear hk
 obtain ⟨Aa,Ab,Ac,Ad⟩:=ce4 a0
 obtain ⟨Ae,Af,Ag,Ah⟩:=ce4 a1
 go_upto_region 3 with ((first | (go_at_call 12;with_reducible refine (chVB hb R C1).mono ?_) | (go_at_call 29;first | with_reducible refine (chVB hb R C2).mono ?_ | with_reducible refine (chVB hb R C4).mono ?_) | (go_at_call 28;first | with_reducible refine (chVB hb R C3).mono ?_ | with_reducible refine (chVB hb R C5).mono ?_));clear hb;rintro e w1 ⟨rfl,hk,hb⟩;clear Aa Ab Ac Ad Ae Af Ag Ah;replace a0:=zB hk a0;replace a1:=zB hk a1;obtain ⟨Aa,Ab,Ac,Ad⟩:=ce4 a0;obtain ⟨Ae,Af,Ag,Ah⟩:=ce4 a1;clear hk)
 obtain ⟨Ai,Aj,Ak,Al⟩:=cy4 a0
 obtain ⟨Am,An,Ao,Ap⟩:=cy4 a1
 have Aq:=rrV C6 R hb
 have Ar:=rrV C7 R hb
 have As:=rrV C8 R hb
 refine wp_region_quiet_below (by first | assumption | kernel_rfl) (by kernel_rfl) ?_
 repeat (quiet_step (first | (with_reducible exact Aq.out _ _) | (with_reducible exact Ar.out _ _) | (with_reducible exact As.out _ _)))
 refine wpQuiet_nil ?_
 intro w1 hw'
 obtain ⟨hk,hb⟩:=zQ hb hw'
 clear Aa Ab Ac Ad Ae Af Ag Ah
 replace a0:=zB hk a0
 replace a1:=zB hk a1
 obtain ⟨Aa,Ab,Ac,Ad⟩:=ce4 a0
 obtain ⟨Ae,Af,Ag,Ah⟩:=ce4 a1
 clear Aq Ar As Ai Aj Ak Al Am An Ao Ap
 clear hk hw'
 go_upto_region 4 with fail
 obtain ⟨Ai,Aj,Ak,Al⟩:=cy4 a0
 obtain ⟨Am,An,Ao,Ap⟩:=cy4 a1
 have At:=rrV C2 R hb
 have Au:=rrV C4 R hb
 have Av:=rrV C11 R hb
 have Aw:=rrV C2 R hb
 have Ax:=rrV C2 R hb
 have Ay:=rrV C14 R hb
 have Az:=rrV C4 R hb
 have A0:=rrV C4 R hb
 have A1:=rrV C17 R hb
 refine wp_region_quiet_below (by first | assumption | kernel_rfl) (by kernel_rfl) ?_
 repeat (quiet_step (first | (with_reducible exact At.out _ _) | (with_reducible exact Au.out _ _) | (with_reducible exact Av.out _ _) | (with_reducible exact Aw.out _ _) | (with_reducible exact Ax.out _ _) | (with_reducible exact Ay.out _ _) | (with_reducible exact Az.out _ _) | (with_reducible exact A0.out _ _) | (with_reducible exact A1.out _ _)))
 refine wpQuiet_nil ?_
 intro w1 hw'
 obtain ⟨hk,hb⟩:=zQ hb hw'
 clear Aa Ab Ac Ad Ae Af Ag Ah
 replace a0:=zB hk a0
 replace a1:=zB hk a1
 obtain ⟨Aa,Ab,Ac,Ad⟩:=ce4 a0
 obtain ⟨Ae,Af,Ag,Ah⟩:=ce4 a1
 clear At Au Av Aw Ax Ay Az A0 A1 Ai Aj Ak Al Am An Ao Ap
 clear hk hw'
 go_wp2
 first | go_ret | go_ret2 | go_ret3
 exact ⟨rfl,hb⟩
end Go.Proofs.YtpiiclmkbplkhaaGreatDoor.Kl
