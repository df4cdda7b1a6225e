import Derived.Test.YtpiiclmkbplkhaaGreatDoorKlLAnglesCLC
import Derived.BigRegion
namespace Go.Proofs.YtpiiclmkbplkhaaGreatDoor.Kl
open Go Go.RowKit
set_option maxRecDepth 100000
set_option maxHeartbeats 8000000
theorem langles_z0  (i0 i1 i2 j0 j1 j2 k0 k1 k2 l0 l1 l2 X0 X1 X2:Int) (d e f g:Int) (ck:CV 12 #[] (.bool true)) (cX:CV 29 #[.agg #[.int .i8 i0,.int .i8 i1,.int .i8 i2,.int .u8 d]] (.agg #[.int .i64 X0,.int .i64 X1,.int .i64 X2])) (zX:CV 28 #[.agg #[.int .i64 X0,.int .i64 X1,.int .i64 X2]] (.bool true)) (w:World) (R:EnvV w) :
   Calls Tryz.prog 7 #[.agg #[.int .i8 i0,.int .i8 i1,.int .i8 i2,.int .u8 d],.agg #[.int .i8 j0,.int .i8 j1,.int .i8 j2,.int .u8 e],.agg #[.int .i8 k0,.int .i8 k1,.int .i8 k2,.int .u8 f,.int .i8 l0,.int .i8 l1,.int .i8 l2,.int .u8 g]] w (Ret w (.bool true)):=by
 have c1:=ck
 have c2:=cX
 have c3:=zX
 have C1:=Lib.hid c1
 have C2:=Lib.hid c2
 have C3:=Lib.hid c3
 clear c1 c2 c3 ck cX zX
 have hb:=Below.refl w.heap.size w
 go_enter Tryz.func7,Tryz.ntmps7
 go_upto_region 1 with fail
 refine wp_alloc3 (fun w1 a0 a1 a2 hk=>?_)
 replace hb:=hb.trans (hk.mono hb.size)
 clear hk
 obtain ⟨Aa,Ab,Ac,Ad⟩:=ce4 a0
 obtain ⟨Ae,Af,Ag,Ah⟩:=ce4 a1
 obtain ⟨Ai,Aj,Ak,Al,Am,An,Ao,Ap⟩:=ce8 a2
 go_wp2_with ((first | (go_at_call 12;first | with_reducible refine (chVB hb R C1).mono ?_ | with_reducible refine (chVB hb R C1).mono ?_) | (go_at_call 29;with_reducible refine (chVB hb R C2).mono ?_) | (go_at_call 28;with_reducible refine (chVB hb R C3).mono ?_));clear hb;rintro e w1 ⟨rfl,hk,hb⟩;clear Aa Ab Ac Ad Ae Af Ag Ah Ai Aj Ak Al Am An Ao Ap;replace a0:=zB hk a0;replace a1:=zB hk a1;replace a2:=zB hk a2;obtain ⟨Aa,Ab,Ac,Ad⟩:=ce4 a0;obtain ⟨Ae,Af,Ag,Ah⟩:=ce4 a1;obtain ⟨Ai,Aj,Ak,Al,Am,An,Ao,Ap⟩:=ce8 a2;clear hk)
 first | go_ret | go_ret2 | go_ret3
 exact ⟨rfl,hb⟩
theorem langles_z1  (i0 i1 i2 j0 j1 j2 k0 k1 k2 l0 l1 l2 X0 X1 X2 Y0 Y1 Y2:Int) (d e f g:Int) (ck:CV 12 #[] (.bool true)) (cX:CV 29 #[.agg #[.int .i8 i0,.int .i8 i1,.int .i8 i2,.int .u8 d]] (.agg #[.int .i64 X0,.int .i64 X1,.int .i64 X2])) (zX:CV 28 #[.agg #[.int .i64 X0,.int .i64 X1,.int .i64 X2]] (.bool false)) (cY:CV 29 #[.agg #[.int .i8 j0,.int .i8 j1,.int .i8 j2,.int .u8 e]] (.agg #[.int .i64 Y0,.int .i64 Y1,.int .i64 Y2])) (zY:CV 28 #[.agg #[.int .i64 Y0,.int .i64 Y1,.int .i64 Y2]] (.bool true)) (w:World) (R:EnvV w) :
   Calls Tryz.prog 7 #[.agg #[.int .i8 i0,.int .i8 i1,.int .i8 i2,.int .u8 d],.agg #[.int .i8 j0,.int .i8 j1,.int .i8 j2,.int .u8 e],.agg #[.int .i8 k0,.int .i8 k1,.int .i8 k2,.int .u8 f,.int .i8 l0,.int .i8 l1,.int .i8 l2,.int .u8 g]] w (Ret w (.bool true)):=by
 have c1:=ck
 have c2:=cX
 have c3:=zX
 have c4:=cY
 have c5:=zY
 have C1:=Lib.hid c1
 have C2:=Lib.hid c2
 have C3:=Lib.hid c3
 have C4:=Lib.hid c4
 have C5:=Lib.hid c5
 clear c1 c2 c3 c4 c5 ck cX zX cY zY
 have hb:=Below.refl w.heap.size w
 go_enter Tryz.func7,Tryz.ntmps7
 go_upto_region 1 with fail
 refine wp_alloc3 (fun w1 a0 a1 a2 hk=>?_)
 replace hb:=hb.trans (hk.mono hb.size)
 clear hk
 obtain ⟨Aa,Ab,Ac,Ad⟩:=ce4 a0
 obtain ⟨Ae,Af,Ag,Ah⟩:=ce4 a1
 obtain ⟨Ai,Aj,Ak,Al,Am,An,Ao,Ap⟩:=ce8 a2
 go_wp2_with ((first | (go_at_call 12;first | with_reducible refine (chVB hb R C1).mono ?_ | with_reducible refine (chVB hb R C1).mono ?_) | (go_at_call 29;first | with_reducible refine (chVB hb R C2).mono ?_ | with_reducible refine (chVB hb R C4).mono ?_) | (go_at_call 28;first | with_reducible refine (chVB hb R C3).mono ?_ | with_reducible refine (chVB hb R C5).mono ?_));clear hb;rintro e w1 ⟨rfl,hk,hb⟩;clear Aa Ab Ac Ad Ae Af Ag Ah Ai Aj Ak Al Am An Ao Ap;replace a0:=zB hk a0;replace a1:=zB hk a1;replace a2:=zB hk a2;obtain ⟨Aa,Ab,Ac,Ad⟩:=ce4 a0;obtain ⟨Ae,Af,Ag,Ah⟩:=ce4 a1;obtain ⟨Ai,Aj,Ak,Al,Am,An,Ao,Ap⟩:=ce8 a2;clear hk)
 first | go_ret | go_ret2 | go_ret3
 exact ⟨rfl,hb⟩
theorem langles_z2  (i0 i1 i2 j0 j1 j2 k0 k1 k2 l0 l1 l2 X0 X1 X2 Y0 Y1 Y2 P0 P1 P2:Int) (d e f g:Int) (ck:CV 12 #[] (.bool true)) (cX:CV 29 #[.agg #[.int .i8 i0,.int .i8 i1,.int .i8 i2,.int .u8 d]] (.agg #[.int .i64 X0,.int .i64 X1,.int .i64 X2])) (zX:CV 28 #[.agg #[.int .i64 X0,.int .i64 X1,.int .i64 X2]] (.bool false)) (cY:CV 29 #[.agg #[.int .i8 j0,.int .i8 j1,.int .i8 j2,.int .u8 e]] (.agg #[.int .i64 Y0,.int .i64 Y1,.int .i64 Y2])) (zY:CV 28 #[.agg #[.int .i64 Y0,.int .i64 Y1,.int .i64 Y2]] (.bool false)) (cP:CV 29 #[.agg #[.int .i8 k0,.int .i8 k1,.int .i8 k2,.int .u8 f]] (.agg #[.int .i64 P0,.int .i64 P1,.int .i64 P2])) (zP:CV 28 #[.agg #[.int .i64 P0,.int .i64 P1,.int .i64 P2]] (.bool true)) (w:World) (R:EnvV w) :
   Calls Tryz.prog 7 #[.agg #[.int .i8 i0,.int .i8 i1,.int .i8 i2,.int .u8 d],.agg #[.int .i8 j0,.int .i8 j1,.int .i8 j2,.int .u8 e],.agg #[.int .i8 k0,.int .i8 k1,.int .i8 k2,.int .u8 f,.int .i8 l0,.int .i8 l1,.int .i8 l2,.int .u8 g]] w (Ret w (.bool true)):=by
 have c1:=ck
 have c2:=cX
 have c3:=zX
 have c4:=cY
 have c5:=zY
 have c6:=cP
 have c7:=zP
 have C1:=Lib.hid c1
 have C2:=Lib.hid c2
 have C3:=Lib.hid c3
 have C4:=Lib.hid c4
 have C5:=Lib.hid c5
 have C6:=Lib.hid c6
 have C7:=Lib.hid c7
 clear c1 c2 c3 c4 c5 c6 c7 ck cX zX cY zY cP zP
 have hb:=Below.refl w.heap.size w
 go_enter Tryz.func7,Tryz.ntmps7
 go_upto_region 1 with fail
 refine wp_alloc3 (fun w1 a0 a1 a2 hk=>?_)
 replace hb:=hb.trans (hk.mono hb.size)
 clear hk
 obtain ⟨Aa,Ab,Ac,Ad⟩:=ce4 a0
 obtain ⟨Ae,Af,Ag,Ah⟩:=ce4 a1
 obtain ⟨Ai,Aj,Ak,Al,Am,An,Ao,Ap⟩:=ce8 a2
 go_wp2_with ((first | (go_at_call 12;first | with_reducible refine (chVB hb R C1).mono ?_ | with_reducible refine (chVB hb R C1).mono ?_) | (go_at_call 29;first | with_reducible refine (chVB hb R C2).mono ?_ | with_reducible refine (chVB hb R C4).mono ?_ | with_reducible refine (chVB hb R C6).mono ?_) | (go_at_call 28;first | with_reducible refine (chVB hb R C3).mono ?_ | with_reducible refine (chVB hb R C5).mono ?_ | with_reducible refine (chVB hb R C7).mono ?_));clear hb;rintro e w1 ⟨rfl,hk,hb⟩;clear Aa Ab Ac Ad Ae Af Ag Ah Ai Aj Ak Al Am An Ao Ap;replace a0:=zB hk a0;replace a1:=zB hk a1;replace a2:=zB hk a2;obtain ⟨Aa,Ab,Ac,Ad⟩:=ce4 a0;obtain ⟨Ae,Af,Ag,Ah⟩:=ce4 a1;obtain ⟨Ai,Aj,Ak,Al,Am,An,Ao,Ap⟩:=ce8 a2;clear hk)
 first | go_ret | go_ret2 | go_ret3
 exact ⟨rfl,hb⟩
theorem langles_z3  (i0 i1 i2 j0 j1 j2 k0 k1 k2 l0 l1 l2 X0 X1 X2 Y0 Y1 Y2 P0 P1 P2 Q0 Q1 Q2:Int) (d e f g:Int) (ck:CV 12 #[] (.bool true)) (cX:CV 29 #[.agg #[.int .i8 i0,.int .i8 i1,.int .i8 i2,.int .u8 d]] (.agg #[.int .i64 X0,.int .i64 X1,.int .i64 X2])) (zX:CV 28 #[.agg #[.int .i64 X0,.int .i64 X1,.int .i64 X2]] (.bool false)) (cY:CV 29 #[.agg #[.int .i8 j0,.int .i8 j1,.int .i8 j2,.int .u8 e]] (.agg #[.int .i64 Y0,.int .i64 Y1,.int .i64 Y2])) (zY:CV 28 #[.agg #[.int .i64 Y0,.int .i64 Y1,.int .i64 Y2]] (.bool false)) (cP:CV 29 #[.agg #[.int .i8 k0,.int .i8 k1,.int .i8 k2,.int .u8 f]] (.agg #[.int .i64 P0,.int .i64 P1,.int .i64 P2])) (zP:CV 28 #[.agg #[.int .i64 P0,.int .i64 P1,.int .i64 P2]] (.bool false)) (cQ:CV 29 #[.agg #[.int .i8 l0,.int .i8 l1,.int .i8 l2,.int .u8 g]] (.agg #[.int .i64 Q0,.int .i64 Q1,.int .i64 Q2])) (zQ:CV 28 #[.agg #[.int .i64 Q0,.int .i64 Q1,.int .i64 Q2]] (.bool true)) (w:World) (R:EnvV w) :
   Calls Tryz.prog 7 #[.agg #[.int .i8 i0,.int .i8 i1,.int .i8 i2,.int .u8 d],.agg #[.int .i8 j0,.int .i8 j1,.int .i8 j2,.int .u8 e],.agg #[.int .i8 k0,.int .i8 k1,.int .i8 k2,.int .u8 f,.int .i8 l0,.int .i8 l1,.int .i8 l2,.int .u8 g]] w (Ret w (.bool true)):=by
 have c1:=ck
 have c2:=cX
 have c3:=zX
 have c4:=cY
 have c5:=zY
 have c6:=cP
 have c7:=zP
 have c8:=cQ
 have c9:=zQ
 have C1:=Lib.hid c1
 have C2:=Lib.hid c2
 have C3:=Lib.hid c3
 have C4:=Lib.hid c4
 have C5:=Lib.hid c5
 have C6:=Lib.hid c6
 have C7:=Lib.hid c7
 have C8:=Lib.hid c8
 have C9:=Lib.hid c9
 clear c1 c2 c3 c4 c5 c6 c7 c8 c9 ck cX zX cY zY cP zP cQ zQ
 have hb:=Below.refl w.heap.size w
 go_enter Tryz.func7,Tryz.ntmps7
 go_upto_region 1 with fail
 refine wp_alloc3 (fun w1 a0 a1 a2 hk=>?_)
 replace hb:=hb.trans (hk.mono hb.size)
 clear hk
 obtain ⟨Aa,Ab,Ac,Ad⟩:=ce4 a0
 obtain ⟨Ae,Af,Ag,Ah⟩:=ce4 a1
 obtain ⟨Ai,Aj,Ak,Al,Am,An,Ao,Ap⟩:=ce8 a2
 go_wp2_with ((first | (go_at_call 12;first | with_reducible refine (chVB hb R C1).mono ?_ | with_reducible refine (chVB hb R C1).mono ?_) | (go_at_call 29;first | with_reducible refine (chVB hb R C2).mono ?_ | with_reducible refine (chVB hb R C4).mono ?_ | with_reducible refine (chVB hb R C6).mono ?_ | with_reducible refine (chVB hb R C8).mono ?_) | (go_at_call 28;first | with_reducible refine (chVB hb R C3).mono ?_ | with_reducible refine (chVB hb R C5).mono ?_ | with_reducible refine (chVB hb R C7).mono ?_ | with_reducible refine (chVB hb R C9).mono ?_));clear hb;rintro e w1 ⟨rfl,hk,hb⟩;clear Aa Ab Ac Ad Ae Af Ag Ah Ai Aj Ak Al Am An Ao Ap;replace a0:=zB hk a0;replace a1:=zB hk a1;replace a2:=zB hk a2;obtain ⟨Aa,Ab,Ac,Ad⟩:=ce4 a0;obtain ⟨Ae,Af,Ag,Ah⟩:=ce4 a1;obtain ⟨Ai,Aj,Ak,Al,Am,An,Ao,Ap⟩:=ce8 a2;clear hk)
 first | go_ret | go_ret2 | go_ret3
 exact ⟨rfl,hb⟩
theorem langles_1  (i0 i1 i2 j0 j1 j2 k0 k1 k2 l0 l1 l2 X0 X1 X2 Y0 Y1 Y2 P0 P1 P2 Q0 Q1 Q2:Int) (d e f g:Int) (dd m nn d2 sq n:Int) (r1 r2:ByteArray) (s0 s1 s2 t0 t1 t2 u0 u1 u2 v0 v1 v2:ByteArray) (ck:CV 12 #[] (.bool true)) (cX:CV 29 #[.agg #[.int .i8 i0,.int .i8 i1,.int .i8 i2,.int .u8 d]] (.agg #[.int .i64 X0,.int .i64 X1,.int .i64 X2])) (zX:CV 28 #[.agg #[.int .i64 X0,.int .i64 X1,.int .i64 X2]] (.bool false)) (cY:CV 29 #[.agg #[.int .i8 j0,.int .i8 j1,.int .i8 j2,.int .u8 e]] (.agg #[.int .i64 Y0,.int .i64 Y1,.int .i64 Y2])) (zY:CV 28 #[.agg #[.int .i64 Y0,.int .i64 Y1,.int .i64 Y2]] (.bool false)) (cP:CV 29 #[.agg #[.int .i8 k0,.int .i8 k1,.int .i8 k2,.int .u8 f]] (.agg #[.int .i64 P0,.int .i64 P1,.int .i64 P2])) (zP:CV 28 #[.agg #[.int .i64 P0,.int .i64 P1,.int .i64 P2]] (.bool false)) (cQ:CV 29 #[.agg #[.int .i8 l0,.int .i8 l1,.int .i8 l2,.int .u8 g]] (.agg #[.int .i64 Q0,.int .i64 Q1,.int .i64 Q2])) (zQ:CV 28 #[.agg #[.int .i64 Q0,.int .i64 Q1,.int .i64 Q2]] (.bool false)) (ma:CV 30 #[.agg #[.int .i8 i0,.int .i8 i1,.int .i8 i2,.int .u8 d]] (.agg #[.string s0,.string s1,.string s2])) (mb:CV 30 #[.agg #[.int .i8 j0,.int .i8 j1,.int .i8 j2,.int .u8 e]] (.agg #[.string t0,.string t1,.string t2])) (mc:CV 30 #[.agg #[.int .i8 k0,.int .i8 k1,.int .i8 k2,.int .u8 f]] (.agg #[.string u0,.string u1,.string u2])) (md:CV 30 #[.agg #[.int .i8 l0,.int .i8 l1,.int .i8 l2,.int .u8 g]] (.agg #[.string v0,.string v1,.string v2])) (hA1:CV 19 #[.agg #[.string s0,.string s1,.string s2],.agg #[.string t0,.string t1,.string t2]] (.tuple #[.string r1,.int .i64 0])) (hA2:CV 19 #[.agg #[.string u0,.string u1,.string u2],.agg #[.string v0,.string v1,.string v2]] (.tuple #[.string r2,.int .i64 0])) (hA3:CV 20 #[.agg #[.string s0,.string s1,.string s2,.string t0,.string t1,.string t2],.agg #[.string u0,.string u1,.string u2,.string v0,.string v1,.string v2]] (.tuple #[.int .i64 n,.int .i64 0])) (hdd:CV 35 #[.agg #[.int .i64 X0,.int .i64 X1,.int .i64 X2],.agg #[.int .i64 Y0,.int .i64 Y1,.int .i64 Y2]] (.int .i64 dd)) (hmm:CV 35 #[.agg #[.int .i64 X0,.int .i64 X1,.int .i64 X2],.agg #[.int .i64 X0,.int .i64 X1,.int .i64 X2]] (.int .i64 m)) (hnn:CV 35 #[.agg #[.int .i64 Y0,.int .i64 Y1,.int .i64 Y2],.agg #[.int .i64 Y0,.int .i64 Y1,.int .i64 Y2]] (.int .i64 nn)) (hquo:CV 34 #[.int .i64 d2,.int .i64 sq] (.string r1)) (hcc:CV 36 #[.string r2,.string r1] (.int .i64 n)) (WM0:IntKind.i64.wrap (dd*dd)=d2) (WM1:IntKind.i64.wrap (m*nn)=sq) (w:World) (R:EnvV w) :
   Calls Tryz.prog 7 #[.agg #[.int .i8 i0,.int .i8 i1,.int .i8 i2,.int .u8 d],.agg #[.int .i8 j0,.int .i8 j1,.int .i8 j2,.int .u8 e],.agg #[.int .i8 k0,.int .i8 k1,.int .i8 k2,.int .u8 f,.int .i8 l0,.int .i8 l1,.int .i8 l2,.int .u8 g]] w (Ret w (.bool true)):=by
 have c1:=ck
 have c2:=cX
 have c3:=zX
 have c4:=cY
 have c5:=zY
 have c6:=cP
 have c7:=zP
 have c8:=cQ
 have c9:=zQ
 have c10:=ma
 have c11:=mb
 have c12:=hA1
 have c13:=mc
 have c14:=md
 have c15:=hA2
 have c20:=hA3
 have c23:=hdd
 have c25:=hmm
 have c26:=hnn
 have c27:=hquo
 have c28:=hcc
 have gm0:IntKind.i64.wrap (dd*dd)=d2:=WM0
 have gm1:IntKind.i64.wrap (m*nn)=sq:=WM1
 have C1:=Lib.hid c1
 have C2:=Lib.hid c2
 have C3:=Lib.hid c3
 have C4:=Lib.hid c4
 have C5:=Lib.hid c5
 have C6:=Lib.hid c6
 have C7:=Lib.hid c7
 have C8:=Lib.hid c8
 have C9:=Lib.hid c9
 have C10:=Lib.hid c10
 have C11:=Lib.hid c11
 have C12:=Lib.hid c12
 have C13:=Lib.hid c13
 have C14:=Lib.hid c14
 have C15:=Lib.hid c15
 have C20:=Lib.hid c20
 have C23:=Lib.hid c23
 have C25:=Lib.hid c25
 have C26:=Lib.hid c26
 have C27:=Lib.hid c27
 have C28:=Lib.hid c28
 clear c1 c2 c3 c4 c5 c6 c7 c8 c9 c10 c11 c12 c13 c14 c15 c20 c23 c25 c26 c27 c28 ck cX zX cY zY cP zP cQ zQ ma mb mc md hA1 hA2 hA3 hdd hmm hnn hquo hcc WM0 WM1
 have hb:=Below.refl w.heap.size w
 go_enter Tryz.func7,Tryz.ntmps7
 go_upto_region 1 with fail
 refine wp_alloc3 (fun w1 a0 a1 a2 hk=>?_)
 replace hb:=hb.trans (hk.mono hb.size)
 clear hk
 obtain ⟨Aa,Ab,Ac,Ad⟩:=ce4 a0
 obtain ⟨Ae,Af,Ag,Ah⟩:=ce4 a1
 obtain ⟨Ak,Al,Am,An,Ao,Ap,Aq,Ar⟩:=ce8 a2
 go_upto_region 3 with ((first | (go_at_call 12;with_reducible refine (chVB hb R C1).mono ?_) | (go_at_call 29;first | with_reducible refine (chVB hb R C2).mono ?_ | with_reducible refine (chVB hb R C4).mono ?_ | with_reducible refine (chVB hb R C6).mono ?_ | with_reducible refine (chVB hb R C8).mono ?_) | (go_at_call 28;first | with_reducible refine (chVB hb R C3).mono ?_ | with_reducible refine (chVB hb R C5).mono ?_ | with_reducible refine (chVB hb R C7).mono ?_ | with_reducible refine (chVB hb R C9).mono ?_));clear hb;rintro e w1 ⟨rfl,hk,hb⟩;clear Aa Ab Ac Ad Ae Af Ag Ah Ak Al Am An Ao Ap Aq Ar;replace a0:=zB hk a0;replace a1:=zB hk a1;replace a2:=zB hk a2;obtain ⟨Aa,Ab,Ac,Ad⟩:=ce4 a0;obtain ⟨Ae,Af,Ag,Ah⟩:=ce4 a1;obtain ⟨Ak,Al,Am,An,Ao,Ap,Aq,Ar⟩:=ce8 a2;clear hk)
 obtain ⟨Au,Av,Aw,Ax⟩:=cy4 a0
 obtain ⟨Ay,Az,A0,A1⟩:=cy4 a1
 obtain ⟨A2,A3,A4,A5,A6,A7,A8,A9⟩:=cy8 a2
 have Ba:=rrV C10 R hb
 have Bb:=rrV C11 R hb
 have Bc:=rrV C12 R hb
 refine wp_region_quiet_below (by first | assumption | kernel_rfl) (by kernel_rfl) ?_
 repeat (quiet_step (first | (with_reducible exact Ba.out _ _) | (with_reducible exact Bb.out _ _) | (with_reducible exact Bc.out _ _)))
 refine wpQuiet_nil ?_
 intro w1 hw'
 obtain ⟨hk,hb⟩:=zQ hb hw'
 clear Aa Ab Ac Ad Ae Af Ag Ah Ak Al Am An Ao Ap Aq Ar
 replace a0:=zB hk a0
 replace a1:=zB hk a1
 replace a2:=zB hk a2
 obtain ⟨Aa,Ab,Ac,Ad⟩:=ce4 a0
 obtain ⟨Ae,Af,Ag,Ah⟩:=ce4 a1
 obtain ⟨Ak,Al,Am,An,Ao,Ap,Aq,Ar⟩:=ce8 a2
 clear Ba Bb Bc Au Av Aw Ax Ay Az A0 A1 A2 A3 A4 A5 A6 A7 A8 A9
 clear hk hw'
 go_upto_region 4 with fail
 obtain ⟨Au,Av,Aw,Ax⟩:=cy4 a0
 obtain ⟨Ay,Az,A0,A1⟩:=cy4 a1
 obtain ⟨A2,A3,A4,A5,A6,A7,A8,A9⟩:=cy8 a2
 have Bd:=rrV C13 R hb
 have Be:=rrV C14 R hb
 have Bf:=rrV C15 R hb
 refine wp_region_quiet_below (by first | assumption | kernel_rfl) (by kernel_rfl) ?_
 repeat (quiet_step (first | (with_reducible exact Bd.out _ _) | (with_reducible exact Be.out _ _) | (with_reducible exact Bf.out _ _)))
 refine wpQuiet_nil ?_
 intro w1 hw'
 obtain ⟨hk,hb⟩:=zQ hb hw'
 clear Aa Ab Ac Ad Ae Af Ag Ah Ak Al Am An Ao Ap Aq Ar
 replace a0:=zB hk a0
 replace a1:=zB hk a1
 replace a2:=zB hk a2
 obtain ⟨Aa,Ab,Ac,Ad⟩:=ce4 a0
 obtain ⟨Ae,Af,Ag,Ah⟩:=ce4 a1
 obtain ⟨Ak,Al,Am,An,Ao,Ap,Aq,Ar⟩:=ce8 a2
 clear Bd Be Bf Au Av Aw Ax Ay Az A0 A1 A2 A3 A4 A5 A6 A7 A8 A9
 clear hk hw'
 go_upto_region 5 with fail
 obtain ⟨Au,Av,Aw,Ax⟩:=cy4 a0
 obtain ⟨Ay,Az,A0,A1⟩:=cy4 a1
 obtain ⟨A2,A3,A4,A5,A6,A7,A8,A9⟩:=cy8 a2
 have Bg:=rrV C10 R hb
 have Bh:=rrV C11 R hb
 have Bi:=rrV C13 R hb
 have Bj:=rrV C14 R hb
 have Bk:=rrV C20 R hb
 refine wp_region_quiet_below (by first | assumption | kernel_rfl) (by kernel_rfl) ?_
 repeat (quiet_step (first | (with_reducible exact Bg.out _ _) | (with_reducible exact Bh.out _ _) | (with_reducible exact Bi.out _ _) | (with_reducible exact Bj.out _ _) | (with_reducible exact Bk.out _ _)))
 refine wpQuiet_nil ?_
 intro w1 hw'
 obtain ⟨hk,hb⟩:=zQ hb hw'
 clear Aa Ab Ac Ad Ae Af Ag Ah Ak Al Am An Ao Ap Aq Ar
 replace a0:=zB hk a0
 replace a1:=zB hk a1
 replace a2:=zB hk a2
 obtain ⟨Aa,Ab,Ac,Ad⟩:=ce4 a0
 obtain ⟨Ae,Af,Ag,Ah⟩:=ce4 a1
 obtain ⟨Ak,Al,Am,An,Ao,Ap,Aq,Ar⟩:=ce8 a2
 clear Bg Bh Bi Bj Bk Au Av Aw Ax Ay Az A0 A1 A2 A3 A4 A5 A6 A7 A8 A9
 clear hk hw'
 go_upto_region 6 with fail
 clear Ak Al Am An Ao Ap Aq Ar a2
 obtain ⟨Au,Av,Aw,Ax⟩:=cy4 a0
 obtain ⟨Ay,Az,A0,A1⟩:=cy4 a1
 have Bz:=rrV C2 R hb
 have B0:=rrV C4 R hb
 have Bl:=qqV C2 R hb
 have Bm:=qqV C4 R hb
 refine wp_free2 4 0 (fun i=>if i=4 then Obj.cells #[Value.int .i64 0,Value.int .i64 0,Value.int .i64 0] 48 else if i=5 then Obj.cells #[Value.int .i64 0,Value.int .i64 0,Value.int .i64 0] 48 else Obj.cells #[] 0) (fun i=>if i=4 then Obj.cells #[Value.int .i64 X0,Value.int .i64 X1,Value.int .i64 X2] 48 else if i=5 then Obj.cells #[Value.int .i64 Y0,Value.int .i64 Y1,Value.int .i64 Y2] 48 else Obj.cells #[] 0) (some 13) (some 14) (by first | assumption | kernel_rfl) (by kernel_rfl) ?lay rfl rfl ?_
 case lay =>
   intro i h1 h2
   obtain rfl | rfl:i=4∨i=5:=by omega
   all_goals exact ⟨_,rfl,rfl,fun a w=>(by first | (go_simp;done) | (go_simp;rfl))⟩
 simp only [List.take_succ_cons,List.take_zero]
 repeat (refine wpB_step (fun K hK=>?_);go_simp;first | (refine hK _ ?_;clear hK K) | (apply Exists.intro;refine ⟨fun _=>?_,hK _ ?_⟩;(first | (with_reducible exact Bl.out _ _) | (with_reducible exact Bm.out _ _));clear hK K))
 refine wpB_nil ?_
 intro Ai Aj
 refine ⟨?_,?_,?_⟩
 · refine ⟨_,rfl,rfl,rfl,fun cs b h=>(by cases h),fun w hw=>?_⟩
   replace hw:w.heap[Ai]? = some (Obj.cells #[Value.int .i64 0,Value.int .i64 0,Value.int .i64 0] 48):=hw
   have z0:w.cell? ⟨Ai,0,none⟩=some (Value.int .i64 0):=zA hw
   have y0:w.frozen? ⟨Ai,0,none⟩=false:=zD hw
   have z1:w.cell? ⟨Ai,1,none⟩=some (Value.int .i64 0):=zA hw
   have y1:w.frozen? ⟨Ai,1,none⟩=false:=zD hw
   have z2:w.cell? ⟨Ai,2,none⟩=some (Value.int .i64 0):=zA hw
   have y2:w.frozen? ⟨Ai,2,none⟩=false:=zD hw
   refine ⟨_,?_,(Wrote.set (i:=2) (Wrote.set (i:=1) (Wrote.set (i:=0) (Wrote.refl hw) (Value.int .i64 X0)) (Value.int .i64 X1)) (Value.int .i64 X2))⟩
   go_simp
 · refine ⟨_,rfl,rfl,rfl,fun cs b h=>(by cases h),fun w hw=>?_⟩
   replace hw:w.heap[Aj]? = some (Obj.cells #[Value.int .i64 0,Value.int .i64 0,Value.int .i64 0] 48):=hw
   have z0:w.cell? ⟨Aj,0,none⟩=some (Value.int .i64 0):=zA hw
   have y0:w.frozen? ⟨Aj,0,none⟩=false:=zD hw
   have z1:w.cell? ⟨Aj,1,none⟩=some (Value.int .i64 0):=zA hw
   have y1:w.frozen? ⟨Aj,1,none⟩=false:=zD hw
   have z2:w.cell? ⟨Aj,2,none⟩=some (Value.int .i64 0):=zA hw
   have y2:w.frozen? ⟨Aj,2,none⟩=false:=zD hw
   refine ⟨_,?_,(Wrote.set (i:=2) (Wrote.set (i:=1) (Wrote.set (i:=0) (Wrote.refl hw) (Value.int .i64 Y0)) (Value.int .i64 Y1)) (Value.int .i64 Y2))⟩
   go_simp
 intro w1 hk m0 m1 As At _
 clear Aa Ab Ac Ad Ae Af Ag Ah
 replace a0:=zB hk a0
 replace a1:=zB hk a1
 obtain ⟨Aa,Ab,Ac,Ad⟩:=ce4 a0
 obtain ⟨Ae,Af,Ag,Ah⟩:=ce4 a1
 replace hb:=hb.trans (hk.mono hb.size)
 clear hk
 replace As:w1.heap[Ai]? = some (Obj.cells #[Value.int .i64 X0,Value.int .i64 X1,Value.int .i64 X2] 48):=As
 have Bn:w1.cell? ⟨Ai,0,none⟩=some (Value.int .i64 X0):=zA As
 have Bo:w1.cell? ⟨Ai,1,none⟩=some (Value.int .i64 X1):=zA As
 have Bp:w1.cell? ⟨Ai,2,none⟩=some (Value.int .i64 X2):=zA As
 replace At:w1.heap[Aj]? = some (Obj.cells #[Value.int .i64 Y0,Value.int .i64 Y1,Value.int .i64 Y2] 48):=At
 have Bq:w1.cell? ⟨Aj,0,none⟩=some (Value.int .i64 Y0):=zA At
 have Br:w1.cell? ⟨Aj,1,none⟩=some (Value.int .i64 Y1):=zA At
 have Bs:w1.cell? ⟨Aj,2,none⟩=some (Value.int .i64 Y2):=zA At
 clear Bl Bm Bz B0 Au Av Aw Ax Ay Az A0 A1 m0 m1
 go_upto_region 7 with fail
 clear Aa Ab Ac Ad a0 Ae Af Ag Ah a1
 obtain ⟨B1,B2,B3⟩:=cy3 As
 obtain ⟨B4,B5,B6⟩:=cy3 At
 have Bt:=rrV C23 R hb
 have Bu:=rrV C23 R hb
 have Bv:=rrV C25 R hb
 have Bw:=rrV C26 R hb
 have Bx:=rrV C27 R hb
 have By:=rrV C28 R hb
 refine wp_region_quiet_below (by first | assumption | kernel_rfl) (by kernel_rfl) ?_
 repeat (quiet_step (first | (with_reducible exact Bt.out _ _) | (with_reducible exact Bu.out _ _) | (with_reducible exact Bv.out _ _) | (with_reducible exact Bw.out _ _) | (with_reducible exact Bx.out _ _) | (with_reducible exact By.out _ _)))
 refine wpQuiet_nil ?_
 intro w1 hw'
 obtain ⟨hk,hb⟩:=zQ hb hw'
 clear Bn Bo Bp Bq Br Bs
 replace As:=zB hk As
 replace At:=zB hk At
 obtain ⟨Bn,Bo,Bp⟩:=ce3 As
 obtain ⟨Bq,Br,Bs⟩:=ce3 At
 clear Bt Bu Bv Bw Bx By B1 B2 B3 B4 B5 B6
 clear hk hw'
 go_wp2
 first | go_ret | go_ret2 | go_ret3
 exact ⟨rfl,hb⟩
end Go.Proofs.YtpiiclmkbplkhaaGreatDoor.Kl
