import Derived.Test.YtpiiclmkbplkhaaGreatDoorKlLPlanesCLC
import Derived.BigRegion
namespace Go.Proofs.YtpiiclmkbplkhaaGreatDoor.Kl
open Go Go.RowKit
set_option maxRecDepth 100000
set_option maxHeartbeats 8000000
theorem lplanes_z0  (i0 i1 i2 j0 j1 j2 k0 k1 k2 X0 X1 X2:Int) (d e f:Int) (ck:CV 12 #[] (.bool true)) (cX:CV 29 #[.agg #[.int .i8 i0,.int .i8 i1,.int .i8 i2,.int .u8 d]] (.agg #[.int .i64 X0,.int .i64 X1,.int .i64 X2])) (zX:CV 28 #[.agg #[.int .i64 X0,.int .i64 X1,.int .i64 X2]] (.bool true)) (w:World) (R:EnvV w) :
   Calls Tryz.prog 8 #[.agg #[.int .i8 i0,.int .i8 i1,.int .i8 i2,.int .u8 d],.agg #[.int .i8 j0,.int .i8 j1,.int .i8 j2,.int .u8 e],.agg #[.int .i8 k0,.int .i8 k1,.int .i8 k2,.int .u8 f]] w (Ret w (.bool true)):=by
 have c1:=ck
 have c2:=cX
 have c3:=zX
 have C1:=Lib.hid c1
 have C2:=Lib.hid c2
 have C3:=Lib.hid c3
 clear c1 c2 c3 ck cX zX
 have hb:=Below.refl w.heap.size w
 go_enter Tryz.func8,Tryz.ntmps8
 go_upto_region 1 with fail
 refine wp_alloc3 (fun w1 a0 a1 a2 hk=>?_)
 replace hb:=hb.trans (hk.mono hb.size)
 clear hk
 obtain ⟨Aa,Ab,Ac,Ad⟩:=ce4 a0
 obtain ⟨Ae,Af,Ag,Ah⟩:=ce4 a1
 obtain ⟨Ai,Aj,Ak,Al⟩:=ce4 a2
 go_wp2_with ((first | (go_at_call 12;first | with_reducible refine (chVB hb R C1).mono ?_ | with_reducible refine (chVB hb R C1).mono ?_) | (go_at_call 29;with_reducible refine (chVB hb R C2).mono ?_) | (go_at_call 28;with_reducible refine (chVB hb R C3).mono ?_));clear hb;rintro e w1 ⟨rfl,hk,hb⟩;clear Aa Ab Ac Ad Ae Af Ag Ah Ai Aj Ak Al;replace a0:=zB hk a0;replace a1:=zB hk a1;replace a2:=zB hk a2;obtain ⟨Aa,Ab,Ac,Ad⟩:=ce4 a0;obtain ⟨Ae,Af,Ag,Ah⟩:=ce4 a1;obtain ⟨Ai,Aj,Ak,Al⟩:=ce4 a2;clear hk)
 first | go_ret | go_ret2 | go_ret3
 exact ⟨rfl,hb⟩
theorem lplanes_z1  (i0 i1 i2 j0 j1 j2 k0 k1 k2 X0 X1 X2 Y0 Y1 Y2:Int) (d e f:Int) (ck:CV 12 #[] (.bool true)) (cX:CV 29 #[.agg #[.int .i8 i0,.int .i8 i1,.int .i8 i2,.int .u8 d]] (.agg #[.int .i64 X0,.int .i64 X1,.int .i64 X2])) (zX:CV 28 #[.agg #[.int .i64 X0,.int .i64 X1,.int .i64 X2]] (.bool false)) (cY:CV 29 #[.agg #[.int .i8 j0,.int .i8 j1,.int .i8 j2,.int .u8 e]] (.agg #[.int .i64 Y0,.int .i64 Y1,.int .i64 Y2])) (zY:CV 28 #[.agg #[.int .i64 Y0,.int .i64 Y1,.int .i64 Y2]] (.bool true)) (w:World) (R:EnvV w) :
   Calls Tryz.prog 8 #[.agg #[.int .i8 i0,.int .i8 i1,.int .i8 i2,.int .u8 d],.agg #[.int .i8 j0,.int .i8 j1,.int .i8 j2,.int .u8 e],.agg #[.int .i8 k0,.int .i8 k1,.int .i8 k2,.int .u8 f]] w (Ret w (.bool true)):=by
 have c1:=ck
 have c2:=cX
 have c3:=zX
 have c4:=cY
 have c5:=zY
 have C1:=Lib.hid c1
 have C2:=Lib.hid c2
 have C3:=Lib.hid c3
 have C4:=Lib.hid c4
 have C5:=Lib.hid c5
 clear c1 c2 c3 c4 c5 ck cX zX cY zY
 have hb:=Below.refl w.heap.size w
 go_enter Tryz.func8,Tryz.ntmps8
 go_upto_region 1 with fail
 refine wp_alloc3 (fun w1 a0 a1 a2 hk=>?_)
 replace hb:=hb.trans (hk.mono hb.size)
 clear hk
 obtain ⟨Aa,Ab,Ac,Ad⟩:=ce4 a0
 obtain ⟨Ae,Af,Ag,Ah⟩:=ce4 a1
 obtain ⟨Ai,Aj,Ak,Al⟩:=ce4 a2
 go_wp2_with ((first | (go_at_call 12;first | with_reducible refine (chVB hb R C1).mono ?_ | with_reducible refine (chVB hb R C1).mono ?_) | (go_at_call 29;first | with_reducible refine (chVB hb R C2).mono ?_ | with_reducible refine (chVB hb R C4).mono ?_) | (go_at_call 28;first | with_reducible refine (chVB hb R C3).mono ?_ | with_reducible refine (chVB hb R C5).mono ?_));clear hb;rintro e w1 ⟨rfl,hk,hb⟩;clear Aa Ab Ac Ad Ae Af Ag Ah Ai Aj Ak Al;replace a0:=zB hk a0;replace a1:=zB hk a1;replace a2:=zB hk a2;obtain ⟨Aa,Ab,Ac,Ad⟩:=ce4 a0;obtain ⟨Ae,Af,Ag,Ah⟩:=ce4 a1;obtain ⟨Ai,Aj,Ak,Al⟩:=ce4 a2;clear hk)
 first | go_ret | go_ret2 | go_ret3
 exact ⟨rfl,hb⟩
theorem lplanes_z2  (i0 i1 i2 j0 j1 j2 k0 k1 k2 X0 X1 X2 Y0 Y1 Y2 P0 P1 P2:Int) (d e f:Int) (ck:CV 12 #[] (.bool true)) (cX:CV 29 #[.agg #[.int .i8 i0,.int .i8 i1,.int .i8 i2,.int .u8 d]] (.agg #[.int .i64 X0,.int .i64 X1,.int .i64 X2])) (zX:CV 28 #[.agg #[.int .i64 X0,.int .i64 X1,.int .i64 X2]] (.bool false)) (cY:CV 29 #[.agg #[.int .i8 j0,.int .i8 j1,.int .i8 j2,.int .u8 e]] (.agg #[.int .i64 Y0,.int .i64 Y1,.int .i64 Y2])) (zY:CV 28 #[.agg #[.int .i64 Y0,.int .i64 Y1,.int .i64 Y2]] (.bool false)) (cP:CV 29 #[.agg #[.int .i8 k0,.int .i8 k1,.int .i8 k2,.int .u8 f]] (.agg #[.int .i64 P0,.int .i64 P1,.int .i64 P2])) (zP:CV 28 #[.agg #[.int .i64 P0,.int .i64 P1,.int .i64 P2]] (.bool true)) (w:World) (R:EnvV w) :
   Calls Tryz.prog 8 #[.agg #[.int .i8 i0,.int .i8 i1,.int .i8 i2,.int .u8 d],.agg #[.int .i8 j0,.int .i8 j1,.int .i8 j2,.int .u8 e],.agg #[.int .i8 k0,.int .i8 k1,.int .i8 k2,.int .u8 f]] w (Ret w (.bool true)):=by
 have c1:=ck
 have c2:=cX
 have c3:=zX
 have c4:=cY
 have c5:=zY
 have c6:=cP
 have c7:=zP
 have C1:=Lib.hid c1
 have C2:=Lib.hid c2
 have C3:=Lib.hid c3
 have C4:=Lib.hid c4
 have C5:=Lib.hid c5
 have C6:=Lib.hid c6
 have C7:=Lib.hid c7
 clear c1 c2 c3 c4 c5 c6 c7 ck cX zX cY zY cP zP
 have hb:=Below.refl w.heap.size w
 go_enter Tryz.func8,Tryz.ntmps8
 go_upto_region 1 with fail
 refine wp_alloc3 (fun w1 a0 a1 a2 hk=>?_)
 replace hb:=hb.trans (hk.mono hb.size)
 clear hk
 obtain ⟨Aa,Ab,Ac,Ad⟩:=ce4 a0
 obtain ⟨Ae,Af,Ag,Ah⟩:=ce4 a1
 obtain ⟨Ai,Aj,Ak,Al⟩:=ce4 a2
 go_wp2_with ((first | (go_at_call 12;first | with_reducible refine (chVB hb R C1).mono ?_ | with_reducible refine (chVB hb R C1).mono ?_) | (go_at_call 29;first | with_reducible refine (chVB hb R C2).mono ?_ | with_reducible refine (chVB hb R C4).mono ?_ | with_reducible refine (chVB hb R C6).mono ?_) | (go_at_call 28;first | with_reducible refine (chVB hb R C3).mono ?_ | with_reducible refine (chVB hb R C5).mono ?_ | with_reducible refine (chVB hb R C7).mono ?_));clear hb;rintro e w1 ⟨rfl,hk,hb⟩;clear Aa Ab Ac Ad Ae Af Ag Ah Ai Aj Ak Al;replace a0:=zB hk a0;replace a1:=zB hk a1;replace a2:=zB hk a2;obtain ⟨Aa,Ab,Ac,Ad⟩:=ce4 a0;obtain ⟨Ae,Af,Ag,Ah⟩:=ce4 a1;obtain ⟨Ai,Aj,Ak,Al⟩:=ce4 a2;clear hk)
 first | go_ret | go_ret2 | go_ret3
 exact ⟨rfl,hb⟩
theorem lplanes_dk0  (i0 i1 i2 j0 j1 j2 k0 k1 k2 X0 X1 X2 Y0 Y1 Y2 P0 P1 P2 K0 K1 K2:Int) (d e f D N sp ss pp spq sq:Int) (s0 s1 s2 t0 t1 t2 u0 u1 u2:ByteArray) (r:ByteArray) (ck:CV 12 #[] (.bool true)) (cX:CV 29 #[.agg #[.int .i8 i0,.int .i8 i1,.int .i8 i2,.int .u8 d]] (.agg #[.int .i64 X0,.int .i64 X1,.int .i64 X2])) (zX:CV 28 #[.agg #[.int .i64 X0,.int .i64 X1,.int .i64 X2]] (.bool false)) (cY:CV 29 #[.agg #[.int .i8 j0,.int .i8 j1,.int .i8 j2,.int .u8 e]] (.agg #[.int .i64 Y0,.int .i64 Y1,.int .i64 Y2])) (zY:CV 28 #[.agg #[.int .i64 Y0,.int .i64 Y1,.int .i64 Y2]] (.bool false)) (cP:CV 29 #[.agg #[.int .i8 k0,.int .i8 k1,.int .i8 k2,.int .u8 f]] (.agg #[.int .i64 P0,.int .i64 P1,.int .i64 P2])) (zP:CV 28 #[.agg #[.int .i64 P0,.int .i64 P1,.int .i64 P2]] (.bool false)) (ma:CV 30 #[.agg #[.int .i8 i0,.int .i8 i1,.int .i8 i2,.int .u8 d]] (.agg #[.string s0,.string s1,.string s2])) (mb:CV 30 #[.agg #[.int .i8 j0,.int .i8 j1,.int .i8 j2,.int .u8 e]] (.agg #[.string t0,.string t1,.string t2])) (ml:CV 30 #[.agg #[.int .i8 k0,.int .i8 k1,.int .i8 k2,.int .u8 f]] (.agg #[.string u0,.string u1,.string u2])) (hli:CV 21 #[.agg #[.string s0,.string s1,.string s2],.agg #[.string u0,.string u1,.string u2]] (.tuple #[.bool true,.int .i64 0])) (hin:CV 22 #[.agg #[.string s0,.string s1,.string s2],.agg #[.string t0,.string t1,.string t2]] (.tuple #[.agg #[.string ⟨#[]⟩,.string ⟨#[]⟩,.string ⟨#[]⟩],.int .i64 18])) (hpi:CV 23 #[.agg #[.string s0,.string s1,.string s2],.agg #[.string u0,.string u1,.string u2]] (.tuple #[.string r,.int .i64 0])) (hdo:CV 35 #[.agg #[.int .i64 X0,.int .i64 X1,.int .i64 X2],.agg #[.int .i64 P0,.int .i64 P1,.int .i64 P2]] (.int .i64 D)) (hcr:CV 37 #[.agg #[.int .i64 X0,.int .i64 X1,.int .i64 X2],.agg #[.int .i64 Y0,.int .i64 Y1,.int .i64 Y2]] (.agg #[.int .i64 K0,.int .i64 K1,.int .i64 K2])) (hz:CV 28 #[.agg #[.int .i64 K0,.int .i64 K1,.int .i64 K2]] (.bool true)) (hsp:CV 35 #[.agg #[.int .i64 N,.int .i64 X0,.int .i64 0],.agg #[.int .i64 P0,.int .i64 P1,.int .i64 P2]] (.int .i64 sp)) (hss:CV 35 #[.agg #[.int .i64 N,.int .i64 X0,.int .i64 0],.agg #[.int .i64 N,.int .i64 X0,.int .i64 0]] (.int .i64 ss)) (hpp:CV 35 #[.agg #[.int .i64 P0,.int .i64 P1,.int .i64 P2],.agg #[.int .i64 P0,.int .i64 P1,.int .i64 P2]] (.int .i64 pp)) (hquo:CV 34 #[.int .i64 spq,.int .i64 sq] (.string r)) (WM0:IntKind.i64.wrap (-X1)=N) (WM1:IntKind.i64.wrap (sp*sp)=spq) (WM2:IntKind.i64.wrap (ss*pp)=sq) (WC0:(D == 0)=true) (WC1:(X0 == 0)=false) (w:World) (R:EnvV w) :
   Calls Tryz.prog 8 #[.agg #[.int .i8 i0,.int .i8 i1,.int .i8 i2,.int .u8 d],.agg #[.int .i8 j0,.int .i8 j1,.int .i8 j2,.int .u8 e],.agg #[.int .i8 k0,.int .i8 k1,.int .i8 k2,.int .u8 f]] w (Ret w (.bool true)):=by
 have c1:=ck
 have c2:=cX
 have c3:=zX
 have c4:=cY
 have c5:=zY
 have c6:=cP
 have c7:=zP
 have c11:=ma
 have c12:=ml
 have c13:=hli
 have c15:=mb
 have c16:=hin
 have c19:=hpi
 have c20:=hdo
 have c21:=hcr
 have c22:=hz
 have c24:=hsp
 have c26:=hss
 have c27:=hpp
 have c28:=hquo
 have gm0:IntKind.i64.wrap (-X1)=N:=WM0
 have gm1:IntKind.i64.wrap (sp*sp)=spq:=WM1
 have gm2:IntKind.i64.wrap (ss*pp)=sq:=WM2
 have gc0:(D == 0)=true:=WC0
 have gc1:(X0 == 0)=false:=WC1
 have C1:=Lib.hid c1
 have C2:=Lib.hid c2
 have C3:=Lib.hid c3
 have C4:=Lib.hid c4
 have C5:=Lib.hid c5
 have C6:=Lib.hid c6
 have C7:=Lib.hid c7
 have C11:=Lib.hid c11
 have C12:=Lib.hid c12
 have C13:=Lib.hid c13
 have C15:=Lib.hid c15
 have C16:=Lib.hid c16
 have C19:=Lib.hid c19
 have C20:=Lib.hid c20
 have C21:=Lib.hid c21
 have C22:=Lib.hid c22
 have C24:=Lib.hid c24
 have C26:=Lib.hid c26
 have C27:=Lib.hid c27
 have C28:=Lib.hid c28
 clear c1 c2 c3 c4 c5 c6 c7 c11 c12 c13 c15 c16 c19 c20 c21 c22 c24 c26 c27 c28 ck cX zX cY zY cP zP ma mb ml hli hin hpi hdo hcr hz hsp hss hpp hquo WM0 WM1 WM2 WC0 WC1
 have hb:=Below.refl w.heap.size w
 go_enter Tryz.func8,Tryz.ntmps8
 go_upto_region 1 with fail
 refine wp_alloc3 (fun w1 a0 a1 a2 hk=>?_)
 replace hb:=hb.trans (hk.mono hb.size)
 clear hk
 obtain ⟨Al,Am,An,Ao⟩:=ce4 a0
 obtain ⟨Ax,Ay,Az,A0⟩:=ce4 a1
 obtain ⟨Ap,Aq,Ar,As⟩:=ce4 a2
 go_upto_region 3 with ((first | (go_at_call 12;with_reducible refine (chVB hb R C1).mono ?_) | (go_at_call 29;first | with_reducible refine (chVB hb R C2).mono ?_ | with_reducible refine (chVB hb R C4).mono ?_ | with_reducible refine (chVB hb R C6).mono ?_) | (go_at_call 28;first | with_reducible refine (chVB hb R C3).mono ?_ | with_reducible refine (chVB hb R C5).mono ?_ | with_reducible refine (chVB hb R C7).mono ?_));clear hb;rintro e w1 ⟨rfl,hk,hb⟩;clear Al Am An Ao Ax Ay Az A0 Ap Aq Ar As;replace a0:=zB hk a0;replace a1:=zB hk a1;replace a2:=zB hk a2;obtain ⟨Al,Am,An,Ao⟩:=ce4 a0;obtain ⟨Ax,Ay,Az,A0⟩:=ce4 a1;obtain ⟨Ap,Aq,Ar,As⟩:=ce4 a2;clear hk)
 obtain ⟨Ba,Bb,Bc,Bd⟩:=cy4 a0
 obtain ⟨Bl,Bm,Bn,Bo⟩:=cy4 a1
 obtain ⟨Be,Bf,Bg,Bh⟩:=cy4 a2
 have Cg:=rrV C2 R hb
 have Ch:=rrV C4 R hb
 have Ci:=rrV C6 R hb
 have Bw:=qqV C2 R hb
 have Bx:=qqV C4 R hb
 have By:=qqV C6 R hb
 refine wp_free3 6 0 (fun i=>if i=6 then Obj.cells #[Value.int .i64 0,Value.int .i64 0,Value.int .i64 0] 48 else if i=7 then Obj.cells #[Value.int .i64 0,Value.int .i64 0,Value.int .i64 0] 48 else if i=8 then Obj.cells #[Value.int .i64 0,Value.int .i64 0,Value.int .i64 0] 48 else Obj.cells #[] 0) (fun i=>if i=6 then Obj.cells #[Value.int .i64 X0,Value.int .i64 X1,Value.int .i64 X2] 48 else if i=7 then Obj.cells #[Value.int .i64 Y0,Value.int .i64 Y1,Value.int .i64 Y2] 48 else if i=8 then Obj.cells #[Value.int .i64 P0,Value.int .i64 P1,Value.int .i64 P2] 48 else Obj.cells #[] 0) (some 7) (some 8) (some 9) (by first | assumption | kernel_rfl) (by kernel_rfl) ?lay rfl rfl rfl ?_
 case lay =>
   intro i h1 h2
   obtain rfl | rfl | rfl:i=6∨i=7∨i=8:=by omega
   all_goals exact ⟨_,rfl,rfl,fun a w=>(by first | (go_simp;done) | (go_simp;rfl))⟩
 simp only [List.take_succ_cons,List.take_zero]
 repeat (refine wpB_step (fun K hK=>?_);go_simp;first | (refine hK _ ?_;clear hK K) | (apply Exists.intro;refine ⟨fun _=>?_,hK _ ?_⟩;(first | (with_reducible exact Bw.out _ _) | (with_reducible exact Bx.out _ _) | (with_reducible exact By.out _ _));clear hK K))
 refine wpB_nil ?_
 intro At Au Av
 refine ⟨?_,?_,?_,?_⟩
 · refine ⟨_,rfl,rfl,rfl,fun cs b h=>(by cases h),fun w hw=>?_⟩
   replace hw:w.heap[At]? = some (Obj.cells #[Value.int .i64 0,Value.int .i64 0,Value.int .i64 0] 48):=hw
   have z0:w.cell? ⟨At,0,none⟩=some (Value.int .i64 0):=zA hw
   have y0:w.frozen? ⟨At,0,none⟩=false:=zD hw
   have z1:w.cell? ⟨At,1,none⟩=some (Value.int .i64 0):=zA hw
   have y1:w.frozen? ⟨At,1,none⟩=false:=zD hw
   have z2:w.cell? ⟨At,2,none⟩=some (Value.int .i64 0):=zA hw
   have y2:w.frozen? ⟨At,2,none⟩=false:=zD hw
   refine ⟨_,?_,(Wrote.set (i:=2) (Wrote.set (i:=1) (Wrote.set (i:=0) (Wrote.refl hw) (Value.int .i64 X0)) (Value.int .i64 X1)) (Value.int .i64 X2))⟩
   go_simp
 · refine ⟨_,rfl,rfl,rfl,fun cs b h=>(by cases h),fun w hw=>?_⟩
   replace hw:w.heap[Au]? = some (Obj.cells #[Value.int .i64 0,Value.int .i64 0,Value.int .i64 0] 48):=hw
   have z0:w.cell? ⟨Au,0,none⟩=some (Value.int .i64 0):=zA hw
   have y0:w.frozen? ⟨Au,0,none⟩=false:=zD hw
   have z1:w.cell? ⟨Au,1,none⟩=some (Value.int .i64 0):=zA hw
   have y1:w.frozen? ⟨Au,1,none⟩=false:=zD hw
   have z2:w.cell? ⟨Au,2,none⟩=some (Value.int .i64 0):=zA hw
   have y2:w.frozen? ⟨Au,2,none⟩=false:=zD hw
   refine ⟨_,?_,(Wrote.set (i:=2) (Wrote.set (i:=1) (Wrote.set (i:=0) (Wrote.refl hw) (Value.int .i64 Y0)) (Value.int .i64 Y1)) (Value.int .i64 Y2))⟩
   go_simp
 · refine ⟨_,rfl,rfl,rfl,fun cs b h=>(by cases h),fun w hw=>?_⟩
   replace hw:w.heap[Av]? = some (Obj.cells #[Value.int .i64 0,Value.int .i64 0,Value.int .i64 0] 48):=hw
   have z0:w.cell? ⟨Av,0,none⟩=some (Value.int .i64 0):=zA hw
   have y0:w.frozen? ⟨Av,0,none⟩=false:=zD hw
   have z1:w.cell? ⟨Av,1,none⟩=some (Value.int .i64 0):=zA hw
   have y1:w.frozen? ⟨Av,1,none⟩=false:=zD hw
   have z2:w.cell? ⟨Av,2,none⟩=some (Value.int .i64 0):=zA hw
   have y2:w.frozen? ⟨Av,2,none⟩=false:=zD hw
   refine ⟨_,?_,(Wrote.set (i:=2) (Wrote.set (i:=1) (Wrote.set (i:=0) (Wrote.refl hw) (Value.int .i64 P0)) (Value.int .i64 P1)) (Value.int .i64 P2))⟩
   go_simp
 intro w1 hk m0 m1 m2 Ab Ac Aa _ _ _
 clear Al Am An Ao Ax Ay Az A0 Ap Aq Ar As
 replace a0:=zB hk a0
 replace a1:=zB hk a1
 replace a2:=zB hk a2
 obtain ⟨Al,Am,An,Ao⟩:=ce4 a0
 obtain ⟨Ax,Ay,Az,A0⟩:=ce4 a1
 obtain ⟨Ap,Aq,Ar,As⟩:=ce4 a2
 replace hb:=hb.trans (hk.mono hb.size)
 clear hk
 replace Ab:w1.heap[At]? = some (Obj.cells #[Value.int .i64 X0,Value.int .i64 X1,Value.int .i64 X2] 48):=Ab
 have Ah:w1.cell? ⟨At,0,none⟩=some (Value.int .i64 X0):=zA Ab
 have Ai:w1.cell? ⟨At,1,none⟩=some (Value.int .i64 X1):=zA Ab
 have Aj:w1.cell? ⟨At,2,none⟩=some (Value.int .i64 X2):=zA Ab
 replace Ac:w1.heap[Au]? = some (Obj.cells #[Value.int .i64 Y0,Value.int .i64 Y1,Value.int .i64 Y2] 48):=Ac
 have A1:w1.cell? ⟨Au,0,none⟩=some (Value.int .i64 Y0):=zA Ac
 have A2:w1.cell? ⟨Au,1,none⟩=some (Value.int .i64 Y1):=zA Ac
 have A3:w1.cell? ⟨Au,2,none⟩=some (Value.int .i64 Y2):=zA Ac
 replace Aa:w1.heap[Av]? = some (Obj.cells #[Value.int .i64 P0,Value.int .i64 P1,Value.int .i64 P2] 48):=Aa
 have Ae:w1.cell? ⟨Av,0,none⟩=some (Value.int .i64 P0):=zA Aa
 have Af:w1.cell? ⟨Av,1,none⟩=some (Value.int .i64 P1):=zA Aa
 have Ag:w1.cell? ⟨Av,2,none⟩=some (Value.int .i64 P2):=zA Aa
 clear Bw Bx By Cg Ch Ci Ba Bb Bc Bd Bl Bm Bn Bo Be Bf Bg Bh m0 m1 m2
 go_upto_region 4 with fail
 obtain ⟨Ba,Bb,Bc,Bd⟩:=cy4 a0
 obtain ⟨Bl,Bm,Bn,Bo⟩:=cy4 a1
 obtain ⟨Be,Bf,Bg,Bh⟩:=cy4 a2
 obtain ⟨Bp,Bq,Br⟩:=cy3 Ab
 obtain ⟨Bs,Bt,Bu⟩:=cy3 Ac
 obtain ⟨Bi,Bj,Bk⟩:=cy3 Aa
 have Bz:=rrV C11 R hb
 have B0:=rrV C12 R hb
 have B1:=rrV C13 R hb
 refine wp_region_quiet_below (by first | assumption | kernel_rfl) (by kernel_rfl) ?_
 repeat (quiet_step (first | (with_reducible exact Bz.out _ _) | (with_reducible exact B0.out _ _) | (with_reducible exact B1.out _ _)))
 refine wpQuiet_nil ?_
 intro w1 hw'
 obtain ⟨hk,hb⟩:=zQ hb hw'
 clear Al Am An Ao Ax Ay Az A0 Ap Aq Ar As Ah Ai Aj A1 A2 A3 Ae Af Ag
 replace a0:=zB hk a0
 replace a1:=zB hk a1
 replace a2:=zB hk a2
 replace Ab:=zB hk Ab
 replace Ac:=zB hk Ac
 replace Aa:=zB hk Aa
 obtain ⟨Al,Am,An,Ao⟩:=ce4 a0
 obtain ⟨Ax,Ay,Az,A0⟩:=ce4 a1
 obtain ⟨Ap,Aq,Ar,As⟩:=ce4 a2
 obtain ⟨Ah,Ai,Aj⟩:=ce3 Ab
 obtain ⟨A1,A2,A3⟩:=ce3 Ac
 obtain ⟨Ae,Af,Ag⟩:=ce3 Aa
 clear Bz B0 B1 Ba Bb Bc Bd Bl Bm Bn Bo Be Bf Bg Bh Bp Bq Br Bs Bt Bu Bi Bj Bk
 clear hk hw'
 go_upto_region 5 with fail
 obtain ⟨Ba,Bb,Bc,Bd⟩:=cy4 a0
 obtain ⟨Bl,Bm,Bn,Bo⟩:=cy4 a1
 obtain ⟨Be,Bf,Bg,Bh⟩:=cy4 a2
 obtain ⟨Bp,Bq,Br⟩:=cy3 Ab
 obtain ⟨Bs,Bt,Bu⟩:=cy3 Ac
 obtain ⟨Bi,Bj,Bk⟩:=cy3 Aa
 have Cj:=rrV C11 R hb
 have Ck:=rrV C15 R hb
 have Cm:=rrV C16 R hb
 have B2:=qqV C11 R hb
 have B3:=qqV C15 R hb
 have B4:=qqV C16 R hb
 refine wp_free1 8 1 (fun i=>if i=8 then Obj.cells #[Value.string ⟨#[]⟩,Value.string ⟨#[]⟩,Value.string ⟨#[]⟩] 24 else Obj.cells #[] 0) (fun i=>if i=8 then Obj.cells #[Value.string ⟨#[]⟩,Value.string ⟨#[]⟩,Value.string ⟨#[]⟩] 24 else Obj.cells #[] 0) (some 12) (by first | assumption | kernel_rfl) (by kernel_rfl) ?lay rfl ?_
 case lay =>
   intro i h1 h2
   obtain rfl:i=8:=by omega
   all_goals exact ⟨_,rfl,rfl,fun a w=>(by first | (go_simp;done) | (go_simp;rfl))⟩
 simp only [List.take_succ_cons,List.take_zero]
 repeat (refine wpB_step (fun K hK=>?_);go_simp;first | (refine hK _ ?_;clear hK K) | (apply Exists.intro;refine ⟨fun _=>?_,hK _ ?_⟩;(first | (with_reducible exact B2.out _ _) | (with_reducible exact B3.out _ _) | (with_reducible exact B4.out _ _));clear hK K))
 refine wpB_nil ?_
 intro Aw
 refine ⟨?_,?_⟩
 · refine ⟨_,rfl,rfl,rfl,fun cs b h=>(by cases h),fun w hw=>?_⟩
   replace hw:w.heap[Aw]? = some (Obj.cells #[Value.string ⟨#[]⟩,Value.string ⟨#[]⟩,Value.string ⟨#[]⟩] 24):=hw
   have z0:w.cell? ⟨Aw,0,none⟩=some (Value.string ⟨#[]⟩):=zA hw
   have y0:w.frozen? ⟨Aw,0,none⟩=false:=zD hw
   have z1:w.cell? ⟨Aw,1,none⟩=some (Value.string ⟨#[]⟩):=zA hw
   have y1:w.frozen? ⟨Aw,1,none⟩=false:=zD hw
   have z2:w.cell? ⟨Aw,2,none⟩=some (Value.string ⟨#[]⟩):=zA hw
   have y2:w.frozen? ⟨Aw,2,none⟩=false:=zD hw
   refine ⟨_,?_,(Wrote.set (i:=2) (Wrote.set (i:=1) (Wrote.set (i:=0) (Wrote.refl hw) (Value.string ⟨#[]⟩)) (Value.string ⟨#[]⟩)) (Value.string ⟨#[]⟩))⟩
   go_simp
 refine ⟨_,(Value.int .i64 18),rfl,Or.inl ⟨rfl,fun p=>?_⟩,?_⟩
 · go_simp
   try exact ⟨rfl,rfl⟩
 intro w1 hk m0 Ad
 clear Al Am An Ao Ax Ay Az A0 Ap Aq Ar As Ah Ai Aj A1 A2 A3 Ae Af Ag
 replace a0:=zB hk a0
 replace a1:=zB hk a1
 replace a2:=zB hk a2
 replace Ab:=zB hk Ab
 replace Ac:=zB hk Ac
 replace Aa:=zB hk Aa
 obtain ⟨Al,Am,An,Ao⟩:=ce4 a0
 obtain ⟨Ax,Ay,Az,A0⟩:=ce4 a1
 obtain ⟨Ap,Aq,Ar,As⟩:=ce4 a2
 obtain ⟨Ah,Ai,Aj⟩:=ce3 Ab
 obtain ⟨A1,A2,A3⟩:=ce3 Ac
 obtain ⟨Ae,Af,Ag⟩:=ce3 Aa
 replace hb:=hb.trans (hk.mono hb.size)
 clear hk
 replace Ad:w1.heap[Aw]? = some (Obj.cells #[Value.string ⟨#[]⟩,Value.string ⟨#[]⟩,Value.string ⟨#[]⟩] 24):=Ad
 have A4:w1.cell? ⟨Aw,0,none⟩=some (Value.string ⟨#[]⟩):=zA Ad
 have A5:w1.cell? ⟨Aw,1,none⟩=some (Value.string ⟨#[]⟩):=zA Ad
 have A6:w1.cell? ⟨Aw,2,none⟩=some (Value.string ⟨#[]⟩):=zA Ad
 clear B2 B3 B4 Cj Ck Cm Ba Bb Bc Bd Bl Bm Bn Bo Be Bf Bg Bh Bp Bq Br Bs Bt Bu Bi Bj Bk m0
 go_upto_region 6 with fail
 clear Ax Ay Az A0 a1
 obtain ⟨Ba,Bb,Bc,Bd⟩:=cy4 a0
 obtain ⟨Be,Bf,Bg,Bh⟩:=cy4 a2
 obtain ⟨Bp,Bq,Br⟩:=cy3 Ab
 obtain ⟨Bs,Bt,Bu⟩:=cy3 Ac
 obtain ⟨Bi,Bj,Bk⟩:=cy3 Aa
 obtain ⟨Cn,Co,Cp⟩:=cy3 Ad
 have B5:=rrV C11 R hb
 have B6:=rrV C12 R hb
 have B7:=rrV C19 R hb
 refine wp_region_quiet_below (by first | assumption | kernel_rfl) (by kernel_rfl) ?_
 repeat (quiet_step (first | (with_reducible exact B5.out _ _) | (with_reducible exact B6.out _ _) | (with_reducible exact B7.out _ _)))
 refine wpQuiet_nil ?_
 intro w1 hw'
 obtain ⟨hk,hb⟩:=zQ hb hw'
 clear Al Am An Ao Ap Aq Ar As Ah Ai Aj A1 A2 A3 Ae Af Ag A4 A5 A6
 replace a0:=zB hk a0
 replace a2:=zB hk a2
 replace Ab:=zB hk Ab
 replace Ac:=zB hk Ac
 replace Aa:=zB hk Aa
 replace Ad:=zB hk Ad
 obtain ⟨Al,Am,An,Ao⟩:=ce4 a0
 obtain ⟨Ap,Aq,Ar,As⟩:=ce4 a2
 obtain ⟨Ah,Ai,Aj⟩:=ce3 Ab
 obtain ⟨A1,A2,A3⟩:=ce3 Ac
 obtain ⟨Ae,Af,Ag⟩:=ce3 Aa
 obtain ⟨A4,A5,A6⟩:=ce3 Ad
 clear B5 B6 B7 Ba Bb Bc Bd Be Bf Bg Bh Bp Bq Br Bs Bt Bu Bi Bj Bk Cn Co Cp
 clear hk hw'
 go_upto_region 10 with ((first | (go_at_call 35;with_reducible refine (chVB hb R C20).mono ?_) | (go_at_call 37;with_reducible refine (chVB hb R C21).mono ?_));clear hb;rintro e w1 ⟨rfl,hk,hb⟩;clear Ah Ai Aj A1 A2 A3 Ae Af Ag A4 A5 A6;replace Ab:=zB hk Ab;replace Ac:=zB hk Ac;replace Aa:=zB hk Aa;replace Ad:=zB hk Ad;obtain ⟨Ah,Ai,Aj⟩:=ce3 Ab;obtain ⟨A1,A2,A3⟩:=ce3 Ac;obtain ⟨Ae,Af,Ag⟩:=ce3 Aa;obtain ⟨A4,A5,A6⟩:=ce3 Ad;clear hk)
 clear Al Am An Ao a0 Ap Aq Ar As a2 A1 A2 A3 Ac
 refine wp_alloc1 (fun w1 Ak hk=>?_)
 clear Ah Ai Aj Ae Af Ag A4 A5 A6
 replace Ab:=zB hk Ab
 replace Aa:=zB hk Aa
 replace Ad:=zB hk Ad
 obtain ⟨Ah,Ai,Aj⟩:=ce3 Ab
 obtain ⟨Ae,Af,Ag⟩:=ce3 Aa
 obtain ⟨A4,A5,A6⟩:=ce3 Ad
 replace hb:=hb.trans (hk.mono hb.size)
 clear hk
 obtain ⟨A7,A8,A9⟩:=ce3 Ak
 go_upto_region 20 with (first | (go_at_call 28;with_reducible refine (chVB hb R C22).mono ?_;clear hb;rintro e w1 ⟨rfl,hk,hb⟩;clear A7 A8 A9 Ah Ai Aj Ae Af Ag A4 A5 A6;replace Ak:=zB hk Ak;replace Ab:=zB hk Ab;replace Aa:=zB hk Aa;replace Ad:=zB hk Ad;obtain ⟨A7,A8,A9⟩:=ce3 Ak;obtain ⟨Ah,Ai,Aj⟩:=ce3 Ab;obtain ⟨Ae,Af,Ag⟩:=ce3 Aa;obtain ⟨A4,A5,A6⟩:=ce3 Ad;clear hk) | (go_at_call 35;with_reducible refine (chVB hb R C20).mono ?_;clear hb;rintro e w1 ⟨rfl,hk,hb⟩;clear A7 A8 A9 Ah Ai Aj Ae Af Ag;replace Ak:=zB hk Ak;replace Ab:=zB hk Ab;replace Aa:=zB hk Aa;obtain ⟨A7,A8,A9⟩:=ce3 Ak;obtain ⟨Ah,Ai,Aj⟩:=ce3 Ab;obtain ⟨Ae,Af,Ag⟩:=ce3 Aa;clear hk))
 clear Ah Ai Aj Ab A4 A5 A6 Ad
 refine wp_alloc1 (fun w1 Bv hk=>?_)
 clear A7 A8 A9 Ae Af Ag
 replace Ak:=zB hk Ak
 replace Aa:=zB hk Aa
 obtain ⟨A7,A8,A9⟩:=ce3 Ak
 obtain ⟨Ae,Af,Ag⟩:=ce3 Aa
 replace hb:=hb.trans (hk.mono hb.size)
 clear hk
 obtain ⟨B8,B9,Ca⟩:=ce3 Bv
 obtain ⟨Cq,Cr,Cs⟩:=cy3 Ak
 obtain ⟨Ct,Cu,Cv⟩:=cy3 Bv
 obtain ⟨Bi,Bj,Bk⟩:=cy3 Aa
 have Cb:=rrV C24 R hb
 have Cc:=rrV C24 R hb
 have Cd:=rrV C26 R hb
 have Ce:=rrV C27 R hb
 have Cf:=rrV C28 R hb
 refine wp_region_quiet_below (by first | assumption | kernel_rfl) (by kernel_rfl) ?_
 repeat (quiet_step (first | (with_reducible exact Cb.out _ _) | (with_reducible exact Cc.out _ _) | (with_reducible exact Cd.out _ _) | (with_reducible exact Ce.out _ _) | (with_reducible exact Cf.out _ _)))
 refine wpQuiet_nil ?_
 intro w1 hw'
 obtain ⟨hk,hb⟩:=zQ hb hw'
 clear A7 A8 A9 B8 B9 Ca Ae Af Ag
 replace Ak:=zB hk Ak
 replace Bv:=zB hk Bv
 replace Aa:=zB hk Aa
 obtain ⟨A7,A8,A9⟩:=ce3 Ak
 obtain ⟨B8,B9,Ca⟩:=ce3 Bv
 obtain ⟨Ae,Af,Ag⟩:=ce3 Aa
 clear Cb Cc Cd Ce Cf Cq Cr Cs Ct Cu Cv Bi Bj Bk
 clear hk hw'
 go_wp2
 first | go_ret | go_ret2 | go_ret3
 exact ⟨rfl,hb⟩
theorem lplanes_dk1  (i0 i1 i2 j0 j1 j2 k0 k1 k2 X0 X1 X2 Y0 Y1 Y2 P0 P1 P2 K0 K1 K2:Int) (d e f D N sp ss pp spq sq:Int) (s0 s1 s2 t0 t1 t2 u0 u1 u2:ByteArray) (r:ByteArray) (ck:CV 12 #[] (.bool true)) (cX:CV 29 #[.agg #[.int .i8 i0,.int .i8 i1,.int .i8 i2,.int .u8 d]] (.agg #[.int .i64 X0,.int .i64 X1,.int .i64 X2])) (zX:CV 28 #[.agg #[.int .i64 X0,.int .i64 X1,.int .i64 X2]] (.bool false)) (cY:CV 29 #[.agg #[.int .i8 j0,.int .i8 j1,.int .i8 j2,.int .u8 e]] (.agg #[.int .i64 Y0,.int .i64 Y1,.int .i64 Y2])) (zY:CV 28 #[.agg #[.int .i64 Y0,.int .i64 Y1,.int .i64 Y2]] (.bool false)) (cP:CV 29 #[.agg #[.int .i8 k0,.int .i8 k1,.int .i8 k2,.int .u8 f]] (.agg #[.int .i64 P0,.int .i64 P1,.int .i64 P2])) (zP:CV 28 #[.agg #[.int .i64 P0,.int .i64 P1,.int .i64 P2]] (.bool false)) (ma:CV 30 #[.agg #[.int .i8 i0,.int .i8 i1,.int .i8 i2,.int .u8 d]] (.agg #[.string s0,.string s1,.string s2])) (mb:CV 30 #[.agg #[.int .i8 j0,.int .i8 j1,.int .i8 j2,.int .u8 e]] (.agg #[.string t0,.string t1,.string t2])) (ml:CV 30 #[.agg #[.int .i8 k0,.int .i8 k1,.int .i8 k2,.int .u8 f]] (.agg #[.string u0,.string u1,.string u2])) (hli:CV 21 #[.agg #[.string s0,.string s1,.string s2],.agg #[.string u0,.string u1,.string u2]] (.tuple #[.bool true,.int .i64 0])) (hin:CV 22 #[.agg #[.string s0,.string s1,.string s2],.agg #[.string t0,.string t1,.string t2]] (.tuple #[.agg #[.string ⟨#[]⟩,.string ⟨#[]⟩,.string ⟨#[]⟩],.int .i64 18])) (hpi:CV 23 #[.agg #[.string s0,.string s1,.string s2],.agg #[.string u0,.string u1,.string u2]] (.tuple #[.string r,.int .i64 0])) (hdo:CV 35 #[.agg #[.int .i64 X0,.int .i64 X1,.int .i64 X2],.agg #[.int .i64 P0,.int .i64 P1,.int .i64 P2]] (.int .i64 D)) (hcr:CV 37 #[.agg #[.int .i64 X0,.int .i64 X1,.int .i64 X2],.agg #[.int .i64 Y0,.int .i64 Y1,.int .i64 Y2]] (.agg #[.int .i64 K0,.int .i64 K1,.int .i64 K2])) (hz:CV 28 #[.agg #[.int .i64 K0,.int .i64 K1,.int .i64 K2]] (.bool true)) (hsp:CV 35 #[.agg #[.int .i64 N,.int .i64 X0,.int .i64 0],.agg #[.int .i64 P0,.int .i64 P1,.int .i64 P2]] (.int .i64 sp)) (hss:CV 35 #[.agg #[.int .i64 N,.int .i64 X0,.int .i64 0],.agg #[.int .i64 N,.int .i64 X0,.int .i64 0]] (.int .i64 ss)) (hpp:CV 35 #[.agg #[.int .i64 P0,.int .i64 P1,.int .i64 P2],.agg #[.int .i64 P0,.int .i64 P1,.int .i64 P2]] (.int .i64 pp)) (hquo:CV 34 #[.int .i64 spq,.int .i64 sq] (.string r)) (WM0:IntKind.i64.wrap (-X1)=N) (WM1:IntKind.i64.wrap (sp*sp)=spq) (WM2:IntKind.i64.wrap (ss*pp)=sq) (WC0:(D == 0)=true) (WC1:(X0 == 0)=true) (WC2:(X1 == 0)=false) (w:World) (R:EnvV w) :
   Calls Tryz.prog 8 #[.agg #[.int .i8 i0,.int .i8 i1,.int .i8 i2,.int .u8 d],.agg #[.int .i8 j0,.int .i8 j1,.int .i8 j2,.int .u8 e],.agg #[.int .i8 k0,.int .i8 k1,.int .i8 k2,.int .u8 f]] w (Ret w (.bool true)):=by
 have c1:=ck
 have c2:=cX
 have c3:=zX
 have c4:=cY
 have c5:=zY
 have c6:=cP
 have c7:=zP
 have c11:=ma
 have c12:=ml
 have c13:=hli
 have c15:=mb
 have c16:=hin
 have c19:=hpi
 have c20:=hdo
 have c21:=hcr
 have c22:=hz
 have c24:=hsp
 have c26:=hss
 have c27:=hpp
 have c28:=hquo
 have gm0:IntKind.i64.wrap (-X1)=N:=WM0
 have gm1:IntKind.i64.wrap (sp*sp)=spq:=WM1
 have gm2:IntKind.i64.wrap (ss*pp)=sq:=WM2
 have gc0:(D == 0)=true:=WC0
 have gc1:(X0 == 0)=true:=WC1
 have gc2:(X1 == 0)=false:=WC2
 have C1:=Lib.hid c1
 have C2:=Lib.hid c2
 have C3:=Lib.hid c3
 have C4:=Lib.hid c4
 have C5:=Lib.hid c5
 have C6:=Lib.hid c6
 have C7:=Lib.hid c7
 have C11:=Lib.hid c11
 have C12:=Lib.hid c12
 have C13:=Lib.hid c13
 have C15:=Lib.hid c15
 have C16:=Lib.hid c16
 have C19:=Lib.hid c19
 have C20:=Lib.hid c20
 have C21:=Lib.hid c21
 have C22:=Lib.hid c22
 have C24:=Lib.hid c24
 have C26:=Lib.hid c26
 have C27:=Lib.hid c27
 have C28:=Lib.hid c28
 clear c1 c2 c3 c4 c5 c6 c7 c11 c12 c13 c15 c16 c19 c20 c21 c22 c24 c26 c27 c28 ck cX zX cY zY cP zP ma mb ml hli hin hpi hdo hcr hz hsp hss hpp hquo WM0 WM1 WM2 WC0 WC1 WC2
 have hb:=Below.refl w.heap.size w
 go_enter Tryz.func8,Tryz.ntmps8
 go_upto_region 1 with fail
 refine wp_alloc3 (fun w1 a0 a1 a2 hk=>?_)
 replace hb:=hb.trans (hk.mono hb.size)
 clear hk
 obtain ⟨Al,Am,An,Ao⟩:=ce4 a0
 obtain ⟨Ax,Ay,Az,A0⟩:=ce4 a1
 obtain ⟨Ap,Aq,Ar,As⟩:=ce4 a2
 go_upto_region 3 with ((first | (go_at_call 12;with_reducible refine (chVB hb R C1).mono ?_) | (go_at_call 29;first | with_reducible refine (chVB hb R C2).mono ?_ | with_reducible refine (chVB hb R C4).mono ?_ | with_reducible refine (chVB hb R C6).mono ?_) | (go_at_call 28;first | with_reducible refine (chVB hb R C3).mono ?_ | with_reducible refine (chVB hb R C5).mono ?_ | with_reducible refine (chVB hb R C7).mono ?_));clear hb;rintro e w1 ⟨rfl,hk,hb⟩;clear Al Am An Ao Ax Ay Az A0 Ap Aq Ar As;replace a0:=zB hk a0;replace a1:=zB hk a1;replace a2:=zB hk a2;obtain ⟨Al,Am,An,Ao⟩:=ce4 a0;obtain ⟨Ax,Ay,Az,A0⟩:=ce4 a1;obtain ⟨Ap,Aq,Ar,As⟩:=ce4 a2;clear hk)
 obtain ⟨Ba,Bb,Bc,Bd⟩:=cy4 a0
 obtain ⟨Bl,Bm,Bn,Bo⟩:=cy4 a1
 obtain ⟨Be,Bf,Bg,Bh⟩:=cy4 a2
 have Cg:=rrV C2 R hb
 have Ch:=rrV C4 R hb
 have Ci:=rrV C6 R hb
 have Bw:=qqV C2 R hb
 have Bx:=qqV C4 R hb
 have By:=qqV C6 R hb
 refine wp_free3 6 0 (fun i=>if i=6 then Obj.cells #[Value.int .i64 0,Value.int .i64 0,Value.int .i64 0] 48 else if i=7 then Obj.cells #[Value.int .i64 0,Value.int .i64 0,Value.int .i64 0] 48 else if i=8 then Obj.cells #[Value.int .i64 0,Value.int .i64 0,Value.int .i64 0] 48 else Obj.cells #[] 0) (fun i=>if i=6 then Obj.cells #[Value.int .i64 X0,Value.int .i64 X1,Value.int .i64 X2] 48 else if i=7 then Obj.cells #[Value.int .i64 Y0,Value.int .i64 Y1,Value.int .i64 Y2] 48 else if i=8 then Obj.cells #[Value.int .i64 P0,Value.int .i64 P1,Value.int .i64 P2] 48 else Obj.cells #[] 0) (some 7) (some 8) (some 9) (by first | assumption | kernel_rfl) (by kernel_rfl) ?lay rfl rfl rfl ?_
 case lay =>
   intro i h1 h2
   obtain rfl | rfl | rfl:i=6∨i=7∨i=8:=by omega
   all_goals exact ⟨_,rfl,rfl,fun a w=>(by first | (go_simp;done) | (go_simp;rfl))⟩
 simp only [List.take_succ_cons,List.take_zero]
 repeat (refine wpB_step (fun K hK=>?_);go_simp;first | (refine hK _ ?_;clear hK K) | (apply Exists.intro;refine ⟨fun _=>?_,hK _ ?_⟩;(first | (with_reducible exact Bw.out _ _) | (with_reducible exact Bx.out _ _) | (with_reducible exact By.out _ _));clear hK K))
 refine wpB_nil ?_
 intro At Au Av
 refine ⟨?_,?_,?_,?_⟩
 · refine ⟨_,rfl,rfl,rfl,fun cs b h=>(by cases h),fun w hw=>?_⟩
   replace hw:w.heap[At]? = some (Obj.cells #[Value.int .i64 0,Value.int .i64 0,Value.int .i64 0] 48):=hw
   have z0:w.cell? ⟨At,0,none⟩=some (Value.int .i64 0):=zA hw
   have y0:w.frozen? ⟨At,0,none⟩=false:=zD hw
   have z1:w.cell? ⟨At,1,none⟩=some (Value.int .i64 0):=zA hw
   have y1:w.frozen? ⟨At,1,none⟩=false:=zD hw
   have z2:w.cell? ⟨At,2,none⟩=some (Value.int .i64 0):=zA hw
   have y2:w.frozen? ⟨At,2,none⟩=false:=zD hw
   refine ⟨_,?_,(Wrote.set (i:=2) (Wrote.set (i:=1) (Wrote.set (i:=0) (Wrote.refl hw) (Value.int .i64 X0)) (Value.int .i64 X1)) (Value.int .i64 X2))⟩
   go_simp
 · refine ⟨_,rfl,rfl,rfl,fun cs b h=>(by cases h),fun w hw=>?_⟩
   replace hw:w.heap[Au]? = some (Obj.cells #[Value.int .i64 0,Value.int .i64 0,Value.int .i64 0] 48):=hw
   have z0:w.cell? ⟨Au,0,none⟩=some (Value.int .i64 0):=zA hw
   have y0:w.frozen? ⟨Au,0,none⟩=false:=zD hw
   have z1:w.cell? ⟨Au,1,none⟩=some (Value.int .i64 0):=zA hw
   have y1:w.frozen? ⟨Au,1,none⟩=false:=zD hw
   have z2:w.cell? ⟨Au,2,none⟩=some (Value.int .i64 0):=zA hw
   have y2:w.frozen? ⟨Au,2,none⟩=false:=zD hw
   refine ⟨_,?_,(Wrote.set (i:=2) (Wrote.set (i:=1) (Wrote.set (i:=0) (Wrote.refl hw) (Value.int .i64 Y0)) (Value.int .i64 Y1)) (Value.int .i64 Y2))⟩
   go_simp
 · refine ⟨_,rfl,rfl,rfl,fun cs b h=>(by cases h),fun w hw=>?_⟩
   replace hw:w.heap[Av]? = some (Obj.cells #[Value.int .i64 0,Value.int .i64 0,Value.int .i64 0] 48):=hw
   have z0:w.cell? ⟨Av,0,none⟩=some (Value.int .i64 0):=zA hw
   have y0:w.frozen? ⟨Av,0,none⟩=false:=zD hw
   have z1:w.cell? ⟨Av,1,none⟩=some (Value.int .i64 0):=zA hw
   have y1:w.frozen? ⟨Av,1,none⟩=false:=zD hw
   have z2:w.cell? ⟨Av,2,none⟩=some (Value.int .i64 0):=zA hw
   have y2:w.frozen? ⟨Av,2,none⟩=false:=zD hw
   refine ⟨_,?_,(Wrote.set (i:=2) (Wrote.set (i:=1) (Wrote.set (i:=0) (Wrote.refl hw) (Value.int .i64 P0)) (Value.int .i64 P1)) (Value.int .i64 P2))⟩
   go_simp
 intro w1 hk m0 m1 m2 Ab Ac Aa _ _ _
 clear Al Am An Ao Ax Ay Az A0 Ap Aq Ar As
 replace a0:=zB hk a0
 replace a1:=zB hk a1
 replace a2:=zB hk a2
 obtain ⟨Al,Am,An,Ao⟩:=ce4 a0
 obtain ⟨Ax,Ay,Az,A0⟩:=ce4 a1
 obtain ⟨Ap,Aq,Ar,As⟩:=ce4 a2
 replace hb:=hb.trans (hk.mono hb.size)
 clear hk
 replace Ab:w1.heap[At]? = some (Obj.cells #[Value.int .i64 X0,Value.int .i64 X1,Value.int .i64 X2] 48):=Ab
 have Ah:w1.cell? ⟨At,0,none⟩=some (Value.int .i64 X0):=zA Ab
 have Ai:w1.cell? ⟨At,1,none⟩=some (Value.int .i64 X1):=zA Ab
 have Aj:w1.cell? ⟨At,2,none⟩=some (Value.int .i64 X2):=zA Ab
 replace Ac:w1.heap[Au]? = some (Obj.cells #[Value.int .i64 Y0,Value.int .i64 Y1,Value.int .i64 Y2] 48):=Ac
 have A1:w1.cell? ⟨Au,0,none⟩=some (Value.int .i64 Y0):=zA Ac
 have A2:w1.cell? ⟨Au,1,none⟩=some (Value.int .i64 Y1):=zA Ac
 have A3:w1.cell? ⟨Au,2,none⟩=some (Value.int .i64 Y2):=zA Ac
 replace Aa:w1.heap[Av]? = some (Obj.cells #[Value.int .i64 P0,Value.int .i64 P1,Value.int .i64 P2] 48):=Aa
 have Ae:w1.cell? ⟨Av,0,none⟩=some (Value.int .i64 P0):=zA Aa
 have Af:w1.cell? ⟨Av,1,none⟩=some (Value.int .i64 P1):=zA Aa
 have Ag:w1.cell? ⟨Av,2,none⟩=some (Value.int .i64 P2):=zA Aa
 clear Bw Bx By Cg Ch Ci Ba Bb Bc Bd Bl Bm Bn Bo Be Bf Bg Bh m0 m1 m2
 go_upto_region 4 with fail
 obtain ⟨Ba,Bb,Bc,Bd⟩:=cy4 a0
 obtain ⟨Bl,Bm,Bn,Bo⟩:=cy4 a1
 obtain ⟨Be,Bf,Bg,Bh⟩:=cy4 a2
 obtain ⟨Bp,Bq,Br⟩:=cy3 Ab
 obtain ⟨Bs,Bt,Bu⟩:=cy3 Ac
 obtain ⟨Bi,Bj,Bk⟩:=cy3 Aa
 have Bz:=rrV C11 R hb
 have B0:=rrV C12 R hb
 have B1:=rrV C13 R hb
 refine wp_region_quiet_below (by first | assumption | kernel_rfl) (by kernel_rfl) ?_
 repeat (quiet_step (first | (with_reducible exact Bz.out _ _) | (with_reducible exact B0.out _ _) | (with_reducible exact B1.out _ _)))
 refine wpQuiet_nil ?_
 intro w1 hw'
 obtain ⟨hk,hb⟩:=zQ hb hw'
 clear Al Am An Ao Ax Ay Az A0 Ap Aq Ar As Ah Ai Aj A1 A2 A3 Ae Af Ag
 replace a0:=zB hk a0
 replace a1:=zB hk a1
 replace a2:=zB hk a2
 replace Ab:=zB hk Ab
 replace Ac:=zB hk Ac
 replace Aa:=zB hk Aa
 obtain ⟨Al,Am,An,Ao⟩:=ce4 a0
 obtain ⟨Ax,Ay,Az,A0⟩:=ce4 a1
 obtain ⟨Ap,Aq,Ar,As⟩:=ce4 a2
 obtain ⟨Ah,Ai,Aj⟩:=ce3 Ab
 obtain ⟨A1,A2,A3⟩:=ce3 Ac
 obtain ⟨Ae,Af,Ag⟩:=ce3 Aa
 clear Bz B0 B1 Ba Bb Bc Bd Bl Bm Bn Bo Be Bf Bg Bh Bp Bq Br Bs Bt Bu Bi Bj Bk
 clear hk hw'
 go_upto_region 5 with fail
 obtain ⟨Ba,Bb,Bc,Bd⟩:=cy4 a0
 obtain ⟨Bl,Bm,Bn,Bo⟩:=cy4 a1
 obtain ⟨Be,Bf,Bg,Bh⟩:=cy4 a2
 obtain ⟨Bp,Bq,Br⟩:=cy3 Ab
 obtain ⟨Bs,Bt,Bu⟩:=cy3 Ac
 obtain ⟨Bi,Bj,Bk⟩:=cy3 Aa
 have Cj:=rrV C11 R hb
 have Ck:=rrV C15 R hb
 have Cm:=rrV C16 R hb
 have B2:=qqV C11 R hb
 have B3:=qqV C15 R hb
 have B4:=qqV C16 R hb
 refine wp_free1 8 1 (fun i=>if i=8 then Obj.cells #[Value.string ⟨#[]⟩,Value.string ⟨#[]⟩,Value.string ⟨#[]⟩] 24 else Obj.cells #[] 0) (fun i=>if i=8 then Obj.cells #[Value.string ⟨#[]⟩,Value.string ⟨#[]⟩,Value.string ⟨#[]⟩] 24 else Obj.cells #[] 0) (some 12) (by first | assumption | kernel_rfl) (by kernel_rfl) ?lay rfl ?_
 case lay =>
   intro i h1 h2
   obtain rfl:i=8:=by omega
   all_goals exact ⟨_,rfl,rfl,fun a w=>(by first | (go_simp;done) | (go_simp;rfl))⟩
 simp only [List.take_succ_cons,List.take_zero]
 repeat (refine wpB_step (fun K hK=>?_);go_simp;first | (refine hK _ ?_;clear hK K) | (apply Exists.intro;refine ⟨fun _=>?_,hK _ ?_⟩;(first | (with_reducible exact B2.out _ _) | (with_reducible exact B3.out _ _) | (with_reducible exact B4.out _ _));clear hK K))
 refine wpB_nil ?_
 intro Aw
 refine ⟨?_,?_⟩
 · refine ⟨_,rfl,rfl,rfl,fun cs b h=>(by cases h),fun w hw=>?_⟩
   replace hw:w.heap[Aw]? = some (Obj.cells #[Value.string ⟨#[]⟩,Value.string ⟨#[]⟩,Value.string ⟨#[]⟩] 24):=hw
   have z0:w.cell? ⟨Aw,0,none⟩=some (Value.string ⟨#[]⟩):=zA hw
   have y0:w.frozen? ⟨Aw,0,none⟩=false:=zD hw
   have z1:w.cell? ⟨Aw,1,none⟩=some (Value.string ⟨#[]⟩):=zA hw
   have y1:w.frozen? ⟨Aw,1,none⟩=false:=zD hw
   have z2:w.cell? ⟨Aw,2,none⟩=some (Value.string ⟨#[]⟩):=zA hw
   have y2:w.frozen? ⟨Aw,2,none⟩=false:=zD hw
   refine ⟨_,?_,(Wrote.set (i:=2) (Wrote.set (i:=1) (Wrote.set (i:=0) (Wrote.refl hw) (Value.string ⟨#[]⟩)) (Value.string ⟨#[]⟩)) (Value.string ⟨#[]⟩))⟩
   go_simp
 refine ⟨_,(Value.int .i64 18),rfl,Or.inl ⟨rfl,fun p=>?_⟩,?_⟩
 · go_simp
   try exact ⟨rfl,rfl⟩
 intro w1 hk m0 Ad
 clear Al Am An Ao Ax Ay Az A0 Ap Aq Ar As Ah Ai Aj A1 A2 A3 Ae Af Ag
 replace a0:=zB hk a0
 replace a1:=zB hk a1
 replace a2:=zB hk a2
 replace Ab:=zB hk Ab
 replace Ac:=zB hk Ac
 replace Aa:=zB hk Aa
 obtain ⟨Al,Am,An,Ao⟩:=ce4 a0
 obtain ⟨Ax,Ay,Az,A0⟩:=ce4 a1
 obtain ⟨Ap,Aq,Ar,As⟩:=ce4 a2
 obtain ⟨Ah,Ai,Aj⟩:=ce3 Ab
 obtain ⟨A1,A2,A3⟩:=ce3 Ac
 obtain ⟨Ae,Af,Ag⟩:=ce3 Aa
 replace hb:=hb.trans (hk.mono hb.size)
 clear hk
 replace Ad:w1.heap[Aw]? = some (Obj.cells #[Value.string ⟨#[]⟩,Value.string ⟨#[]⟩,Value.string ⟨#[]⟩] 24):=Ad
 have A4:w1.cell? ⟨Aw,0,none⟩=some (Value.string ⟨#[]⟩):=zA Ad
 have A5:w1.cell? ⟨Aw,1,none⟩=some (Value.string ⟨#[]⟩):=zA Ad
 have A6:w1.cell? ⟨Aw,2,none⟩=some (Value.string ⟨#[]⟩):=zA Ad
 clear B2 B3 B4 Cj Ck Cm Ba Bb Bc Bd Bl Bm Bn Bo Be Bf Bg Bh Bp Bq Br Bs Bt Bu Bi Bj Bk m0
 go_upto_region 6 with fail
 clear Ax Ay Az A0 a1
 obtain ⟨Ba,Bb,Bc,Bd⟩:=cy4 a0
 obtain ⟨Be,Bf,Bg,Bh⟩:=cy4 a2
 obtain ⟨Bp,Bq,Br⟩:=cy3 Ab
 obtain ⟨Bs,Bt,Bu⟩:=cy3 Ac
 obtain ⟨Bi,Bj,Bk⟩:=cy3 Aa
 obtain ⟨Cn,Co,Cp⟩:=cy3 Ad
 have B5:=rrV C11 R hb
 have B6:=rrV C12 R hb
 have B7:=rrV C19 R hb
 refine wp_region_quiet_below (by first | assumption | kernel_rfl) (by kernel_rfl) ?_
 repeat (quiet_step (first | (with_reducible exact B5.out _ _) | (with_reducible exact B6.out _ _) | (with_reducible exact B7.out _ _)))
 refine wpQuiet_nil ?_
 intro w1 hw'
 obtain ⟨hk,hb⟩:=zQ hb hw'
 clear Al Am An Ao Ap Aq Ar As Ah Ai Aj A1 A2 A3 Ae Af Ag A4 A5 A6
 replace a0:=zB hk a0
 replace a2:=zB hk a2
 replace Ab:=zB hk Ab
 replace Ac:=zB hk Ac
 replace Aa:=zB hk Aa
 replace Ad:=zB hk Ad
 obtain ⟨Al,Am,An,Ao⟩:=ce4 a0
 obtain ⟨Ap,Aq,Ar,As⟩:=ce4 a2
 obtain ⟨Ah,Ai,Aj⟩:=ce3 Ab
 obtain ⟨A1,A2,A3⟩:=ce3 Ac
 obtain ⟨Ae,Af,Ag⟩:=ce3 Aa
 obtain ⟨A4,A5,A6⟩:=ce3 Ad
 clear B5 B6 B7 Ba Bb Bc Bd Be Bf Bg Bh Bp Bq Br Bs Bt Bu Bi Bj Bk Cn Co Cp
 clear hk hw'
 go_upto_region 10 with ((first | (go_at_call 35;with_reducible refine (chVB hb R C20).mono ?_) | (go_at_call 37;with_reducible refine (chVB hb R C21).mono ?_));clear hb;rintro e w1 ⟨rfl,hk,hb⟩;clear Ah Ai Aj A1 A2 A3 Ae Af Ag A4 A5 A6;replace Ab:=zB hk Ab;replace Ac:=zB hk Ac;replace Aa:=zB hk Aa;replace Ad:=zB hk Ad;obtain ⟨Ah,Ai,Aj⟩:=ce3 Ab;obtain ⟨A1,A2,A3⟩:=ce3 Ac;obtain ⟨Ae,Af,Ag⟩:=ce3 Aa;obtain ⟨A4,A5,A6⟩:=ce3 Ad;clear hk)
 clear Al Am An Ao a0 Ap Aq Ar As a2 A1 A2 A3 Ac
 refine wp_alloc1 (fun w1 Ak hk=>?_)
 clear Ah Ai Aj Ae Af Ag A4 A5 A6
 replace Ab:=zB hk Ab
 replace Aa:=zB hk Aa
 replace Ad:=zB hk Ad
 obtain ⟨Ah,Ai,Aj⟩:=ce3 Ab
 obtain ⟨Ae,Af,Ag⟩:=ce3 Aa
 obtain ⟨A4,A5,A6⟩:=ce3 Ad
 replace hb:=hb.trans (hk.mono hb.size)
 clear hk
 obtain ⟨A7,A8,A9⟩:=ce3 Ak
 go_upto_region 20 with (first | (go_at_call 28;with_reducible refine (chVB hb R C22).mono ?_;clear hb;rintro e w1 ⟨rfl,hk,hb⟩;clear A7 A8 A9 Ah Ai Aj Ae Af Ag A4 A5 A6;replace Ak:=zB hk Ak;replace Ab:=zB hk Ab;replace Aa:=zB hk Aa;replace Ad:=zB hk Ad;obtain ⟨A7,A8,A9⟩:=ce3 Ak;obtain ⟨Ah,Ai,Aj⟩:=ce3 Ab;obtain ⟨Ae,Af,Ag⟩:=ce3 Aa;obtain ⟨A4,A5,A6⟩:=ce3 Ad;clear hk) | (go_at_call 35;with_reducible refine (chVB hb R C20).mono ?_;clear hb;rintro e w1 ⟨rfl,hk,hb⟩;clear A7 A8 A9 Ah Ai Aj Ae Af Ag;replace Ak:=zB hk Ak;replace Ab:=zB hk Ab;replace Aa:=zB hk Aa;obtain ⟨A7,A8,A9⟩:=ce3 Ak;obtain ⟨Ah,Ai,Aj⟩:=ce3 Ab;obtain ⟨Ae,Af,Ag⟩:=ce3 Aa;clear hk))
 clear Ah Ai Aj Ab A4 A5 A6 Ad
 refine wp_alloc1 (fun w1 Bv hk=>?_)
 clear A7 A8 A9 Ae Af Ag
 replace Ak:=zB hk Ak
 replace Aa:=zB hk Aa
 obtain ⟨A7,A8,A9⟩:=ce3 Ak
 obtain ⟨Ae,Af,Ag⟩:=ce3 Aa
 replace hb:=hb.trans (hk.mono hb.size)
 clear hk
 obtain ⟨B8,B9,Ca⟩:=ce3 Bv
 obtain ⟨Cq,Cr,Cs⟩:=cy3 Ak
 obtain ⟨Ct,Cu,Cv⟩:=cy3 Bv
 obtain ⟨Bi,Bj,Bk⟩:=cy3 Aa
 have Cb:=rrV C24 R hb
 have Cc:=rrV C24 R hb
 have Cd:=rrV C26 R hb
 have Ce:=rrV C27 R hb
 have Cf:=rrV C28 R hb
 refine wp_region_quiet_below (by first | assumption | kernel_rfl) (by kernel_rfl) ?_
 repeat (quiet_step (first | (with_reducible exact Cb.out _ _) | (with_reducible exact Cc.out _ _) | (with_reducible exact Cd.out _ _) | (with_reducible exact Ce.out _ _) | (with_reducible exact Cf.out _ _)))
 refine wpQuiet_nil ?_
 intro w1 hw'
 obtain ⟨hk,hb⟩:=zQ hb hw'
 clear A7 A8 A9 B8 B9 Ca Ae Af Ag
 replace Ak:=zB hk Ak
 replace Bv:=zB hk Bv
 replace Aa:=zB hk Aa
 obtain ⟨A7,A8,A9⟩:=ce3 Ak
 obtain ⟨B8,B9,Ca⟩:=ce3 Bv
 obtain ⟨Ae,Af,Ag⟩:=ce3 Aa
 clear Cb Cc Cd Ce Cf Cq Cr Cs Ct Cu Cv Bi Bj Bk
 clear hk hw'
 go_wp2
 first | go_ret | go_ret2 | go_ret3
 exact ⟨rfl,hb⟩
theorem lplanes_dk2  (i0 i1 i2 j0 j1 j2 k0 k1 k2 X0 X1 X2 Y0 Y1 Y2 P0 P1 P2 K0 K1 K2:Int) (d e f D:Int) (s0 s1 s2 t0 t1 t2 u0 u1 u2:ByteArray) (ck:CV 12 #[] (.bool true)) (cX:CV 29 #[.agg #[.int .i8 i0,.int .i8 i1,.int .i8 i2,.int .u8 d]] (.agg #[.int .i64 X0,.int .i64 X1,.int .i64 X2])) (zX:CV 28 #[.agg #[.int .i64 X0,.int .i64 X1,.int .i64 X2]] (.bool false)) (cY:CV 29 #[.agg #[.int .i8 j0,.int .i8 j1,.int .i8 j2,.int .u8 e]] (.agg #[.int .i64 Y0,.int .i64 Y1,.int .i64 Y2])) (zY:CV 28 #[.agg #[.int .i64 Y0,.int .i64 Y1,.int .i64 Y2]] (.bool false)) (cP:CV 29 #[.agg #[.int .i8 k0,.int .i8 k1,.int .i8 k2,.int .u8 f]] (.agg #[.int .i64 P0,.int .i64 P1,.int .i64 P2])) (zP:CV 28 #[.agg #[.int .i64 P0,.int .i64 P1,.int .i64 P2]] (.bool false)) (ma:CV 30 #[.agg #[.int .i8 i0,.int .i8 i1,.int .i8 i2,.int .u8 d]] (.agg #[.string s0,.string s1,.string s2])) (mb:CV 30 #[.agg #[.int .i8 j0,.int .i8 j1,.int .i8 j2,.int .u8 e]] (.agg #[.string t0,.string t1,.string t2])) (ml:CV 30 #[.agg #[.int .i8 k0,.int .i8 k1,.int .i8 k2,.int .u8 f]] (.agg #[.string u0,.string u1,.string u2])) (hli:CV 21 #[.agg #[.string s0,.string s1,.string s2],.agg #[.string u0,.string u1,.string u2]] (.tuple #[.bool true,.int .i64 0])) (hin:CV 22 #[.agg #[.string s0,.string s1,.string s2],.agg #[.string t0,.string t1,.string t2]] (.tuple #[.agg #[.string ⟨#[]⟩,.string ⟨#[]⟩,.string ⟨#[]⟩],.int .i64 18])) (hpi:CV 23 #[.agg #[.string s0,.string s1,.string s2],.agg #[.string u0,.string u1,.string u2]] (.tuple #[.string ⟨#[]⟩,.int .i64 19])) (hdo:CV 35 #[.agg #[.int .i64 X0,.int .i64 X1,.int .i64 X2],.agg #[.int .i64 P0,.int .i64 P1,.int .i64 P2]] (.int .i64 D)) (hcr:CV 37 #[.agg #[.int .i64 X0,.int .i64 X1,.int .i64 X2],.agg #[.int .i64 Y0,.int .i64 Y1,.int .i64 Y2]] (.agg #[.int .i64 K0,.int .i64 K1,.int .i64 K2])) (hz:CV 28 #[.agg #[.int .i64 K0,.int .i64 K1,.int .i64 K2]] (.bool true)) (WC0:(D == 0)=true) (WC1:(X0 == 0)=true) (WC2:(X1 == 0)=true) (w:World) (R:EnvV w) :
   Calls Tryz.prog 8 #[.agg #[.int .i8 i0,.int .i8 i1,.int .i8 i2,.int .u8 d],.agg #[.int .i8 j0,.int .i8 j1,.int .i8 j2,.int .u8 e],.agg #[.int .i8 k0,.int .i8 k1,.int .i8 k2,.int .u8 f]] w (Ret w (.bool true)):=by
 have c1:=ck
 have c2:=cX
 have c3:=zX
 have c4:=cY
 have c5:=zY
 have c6:=cP
 have c7:=zP
 have c11:=ma
 have c12:=ml
 have c13:=hli
 have c15:=mb
 have c16:=hin
 have c19:=hpi
 have c20:=hdo
 have c21:=hcr
 have c22:=hz
 have gc0:(D == 0)=true:=WC0
 have gc1:(X0 == 0)=true:=WC1
 have gc2:(X1 == 0)=true:=WC2
 have C1:=Lib.hid c1
 have C2:=Lib.hid c2
 have C3:=Lib.hid c3
 have C4:=Lib.hid c4
 have C5:=Lib.hid c5
 have C6:=Lib.hid c6
 have C7:=Lib.hid c7
 have C11:=Lib.hid c11
 have C12:=Lib.hid c12
 have C13:=Lib.hid c13
 have C15:=Lib.hid c15
 have C16:=Lib.hid c16
 have C19:=Lib.hid c19
 have C20:=Lib.hid c20
 have C21:=Lib.hid c21
 have C22:=Lib.hid c22
 clear c1 c2 c3 c4 c5 c6 c7 c11 c12 c13 c15 c16 c19 c20 c21 c22 ck cX zX cY zY cP zP ma mb ml hli hin hpi hdo hcr hz WC0 WC1 WC2
 have hb:=Below.refl w.heap.size w
 go_enter Tryz.func8,Tryz.ntmps8
 go_upto_region 1 with fail
 refine wp_alloc3 (fun w1 a0 a1 a2 hk=>?_)
 replace hb:=hb.trans (hk.mono hb.size)
 clear hk
 obtain ⟨Ak,Al,Am,An⟩:=ce4 a0
 obtain ⟨Aw,Ax,Ay,Az⟩:=ce4 a1
 obtain ⟨Ao,Ap,Aq,Ar⟩:=ce4 a2
 go_upto_region 3 with ((first | (go_at_call 12;with_reducible refine (chVB hb R C1).mono ?_) | (go_at_call 29;first | with_reducible refine (chVB hb R C2).mono ?_ | with_reducible refine (chVB hb R C4).mono ?_ | with_reducible refine (chVB hb R C6).mono ?_) | (go_at_call 28;first | with_reducible refine (chVB hb R C3).mono ?_ | with_reducible refine (chVB hb R C5).mono ?_ | with_reducible refine (chVB hb R C7).mono ?_));clear hb;rintro e w1 ⟨rfl,hk,hb⟩;clear Ak Al Am An Aw Ax Ay Az Ao Ap Aq Ar;replace a0:=zB hk a0;replace a1:=zB hk a1;replace a2:=zB hk a2;obtain ⟨Ak,Al,Am,An⟩:=ce4 a0;obtain ⟨Aw,Ax,Ay,Az⟩:=ce4 a1;obtain ⟨Ao,Ap,Aq,Ar⟩:=ce4 a2;clear hk)
 obtain ⟨A6,A7,A8,A9⟩:=cy4 a0
 obtain ⟨Be,Bf,Bg,Bh⟩:=cy4 a1
 obtain ⟨Ba,Bb,Bc,Bd⟩:=cy4 a2
 have B7:=rrV C2 R hb
 have B8:=rrV C4 R hb
 have B9:=rrV C6 R hb
 have Bs:=qqV C2 R hb
 have Bt:=qqV C4 R hb
 have Bu:=qqV C6 R hb
 refine wp_free3 6 0 (fun i=>if i=6 then Obj.cells #[Value.int .i64 0,Value.int .i64 0,Value.int .i64 0] 48 else if i=7 then Obj.cells #[Value.int .i64 0,Value.int .i64 0,Value.int .i64 0] 48 else if i=8 then Obj.cells #[Value.int .i64 0,Value.int .i64 0,Value.int .i64 0] 48 else Obj.cells #[] 0) (fun i=>if i=6 then Obj.cells #[Value.int .i64 X0,Value.int .i64 X1,Value.int .i64 X2] 48 else if i=7 then Obj.cells #[Value.int .i64 Y0,Value.int .i64 Y1,Value.int .i64 Y2] 48 else if i=8 then Obj.cells #[Value.int .i64 P0,Value.int .i64 P1,Value.int .i64 P2] 48 else Obj.cells #[] 0) (some 7) (some 8) (some 9) (by first | assumption | kernel_rfl) (by kernel_rfl) ?lay rfl rfl rfl ?_
 case lay =>
   intro i h1 h2
   obtain rfl | rfl | rfl:i=6∨i=7∨i=8:=by omega
   all_goals exact ⟨_,rfl,rfl,fun a w=>(by first | (go_simp;done) | (go_simp;rfl))⟩
 simp only [List.take_succ_cons,List.take_zero]
 repeat (refine wpB_step (fun K hK=>?_);go_simp;first | (refine hK _ ?_;clear hK K) | (apply Exists.intro;refine ⟨fun _=>?_,hK _ ?_⟩;(first | (with_reducible exact Bs.out _ _) | (with_reducible exact Bt.out _ _) | (with_reducible exact Bu.out _ _));clear hK K))
 refine wpB_nil ?_
 intro As At Au
 refine ⟨?_,?_,?_,?_⟩
 · refine ⟨_,rfl,rfl,rfl,fun cs b h=>(by cases h),fun w hw=>?_⟩
   replace hw:w.heap[As]? = some (Obj.cells #[Value.int .i64 0,Value.int .i64 0,Value.int .i64 0] 48):=hw
   have z0:w.cell? ⟨As,0,none⟩=some (Value.int .i64 0):=zA hw
   have y0:w.frozen? ⟨As,0,none⟩=false:=zD hw
   have z1:w.cell? ⟨As,1,none⟩=some (Value.int .i64 0):=zA hw
   have y1:w.frozen? ⟨As,1,none⟩=false:=zD hw
   have z2:w.cell? ⟨As,2,none⟩=some (Value.int .i64 0):=zA hw
   have y2:w.frozen? ⟨As,2,none⟩=false:=zD hw
   refine ⟨_,?_,(Wrote.set (i:=2) (Wrote.set (i:=1) (Wrote.set (i:=0) (Wrote.refl hw) (Value.int .i64 X0)) (Value.int .i64 X1)) (Value.int .i64 X2))⟩
   go_simp
 · refine ⟨_,rfl,rfl,rfl,fun cs b h=>(by cases h),fun w hw=>?_⟩
   replace hw:w.heap[At]? = some (Obj.cells #[Value.int .i64 0,Value.int .i64 0,Value.int .i64 0] 48):=hw
   have z0:w.cell? ⟨At,0,none⟩=some (Value.int .i64 0):=zA hw
   have y0:w.frozen? ⟨At,0,none⟩=false:=zD hw
   have z1:w.cell? ⟨At,1,none⟩=some (Value.int .i64 0):=zA hw
   have y1:w.frozen? ⟨At,1,none⟩=false:=zD hw
   have z2:w.cell? ⟨At,2,none⟩=some (Value.int .i64 0):=zA hw
   have y2:w.frozen? ⟨At,2,none⟩=false:=zD hw
   refine ⟨_,?_,(Wrote.set (i:=2) (Wrote.set (i:=1) (Wrote.set (i:=0) (Wrote.refl hw) (Value.int .i64 Y0)) (Value.int .i64 Y1)) (Value.int .i64 Y2))⟩
   go_simp
 · refine ⟨_,rfl,rfl,rfl,fun cs b h=>(by cases h),fun w hw=>?_⟩
   replace hw:w.heap[Au]? = some (Obj.cells #[Value.int .i64 0,Value.int .i64 0,Value.int .i64 0] 48):=hw
   have z0:w.cell? ⟨Au,0,none⟩=some (Value.int .i64 0):=zA hw
   have y0:w.frozen? ⟨Au,0,none⟩=false:=zD hw
   have z1:w.cell? ⟨Au,1,none⟩=some (Value.int .i64 0):=zA hw
   have y1:w.frozen? ⟨Au,1,none⟩=false:=zD hw
   have z2:w.cell? ⟨Au,2,none⟩=some (Value.int .i64 0):=zA hw
   have y2:w.frozen? ⟨Au,2,none⟩=false:=zD hw
   refine ⟨_,?_,(Wrote.set (i:=2) (Wrote.set (i:=1) (Wrote.set (i:=0) (Wrote.refl hw) (Value.int .i64 P0)) (Value.int .i64 P1)) (Value.int .i64 P2))⟩
   go_simp
 intro w1 hk m0 m1 m2 Aa Ac Ab _ _ _
 clear Ak Al Am An Aw Ax Ay Az Ao Ap Aq Ar
 replace a0:=zB hk a0
 replace a1:=zB hk a1
 replace a2:=zB hk a2
 obtain ⟨Ak,Al,Am,An⟩:=ce4 a0
 obtain ⟨Aw,Ax,Ay,Az⟩:=ce4 a1
 obtain ⟨Ao,Ap,Aq,Ar⟩:=ce4 a2
 replace hb:=hb.trans (hk.mono hb.size)
 clear hk
 replace Aa:w1.heap[As]? = some (Obj.cells #[Value.int .i64 X0,Value.int .i64 X1,Value.int .i64 X2] 48):=Aa
 have Ae:w1.cell? ⟨As,0,none⟩=some (Value.int .i64 X0):=zA Aa
 have Af:w1.cell? ⟨As,1,none⟩=some (Value.int .i64 X1):=zA Aa
 have Ag:w1.cell? ⟨As,2,none⟩=some (Value.int .i64 X2):=zA Aa
 replace Ac:w1.heap[At]? = some (Obj.cells #[Value.int .i64 Y0,Value.int .i64 Y1,Value.int .i64 Y2] 48):=Ac
 have A0:w1.cell? ⟨At,0,none⟩=some (Value.int .i64 Y0):=zA Ac
 have A1:w1.cell? ⟨At,1,none⟩=some (Value.int .i64 Y1):=zA Ac
 have A2:w1.cell? ⟨At,2,none⟩=some (Value.int .i64 Y2):=zA Ac
 replace Ab:w1.heap[Au]? = some (Obj.cells #[Value.int .i64 P0,Value.int .i64 P1,Value.int .i64 P2] 48):=Ab
 have Ah:w1.cell? ⟨Au,0,none⟩=some (Value.int .i64 P0):=zA Ab
 have Ai:w1.cell? ⟨Au,1,none⟩=some (Value.int .i64 P1):=zA Ab
 have Aj:w1.cell? ⟨Au,2,none⟩=some (Value.int .i64 P2):=zA Ab
 clear Bs Bt Bu B7 B8 B9 A6 A7 A8 A9 Be Bf Bg Bh Ba Bb Bc Bd m0 m1 m2
 go_upto_region 4 with fail
 obtain ⟨A6,A7,A8,A9⟩:=cy4 a0
 obtain ⟨Be,Bf,Bg,Bh⟩:=cy4 a1
 obtain ⟨Ba,Bb,Bc,Bd⟩:=cy4 a2
 obtain ⟨Bi,Bj,Bk⟩:=cy3 Aa
 obtain ⟨Bl,Bm,Bn⟩:=cy3 Ac
 obtain ⟨Bo,Bp,Bq⟩:=cy3 Ab
 have Bv:=rrV C11 R hb
 have Bw:=rrV C12 R hb
 have Bx:=rrV C13 R hb
 refine wp_region_quiet_below (by first | assumption | kernel_rfl) (by kernel_rfl) ?_
 repeat (quiet_step (first | (with_reducible exact Bv.out _ _) | (with_reducible exact Bw.out _ _) | (with_reducible exact Bx.out _ _)))
 refine wpQuiet_nil ?_
 intro w1 hw'
 obtain ⟨hk,hb⟩:=zQ hb hw'
 clear Ak Al Am An Aw Ax Ay Az Ao Ap Aq Ar Ae Af Ag A0 A1 A2 Ah Ai Aj
 replace a0:=zB hk a0
 replace a1:=zB hk a1
 replace a2:=zB hk a2
 replace Aa:=zB hk Aa
 replace Ac:=zB hk Ac
 replace Ab:=zB hk Ab
 obtain ⟨Ak,Al,Am,An⟩:=ce4 a0
 obtain ⟨Aw,Ax,Ay,Az⟩:=ce4 a1
 obtain ⟨Ao,Ap,Aq,Ar⟩:=ce4 a2
 obtain ⟨Ae,Af,Ag⟩:=ce3 Aa
 obtain ⟨A0,A1,A2⟩:=ce3 Ac
 obtain ⟨Ah,Ai,Aj⟩:=ce3 Ab
 clear Bv Bw Bx A6 A7 A8 A9 Be Bf Bg Bh Ba Bb Bc Bd Bi Bj Bk Bl Bm Bn Bo Bp Bq
 clear hk hw'
 go_upto_region 5 with fail
 obtain ⟨A6,A7,A8,A9⟩:=cy4 a0
 obtain ⟨Be,Bf,Bg,Bh⟩:=cy4 a1
 obtain ⟨Ba,Bb,Bc,Bd⟩:=cy4 a2
 obtain ⟨Bi,Bj,Bk⟩:=cy3 Aa
 obtain ⟨Bl,Bm,Bn⟩:=cy3 Ac
 obtain ⟨Bo,Bp,Bq⟩:=cy3 Ab
 have Ca:=rrV C11 R hb
 have Cb:=rrV C15 R hb
 have Cc:=rrV C16 R hb
 have By:=qqV C11 R hb
 have Bz:=qqV C15 R hb
 have B0:=qqV C16 R hb
 refine wp_free1 8 1 (fun i=>if i=8 then Obj.cells #[Value.string ⟨#[]⟩,Value.string ⟨#[]⟩,Value.string ⟨#[]⟩] 24 else Obj.cells #[] 0) (fun i=>if i=8 then Obj.cells #[Value.string ⟨#[]⟩,Value.string ⟨#[]⟩,Value.string ⟨#[]⟩] 24 else Obj.cells #[] 0) (some 12) (by first | assumption | kernel_rfl) (by kernel_rfl) ?lay rfl ?_
 case lay =>
   intro i h1 h2
   obtain rfl:i=8:=by omega
   all_goals exact ⟨_,rfl,rfl,fun a w=>(by first | (go_simp;done) | (go_simp;rfl))⟩
 simp only [List.take_succ_cons,List.take_zero]
 repeat (refine wpB_step (fun K hK=>?_);go_simp;first | (refine hK _ ?_;clear hK K) | (apply Exists.intro;refine ⟨fun _=>?_,hK _ ?_⟩;(first | (with_reducible exact By.out _ _) | (with_reducible exact Bz.out _ _) | (with_reducible exact B0.out _ _));clear hK K))
 refine wpB_nil ?_
 intro Av
 refine ⟨?_,?_⟩
 · refine ⟨_,rfl,rfl,rfl,fun cs b h=>(by cases h),fun w hw=>?_⟩
   replace hw:w.heap[Av]? = some (Obj.cells #[Value.string ⟨#[]⟩,Value.string ⟨#[]⟩,Value.string ⟨#[]⟩] 24):=hw
   have z0:w.cell? ⟨Av,0,none⟩=some (Value.string ⟨#[]⟩):=zA hw
   have y0:w.frozen? ⟨Av,0,none⟩=false:=zD hw
   have z1:w.cell? ⟨Av,1,none⟩=some (Value.string ⟨#[]⟩):=zA hw
   have y1:w.frozen? ⟨Av,1,none⟩=false:=zD hw
   have z2:w.cell? ⟨Av,2,none⟩=some (Value.string ⟨#[]⟩):=zA hw
   have y2:w.frozen? ⟨Av,2,none⟩=false:=zD hw
   refine ⟨_,?_,(Wrote.set (i:=2) (Wrote.set (i:=1) (Wrote.set (i:=0) (Wrote.refl hw) (Value.string ⟨#[]⟩)) (Value.string ⟨#[]⟩)) (Value.string ⟨#[]⟩))⟩
   go_simp
 refine ⟨_,(Value.int .i64 18),rfl,Or.inl ⟨rfl,fun p=>?_⟩,?_⟩
 · go_simp
   try exact ⟨rfl,rfl⟩
 intro w1 hk m0 Ad
 clear Ak Al Am An Aw Ax Ay Az Ao Ap Aq Ar Ae Af Ag A0 A1 A2 Ah Ai Aj
 replace a0:=zB hk a0
 replace a1:=zB hk a1
 replace a2:=zB hk a2
 replace Aa:=zB hk Aa
 replace Ac:=zB hk Ac
 replace Ab:=zB hk Ab
 obtain ⟨Ak,Al,Am,An⟩:=ce4 a0
 obtain ⟨Aw,Ax,Ay,Az⟩:=ce4 a1
 obtain ⟨Ao,Ap,Aq,Ar⟩:=ce4 a2
 obtain ⟨Ae,Af,Ag⟩:=ce3 Aa
 obtain ⟨A0,A1,A2⟩:=ce3 Ac
 obtain ⟨Ah,Ai,Aj⟩:=ce3 Ab
 replace hb:=hb.trans (hk.mono hb.size)
 clear hk
 replace Ad:w1.heap[Av]? = some (Obj.cells #[Value.string ⟨#[]⟩,Value.string ⟨#[]⟩,Value.string ⟨#[]⟩] 24):=Ad
 have A3:w1.cell? ⟨Av,0,none⟩=some (Value.string ⟨#[]⟩):=zA Ad
 have A4:w1.cell? ⟨Av,1,none⟩=some (Value.string ⟨#[]⟩):=zA Ad
 have A5:w1.cell? ⟨Av,2,none⟩=some (Value.string ⟨#[]⟩):=zA Ad
 clear By Bz B0 Ca Cb Cc A6 A7 A8 A9 Be Bf Bg Bh Ba Bb Bc Bd Bi Bj Bk Bl Bm Bn Bo Bp Bq m0
 go_upto_region 6 with fail
 clear Aw Ax Ay Az a1
 obtain ⟨A6,A7,A8,A9⟩:=cy4 a0
 obtain ⟨Ba,Bb,Bc,Bd⟩:=cy4 a2
 obtain ⟨Bi,Bj,Bk⟩:=cy3 Aa
 obtain ⟨Bl,Bm,Bn⟩:=cy3 Ac
 obtain ⟨Bo,Bp,Bq⟩:=cy3 Ab
 obtain ⟨Cd,Ce,Cf⟩:=cy3 Ad
 have B1:=rrV C11 R hb
 have B2:=rrV C12 R hb
 have B3:=rrV C19 R hb
 refine wp_region_quiet_below (by first | assumption | kernel_rfl) (by kernel_rfl) ?_
 repeat (quiet_step (first | (with_reducible exact B1.out _ _) | (with_reducible exact B2.out _ _) | (with_reducible exact B3.out _ _)))
 refine wpQuiet_nil ?_
 intro w1 hw'
 obtain ⟨hk,hb⟩:=zQ hb hw'
 clear Ak Al Am An Ao Ap Aq Ar Ae Af Ag A0 A1 A2 Ah Ai Aj A3 A4 A5
 replace a0:=zB hk a0
 replace a2:=zB hk a2
 replace Aa:=zB hk Aa
 replace Ac:=zB hk Ac
 replace Ab:=zB hk Ab
 replace Ad:=zB hk Ad
 obtain ⟨Ak,Al,Am,An⟩:=ce4 a0
 obtain ⟨Ao,Ap,Aq,Ar⟩:=ce4 a2
 obtain ⟨Ae,Af,Ag⟩:=ce3 Aa
 obtain ⟨A0,A1,A2⟩:=ce3 Ac
 obtain ⟨Ah,Ai,Aj⟩:=ce3 Ab
 obtain ⟨A3,A4,A5⟩:=ce3 Ad
 clear B1 B2 B3 A6 A7 A8 A9 Ba Bb Bc Bd Bi Bj Bk Bl Bm Bn Bo Bp Bq Cd Ce Cf
 clear hk hw'
 go_upto_region 10 with ((first | (go_at_call 35;with_reducible refine (chVB hb R C20).mono ?_) | (go_at_call 37;with_reducible refine (chVB hb R C21).mono ?_));clear hb;rintro e w1 ⟨rfl,hk,hb⟩;clear Ae Af Ag A0 A1 A2 Ah Ai Aj A3 A4 A5;replace Aa:=zB hk Aa;replace Ac:=zB hk Ac;replace Ab:=zB hk Ab;replace Ad:=zB hk Ad;obtain ⟨Ae,Af,Ag⟩:=ce3 Aa;obtain ⟨A0,A1,A2⟩:=ce3 Ac;obtain ⟨Ah,Ai,Aj⟩:=ce3 Ab;obtain ⟨A3,A4,A5⟩:=ce3 Ad;clear hk)
 clear Ak Al Am An a0 Ao Ap Aq Ar a2 A0 A1 A2 Ac
 refine wp_alloc1 (fun w1 Br hk=>?_)
 clear Ae Af Ag Ah Ai Aj A3 A4 A5
 replace Aa:=zB hk Aa
 replace Ab:=zB hk Ab
 replace Ad:=zB hk Ad
 obtain ⟨Ae,Af,Ag⟩:=ce3 Aa
 obtain ⟨Ah,Ai,Aj⟩:=ce3 Ab
 obtain ⟨A3,A4,A5⟩:=ce3 Ad
 replace hb:=hb.trans (hk.mono hb.size)
 clear hk
 obtain ⟨B4,B5,B6⟩:=ce3 Br
 go_wp2_with (go_at_call 28;with_reducible refine (chVB hb R C22).mono ?_;clear hb;rintro e w1 ⟨rfl,hk,hb⟩;clear B4 B5 B6 Ae Af Ag Ah Ai Aj A3 A4 A5;replace Br:=zB hk Br;replace Aa:=zB hk Aa;replace Ab:=zB hk Ab;replace Ad:=zB hk Ad;obtain ⟨B4,B5,B6⟩:=ce3 Br;obtain ⟨Ae,Af,Ag⟩:=ce3 Aa;obtain ⟨Ah,Ai,Aj⟩:=ce3 Ab;obtain ⟨A3,A4,A5⟩:=ce3 Ad;clear hk)
 first | go_ret | go_ret2 | go_ret3
 exact ⟨rfl,hb⟩
theorem lplanes_dm0  (i0 i1 i2 j0 j1 j2 k0 k1 k2 X0 X1 X2 Y0 Y1 Y2 P0 P1 P2 K0 K1 K2 W0 W1 W2:Int) (d e f D N sp ss pp spq sq:Int) (s0 s1 s2 t0 t1 t2 u0 u1 u2 v0 v1 v2:ByteArray) (r:ByteArray) (ck:CV 12 #[] (.bool true)) (cX:CV 29 #[.agg #[.int .i8 i0,.int .i8 i1,.int .i8 i2,.int .u8 d]] (.agg #[.int .i64 X0,.int .i64 X1,.int .i64 X2])) (zX:CV 28 #[.agg #[.int .i64 X0,.int .i64 X1,.int .i64 X2]] (.bool false)) (cY:CV 29 #[.agg #[.int .i8 j0,.int .i8 j1,.int .i8 j2,.int .u8 e]] (.agg #[.int .i64 Y0,.int .i64 Y1,.int .i64 Y2])) (zY:CV 28 #[.agg #[.int .i64 Y0,.int .i64 Y1,.int .i64 Y2]] (.bool false)) (cP:CV 29 #[.agg #[.int .i8 k0,.int .i8 k1,.int .i8 k2,.int .u8 f]] (.agg #[.int .i64 P0,.int .i64 P1,.int .i64 P2])) (zP:CV 28 #[.agg #[.int .i64 P0,.int .i64 P1,.int .i64 P2]] (.bool false)) (ma:CV 30 #[.agg #[.int .i8 i0,.int .i8 i1,.int .i8 i2,.int .u8 d]] (.agg #[.string s0,.string s1,.string s2])) (mb:CV 30 #[.agg #[.int .i8 j0,.int .i8 j1,.int .i8 j2,.int .u8 e]] (.agg #[.string t0,.string t1,.string t2])) (ml:CV 30 #[.agg #[.int .i8 k0,.int .i8 k1,.int .i8 k2,.int .u8 f]] (.agg #[.string u0,.string u1,.string u2])) (hli:CV 21 #[.agg #[.string s0,.string s1,.string s2],.agg #[.string u0,.string u1,.string u2]] (.tuple #[.bool true,.int .i64 0])) (hin:CV 22 #[.agg #[.string s0,.string s1,.string s2],.agg #[.string t0,.string t1,.string t2]] (.tuple #[.agg #[.string v0,.string v1,.string v2],.int .i64 0])) (hpi:CV 23 #[.agg #[.string s0,.string s1,.string s2],.agg #[.string u0,.string u1,.string u2]] (.tuple #[.string r,.int .i64 0])) (hdo:CV 35 #[.agg #[.int .i64 X0,.int .i64 X1,.int .i64 X2],.agg #[.int .i64 P0,.int .i64 P1,.int .i64 P2]] (.int .i64 D)) (hcr:CV 37 #[.agg #[.int .i64 X0,.int .i64 X1,.int .i64 X2],.agg #[.int .i64 Y0,.int .i64 Y1,.int .i64 Y2]] (.agg #[.int .i64 K0,.int .i64 K1,.int .i64 K2])) (hz:CV 28 #[.agg #[.int .i64 K0,.int .i64 K1,.int .i64 K2]] (.bool false)) (hdn:CV 32 #[.agg #[.int .i64 K0,.int .i64 K1,.int .i64 K2]] (.agg #[.int .i64 W0,.int .i64 W1,.int .i64 W2])) (hof:CV 31 #[.agg #[.int .i64 W0,.int .i64 W1,.int .i64 W2]] (.agg #[.string v0,.string v1,.string v2])) (hsp:CV 35 #[.agg #[.int .i64 N,.int .i64 X0,.int .i64 0],.agg #[.int .i64 P0,.int .i64 P1,.int .i64 P2]] (.int .i64 sp)) (hss:CV 35 #[.agg #[.int .i64 N,.int .i64 X0,.int .i64 0],.agg #[.int .i64 N,.int .i64 X0,.int .i64 0]] (.int .i64 ss)) (hpp:CV 35 #[.agg #[.int .i64 P0,.int .i64 P1,.int .i64 P2],.agg #[.int .i64 P0,.int .i64 P1,.int .i64 P2]] (.int .i64 pp)) (hquo:CV 34 #[.int .i64 spq,.int .i64 sq] (.string r)) (WM0:IntKind.i64.wrap (-X1)=N) (WM1:IntKind.i64.wrap (sp*sp)=spq) (WM2:IntKind.i64.wrap (ss*pp)=sq) (WC0:(D == 0)=true) (WC1:(X0 == 0)=false) (w:World) (R:EnvV w) :
   Calls Tryz.prog 8 #[.agg #[.int .i8 i0,.int .i8 i1,.int .i8 i2,.int .u8 d],.agg #[.int .i8 j0,.int .i8 j1,.int .i8 j2,.int .u8 e],.agg #[.int .i8 k0,.int .i8 k1,.int .i8 k2,.int .u8 f]] w (Ret w (.bool true)):=by
 have c1:=ck
 have c2:=cX
 have c3:=zX
 have c4:=cY
 have c5:=zY
 have c6:=cP
 have c7:=zP
 have c11:=ma
 have c12:=ml
 have c13:=hli
 have c15:=mb
 have c16:=hin
 have c19:=hpi
 have c20:=hdo
 have c21:=hcr
 have c22:=hz
 have c23:=hdn
 have c24:=hof
 have c26:=hsp
 have c28:=hss
 have c29:=hpp
 have c30:=hquo
 have gm0:IntKind.i64.wrap (-X1)=N:=WM0
 have gm1:IntKind.i64.wrap (sp*sp)=spq:=WM1
 have gm2:IntKind.i64.wrap (ss*pp)=sq:=WM2
 have gc0:(D == 0)=true:=WC0
 have gc1:(X0 == 0)=false:=WC1
 have C1:=Lib.hid c1
 have C2:=Lib.hid c2
 have C3:=Lib.hid c3
 have C4:=Lib.hid c4
 have C5:=Lib.hid c5
 have C6:=Lib.hid c6
 have C7:=Lib.hid c7
 have C11:=Lib.hid c11
 have C12:=Lib.hid c12
 have C13:=Lib.hid c13
 have C15:=Lib.hid c15
 have C16:=Lib.hid c16
 have C19:=Lib.hid c19
 have C20:=Lib.hid c20
 have C21:=Lib.hid c21
 have C22:=Lib.hid c22
 have C23:=Lib.hid c23
 have C24:=Lib.hid c24
 have C26:=Lib.hid c26
 have C28:=Lib.hid c28
 have C29:=Lib.hid c29
 have C30:=Lib.hid c30
 clear c1 c2 c3 c4 c5 c6 c7 c11 c12 c13 c15 c16 c19 c20 c21 c22 c23 c24 c26 c28 c29 c30 ck cX zX cY zY cP zP ma mb ml hli hin hpi hdo hcr hz hdn hof hsp hss hpp hquo WM0 WM1 WM2 WC0 WC1
 have hb:=Below.refl w.heap.size w
 go_enter Tryz.func8,Tryz.ntmps8
 go_upto_region 1 with fail
 refine wp_alloc3 (fun w1 a0 a1 a2 hk=>?_)
 replace hb:=hb.trans (hk.mono hb.size)
 clear hk
 obtain ⟨Al,Am,An,Ao⟩:=ce4 a0
 obtain ⟨A3,A4,A5,A6⟩:=ce4 a1
 obtain ⟨Ap,Aq,Ar,As⟩:=ce4 a2
 go_upto_region 3 with ((first | (go_at_call 12;with_reducible refine (chVB hb R C1).mono ?_) | (go_at_call 29;first | with_reducible refine (chVB hb R C2).mono ?_ | with_reducible refine (chVB hb R C4).mono ?_ | with_reducible refine (chVB hb R C6).mono ?_) | (go_at_call 28;first | with_reducible refine (chVB hb R C3).mono ?_ | with_reducible refine (chVB hb R C5).mono ?_ | with_reducible refine (chVB hb R C7).mono ?_));clear hb;rintro e w1 ⟨rfl,hk,hb⟩;clear Al Am An Ao A3 A4 A5 A6 Ap Aq Ar As;replace a0:=zB hk a0;replace a1:=zB hk a1;replace a2:=zB hk a2;obtain ⟨Al,Am,An,Ao⟩:=ce4 a0;obtain ⟨A3,A4,A5,A6⟩:=ce4 a1;obtain ⟨Ap,Aq,Ar,As⟩:=ce4 a2;clear hk)
 obtain ⟨Bd,Be,Bf,Bg⟩:=cy4 a0
 obtain ⟨Bo,Bp,Bq,Br⟩:=cy4 a1
 obtain ⟨Bh,Bi,Bj,Bk⟩:=cy4 a2
 have Cp:=rrV C2 R hb
 have Cq:=rrV C4 R hb
 have Cr:=rrV C6 R hb
 have B2:=qqV C2 R hb
 have B3:=qqV C4 R hb
 have B4:=qqV C6 R hb
 refine wp_free3 6 0 (fun i=>if i=6 then Obj.cells #[Value.int .i64 0,Value.int .i64 0,Value.int .i64 0] 48 else if i=7 then Obj.cells #[Value.int .i64 0,Value.int .i64 0,Value.int .i64 0] 48 else if i=8 then Obj.cells #[Value.int .i64 0,Value.int .i64 0,Value.int .i64 0] 48 else Obj.cells #[] 0) (fun i=>if i=6 then Obj.cells #[Value.int .i64 X0,Value.int .i64 X1,Value.int .i64 X2] 48 else if i=7 then Obj.cells #[Value.int .i64 Y0,Value.int .i64 Y1,Value.int .i64 Y2] 48 else if i=8 then Obj.cells #[Value.int .i64 P0,Value.int .i64 P1,Value.int .i64 P2] 48 else Obj.cells #[] 0) (some 7) (some 8) (some 9) (by first | assumption | kernel_rfl) (by kernel_rfl) ?lay rfl rfl rfl ?_
 case lay =>
   intro i h1 h2
   obtain rfl | rfl | rfl:i=6∨i=7∨i=8:=by omega
   all_goals exact ⟨_,rfl,rfl,fun a w=>(by first | (go_simp;done) | (go_simp;rfl))⟩
 simp only [List.take_succ_cons,List.take_zero]
 repeat (refine wpB_step (fun K hK=>?_);go_simp;first | (refine hK _ ?_;clear hK K) | (apply Exists.intro;refine ⟨fun _=>?_,hK _ ?_⟩;(first | (with_reducible exact B2.out _ _) | (with_reducible exact B3.out _ _) | (with_reducible exact B4.out _ _));clear hK K))
 refine wpB_nil ?_
 intro At Au Av
 refine ⟨?_,?_,?_,?_⟩
 · refine ⟨_,rfl,rfl,rfl,fun cs b h=>(by cases h),fun w hw=>?_⟩
   replace hw:w.heap[At]? = some (Obj.cells #[Value.int .i64 0,Value.int .i64 0,Value.int .i64 0] 48):=hw
   have z0:w.cell? ⟨At,0,none⟩=some (Value.int .i64 0):=zA hw
   have y0:w.frozen? ⟨At,0,none⟩=false:=zD hw
   have z1:w.cell? ⟨At,1,none⟩=some (Value.int .i64 0):=zA hw
   have y1:w.frozen? ⟨At,1,none⟩=false:=zD hw
   have z2:w.cell? ⟨At,2,none⟩=some (Value.int .i64 0):=zA hw
   have y2:w.frozen? ⟨At,2,none⟩=false:=zD hw
   refine ⟨_,?_,(Wrote.set (i:=2) (Wrote.set (i:=1) (Wrote.set (i:=0) (Wrote.refl hw) (Value.int .i64 X0)) (Value.int .i64 X1)) (Value.int .i64 X2))⟩
   go_simp
 · refine ⟨_,rfl,rfl,rfl,fun cs b h=>(by cases h),fun w hw=>?_⟩
   replace hw:w.heap[Au]? = some (Obj.cells #[Value.int .i64 0,Value.int .i64 0,Value.int .i64 0] 48):=hw
   have z0:w.cell? ⟨Au,0,none⟩=some (Value.int .i64 0):=zA hw
   have y0:w.frozen? ⟨Au,0,none⟩=false:=zD hw
   have z1:w.cell? ⟨Au,1,none⟩=some (Value.int .i64 0):=zA hw
   have y1:w.frozen? ⟨Au,1,none⟩=false:=zD hw
   have z2:w.cell? ⟨Au,2,none⟩=some (Value.int .i64 0):=zA hw
   have y2:w.frozen? ⟨Au,2,none⟩=false:=zD hw
   refine ⟨_,?_,(Wrote.set (i:=2) (Wrote.set (i:=1) (Wrote.set (i:=0) (Wrote.refl hw) (Value.int .i64 Y0)) (Value.int .i64 Y1)) (Value.int .i64 Y2))⟩
   go_simp
 · refine ⟨_,rfl,rfl,rfl,fun cs b h=>(by cases h),fun w hw=>?_⟩
   replace hw:w.heap[Av]? = some (Obj.cells #[Value.int .i64 0,Value.int .i64 0,Value.int .i64 0] 48):=hw
   have z0:w.cell? ⟨Av,0,none⟩=some (Value.int .i64 0):=zA hw
   have y0:w.frozen? ⟨Av,0,none⟩=false:=zD hw
   have z1:w.cell? ⟨Av,1,none⟩=some (Value.int .i64 0):=zA hw
   have y1:w.frozen? ⟨Av,1,none⟩=false:=zD hw
   have z2:w.cell? ⟨Av,2,none⟩=some (Value.int .i64 0):=zA hw
   have y2:w.frozen? ⟨Av,2,none⟩=false:=zD hw
   refine ⟨_,?_,(Wrote.set (i:=2) (Wrote.set (i:=1) (Wrote.set (i:=0) (Wrote.refl hw) (Value.int .i64 P0)) (Value.int .i64 P1)) (Value.int .i64 P2))⟩
   go_simp
 intro w1 hk m0 m1 m2 Ab Ad Aa _ _ _
 clear Al Am An Ao A3 A4 A5 A6 Ap Aq Ar As
 replace a0:=zB hk a0
 replace a1:=zB hk a1
 replace a2:=zB hk a2
 obtain ⟨Al,Am,An,Ao⟩:=ce4 a0
 obtain ⟨A3,A4,A5,A6⟩:=ce4 a1
 obtain ⟨Ap,Aq,Ar,As⟩:=ce4 a2
 replace hb:=hb.trans (hk.mono hb.size)
 clear hk
 replace Ab:w1.heap[At]? = some (Obj.cells #[Value.int .i64 X0,Value.int .i64 X1,Value.int .i64 X2] 48):=Ab
 have Ai:w1.cell? ⟨At,0,none⟩=some (Value.int .i64 X0):=zA Ab
 have Aj:w1.cell? ⟨At,1,none⟩=some (Value.int .i64 X1):=zA Ab
 have Ak:w1.cell? ⟨At,2,none⟩=some (Value.int .i64 X2):=zA Ab
 replace Ad:w1.heap[Au]? = some (Obj.cells #[Value.int .i64 Y0,Value.int .i64 Y1,Value.int .i64 Y2] 48):=Ad
 have A7:w1.cell? ⟨Au,0,none⟩=some (Value.int .i64 Y0):=zA Ad
 have A8:w1.cell? ⟨Au,1,none⟩=some (Value.int .i64 Y1):=zA Ad
 have A9:w1.cell? ⟨Au,2,none⟩=some (Value.int .i64 Y2):=zA Ad
 replace Aa:w1.heap[Av]? = some (Obj.cells #[Value.int .i64 P0,Value.int .i64 P1,Value.int .i64 P2] 48):=Aa
 have Ae:w1.cell? ⟨Av,0,none⟩=some (Value.int .i64 P0):=zA Aa
 have Af:w1.cell? ⟨Av,1,none⟩=some (Value.int .i64 P1):=zA Aa
 have Ag:w1.cell? ⟨Av,2,none⟩=some (Value.int .i64 P2):=zA Aa
 clear B2 B3 B4 Cp Cq Cr Bd Be Bf Bg Bo Bp Bq Br Bh Bi Bj Bk m0 m1 m2
 go_upto_region 4 with fail
 obtain ⟨Bd,Be,Bf,Bg⟩:=cy4 a0
 obtain ⟨Bo,Bp,Bq,Br⟩:=cy4 a1
 obtain ⟨Bh,Bi,Bj,Bk⟩:=cy4 a2
 obtain ⟨Bl,Bm,Bn⟩:=cy3 Ab
 obtain ⟨Bs,Bt,Bu⟩:=cy3 Ad
 obtain ⟨Ba,Bb,Bc⟩:=cy3 Aa
 have B5:=rrV C11 R hb
 have B6:=rrV C12 R hb
 have B7:=rrV C13 R hb
 refine wp_region_quiet_below (by first | assumption | kernel_rfl) (by kernel_rfl) ?_
 repeat (quiet_step (first | (with_reducible exact B5.out _ _) | (with_reducible exact B6.out _ _) | (with_reducible exact B7.out _ _)))
 refine wpQuiet_nil ?_
 intro w1 hw'
 obtain ⟨hk,hb⟩:=zQ hb hw'
 clear Al Am An Ao A3 A4 A5 A6 Ap Aq Ar As Ai Aj Ak A7 A8 A9 Ae Af Ag
 replace a0:=zB hk a0
 replace a1:=zB hk a1
 replace a2:=zB hk a2
 replace Ab:=zB hk Ab
 replace Ad:=zB hk Ad
 replace Aa:=zB hk Aa
 obtain ⟨Al,Am,An,Ao⟩:=ce4 a0
 obtain ⟨A3,A4,A5,A6⟩:=ce4 a1
 obtain ⟨Ap,Aq,Ar,As⟩:=ce4 a2
 obtain ⟨Ai,Aj,Ak⟩:=ce3 Ab
 obtain ⟨A7,A8,A9⟩:=ce3 Ad
 obtain ⟨Ae,Af,Ag⟩:=ce3 Aa
 clear B5 B6 B7 Bd Be Bf Bg Bo Bp Bq Br Bh Bi Bj Bk Bl Bm Bn Bs Bt Bu Ba Bb Bc
 clear hk hw'
 go_upto_region 5 with fail
 obtain ⟨Bd,Be,Bf,Bg⟩:=cy4 a0
 obtain ⟨Bo,Bp,Bq,Br⟩:=cy4 a1
 obtain ⟨Bh,Bi,Bj,Bk⟩:=cy4 a2
 obtain ⟨Bl,Bm,Bn⟩:=cy3 Ab
 obtain ⟨Bs,Bt,Bu⟩:=cy3 Ad
 obtain ⟨Ba,Bb,Bc⟩:=cy3 Aa
 have Cs:=rrV C11 R hb
 have Ct:=rrV C15 R hb
 have Cu:=rrV C16 R hb
 have B8:=qqV C11 R hb
 have B9:=qqV C15 R hb
 have Ca:=qqV C16 R hb
 refine wp_free1 8 1 (fun i=>if i=8 then Obj.cells #[Value.string ⟨#[]⟩,Value.string ⟨#[]⟩,Value.string ⟨#[]⟩] 24 else Obj.cells #[] 0) (fun i=>if i=8 then Obj.cells #[Value.string v0,Value.string v1,Value.string v2] 24 else Obj.cells #[] 0) (some 12) (by first | assumption | kernel_rfl) (by kernel_rfl) ?lay rfl ?_
 case lay =>
   intro i h1 h2
   obtain rfl:i=8:=by omega
   all_goals exact ⟨_,rfl,rfl,fun a w=>(by first | (go_simp;done) | (go_simp;rfl))⟩
 simp only [List.take_succ_cons,List.take_zero]
 repeat (refine wpB_step (fun K hK=>?_);go_simp;first | (refine hK _ ?_;clear hK K) | (apply Exists.intro;refine ⟨fun _=>?_,hK _ ?_⟩;(first | (with_reducible exact B8.out _ _) | (with_reducible exact B9.out _ _) | (with_reducible exact Ca.out _ _));clear hK K))
 refine wpB_nil ?_
 intro Aw
 refine ⟨?_,?_⟩
 · refine ⟨_,rfl,rfl,rfl,fun cs b h=>(by cases h),fun w hw=>?_⟩
   replace hw:w.heap[Aw]? = some (Obj.cells #[Value.string ⟨#[]⟩,Value.string ⟨#[]⟩,Value.string ⟨#[]⟩] 24):=hw
   have z0:w.cell? ⟨Aw,0,none⟩=some (Value.string ⟨#[]⟩):=zA hw
   have y0:w.frozen? ⟨Aw,0,none⟩=false:=zD hw
   have z1:w.cell? ⟨Aw,1,none⟩=some (Value.string ⟨#[]⟩):=zA hw
   have y1:w.frozen? ⟨Aw,1,none⟩=false:=zD hw
   have z2:w.cell? ⟨Aw,2,none⟩=some (Value.string ⟨#[]⟩):=zA hw
   have y2:w.frozen? ⟨Aw,2,none⟩=false:=zD hw
   refine ⟨_,?_,(Wrote.set (i:=2) (Wrote.set (i:=1) (Wrote.set (i:=0) (Wrote.refl hw) (Value.string v0)) (Value.string v1)) (Value.string v2))⟩
   go_simp
 refine ⟨_,(Value.int .i64 0),rfl,Or.inl ⟨rfl,fun p=>?_⟩,?_⟩
 · go_simp
   try exact ⟨rfl,rfl⟩
 intro w1 hk m0 Ac
 clear Al Am An Ao A3 A4 A5 A6 Ap Aq Ar As Ai Aj Ak A7 A8 A9 Ae Af Ag
 replace a0:=zB hk a0
 replace a1:=zB hk a1
 replace a2:=zB hk a2
 replace Ab:=zB hk Ab
 replace Ad:=zB hk Ad
 replace Aa:=zB hk Aa
 obtain ⟨Al,Am,An,Ao⟩:=ce4 a0
 obtain ⟨A3,A4,A5,A6⟩:=ce4 a1
 obtain ⟨Ap,Aq,Ar,As⟩:=ce4 a2
 obtain ⟨Ai,Aj,Ak⟩:=ce3 Ab
 obtain ⟨A7,A8,A9⟩:=ce3 Ad
 obtain ⟨Ae,Af,Ag⟩:=ce3 Aa
 replace hb:=hb.trans (hk.mono hb.size)
 clear hk
 replace Ac:w1.heap[Aw]? = some (Obj.cells #[Value.string v0,Value.string v1,Value.string v2] 24):=Ac
 have Ax:w1.cell? ⟨Aw,0,none⟩=some (Value.string v0):=zA Ac
 have Ay:w1.cell? ⟨Aw,1,none⟩=some (Value.string v1):=zA Ac
 have Az:w1.cell? ⟨Aw,2,none⟩=some (Value.string v2):=zA Ac
 clear B8 B9 Ca Cs Ct Cu Bd Be Bf Bg Bo Bp Bq Br Bh Bi Bj Bk Bl Bm Bn Bs Bt Bu Ba Bb Bc m0
 go_upto_region 6 with fail
 clear A3 A4 A5 A6 a1
 obtain ⟨Bd,Be,Bf,Bg⟩:=cy4 a0
 obtain ⟨Bh,Bi,Bj,Bk⟩:=cy4 a2
 obtain ⟨Bl,Bm,Bn⟩:=cy3 Ab
 obtain ⟨Bs,Bt,Bu⟩:=cy3 Ad
 obtain ⟨Ba,Bb,Bc⟩:=cy3 Aa
 obtain ⟨Bw,Bx,By⟩:=cy3 Ac
 have Cb:=rrV C11 R hb
 have Cc:=rrV C12 R hb
 have Cd:=rrV C19 R hb
 refine wp_region_quiet_below (by first | assumption | kernel_rfl) (by kernel_rfl) ?_
 repeat (quiet_step (first | (with_reducible exact Cb.out _ _) | (with_reducible exact Cc.out _ _) | (with_reducible exact Cd.out _ _)))
 refine wpQuiet_nil ?_
 intro w1 hw'
 obtain ⟨hk,hb⟩:=zQ hb hw'
 clear Al Am An Ao Ap Aq Ar As Ai Aj Ak A7 A8 A9 Ae Af Ag Ax Ay Az
 replace a0:=zB hk a0
 replace a2:=zB hk a2
 replace Ab:=zB hk Ab
 replace Ad:=zB hk Ad
 replace Aa:=zB hk Aa
 replace Ac:=zB hk Ac
 obtain ⟨Al,Am,An,Ao⟩:=ce4 a0
 obtain ⟨Ap,Aq,Ar,As⟩:=ce4 a2
 obtain ⟨Ai,Aj,Ak⟩:=ce3 Ab
 obtain ⟨A7,A8,A9⟩:=ce3 Ad
 obtain ⟨Ae,Af,Ag⟩:=ce3 Aa
 obtain ⟨Ax,Ay,Az⟩:=ce3 Ac
 clear Cb Cc Cd Bd Be Bf Bg Bh Bi Bj Bk Bl Bm Bn Bs Bt Bu Ba Bb Bc Bw Bx By
 clear hk hw'
 go_upto_region 10 with ((first | (go_at_call 35;with_reducible refine (chVB hb R C20).mono ?_) | (go_at_call 37;with_reducible refine (chVB hb R C21).mono ?_));clear hb;rintro e w1 ⟨rfl,hk,hb⟩;clear Ai Aj Ak A7 A8 A9 Ae Af Ag Ax Ay Az;replace Ab:=zB hk Ab;replace Ad:=zB hk Ad;replace Aa:=zB hk Aa;replace Ac:=zB hk Ac;obtain ⟨Ai,Aj,Ak⟩:=ce3 Ab;obtain ⟨A7,A8,A9⟩:=ce3 Ad;obtain ⟨Ae,Af,Ag⟩:=ce3 Aa;obtain ⟨Ax,Ay,Az⟩:=ce3 Ac;clear hk)
 clear Al Am An Ao a0 Ap Aq Ar As a2 A7 A8 A9 Ad
 refine wp_alloc1 (fun w1 Ah hk=>?_)
 clear Ai Aj Ak Ae Af Ag Ax Ay Az
 replace Ab:=zB hk Ab
 replace Aa:=zB hk Aa
 replace Ac:=zB hk Ac
 obtain ⟨Ai,Aj,Ak⟩:=ce3 Ab
 obtain ⟨Ae,Af,Ag⟩:=ce3 Aa
 obtain ⟨Ax,Ay,Az⟩:=ce3 Ac
 replace hb:=hb.trans (hk.mono hb.size)
 clear hk
 obtain ⟨A0,A1,A2⟩:=ce3 Ah
 go_upto_region 13 with (go_at_call 28;with_reducible refine (chVB hb R C22).mono ?_;clear hb;rintro e w1 ⟨rfl,hk,hb⟩;clear A0 A1 A2 Ai Aj Ak Ae Af Ag Ax Ay Az;replace Ah:=zB hk Ah;replace Ab:=zB hk Ab;replace Aa:=zB hk Aa;replace Ac:=zB hk Ac;obtain ⟨A0,A1,A2⟩:=ce3 Ah;obtain ⟨Ai,Aj,Ak⟩:=ce3 Ab;obtain ⟨Ae,Af,Ag⟩:=ce3 Aa;obtain ⟨Ax,Ay,Az⟩:=ce3 Ac;clear hk)
 obtain ⟨Bz,B0,B1⟩:=cy3 Ah
 obtain ⟨Bl,Bm,Bn⟩:=cy3 Ab
 obtain ⟨Ba,Bb,Bc⟩:=cy3 Aa
 obtain ⟨Bw,Bx,By⟩:=cy3 Ac
 have Ce:=rrV C23 R hb
 have Cf:=rrV C24 R hb
 refine wp_region_quiet_below (by first | assumption | kernel_rfl) (by kernel_rfl) ?_
 repeat (quiet_step (first | (with_reducible exact Ce.out _ _) | (with_reducible exact Cf.out _ _)))
 refine wpQuiet_nil ?_
 intro w1 hw'
 obtain ⟨hk,hb⟩:=zQ hb hw'
 clear A0 A1 A2 Ai Aj Ak Ae Af Ag Ax Ay Az
 replace Ah:=zB hk Ah
 replace Ab:=zB hk Ab
 replace Aa:=zB hk Aa
 replace Ac:=zB hk Ac
 obtain ⟨A0,A1,A2⟩:=ce3 Ah
 obtain ⟨Ai,Aj,Ak⟩:=ce3 Ab
 obtain ⟨Ae,Af,Ag⟩:=ce3 Aa
 obtain ⟨Ax,Ay,Az⟩:=ce3 Ac
 clear Ce Cf Bz B0 B1 Bl Bm Bn Ba Bb Bc Bw Bx By
 clear hk hw'
 go_upto_region 20 with (go_at_call 35;with_reducible refine (chVB hb R C20).mono ?_;clear hb;rintro e w1 ⟨rfl,hk,hb⟩;clear A0 A1 A2 Ai Aj Ak Ae Af Ag;replace Ah:=zB hk Ah;replace Ab:=zB hk Ab;replace Aa:=zB hk Aa;obtain ⟨A0,A1,A2⟩:=ce3 Ah;obtain ⟨Ai,Aj,Ak⟩:=ce3 Ab;obtain ⟨Ae,Af,Ag⟩:=ce3 Aa;clear hk)
 clear Ai Aj Ak Ab Ax Ay Az Ac
 refine wp_alloc1 (fun w1 Bv hk=>?_)
 clear A0 A1 A2 Ae Af Ag
 replace Ah:=zB hk Ah
 replace Aa:=zB hk Aa
 obtain ⟨A0,A1,A2⟩:=ce3 Ah
 obtain ⟨Ae,Af,Ag⟩:=ce3 Aa
 replace hb:=hb.trans (hk.mono hb.size)
 clear hk
 obtain ⟨Cg,Ch,Ci⟩:=ce3 Bv
 obtain ⟨Bz,B0,B1⟩:=cy3 Ah
 obtain ⟨Cv,Cw,Cx⟩:=cy3 Bv
 obtain ⟨Ba,Bb,Bc⟩:=cy3 Aa
 have Cj:=rrV C26 R hb
 have Ck:=rrV C26 R hb
 have Cm:=rrV C28 R hb
 have Cn:=rrV C29 R hb
 have Co:=rrV C30 R hb
 refine wp_region_quiet_below (by first | assumption | kernel_rfl) (by kernel_rfl) ?_
 repeat (quiet_step (first | (with_reducible exact Cj.out _ _) | (with_reducible exact Ck.out _ _) | (with_reducible exact Cm.out _ _) | (with_reducible exact Cn.out _ _) | (with_reducible exact Co.out _ _)))
 refine wpQuiet_nil ?_
 intro w1 hw'
 obtain ⟨hk,hb⟩:=zQ hb hw'
 clear A0 A1 A2 Cg Ch Ci Ae Af Ag
 replace Ah:=zB hk Ah
 replace Bv:=zB hk Bv
 replace Aa:=zB hk Aa
 obtain ⟨A0,A1,A2⟩:=ce3 Ah
 obtain ⟨Cg,Ch,Ci⟩:=ce3 Bv
 obtain ⟨Ae,Af,Ag⟩:=ce3 Aa
 clear Cj Ck Cm Cn Co Bz B0 B1 Cv Cw Cx Ba Bb Bc
 clear hk hw'
 go_wp2
 first | go_ret | go_ret2 | go_ret3
 exact ⟨rfl,hb⟩
theorem lplanes_dm1  (i0 i1 i2 j0 j1 j2 k0 k1 k2 X0 X1 X2 Y0 Y1 Y2 P0 P1 P2 K0 K1 K2 W0 W1 W2:Int) (d e f D N sp ss pp spq sq:Int) (s0 s1 s2 t0 t1 t2 u0 u1 u2 v0 v1 v2:ByteArray) (r:ByteArray) (ck:CV 12 #[] (.bool true)) (cX:CV 29 #[.agg #[.int .i8 i0,.int .i8 i1,.int .i8 i2,.int .u8 d]] (.agg #[.int .i64 X0,.int .i64 X1,.int .i64 X2])) (zX:CV 28 #[.agg #[.int .i64 X0,.int .i64 X1,.int .i64 X2]] (.bool false)) (cY:CV 29 #[.agg #[.int .i8 j0,.int .i8 j1,.int .i8 j2,.int .u8 e]] (.agg #[.int .i64 Y0,.int .i64 Y1,.int .i64 Y2])) (zY:CV 28 #[.agg #[.int .i64 Y0,.int .i64 Y1,.int .i64 Y2]] (.bool false)) (cP:CV 29 #[.agg #[.int .i8 k0,.int .i8 k1,.int .i8 k2,.int .u8 f]] (.agg #[.int .i64 P0,.int .i64 P1,.int .i64 P2])) (zP:CV 28 #[.agg #[.int .i64 P0,.int .i64 P1,.int .i64 P2]] (.bool false)) (ma:CV 30 #[.agg #[.int .i8 i0,.int .i8 i1,.int .i8 i2,.int .u8 d]] (.agg #[.string s0,.string s1,.string s2])) (mb:CV 30 #[.agg #[.int .i8 j0,.int .i8 j1,.int .i8 j2,.int .u8 e]] (.agg #[.string t0,.string t1,.string t2])) (ml:CV 30 #[.agg #[.int .i8 k0,.int .i8 k1,.int .i8 k2,.int .u8 f]] (.agg #[.string u0,.string u1,.string u2])) (hli:CV 21 #[.agg #[.string s0,.string s1,.string s2],.agg #[.string u0,.string u1,.string u2]] (.tuple #[.bool true,.int .i64 0])) (hin:CV 22 #[.agg #[.string s0,.string s1,.string s2],.agg #[.string t0,.string t1,.string t2]] (.tuple #[.agg #[.string v0,.string v1,.string v2],.int .i64 0])) (hpi:CV 23 #[.agg #[.string s0,.string s1,.string s2],.agg #[.string u0,.string u1,.string u2]] (.tuple #[.string r,.int .i64 0])) (hdo:CV 35 #[.agg #[.int .i64 X0,.int .i64 X1,.int .i64 X2],.agg #[.int .i64 P0,.int .i64 P1,.int .i64 P2]] (.int .i64 D)) (hcr:CV 37 #[.agg #[.int .i64 X0,.int .i64 X1,.int .i64 X2],.agg #[.int .i64 Y0,.int .i64 Y1,.int .i64 Y2]] (.agg #[.int .i64 K0,.int .i64 K1,.int .i64 K2])) (hz:CV 28 #[.agg #[.int .i64 K0,.int .i64 K1,.int .i64 K2]] (.bool false)) (hdn:CV 32 #[.agg #[.int .i64 K0,.int .i64 K1,.int .i64 K2]] (.agg #[.int .i64 W0,.int .i64 W1,.int .i64 W2])) (hof:CV 31 #[.agg #[.int .i64 W0,.int .i64 W1,.int .i64 W2]] (.agg #[.string v0,.string v1,.string v2])) (hsp:CV 35 #[.agg #[.int .i64 N,.int .i64 X0,.int .i64 0],.agg #[.int .i64 P0,.int .i64 P1,.int .i64 P2]] (.int .i64 sp)) (hss:CV 35 #[.agg #[.int .i64 N,.int .i64 X0,.int .i64 0],.agg #[.int .i64 N,.int .i64 X0,.int .i64 0]] (.int .i64 ss)) (hpp:CV 35 #[.agg #[.int .i64 P0,.int .i64 P1,.int .i64 P2],.agg #[.int .i64 P0,.int .i64 P1,.int .i64 P2]] (.int .i64 pp)) (hquo:CV 34 #[.int .i64 spq,.int .i64 sq] (.string r)) (WM0:IntKind.i64.wrap (-X1)=N) (WM1:IntKind.i64.wrap (sp*sp)=spq) (WM2:IntKind.i64.wrap (ss*pp)=sq) (WC0:(D == 0)=true) (WC1:(X0 == 0)=true) (WC2:(X1 == 0)=false) (w:World) (R:EnvV w) :
   Calls Tryz.prog 8 #[.agg #[.int .i8 i0,.int .i8 i1,.int .i8 i2,.int .u8 d],.agg #[.int .i8 j0,.int .i8 j1,.int .i8 j2,.int .u8 e],.agg #[.int .i8 k0,.int .i8 k1,.int .i8 k2,.int .u8 f]] w (Ret w (.bool true)):=by
 have c1:=ck
 have c2:=cX
 have c3:=zX
 have c4:=cY
 have c5:=zY
 have c6:=cP
 have c7:=zP
 have c11:=ma
 have c12:=ml
 have c13:=hli
 have c15:=mb
 have c16:=hin
 have c19:=hpi
 have c20:=hdo
 have c21:=hcr
 have c22:=hz
 have c23:=hdn
 have c24:=hof
 have c26:=hsp
 have c28:=hss
 have c29:=hpp
 have c30:=hquo
 have gm0:IntKind.i64.wrap (-X1)=N:=WM0
 have gm1:IntKind.i64.wrap (sp*sp)=spq:=WM1
 have gm2:IntKind.i64.wrap (ss*pp)=sq:=WM2
 have gc0:(D == 0)=true:=WC0
 have gc1:(X0 == 0)=true:=WC1
 have gc2:(X1 == 0)=false:=WC2
 have C1:=Lib.hid c1
 have C2:=Lib.hid c2
 have C3:=Lib.hid c3
 have C4:=Lib.hid c4
 have C5:=Lib.hid c5
 have C6:=Lib.hid c6
 have C7:=Lib.hid c7
 have C11:=Lib.hid c11
 have C12:=Lib.hid c12
 have C13:=Lib.hid c13
 have C15:=Lib.hid c15
 have C16:=Lib.hid c16
 have C19:=Lib.hid c19
 have C20:=Lib.hid c20
 have C21:=Lib.hid c21
 have C22:=Lib.hid c22
 have C23:=Lib.hid c23
 have C24:=Lib.hid c24
 have C26:=Lib.hid c26
 have C28:=Lib.hid c28
 have C29:=Lib.hid c29
 have C30:=Lib.hid c30
 clear c1 c2 c3 c4 c5 c6 c7 c11 c12 c13 c15 c16 c19 c20 c21 c22 c23 c24 c26 c28 c29 c30 ck cX zX cY zY cP zP ma mb ml hli hin hpi hdo hcr hz hdn hof hsp hss hpp hquo WM0 WM1 WM2 WC0 WC1 WC2
 have hb:=Below.refl w.heap.size w
 go_enter Tryz.func8,Tryz.ntmps8
 go_upto_region 1 with fail
 refine wp_alloc3 (fun w1 a0 a1 a2 hk=>?_)
 replace hb:=hb.trans (hk.mono hb.size)
 clear hk
 obtain ⟨Al,Am,An,Ao⟩:=ce4 a0
 obtain ⟨A3,A4,A5,A6⟩:=ce4 a1
 obtain ⟨Ap,Aq,Ar,As⟩:=ce4 a2
 go_upto_region 3 with ((first | (go_at_call 12;with_reducible refine (chVB hb R C1).mono ?_) | (go_at_call 29;first | with_reducible refine (chVB hb R C2).mono ?_ | with_reducible refine (chVB hb R C4).mono ?_ | with_reducible refine (chVB hb R C6).mono ?_) | (go_at_call 28;first | with_reducible refine (chVB hb R C3).mono ?_ | with_reducible refine (chVB hb R C5).mono ?_ | with_reducible refine (chVB hb R C7).mono ?_));clear hb;rintro e w1 ⟨rfl,hk,hb⟩;clear Al Am An Ao A3 A4 A5 A6 Ap Aq Ar As;replace a0:=zB hk a0;replace a1:=zB hk a1;replace a2:=zB hk a2;obtain ⟨Al,Am,An,Ao⟩:=ce4 a0;obtain ⟨A3,A4,A5,A6⟩:=ce4 a1;obtain ⟨Ap,Aq,Ar,As⟩:=ce4 a2;clear hk)
 obtain ⟨Bd,Be,Bf,Bg⟩:=cy4 a0
 obtain ⟨Bo,Bp,Bq,Br⟩:=cy4 a1
 obtain ⟨Bh,Bi,Bj,Bk⟩:=cy4 a2
 have Cp:=rrV C2 R hb
 have Cq:=rrV C4 R hb
 have Cr:=rrV C6 R hb
 have B2:=qqV C2 R hb
 have B3:=qqV C4 R hb
 have B4:=qqV C6 R hb
 refine wp_free3 6 0 (fun i=>if i=6 then Obj.cells #[Value.int .i64 0,Value.int .i64 0,Value.int .i64 0] 48 else if i=7 then Obj.cells #[Value.int .i64 0,Value.int .i64 0,Value.int .i64 0] 48 else if i=8 then Obj.cells #[Value.int .i64 0,Value.int .i64 0,Value.int .i64 0] 48 else Obj.cells #[] 0) (fun i=>if i=6 then Obj.cells #[Value.int .i64 X0,Value.int .i64 X1,Value.int .i64 X2] 48 else if i=7 then Obj.cells #[Value.int .i64 Y0,Value.int .i64 Y1,Value.int .i64 Y2] 48 else if i=8 then Obj.cells #[Value.int .i64 P0,Value.int .i64 P1,Value.int .i64 P2] 48 else Obj.cells #[] 0) (some 7) (some 8) (some 9) (by first | assumption | kernel_rfl) (by kernel_rfl) ?lay rfl rfl rfl ?_
 case lay =>
   intro i h1 h2
   obtain rfl | rfl | rfl:i=6∨i=7∨i=8:=by omega
   all_goals exact ⟨_,rfl,rfl,fun a w=>(by first | (go_simp;done) | (go_simp;rfl))⟩
 simp only [List.take_succ_cons,List.take_zero]
 repeat (refine wpB_step (fun K hK=>?_);go_simp;first | (refine hK _ ?_;clear hK K) | (apply Exists.intro;refine ⟨fun _=>?_,hK _ ?_⟩;(first | (with_reducible exact B2.out _ _) | (with_reducible exact B3.out _ _) | (with_reducible exact B4.out _ _));clear hK K))
 refine wpB_nil ?_
 intro At Au Av
 refine ⟨?_,?_,?_,?_⟩
 · refine ⟨_,rfl,rfl,rfl,fun cs b h=>(by cases h),fun w hw=>?_⟩
   replace hw:w.heap[At]? = some (Obj.cells #[Value.int .i64 0,Value.int .i64 0,Value.int .i64 0] 48):=hw
   have z0:w.cell? ⟨At,0,none⟩=some (Value.int .i64 0):=zA hw
   have y0:w.frozen? ⟨At,0,none⟩=false:=zD hw
   have z1:w.cell? ⟨At,1,none⟩=some (Value.int .i64 0):=zA hw
   have y1:w.frozen? ⟨At,1,none⟩=false:=zD hw
   have z2:w.cell? ⟨At,2,none⟩=some (Value.int .i64 0):=zA hw
   have y2:w.frozen? ⟨At,2,none⟩=false:=zD hw
   refine ⟨_,?_,(Wrote.set (i:=2) (Wrote.set (i:=1) (Wrote.set (i:=0) (Wrote.refl hw) (Value.int .i64 X0)) (Value.int .i64 X1)) (Value.int .i64 X2))⟩
   go_simp
 · refine ⟨_,rfl,rfl,rfl,fun cs b h=>(by cases h),fun w hw=>?_⟩
   replace hw:w.heap[Au]? = some (Obj.cells #[Value.int .i64 0,Value.int .i64 0,Value.int .i64 0] 48):=hw
   have z0:w.cell? ⟨Au,0,none⟩=some (Value.int .i64 0):=zA hw
   have y0:w.frozen? ⟨Au,0,none⟩=false:=zD hw
   have z1:w.cell? ⟨Au,1,none⟩=some (Value.int .i64 0):=zA hw
   have y1:w.frozen? ⟨Au,1,none⟩=false:=zD hw
   have z2:w.cell? ⟨Au,2,none⟩=some (Value.int .i64 0):=zA hw
   have y2:w.frozen? ⟨Au,2,none⟩=false:=zD hw
   refine ⟨_,?_,(Wrote.set (i:=2) (Wrote.set (i:=1) (Wrote.set (i:=0) (Wrote.refl hw) (Value.int .i64 Y0)) (Value.int .i64 Y1)) (Value.int .i64 Y2))⟩
   go_simp
 · refine ⟨_,rfl,rfl,rfl,fun cs b h=>(by cases h),fun w hw=>?_⟩
   replace hw:w.heap[Av]? = some (Obj.cells #[Value.int .i64 0,Value.int .i64 0,Value.int .i64 0] 48):=hw
   have z0:w.cell? ⟨Av,0,none⟩=some (Value.int .i64 0):=zA hw
   have y0:w.frozen? ⟨Av,0,none⟩=false:=zD hw
   have z1:w.cell? ⟨Av,1,none⟩=some (Value.int .i64 0):=zA hw
   have y1:w.frozen? ⟨Av,1,none⟩=false:=zD hw
   have z2:w.cell? ⟨Av,2,none⟩=some (Value.int .i64 0):=zA hw
   have y2:w.frozen? ⟨Av,2,none⟩=false:=zD hw
   refine ⟨_,?_,(Wrote.set (i:=2) (Wrote.set (i:=1) (Wrote.set (i:=0) (Wrote.refl hw) (Value.int .i64 P0)) (Value.int .i64 P1)) (Value.int .i64 P2))⟩
   go_simp
 intro w1 hk m0 m1 m2 Ab Ad Aa _ _ _
 clear Al Am An Ao A3 A4 A5 A6 Ap Aq Ar As
 replace a0:=zB hk a0
 replace a1:=zB hk a1
 replace a2:=zB hk a2
 obtain ⟨Al,Am,An,Ao⟩:=ce4 a0
 obtain ⟨A3,A4,A5,A6⟩:=ce4 a1
 obtain ⟨Ap,Aq,Ar,As⟩:=ce4 a2
 replace hb:=hb.trans (hk.mono hb.size)
 clear hk
 replace Ab:w1.heap[At]? = some (Obj.cells #[Value.int .i64 X0,Value.int .i64 X1,Value.int .i64 X2] 48):=Ab
 have Ai:w1.cell? ⟨At,0,none⟩=some (Value.int .i64 X0):=zA Ab
 have Aj:w1.cell? ⟨At,1,none⟩=some (Value.int .i64 X1):=zA Ab
 have Ak:w1.cell? ⟨At,2,none⟩=some (Value.int .i64 X2):=zA Ab
 replace Ad:w1.heap[Au]? = some (Obj.cells #[Value.int .i64 Y0,Value.int .i64 Y1,Value.int .i64 Y2] 48):=Ad
 have A7:w1.cell? ⟨Au,0,none⟩=some (Value.int .i64 Y0):=zA Ad
 have A8:w1.cell? ⟨Au,1,none⟩=some (Value.int .i64 Y1):=zA Ad
 have A9:w1.cell? ⟨Au,2,none⟩=some (Value.int .i64 Y2):=zA Ad
 replace Aa:w1.heap[Av]? = some (Obj.cells #[Value.int .i64 P0,Value.int .i64 P1,Value.int .i64 P2] 48):=Aa
 have Ae:w1.cell? ⟨Av,0,none⟩=some (Value.int .i64 P0):=zA Aa
 have Af:w1.cell? ⟨Av,1,none⟩=some (Value.int .i64 P1):=zA Aa
 have Ag:w1.cell? ⟨Av,2,none⟩=some (Value.int .i64 P2):=zA Aa
 clear B2 B3 B4 Cp Cq Cr Bd Be Bf Bg Bo Bp Bq Br Bh Bi Bj Bk m0 m1 m2
 go_upto_region 4 with fail
 obtain ⟨Bd,Be,Bf,Bg⟩:=cy4 a0
 obtain ⟨Bo,Bp,Bq,Br⟩:=cy4 a1
 obtain ⟨Bh,Bi,Bj,Bk⟩:=cy4 a2
 obtain ⟨Bl,Bm,Bn⟩:=cy3 Ab
 obtain ⟨Bs,Bt,Bu⟩:=cy3 Ad
 obtain ⟨Ba,Bb,Bc⟩:=cy3 Aa
 have B5:=rrV C11 R hb
 have B6:=rrV C12 R hb
 have B7:=rrV C13 R hb
 refine wp_region_quiet_below (by first | assumption | kernel_rfl) (by kernel_rfl) ?_
 repeat (quiet_step (first | (with_reducible exact B5.out _ _) | (with_reducible exact B6.out _ _) | (with_reducible exact B7.out _ _)))
 refine wpQuiet_nil ?_
 intro w1 hw'
 obtain ⟨hk,hb⟩:=zQ hb hw'
 clear Al Am An Ao A3 A4 A5 A6 Ap Aq Ar As Ai Aj Ak A7 A8 A9 Ae Af Ag
 replace a0:=zB hk a0
 replace a1:=zB hk a1
 replace a2:=zB hk a2
 replace Ab:=zB hk Ab
 replace Ad:=zB hk Ad
 replace Aa:=zB hk Aa
 obtain ⟨Al,Am,An,Ao⟩:=ce4 a0
 obtain ⟨A3,A4,A5,A6⟩:=ce4 a1
 obtain ⟨Ap,Aq,Ar,As⟩:=ce4 a2
 obtain ⟨Ai,Aj,Ak⟩:=ce3 Ab
 obtain ⟨A7,A8,A9⟩:=ce3 Ad
 obtain ⟨Ae,Af,Ag⟩:=ce3 Aa
 clear B5 B6 B7 Bd Be Bf Bg Bo Bp Bq Br Bh Bi Bj Bk Bl Bm Bn Bs Bt Bu Ba Bb Bc
 clear hk hw'
 go_upto_region 5 with fail
 obtain ⟨Bd,Be,Bf,Bg⟩:=cy4 a0
 obtain ⟨Bo,Bp,Bq,Br⟩:=cy4 a1
 obtain ⟨Bh,Bi,Bj,Bk⟩:=cy4 a2
 obtain ⟨Bl,Bm,Bn⟩:=cy3 Ab
 obtain ⟨Bs,Bt,Bu⟩:=cy3 Ad
 obtain ⟨Ba,Bb,Bc⟩:=cy3 Aa
 have Cs:=rrV C11 R hb
 have Ct:=rrV C15 R hb
 have Cu:=rrV C16 R hb
 have B8:=qqV C11 R hb
 have B9:=qqV C15 R hb
 have Ca:=qqV C16 R hb
 refine wp_free1 8 1 (fun i=>if i=8 then Obj.cells #[Value.string ⟨#[]⟩,Value.string ⟨#[]⟩,Value.string ⟨#[]⟩] 24 else Obj.cells #[] 0) (fun i=>if i=8 then Obj.cells #[Value.string v0,Value.string v1,Value.string v2] 24 else Obj.cells #[] 0) (some 12) (by first | assumption | kernel_rfl) (by kernel_rfl) ?lay rfl ?_
 case lay =>
   intro i h1 h2
   obtain rfl:i=8:=by omega
   all_goals exact ⟨_,rfl,rfl,fun a w=>(by first | (go_simp;done) | (go_simp;rfl))⟩
 simp only [List.take_succ_cons,List.take_zero]
 repeat (refine wpB_step (fun K hK=>?_);go_simp;first | (refine hK _ ?_;clear hK K) | (apply Exists.intro;refine ⟨fun _=>?_,hK _ ?_⟩;(first | (with_reducible exact B8.out _ _) | (with_reducible exact B9.out _ _) | (with_reducible exact Ca.out _ _));clear hK K))
 refine wpB_nil ?_
 intro Aw
 refine ⟨?_,?_⟩
 · refine ⟨_,rfl,rfl,rfl,fun cs b h=>(by cases h),fun w hw=>?_⟩
   replace hw:w.heap[Aw]? = some (Obj.cells #[Value.string ⟨#[]⟩,Value.string ⟨#[]⟩,Value.string ⟨#[]⟩] 24):=hw
   have z0:w.cell? ⟨Aw,0,none⟩=some (Value.string ⟨#[]⟩):=zA hw
   have y0:w.frozen? ⟨Aw,0,none⟩=false:=zD hw
   have z1:w.cell? ⟨Aw,1,none⟩=some (Value.string ⟨#[]⟩):=zA hw
   have y1:w.frozen? ⟨Aw,1,none⟩=false:=zD hw
   have z2:w.cell? ⟨Aw,2,none⟩=some (Value.string ⟨#[]⟩):=zA hw
   have y2:w.frozen? ⟨Aw,2,none⟩=false:=zD hw
   refine ⟨_,?_,(Wrote.set (i:=2) (Wrote.set (i:=1) (Wrote.set (i:=0) (Wrote.refl hw) (Value.string v0)) (Value.string v1)) (Value.string v2))⟩
   go_simp
 refine ⟨_,(Value.int .i64 0),rfl,Or.inl ⟨rfl,fun p=>?_⟩,?_⟩
 · go_simp
   try exact ⟨rfl,rfl⟩
 intro w1 hk m0 Ac
 clear Al Am An Ao A3 A4 A5 A6 Ap Aq Ar As Ai Aj Ak A7 A8 A9 Ae Af Ag
 replace a0:=zB hk a0
 replace a1:=zB hk a1
 replace a2:=zB hk a2
 replace Ab:=zB hk Ab
 replace Ad:=zB hk Ad
 replace Aa:=zB hk Aa
 obtain ⟨Al,Am,An,Ao⟩:=ce4 a0
 obtain ⟨A3,A4,A5,A6⟩:=ce4 a1
 obtain ⟨Ap,Aq,Ar,As⟩:=ce4 a2
 obtain ⟨Ai,Aj,Ak⟩:=ce3 Ab
 obtain ⟨A7,A8,A9⟩:=ce3 Ad
 obtain ⟨Ae,Af,Ag⟩:=ce3 Aa
 replace hb:=hb.trans (hk.mono hb.size)
 clear hk
 replace Ac:w1.heap[Aw]? = some (Obj.cells #[Value.string v0,Value.string v1,Value.string v2] 24):=Ac
 have Ax:w1.cell? ⟨Aw,0,none⟩=some (Value.string v0):=zA Ac
 have Ay:w1.cell? ⟨Aw,1,none⟩=some (Value.string v1):=zA Ac
 have Az:w1.cell? ⟨Aw,2,none⟩=some (Value.string v2):=zA Ac
 clear B8 B9 Ca Cs Ct Cu Bd Be Bf Bg Bo Bp Bq Br Bh Bi Bj Bk Bl Bm Bn Bs Bt Bu Ba Bb Bc m0
 go_upto_region 6 with fail
 clear A3 A4 A5 A6 a1
 obtain ⟨Bd,Be,Bf,Bg⟩:=cy4 a0
 obtain ⟨Bh,Bi,Bj,Bk⟩:=cy4 a2
 obtain ⟨Bl,Bm,Bn⟩:=cy3 Ab
 obtain ⟨Bs,Bt,Bu⟩:=cy3 Ad
 obtain ⟨Ba,Bb,Bc⟩:=cy3 Aa
 obtain ⟨Bw,Bx,By⟩:=cy3 Ac
 have Cb:=rrV C11 R hb
 have Cc:=rrV C12 R hb
 have Cd:=rrV C19 R hb
 refine wp_region_quiet_below (by first | assumption | kernel_rfl) (by kernel_rfl) ?_
 repeat (quiet_step (first | (with_reducible exact Cb.out _ _) | (with_reducible exact Cc.out _ _) | (with_reducible exact Cd.out _ _)))
 refine wpQuiet_nil ?_
 intro w1 hw'
 obtain ⟨hk,hb⟩:=zQ hb hw'
 clear Al Am An Ao Ap Aq Ar As Ai Aj Ak A7 A8 A9 Ae Af Ag Ax Ay Az
 replace a0:=zB hk a0
 replace a2:=zB hk a2
 replace Ab:=zB hk Ab
 replace Ad:=zB hk Ad
 replace Aa:=zB hk Aa
 replace Ac:=zB hk Ac
 obtain ⟨Al,Am,An,Ao⟩:=ce4 a0
 obtain ⟨Ap,Aq,Ar,As⟩:=ce4 a2
 obtain ⟨Ai,Aj,Ak⟩:=ce3 Ab
 obtain ⟨A7,A8,A9⟩:=ce3 Ad
 obtain ⟨Ae,Af,Ag⟩:=ce3 Aa
 obtain ⟨Ax,Ay,Az⟩:=ce3 Ac
 clear Cb Cc Cd Bd Be Bf Bg Bh Bi Bj Bk Bl Bm Bn Bs Bt Bu Ba Bb Bc Bw Bx By
 clear hk hw'
 go_upto_region 10 with ((first | (go_at_call 35;with_reducible refine (chVB hb R C20).mono ?_) | (go_at_call 37;with_reducible refine (chVB hb R C21).mono ?_));clear hb;rintro e w1 ⟨rfl,hk,hb⟩;clear Ai Aj Ak A7 A8 A9 Ae Af Ag Ax Ay Az;replace Ab:=zB hk Ab;replace Ad:=zB hk Ad;replace Aa:=zB hk Aa;replace Ac:=zB hk Ac;obtain ⟨Ai,Aj,Ak⟩:=ce3 Ab;obtain ⟨A7,A8,A9⟩:=ce3 Ad;obtain ⟨Ae,Af,Ag⟩:=ce3 Aa;obtain ⟨Ax,Ay,Az⟩:=ce3 Ac;clear hk)
 clear Al Am An Ao a0 Ap Aq Ar As a2 A7 A8 A9 Ad
 refine wp_alloc1 (fun w1 Ah hk=>?_)
 clear Ai Aj Ak Ae Af Ag Ax Ay Az
 replace Ab:=zB hk Ab
 replace Aa:=zB hk Aa
 replace Ac:=zB hk Ac
 obtain ⟨Ai,Aj,Ak⟩:=ce3 Ab
 obtain ⟨Ae,Af,Ag⟩:=ce3 Aa
 obtain ⟨Ax,Ay,Az⟩:=ce3 Ac
 replace hb:=hb.trans (hk.mono hb.size)
 clear hk
 obtain ⟨A0,A1,A2⟩:=ce3 Ah
 go_upto_region 13 with (go_at_call 28;with_reducible refine (chVB hb R C22).mono ?_;clear hb;rintro e w1 ⟨rfl,hk,hb⟩;clear A0 A1 A2 Ai Aj Ak Ae Af Ag Ax Ay Az;replace Ah:=zB hk Ah;replace Ab:=zB hk Ab;replace Aa:=zB hk Aa;replace Ac:=zB hk Ac;obtain ⟨A0,A1,A2⟩:=ce3 Ah;obtain ⟨Ai,Aj,Ak⟩:=ce3 Ab;obtain ⟨Ae,Af,Ag⟩:=ce3 Aa;obtain ⟨Ax,Ay,Az⟩:=ce3 Ac;clear hk)
 obtain ⟨Bz,B0,B1⟩:=cy3 Ah
 obtain ⟨Bl,Bm,Bn⟩:=cy3 Ab
 obtain ⟨Ba,Bb,Bc⟩:=cy3 Aa
 obtain ⟨Bw,Bx,By⟩:=cy3 Ac
 have Ce:=rrV C23 R hb
 have Cf:=rrV C24 R hb
 refine wp_region_quiet_below (by first | assumption | kernel_rfl) (by kernel_rfl) ?_
 repeat (quiet_step (first | (with_reducible exact Ce.out _ _) | (with_reducible exact Cf.out _ _)))
 refine wpQuiet_nil ?_
 intro w1 hw'
 obtain ⟨hk,hb⟩:=zQ hb hw'
 clear A0 A1 A2 Ai Aj Ak Ae Af Ag Ax Ay Az
 replace Ah:=zB hk Ah
 replace Ab:=zB hk Ab
 replace Aa:=zB hk Aa
 replace Ac:=zB hk Ac
 obtain ⟨A0,A1,A2⟩:=ce3 Ah
 obtain ⟨Ai,Aj,Ak⟩:=ce3 Ab
 obtain ⟨Ae,Af,Ag⟩:=ce3 Aa
 obtain ⟨Ax,Ay,Az⟩:=ce3 Ac
 clear Ce Cf Bz B0 B1 Bl Bm Bn Ba Bb Bc Bw Bx By
 clear hk hw'
 go_upto_region 20 with (go_at_call 35;with_reducible refine (chVB hb R C20).mono ?_;clear hb;rintro e w1 ⟨rfl,hk,hb⟩;clear A0 A1 A2 Ai Aj Ak Ae Af Ag;replace Ah:=zB hk Ah;replace Ab:=zB hk Ab;replace Aa:=zB hk Aa;obtain ⟨A0,A1,A2⟩:=ce3 Ah;obtain ⟨Ai,Aj,Ak⟩:=ce3 Ab;obtain ⟨Ae,Af,Ag⟩:=ce3 Aa;clear hk)
 clear Ai Aj Ak Ab Ax Ay Az Ac
 refine wp_alloc1 (fun w1 Bv hk=>?_)
 clear A0 A1 A2 Ae Af Ag
 replace Ah:=zB hk Ah
 replace Aa:=zB hk Aa
 obtain ⟨A0,A1,A2⟩:=ce3 Ah
 obtain ⟨Ae,Af,Ag⟩:=ce3 Aa
 replace hb:=hb.trans (hk.mono hb.size)
 clear hk
 obtain ⟨Cg,Ch,Ci⟩:=ce3 Bv
 obtain ⟨Bz,B0,B1⟩:=cy3 Ah
 obtain ⟨Cv,Cw,Cx⟩:=cy3 Bv
 obtain ⟨Ba,Bb,Bc⟩:=cy3 Aa
 have Cj:=rrV C26 R hb
 have Ck:=rrV C26 R hb
 have Cm:=rrV C28 R hb
 have Cn:=rrV C29 R hb
 have Co:=rrV C30 R hb
 refine wp_region_quiet_below (by first | assumption | kernel_rfl) (by kernel_rfl) ?_
 repeat (quiet_step (first | (with_reducible exact Cj.out _ _) | (with_reducible exact Ck.out _ _) | (with_reducible exact Cm.out _ _) | (with_reducible exact Cn.out _ _) | (with_reducible exact Co.out _ _)))
 refine wpQuiet_nil ?_
 intro w1 hw'
 obtain ⟨hk,hb⟩:=zQ hb hw'
 clear A0 A1 A2 Cg Ch Ci Ae Af Ag
 replace Ah:=zB hk Ah
 replace Bv:=zB hk Bv
 replace Aa:=zB hk Aa
 obtain ⟨A0,A1,A2⟩:=ce3 Ah
 obtain ⟨Cg,Ch,Ci⟩:=ce3 Bv
 obtain ⟨Ae,Af,Ag⟩:=ce3 Aa
 clear Cj Ck Cm Cn Co Bz B0 B1 Cv Cw Cx Ba Bb Bc
 clear hk hw'
 go_wp2
 first | go_ret | go_ret2 | go_ret3
 exact ⟨rfl,hb⟩
theorem lplanes_dm2  (i0 i1 i2 j0 j1 j2 k0 k1 k2 X0 X1 X2 Y0 Y1 Y2 P0 P1 P2 K0 K1 K2 W0 W1 W2:Int) (d e f D:Int) (s0 s1 s2 t0 t1 t2 u0 u1 u2 v0 v1 v2:ByteArray) (ck:CV 12 #[] (.bool true)) (cX:CV 29 #[.agg #[.int .i8 i0,.int .i8 i1,.int .i8 i2,.int .u8 d]] (.agg #[.int .i64 X0,.int .i64 X1,.int .i64 X2])) (zX:CV 28 #[.agg #[.int .i64 X0,.int .i64 X1,.int .i64 X2]] (.bool false)) (cY:CV 29 #[.agg #[.int .i8 j0,.int .i8 j1,.int .i8 j2,.int .u8 e]] (.agg #[.int .i64 Y0,.int .i64 Y1,.int .i64 Y2])) (zY:CV 28 #[.agg #[.int .i64 Y0,.int .i64 Y1,.int .i64 Y2]] (.bool false)) (cP:CV 29 #[.agg #[.int .i8 k0,.int .i8 k1,.int .i8 k2,.int .u8 f]] (.agg #[.int .i64 P0,.int .i64 P1,.int .i64 P2])) (zP:CV 28 #[.agg #[.int .i64 P0,.int .i64 P1,.int .i64 P2]] (.bool false)) (ma:CV 30 #[.agg #[.int .i8 i0,.int .i8 i1,.int .i8 i2,.int .u8 d]] (.agg #[.string s0,.string s1,.string s2])) (mb:CV 30 #[.agg #[.int .i8 j0,.int .i8 j1,.int .i8 j2,.int .u8 e]] (.agg #[.string t0,.string t1,.string t2])) (ml:CV 30 #[.agg #[.int .i8 k0,.int .i8 k1,.int .i8 k2,.int .u8 f]] (.agg #[.string u0,.string u1,.string u2])) (hli:CV 21 #[.agg #[.string s0,.string s1,.string s2],.agg #[.string u0,.string u1,.string u2]] (.tuple #[.bool true,.int .i64 0])) (hin:CV 22 #[.agg #[.string s0,.string s1,.string s2],.agg #[.string t0,.string t1,.string t2]] (.tuple #[.agg #[.string v0,.string v1,.string v2],.int .i64 0])) (hpi:CV 23 #[.agg #[.string s0,.string s1,.string s2],.agg #[.string u0,.string u1,.string u2]] (.tuple #[.string ⟨#[]⟩,.int .i64 19])) (hdo:CV 35 #[.agg #[.int .i64 X0,.int .i64 X1,.int .i64 X2],.agg #[.int .i64 P0,.int .i64 P1,.int .i64 P2]] (.int .i64 D)) (hcr:CV 37 #[.agg #[.int .i64 X0,.int .i64 X1,.int .i64 X2],.agg #[.int .i64 Y0,.int .i64 Y1,.int .i64 Y2]] (.agg #[.int .i64 K0,.int .i64 K1,.int .i64 K2])) (hz:CV 28 #[.agg #[.int .i64 K0,.int .i64 K1,.int .i64 K2]] (.bool false)) (hdn:CV 32 #[.agg #[.int .i64 K0,.int .i64 K1,.int .i64 K2]] (.agg #[.int .i64 W0,.int .i64 W1,.int .i64 W2])) (hof:CV 31 #[.agg #[.int .i64 W0,.int .i64 W1,.int .i64 W2]] (.agg #[.string v0,.string v1,.string v2])) (WC0:(D == 0)=true) (WC1:(X0 == 0)=true) (WC2:(X1 == 0)=true) (w:World) (R:EnvV w) :
   Calls Tryz.prog 8 #[.agg #[.int .i8 i0,.int .i8 i1,.int .i8 i2,.int .u8 d],.agg #[.int .i8 j0,.int .i8 j1,.int .i8 j2,.int .u8 e],.agg #[.int .i8 k0,.int .i8 k1,.int .i8 k2,.int .u8 f]] w (Ret w (.bool true)):=by
 have c1:=ck
 have c2:=cX
 have c3:=zX
 have c4:=cY
 have c5:=zY
 have c6:=cP
 have c7:=zP
 have c11:=ma
 have c12:=ml
 have c13:=hli
 have c15:=mb
 have c16:=hin
 have c19:=hpi
 have c20:=hdo
 have c21:=hcr
 have c22:=hz
 have c23:=hdn
 have c24:=hof
 have gc0:(D == 0)=true:=WC0
 have gc1:(X0 == 0)=true:=WC1
 have gc2:(X1 == 0)=true:=WC2
 have C1:=Lib.hid c1
 have C2:=Lib.hid c2
 have C3:=Lib.hid c3
 have C4:=Lib.hid c4
 have C5:=Lib.hid c5
 have C6:=Lib.hid c6
 have C7:=Lib.hid c7
 have C11:=Lib.hid c11
 have C12:=Lib.hid c12
 have C13:=Lib.hid c13
 have C15:=Lib.hid c15
 have C16:=Lib.hid c16
 have C19:=Lib.hid c19
 have C20:=Lib.hid c20
 have C21:=Lib.hid c21
 have C22:=Lib.hid c22
 have C23:=Lib.hid c23
 have C24:=Lib.hid c24
 clear c1 c2 c3 c4 c5 c6 c7 c11 c12 c13 c15 c16 c19 c20 c21 c22 c23 c24 ck cX zX cY zY cP zP ma mb ml hli hin hpi hdo hcr hz hdn hof WC0 WC1 WC2
 have hb:=Below.refl w.heap.size w
 go_enter Tryz.func8,Tryz.ntmps8
 go_upto_region 1 with fail
 refine wp_alloc3 (fun w1 a0 a1 a2 hk=>?_)
 replace hb:=hb.trans (hk.mono hb.size)
 clear hk
 obtain ⟨Ak,Al,Am,An⟩:=ce4 a0
 obtain ⟨Az,A0,A1,A2⟩:=ce4 a1
 obtain ⟨Ao,Ap,Aq,Ar⟩:=ce4 a2
 go_upto_region 3 with ((first | (go_at_call 12;with_reducible refine (chVB hb R C1).mono ?_) | (go_at_call 29;first | with_reducible refine (chVB hb R C2).mono ?_ | with_reducible refine (chVB hb R C4).mono ?_ | with_reducible refine (chVB hb R C6).mono ?_) | (go_at_call 28;first | with_reducible refine (chVB hb R C3).mono ?_ | with_reducible refine (chVB hb R C5).mono ?_ | with_reducible refine (chVB hb R C7).mono ?_));clear hb;rintro e w1 ⟨rfl,hk,hb⟩;clear Ak Al Am An Az A0 A1 A2 Ao Ap Aq Ar;replace a0:=zB hk a0;replace a1:=zB hk a1;replace a2:=zB hk a2;obtain ⟨Ak,Al,Am,An⟩:=ce4 a0;obtain ⟨Az,A0,A1,A2⟩:=ce4 a1;obtain ⟨Ao,Ap,Aq,Ar⟩:=ce4 a2;clear hk)
 obtain ⟨A7,A8,A9,Ba⟩:=cy4 a0
 obtain ⟨Bl,Bm,Bn,Bo⟩:=cy4 a1
 obtain ⟨Bb,Bc,Bd,Be⟩:=cy4 a2
 have Cc:=rrV C2 R hb
 have Cd:=rrV C4 R hb
 have Ce:=rrV C6 R hb
 have By:=qqV C2 R hb
 have Bz:=qqV C4 R hb
 have B0:=qqV C6 R hb
 refine wp_free3 6 0 (fun i=>if i=6 then Obj.cells #[Value.int .i64 0,Value.int .i64 0,Value.int .i64 0] 48 else if i=7 then Obj.cells #[Value.int .i64 0,Value.int .i64 0,Value.int .i64 0] 48 else if i=8 then Obj.cells #[Value.int .i64 0,Value.int .i64 0,Value.int .i64 0] 48 else Obj.cells #[] 0) (fun i=>if i=6 then Obj.cells #[Value.int .i64 X0,Value.int .i64 X1,Value.int .i64 X2] 48 else if i=7 then Obj.cells #[Value.int .i64 Y0,Value.int .i64 Y1,Value.int .i64 Y2] 48 else if i=8 then Obj.cells #[Value.int .i64 P0,Value.int .i64 P1,Value.int .i64 P2] 48 else Obj.cells #[] 0) (some 7) (some 8) (some 9) (by first | assumption | kernel_rfl) (by kernel_rfl) ?lay rfl rfl rfl ?_
 case lay =>
   intro i h1 h2
   obtain rfl | rfl | rfl:i=6∨i=7∨i=8:=by omega
   all_goals exact ⟨_,rfl,rfl,fun a w=>(by first | (go_simp;done) | (go_simp;rfl))⟩
 simp only [List.take_succ_cons,List.take_zero]
 repeat (refine wpB_step (fun K hK=>?_);go_simp;first | (refine hK _ ?_;clear hK K) | (apply Exists.intro;refine ⟨fun _=>?_,hK _ ?_⟩;(first | (with_reducible exact By.out _ _) | (with_reducible exact Bz.out _ _) | (with_reducible exact B0.out _ _));clear hK K))
 refine wpB_nil ?_
 intro As At Au
 refine ⟨?_,?_,?_,?_⟩
 · refine ⟨_,rfl,rfl,rfl,fun cs b h=>(by cases h),fun w hw=>?_⟩
   replace hw:w.heap[As]? = some (Obj.cells #[Value.int .i64 0,Value.int .i64 0,Value.int .i64 0] 48):=hw
   have z0:w.cell? ⟨As,0,none⟩=some (Value.int .i64 0):=zA hw
   have y0:w.frozen? ⟨As,0,none⟩=false:=zD hw
   have z1:w.cell? ⟨As,1,none⟩=some (Value.int .i64 0):=zA hw
   have y1:w.frozen? ⟨As,1,none⟩=false:=zD hw
   have z2:w.cell? ⟨As,2,none⟩=some (Value.int .i64 0):=zA hw
   have y2:w.frozen? ⟨As,2,none⟩=false:=zD hw
   refine ⟨_,?_,(Wrote.set (i:=2) (Wrote.set (i:=1) (Wrote.set (i:=0) (Wrote.refl hw) (Value.int .i64 X0)) (Value.int .i64 X1)) (Value.int .i64 X2))⟩
   go_simp
 · refine ⟨_,rfl,rfl,rfl,fun cs b h=>(by cases h),fun w hw=>?_⟩
   replace hw:w.heap[At]? = some (Obj.cells #[Value.int .i64 0,Value.int .i64 0,Value.int .i64 0] 48):=hw
   have z0:w.cell? ⟨At,0,none⟩=some (Value.int .i64 0):=zA hw
   have y0:w.frozen? ⟨At,0,none⟩=false:=zD hw
   have z1:w.cell? ⟨At,1,none⟩=some (Value.int .i64 0):=zA hw
   have y1:w.frozen? ⟨At,1,none⟩=false:=zD hw
   have z2:w.cell? ⟨At,2,none⟩=some (Value.int .i64 0):=zA hw
   have y2:w.frozen? ⟨At,2,none⟩=false:=zD hw
   refine ⟨_,?_,(Wrote.set (i:=2) (Wrote.set (i:=1) (Wrote.set (i:=0) (Wrote.refl hw) (Value.int .i64 Y0)) (Value.int .i64 Y1)) (Value.int .i64 Y2))⟩
   go_simp
 · refine ⟨_,rfl,rfl,rfl,fun cs b h=>(by cases h),fun w hw=>?_⟩
   replace hw:w.heap[Au]? = some (Obj.cells #[Value.int .i64 0,Value.int .i64 0,Value.int .i64 0] 48):=hw
   have z0:w.cell? ⟨Au,0,none⟩=some (Value.int .i64 0):=zA hw
   have y0:w.frozen? ⟨Au,0,none⟩=false:=zD hw
   have z1:w.cell? ⟨Au,1,none⟩=some (Value.int .i64 0):=zA hw
   have y1:w.frozen? ⟨Au,1,none⟩=false:=zD hw
   have z2:w.cell? ⟨Au,2,none⟩=some (Value.int .i64 0):=zA hw
   have y2:w.frozen? ⟨Au,2,none⟩=false:=zD hw
   refine ⟨_,?_,(Wrote.set (i:=2) (Wrote.set (i:=1) (Wrote.set (i:=0) (Wrote.refl hw) (Value.int .i64 P0)) (Value.int .i64 P1)) (Value.int .i64 P2))⟩
   go_simp
 intro w1 hk m0 m1 m2 Aa Ad Ab _ _ _
 clear Ak Al Am An Az A0 A1 A2 Ao Ap Aq Ar
 replace a0:=zB hk a0
 replace a1:=zB hk a1
 replace a2:=zB hk a2
 obtain ⟨Ak,Al,Am,An⟩:=ce4 a0
 obtain ⟨Az,A0,A1,A2⟩:=ce4 a1
 obtain ⟨Ao,Ap,Aq,Ar⟩:=ce4 a2
 replace hb:=hb.trans (hk.mono hb.size)
 clear hk
 replace Aa:w1.heap[As]? = some (Obj.cells #[Value.int .i64 X0,Value.int .i64 X1,Value.int .i64 X2] 48):=Aa
 have Ae:w1.cell? ⟨As,0,none⟩=some (Value.int .i64 X0):=zA Aa
 have Af:w1.cell? ⟨As,1,none⟩=some (Value.int .i64 X1):=zA Aa
 have Ag:w1.cell? ⟨As,2,none⟩=some (Value.int .i64 X2):=zA Aa
 replace Ad:w1.heap[At]? = some (Obj.cells #[Value.int .i64 Y0,Value.int .i64 Y1,Value.int .i64 Y2] 48):=Ad
 have A3:w1.cell? ⟨At,0,none⟩=some (Value.int .i64 Y0):=zA Ad
 have A4:w1.cell? ⟨At,1,none⟩=some (Value.int .i64 Y1):=zA Ad
 have A5:w1.cell? ⟨At,2,none⟩=some (Value.int .i64 Y2):=zA Ad
 replace Ab:w1.heap[Au]? = some (Obj.cells #[Value.int .i64 P0,Value.int .i64 P1,Value.int .i64 P2] 48):=Ab
 have Ah:w1.cell? ⟨Au,0,none⟩=some (Value.int .i64 P0):=zA Ab
 have Ai:w1.cell? ⟨Au,1,none⟩=some (Value.int .i64 P1):=zA Ab
 have Aj:w1.cell? ⟨Au,2,none⟩=some (Value.int .i64 P2):=zA Ab
 clear By Bz B0 Cc Cd Ce A7 A8 A9 Ba Bl Bm Bn Bo Bb Bc Bd Be m0 m1 m2
 go_upto_region 4 with fail
 obtain ⟨A7,A8,A9,Ba⟩:=cy4 a0
 obtain ⟨Bl,Bm,Bn,Bo⟩:=cy4 a1
 obtain ⟨Bb,Bc,Bd,Be⟩:=cy4 a2
 obtain ⟨Bf,Bg,Bh⟩:=cy3 Aa
 obtain ⟨Bp,Bq,Br⟩:=cy3 Ad
 obtain ⟨Bi,Bj,Bk⟩:=cy3 Ab
 have B1:=rrV C11 R hb
 have B2:=rrV C12 R hb
 have B3:=rrV C13 R hb
 refine wp_region_quiet_below (by first | assumption | kernel_rfl) (by kernel_rfl) ?_
 repeat (quiet_step (first | (with_reducible exact B1.out _ _) | (with_reducible exact B2.out _ _) | (with_reducible exact B3.out _ _)))
 refine wpQuiet_nil ?_
 intro w1 hw'
 obtain ⟨hk,hb⟩:=zQ hb hw'
 clear Ak Al Am An Az A0 A1 A2 Ao Ap Aq Ar Ae Af Ag A3 A4 A5 Ah Ai Aj
 replace a0:=zB hk a0
 replace a1:=zB hk a1
 replace a2:=zB hk a2
 replace Aa:=zB hk Aa
 replace Ad:=zB hk Ad
 replace Ab:=zB hk Ab
 obtain ⟨Ak,Al,Am,An⟩:=ce4 a0
 obtain ⟨Az,A0,A1,A2⟩:=ce4 a1
 obtain ⟨Ao,Ap,Aq,Ar⟩:=ce4 a2
 obtain ⟨Ae,Af,Ag⟩:=ce3 Aa
 obtain ⟨A3,A4,A5⟩:=ce3 Ad
 obtain ⟨Ah,Ai,Aj⟩:=ce3 Ab
 clear B1 B2 B3 A7 A8 A9 Ba Bl Bm Bn Bo Bb Bc Bd Be Bf Bg Bh Bp Bq Br Bi Bj Bk
 clear hk hw'
 go_upto_region 5 with fail
 obtain ⟨A7,A8,A9,Ba⟩:=cy4 a0
 obtain ⟨Bl,Bm,Bn,Bo⟩:=cy4 a1
 obtain ⟨Bb,Bc,Bd,Be⟩:=cy4 a2
 obtain ⟨Bf,Bg,Bh⟩:=cy3 Aa
 obtain ⟨Bp,Bq,Br⟩:=cy3 Ad
 obtain ⟨Bi,Bj,Bk⟩:=cy3 Ab
 have Cf:=rrV C11 R hb
 have Cg:=rrV C15 R hb
 have Ch:=rrV C16 R hb
 have B4:=qqV C11 R hb
 have B5:=qqV C15 R hb
 have B6:=qqV C16 R hb
 refine wp_free1 8 1 (fun i=>if i=8 then Obj.cells #[Value.string ⟨#[]⟩,Value.string ⟨#[]⟩,Value.string ⟨#[]⟩] 24 else Obj.cells #[] 0) (fun i=>if i=8 then Obj.cells #[Value.string v0,Value.string v1,Value.string v2] 24 else Obj.cells #[] 0) (some 12) (by first | assumption | kernel_rfl) (by kernel_rfl) ?lay rfl ?_
 case lay =>
   intro i h1 h2
   obtain rfl:i=8:=by omega
   all_goals exact ⟨_,rfl,rfl,fun a w=>(by first | (go_simp;done) | (go_simp;rfl))⟩
 simp only [List.take_succ_cons,List.take_zero]
 repeat (refine wpB_step (fun K hK=>?_);go_simp;first | (refine hK _ ?_;clear hK K) | (apply Exists.intro;refine ⟨fun _=>?_,hK _ ?_⟩;(first | (with_reducible exact B4.out _ _) | (with_reducible exact B5.out _ _) | (with_reducible exact B6.out _ _));clear hK K))
 refine wpB_nil ?_
 intro Av
 refine ⟨?_,?_⟩
 · refine ⟨_,rfl,rfl,rfl,fun cs b h=>(by cases h),fun w hw=>?_⟩
   replace hw:w.heap[Av]? = some (Obj.cells #[Value.string ⟨#[]⟩,Value.string ⟨#[]⟩,Value.string ⟨#[]⟩] 24):=hw
   have z0:w.cell? ⟨Av,0,none⟩=some (Value.string ⟨#[]⟩):=zA hw
   have y0:w.frozen? ⟨Av,0,none⟩=false:=zD hw
   have z1:w.cell? ⟨Av,1,none⟩=some (Value.string ⟨#[]⟩):=zA hw
   have y1:w.frozen? ⟨Av,1,none⟩=false:=zD hw
   have z2:w.cell? ⟨Av,2,none⟩=some (Value.string ⟨#[]⟩):=zA hw
   have y2:w.frozen? ⟨Av,2,none⟩=false:=zD hw
   refine ⟨_,?_,(Wrote.set (i:=2) (Wrote.set (i:=1) (Wrote.set (i:=0) (Wrote.refl hw) (Value.string v0)) (Value.string v1)) (Value.string v2))⟩
   go_simp
 refine ⟨_,(Value.int .i64 0),rfl,Or.inl ⟨rfl,fun p=>?_⟩,?_⟩
 · go_simp
   try exact ⟨rfl,rfl⟩
 intro w1 hk m0 Ac
 clear Ak Al Am An Az A0 A1 A2 Ao Ap Aq Ar Ae Af Ag A3 A4 A5 Ah Ai Aj
 replace a0:=zB hk a0
 replace a1:=zB hk a1
 replace a2:=zB hk a2
 replace Aa:=zB hk Aa
 replace Ad:=zB hk Ad
 replace Ab:=zB hk Ab
 obtain ⟨Ak,Al,Am,An⟩:=ce4 a0
 obtain ⟨Az,A0,A1,A2⟩:=ce4 a1
 obtain ⟨Ao,Ap,Aq,Ar⟩:=ce4 a2
 obtain ⟨Ae,Af,Ag⟩:=ce3 Aa
 obtain ⟨A3,A4,A5⟩:=ce3 Ad
 obtain ⟨Ah,Ai,Aj⟩:=ce3 Ab
 replace hb:=hb.trans (hk.mono hb.size)
 clear hk
 replace Ac:w1.heap[Av]? = some (Obj.cells #[Value.string v0,Value.string v1,Value.string v2] 24):=Ac
 have Aw:w1.cell? ⟨Av,0,none⟩=some (Value.string v0):=zA Ac
 have Ax:w1.cell? ⟨Av,1,none⟩=some (Value.string v1):=zA Ac
 have Ay:w1.cell? ⟨Av,2,none⟩=some (Value.string v2):=zA Ac
 clear B4 B5 B6 Cf Cg Ch A7 A8 A9 Ba Bl Bm Bn Bo Bb Bc Bd Be Bf Bg Bh Bp Bq Br Bi Bj Bk m0
 go_upto_region 6 with fail
 clear Az A0 A1 A2 a1
 obtain ⟨A7,A8,A9,Ba⟩:=cy4 a0
 obtain ⟨Bb,Bc,Bd,Be⟩:=cy4 a2
 obtain ⟨Bf,Bg,Bh⟩:=cy3 Aa
 obtain ⟨Bp,Bq,Br⟩:=cy3 Ad
 obtain ⟨Bi,Bj,Bk⟩:=cy3 Ab
 obtain ⟨Bv,Bw,Bx⟩:=cy3 Ac
 have B7:=rrV C11 R hb
 have B8:=rrV C12 R hb
 have B9:=rrV C19 R hb
 refine wp_region_quiet_below (by first | assumption | kernel_rfl) (by kernel_rfl) ?_
 repeat (quiet_step (first | (with_reducible exact B7.out _ _) | (with_reducible exact B8.out _ _) | (with_reducible exact B9.out _ _)))
 refine wpQuiet_nil ?_
 intro w1 hw'
 obtain ⟨hk,hb⟩:=zQ hb hw'
 clear Ak Al Am An Ao Ap Aq Ar Ae Af Ag A3 A4 A5 Ah Ai Aj Aw Ax Ay
 replace a0:=zB hk a0
 replace a2:=zB hk a2
 replace Aa:=zB hk Aa
 replace Ad:=zB hk Ad
 replace Ab:=zB hk Ab
 replace Ac:=zB hk Ac
 obtain ⟨Ak,Al,Am,An⟩:=ce4 a0
 obtain ⟨Ao,Ap,Aq,Ar⟩:=ce4 a2
 obtain ⟨Ae,Af,Ag⟩:=ce3 Aa
 obtain ⟨A3,A4,A5⟩:=ce3 Ad
 obtain ⟨Ah,Ai,Aj⟩:=ce3 Ab
 obtain ⟨Aw,Ax,Ay⟩:=ce3 Ac
 clear B7 B8 B9 A7 A8 A9 Ba Bb Bc Bd Be Bf Bg Bh Bp Bq Br Bi Bj Bk Bv Bw Bx
 clear hk hw'
 go_upto_region 10 with ((first | (go_at_call 35;with_reducible refine (chVB hb R C20).mono ?_) | (go_at_call 37;with_reducible refine (chVB hb R C21).mono ?_));clear hb;rintro e w1 ⟨rfl,hk,hb⟩;clear Ae Af Ag A3 A4 A5 Ah Ai Aj Aw Ax Ay;replace Aa:=zB hk Aa;replace Ad:=zB hk Ad;replace Ab:=zB hk Ab;replace Ac:=zB hk Ac;obtain ⟨Ae,Af,Ag⟩:=ce3 Aa;obtain ⟨A3,A4,A5⟩:=ce3 Ad;obtain ⟨Ah,Ai,Aj⟩:=ce3 Ab;obtain ⟨Aw,Ax,Ay⟩:=ce3 Ac;clear hk)
 clear Ak Al Am An a0 Ao Ap Aq Ar a2 A3 A4 A5 Ad
 refine wp_alloc1 (fun w1 A6 hk=>?_)
 clear Ae Af Ag Ah Ai Aj Aw Ax Ay
 replace Aa:=zB hk Aa
 replace Ab:=zB hk Ab
 replace Ac:=zB hk Ac
 obtain ⟨Ae,Af,Ag⟩:=ce3 Aa
 obtain ⟨Ah,Ai,Aj⟩:=ce3 Ab
 obtain ⟨Aw,Ax,Ay⟩:=ce3 Ac
 replace hb:=hb.trans (hk.mono hb.size)
 clear hk
 obtain ⟨Bs,Bt,Bu⟩:=ce3 A6
 go_upto_region 13 with (go_at_call 28;with_reducible refine (chVB hb R C22).mono ?_;clear hb;rintro e w1 ⟨rfl,hk,hb⟩;clear Bs Bt Bu Ae Af Ag Ah Ai Aj Aw Ax Ay;replace A6:=zB hk A6;replace Aa:=zB hk Aa;replace Ab:=zB hk Ab;replace Ac:=zB hk Ac;obtain ⟨Bs,Bt,Bu⟩:=ce3 A6;obtain ⟨Ae,Af,Ag⟩:=ce3 Aa;obtain ⟨Ah,Ai,Aj⟩:=ce3 Ab;obtain ⟨Aw,Ax,Ay⟩:=ce3 Ac;clear hk)
 obtain ⟨Ci,Cj,Ck⟩:=cy3 A6
 obtain ⟨Bf,Bg,Bh⟩:=cy3 Aa
 obtain ⟨Bi,Bj,Bk⟩:=cy3 Ab
 obtain ⟨Bv,Bw,Bx⟩:=cy3 Ac
 have Ca:=rrV C23 R hb
 have Cb:=rrV C24 R hb
 refine wp_region_quiet_below (by first | assumption | kernel_rfl) (by kernel_rfl) ?_
 repeat (quiet_step (first | (with_reducible exact Ca.out _ _) | (with_reducible exact Cb.out _ _)))
 refine wpQuiet_nil ?_
 intro w1 hw'
 obtain ⟨hk,hb⟩:=zQ hb hw'
 clear Bs Bt Bu Ae Af Ag Ah Ai Aj Aw Ax Ay
 replace A6:=zB hk A6
 replace Aa:=zB hk Aa
 replace Ab:=zB hk Ab
 replace Ac:=zB hk Ac
 obtain ⟨Bs,Bt,Bu⟩:=ce3 A6
 obtain ⟨Ae,Af,Ag⟩:=ce3 Aa
 obtain ⟨Ah,Ai,Aj⟩:=ce3 Ab
 obtain ⟨Aw,Ax,Ay⟩:=ce3 Ac
 clear Ca Cb Ci Cj Ck Bf Bg Bh Bi Bj Bk Bv Bw Bx
 clear hk hw'
 go_wp2
 first | go_ret | go_ret2 | go_ret3
 exact ⟨rfl,hb⟩
theorem lplanes_nk0  (i0 i1 i2 j0 j1 j2 k0 k1 k2 X0 X1 X2 Y0 Y1 Y2 P0 P1 P2 K0 K1 K2:Int) (d e f D:Int) (s0 s1 s2 t0 t1 t2 u0 u1 u2:ByteArray) (ck:CV 12 #[] (.bool true)) (cX:CV 29 #[.agg #[.int .i8 i0,.int .i8 i1,.int .i8 i2,.int .u8 d]] (.agg #[.int .i64 X0,.int .i64 X1,.int .i64 X2])) (zX:CV 28 #[.agg #[.int .i64 X0,.int .i64 X1,.int .i64 X2]] (.bool false)) (cY:CV 29 #[.agg #[.int .i8 j0,.int .i8 j1,.int .i8 j2,.int .u8 e]] (.agg #[.int .i64 Y0,.int .i64 Y1,.int .i64 Y2])) (zY:CV 28 #[.agg #[.int .i64 Y0,.int .i64 Y1,.int .i64 Y2]] (.bool false)) (cP:CV 29 #[.agg #[.int .i8 k0,.int .i8 k1,.int .i8 k2,.int .u8 f]] (.agg #[.int .i64 P0,.int .i64 P1,.int .i64 P2])) (zP:CV 28 #[.agg #[.int .i64 P0,.int .i64 P1,.int .i64 P2]] (.bool false)) (ma:CV 30 #[.agg #[.int .i8 i0,.int .i8 i1,.int .i8 i2,.int .u8 d]] (.agg #[.string s0,.string s1,.string s2])) (mb:CV 30 #[.agg #[.int .i8 j0,.int .i8 j1,.int .i8 j2,.int .u8 e]] (.agg #[.string t0,.string t1,.string t2])) (ml:CV 30 #[.agg #[.int .i8 k0,.int .i8 k1,.int .i8 k2,.int .u8 f]] (.agg #[.string u0,.string u1,.string u2])) (hli:CV 21 #[.agg #[.string s0,.string s1,.string s2],.agg #[.string u0,.string u1,.string u2]] (.tuple #[.bool false,.int .i64 0])) (hin:CV 22 #[.agg #[.string s0,.string s1,.string s2],.agg #[.string t0,.string t1,.string t2]] (.tuple #[.agg #[.string ⟨#[]⟩,.string ⟨#[]⟩,.string ⟨#[]⟩],.int .i64 18])) (hpi:CV 23 #[.agg #[.string s0,.string s1,.string s2],.agg #[.string u0,.string u1,.string u2]] (.tuple #[.string ⟨#[]⟩,.int .i64 7])) (hdo:CV 35 #[.agg #[.int .i64 X0,.int .i64 X1,.int .i64 X2],.agg #[.int .i64 P0,.int .i64 P1,.int .i64 P2]] (.int .i64 D)) (hcr:CV 37 #[.agg #[.int .i64 X0,.int .i64 X1,.int .i64 X2],.agg #[.int .i64 Y0,.int .i64 Y1,.int .i64 Y2]] (.agg #[.int .i64 K0,.int .i64 K1,.int .i64 K2])) (hz:CV 28 #[.agg #[.int .i64 K0,.int .i64 K1,.int .i64 K2]] (.bool true)) (WC0:(D == 0)=false) (WC1:(X0 == 0)=false) (w:World) (R:EnvV w) :
   Calls Tryz.prog 8 #[.agg #[.int .i8 i0,.int .i8 i1,.int .i8 i2,.int .u8 d],.agg #[.int .i8 j0,.int .i8 j1,.int .i8 j2,.int .u8 e],.agg #[.int .i8 k0,.int .i8 k1,.int .i8 k2,.int .u8 f]] w (Ret w (.bool true)):=by
 have c1:=ck
 have c2:=cX
 have c3:=zX
 have c4:=cY
 have c5:=zY
 have c6:=cP
 have c7:=zP
 have c11:=ma
 have c12:=ml
 have c13:=hli
 have c15:=mb
 have c16:=hin
 have c19:=hpi
 have c20:=hdo
 have c21:=hcr
 have c22:=hz
 have gc0:(D == 0)=false:=WC0
 have gc1:(X0 == 0)=false:=WC1
 have C1:=Lib.hid c1
 have C2:=Lib.hid c2
 have C3:=Lib.hid c3
 have C4:=Lib.hid c4
 have C5:=Lib.hid c5
 have C6:=Lib.hid c6
 have C7:=Lib.hid c7
 have C11:=Lib.hid c11
 have C12:=Lib.hid c12
 have C13:=Lib.hid c13
 have C15:=Lib.hid c15
 have C16:=Lib.hid c16
 have C19:=Lib.hid c19
 have C20:=Lib.hid c20
 have C21:=Lib.hid c21
 have C22:=Lib.hid c22
 clear c1 c2 c3 c4 c5 c6 c7 c11 c12 c13 c15 c16 c19 c20 c21 c22 ck cX zX cY zY cP zP ma mb ml hli hin hpi hdo hcr hz WC0 WC1
 have hb:=Below.refl w.heap.size w
 go_enter Tryz.func8,Tryz.ntmps8
 go_upto_region 1 with fail
 refine wp_alloc3 (fun w1 a0 a1 a2 hk=>?_)
 replace hb:=hb.trans (hk.mono hb.size)
 clear hk
 obtain ⟨Ak,Al,Am,An⟩:=ce4 a0
 obtain ⟨Aw,Ax,Ay,Az⟩:=ce4 a1
 obtain ⟨Ao,Ap,Aq,Ar⟩:=ce4 a2
 go_upto_region 3 with ((first | (go_at_call 12;with_reducible refine (chVB hb R C1).mono ?_) | (go_at_call 29;first | with_reducible refine (chVB hb R C2).mono ?_ | with_reducible refine (chVB hb R C4).mono ?_ | with_reducible refine (chVB hb R C6).mono ?_) | (go_at_call 28;first | with_reducible refine (chVB hb R C3).mono ?_ | with_reducible refine (chVB hb R C5).mono ?_ | with_reducible refine (chVB hb R C7).mono ?_));clear hb;rintro e w1 ⟨rfl,hk,hb⟩;clear Ak Al Am An Aw Ax Ay Az Ao Ap Aq Ar;replace a0:=zB hk a0;replace a1:=zB hk a1;replace a2:=zB hk a2;obtain ⟨Ak,Al,Am,An⟩:=ce4 a0;obtain ⟨Aw,Ax,Ay,Az⟩:=ce4 a1;obtain ⟨Ao,Ap,Aq,Ar⟩:=ce4 a2;clear hk)
 obtain ⟨A6,A7,A8,A9⟩:=cy4 a0
 obtain ⟨Bf,Bg,Bh,Bi⟩:=cy4 a1
 obtain ⟨Ba,Bb,Bc,Bd⟩:=cy4 a2
 have B7:=rrV C2 R hb
 have B8:=rrV C4 R hb
 have B9:=rrV C6 R hb
 have Bv:=qqV C2 R hb
 have Bw:=qqV C4 R hb
 have Bx:=qqV C6 R hb
 refine wp_free3 6 0 (fun i=>if i=6 then Obj.cells #[Value.int .i64 0,Value.int .i64 0,Value.int .i64 0] 48 else if i=7 then Obj.cells #[Value.int .i64 0,Value.int .i64 0,Value.int .i64 0] 48 else if i=8 then Obj.cells #[Value.int .i64 0,Value.int .i64 0,Value.int .i64 0] 48 else Obj.cells #[] 0) (fun i=>if i=6 then Obj.cells #[Value.int .i64 X0,Value.int .i64 X1,Value.int .i64 X2] 48 else if i=7 then Obj.cells #[Value.int .i64 Y0,Value.int .i64 Y1,Value.int .i64 Y2] 48 else if i=8 then Obj.cells #[Value.int .i64 P0,Value.int .i64 P1,Value.int .i64 P2] 48 else Obj.cells #[] 0) (some 7) (some 8) (some 9) (by first | assumption | kernel_rfl) (by kernel_rfl) ?lay rfl rfl rfl ?_
 case lay =>
   intro i h1 h2
   obtain rfl | rfl | rfl:i=6∨i=7∨i=8:=by omega
   all_goals exact ⟨_,rfl,rfl,fun a w=>(by first | (go_simp;done) | (go_simp;rfl))⟩
 simp only [List.take_succ_cons,List.take_zero]
 repeat (refine wpB_step (fun K hK=>?_);go_simp;first | (refine hK _ ?_;clear hK K) | (apply Exists.intro;refine ⟨fun _=>?_,hK _ ?_⟩;(first | (with_reducible exact Bv.out _ _) | (with_reducible exact Bw.out _ _) | (with_reducible exact Bx.out _ _));clear hK K))
 refine wpB_nil ?_
 intro As At Au
 refine ⟨?_,?_,?_,?_⟩
 · refine ⟨_,rfl,rfl,rfl,fun cs b h=>(by cases h),fun w hw=>?_⟩
   replace hw:w.heap[As]? = some (Obj.cells #[Value.int .i64 0,Value.int .i64 0,Value.int .i64 0] 48):=hw
   have z0:w.cell? ⟨As,0,none⟩=some (Value.int .i64 0):=zA hw
   have y0:w.frozen? ⟨As,0,none⟩=false:=zD hw
   have z1:w.cell? ⟨As,1,none⟩=some (Value.int .i64 0):=zA hw
   have y1:w.frozen? ⟨As,1,none⟩=false:=zD hw
   have z2:w.cell? ⟨As,2,none⟩=some (Value.int .i64 0):=zA hw
   have y2:w.frozen? ⟨As,2,none⟩=false:=zD hw
   refine ⟨_,?_,(Wrote.set (i:=2) (Wrote.set (i:=1) (Wrote.set (i:=0) (Wrote.refl hw) (Value.int .i64 X0)) (Value.int .i64 X1)) (Value.int .i64 X2))⟩
   go_simp
 · refine ⟨_,rfl,rfl,rfl,fun cs b h=>(by cases h),fun w hw=>?_⟩
   replace hw:w.heap[At]? = some (Obj.cells #[Value.int .i64 0,Value.int .i64 0,Value.int .i64 0] 48):=hw
   have z0:w.cell? ⟨At,0,none⟩=some (Value.int .i64 0):=zA hw
   have y0:w.frozen? ⟨At,0,none⟩=false:=zD hw
   have z1:w.cell? ⟨At,1,none⟩=some (Value.int .i64 0):=zA hw
   have y1:w.frozen? ⟨At,1,none⟩=false:=zD hw
   have z2:w.cell? ⟨At,2,none⟩=some (Value.int .i64 0):=zA hw
   have y2:w.frozen? ⟨At,2,none⟩=false:=zD hw
   refine ⟨_,?_,(Wrote.set (i:=2) (Wrote.set (i:=1) (Wrote.set (i:=0) (Wrote.refl hw) (Value.int .i64 Y0)) (Value.int .i64 Y1)) (Value.int .i64 Y2))⟩
   go_simp
 · refine ⟨_,rfl,rfl,rfl,fun cs b h=>(by cases h),fun w hw=>?_⟩
   replace hw:w.heap[Au]? = some (Obj.cells #[Value.int .i64 0,Value.int .i64 0,Value.int .i64 0] 48):=hw
   have z0:w.cell? ⟨Au,0,none⟩=some (Value.int .i64 0):=zA hw
   have y0:w.frozen? ⟨Au,0,none⟩=false:=zD hw
   have z1:w.cell? ⟨Au,1,none⟩=some (Value.int .i64 0):=zA hw
   have y1:w.frozen? ⟨Au,1,none⟩=false:=zD hw
   have z2:w.cell? ⟨Au,2,none⟩=some (Value.int .i64 0):=zA hw
   have y2:w.frozen? ⟨Au,2,none⟩=false:=zD hw
   refine ⟨_,?_,(Wrote.set (i:=2) (Wrote.set (i:=1) (Wrote.set (i:=0) (Wrote.refl hw) (Value.int .i64 P0)) (Value.int .i64 P1)) (Value.int .i64 P2))⟩
   go_simp
 intro w1 hk m0 m1 m2 Aa Ac Ab _ _ _
 clear Ak Al Am An Aw Ax Ay Az Ao Ap Aq Ar
 replace a0:=zB hk a0
 replace a1:=zB hk a1
 replace a2:=zB hk a2
 obtain ⟨Ak,Al,Am,An⟩:=ce4 a0
 obtain ⟨Aw,Ax,Ay,Az⟩:=ce4 a1
 obtain ⟨Ao,Ap,Aq,Ar⟩:=ce4 a2
 replace hb:=hb.trans (hk.mono hb.size)
 clear hk
 replace Aa:w1.heap[As]? = some (Obj.cells #[Value.int .i64 X0,Value.int .i64 X1,Value.int .i64 X2] 48):=Aa
 have Ae:w1.cell? ⟨As,0,none⟩=some (Value.int .i64 X0):=zA Aa
 have Af:w1.cell? ⟨As,1,none⟩=some (Value.int .i64 X1):=zA Aa
 have Ag:w1.cell? ⟨As,2,none⟩=some (Value.int .i64 X2):=zA Aa
 replace Ac:w1.heap[At]? = some (Obj.cells #[Value.int .i64 Y0,Value.int .i64 Y1,Value.int .i64 Y2] 48):=Ac
 have A0:w1.cell? ⟨At,0,none⟩=some (Value.int .i64 Y0):=zA Ac
 have A1:w1.cell? ⟨At,1,none⟩=some (Value.int .i64 Y1):=zA Ac
 have A2:w1.cell? ⟨At,2,none⟩=some (Value.int .i64 Y2):=zA Ac
 replace Ab:w1.heap[Au]? = some (Obj.cells #[Value.int .i64 P0,Value.int .i64 P1,Value.int .i64 P2] 48):=Ab
 have Ah:w1.cell? ⟨Au,0,none⟩=some (Value.int .i64 P0):=zA Ab
 have Ai:w1.cell? ⟨Au,1,none⟩=some (Value.int .i64 P1):=zA Ab
 have Aj:w1.cell? ⟨Au,2,none⟩=some (Value.int .i64 P2):=zA Ab
 clear Bv Bw Bx B7 B8 B9 A6 A7 A8 A9 Bf Bg Bh Bi Ba Bb Bc Bd m0 m1 m2
 go_upto_region 4 with fail
 obtain ⟨A6,A7,A8,A9⟩:=cy4 a0
 obtain ⟨Bf,Bg,Bh,Bi⟩:=cy4 a1
 obtain ⟨Ba,Bb,Bc,Bd⟩:=cy4 a2
 obtain ⟨Bj,Bk,Bl⟩:=cy3 Aa
 obtain ⟨Bm,Bn,Bo⟩:=cy3 Ac
 obtain ⟨Bp,Bq,Br⟩:=cy3 Ab
 have By:=rrV C11 R hb
 have Bz:=rrV C12 R hb
 have B0:=rrV C13 R hb
 refine wp_region_quiet_below (by first | assumption | kernel_rfl) (by kernel_rfl) ?_
 repeat (quiet_step (first | (with_reducible exact By.out _ _) | (with_reducible exact Bz.out _ _) | (with_reducible exact B0.out _ _)))
 refine wpQuiet_nil ?_
 intro w1 hw'
 obtain ⟨hk,hb⟩:=zQ hb hw'
 clear Ak Al Am An Aw Ax Ay Az Ao Ap Aq Ar Ae Af Ag A0 A1 A2 Ah Ai Aj
 replace a0:=zB hk a0
 replace a1:=zB hk a1
 replace a2:=zB hk a2
 replace Aa:=zB hk Aa
 replace Ac:=zB hk Ac
 replace Ab:=zB hk Ab
 obtain ⟨Ak,Al,Am,An⟩:=ce4 a0
 obtain ⟨Aw,Ax,Ay,Az⟩:=ce4 a1
 obtain ⟨Ao,Ap,Aq,Ar⟩:=ce4 a2
 obtain ⟨Ae,Af,Ag⟩:=ce3 Aa
 obtain ⟨A0,A1,A2⟩:=ce3 Ac
 obtain ⟨Ah,Ai,Aj⟩:=ce3 Ab
 clear By Bz B0 A6 A7 A8 A9 Bf Bg Bh Bi Ba Bb Bc Bd Bj Bk Bl Bm Bn Bo Bp Bq Br
 clear hk hw'
 go_upto_region 5 with fail
 obtain ⟨A6,A7,A8,A9⟩:=cy4 a0
 obtain ⟨Bf,Bg,Bh,Bi⟩:=cy4 a1
 obtain ⟨Ba,Bb,Bc,Bd⟩:=cy4 a2
 obtain ⟨Bj,Bk,Bl⟩:=cy3 Aa
 obtain ⟨Bm,Bn,Bo⟩:=cy3 Ac
 obtain ⟨Bp,Bq,Br⟩:=cy3 Ab
 have Ca:=rrV C11 R hb
 have Cb:=rrV C15 R hb
 have Cc:=rrV C16 R hb
 have B1:=qqV C11 R hb
 have B2:=qqV C15 R hb
 have B3:=qqV C16 R hb
 refine wp_free1 8 1 (fun i=>if i=8 then Obj.cells #[Value.string ⟨#[]⟩,Value.string ⟨#[]⟩,Value.string ⟨#[]⟩] 24 else Obj.cells #[] 0) (fun i=>if i=8 then Obj.cells #[Value.string ⟨#[]⟩,Value.string ⟨#[]⟩,Value.string ⟨#[]⟩] 24 else Obj.cells #[] 0) (some 12) (by first | assumption | kernel_rfl) (by kernel_rfl) ?lay rfl ?_
 case lay =>
   intro i h1 h2
   obtain rfl:i=8:=by omega
   all_goals exact ⟨_,rfl,rfl,fun a w=>(by first | (go_simp;done) | (go_simp;rfl))⟩
 simp only [List.take_succ_cons,List.take_zero]
 repeat (refine wpB_step (fun K hK=>?_);go_simp;first | (refine hK _ ?_;clear hK K) | (apply Exists.intro;refine ⟨fun _=>?_,hK _ ?_⟩;(first | (with_reducible exact B1.out _ _) | (with_reducible exact B2.out _ _) | (with_reducible exact B3.out _ _));clear hK K))
 refine wpB_nil ?_
 intro Av
 refine ⟨?_,?_⟩
 · refine ⟨_,rfl,rfl,rfl,fun cs b h=>(by cases h),fun w hw=>?_⟩
   replace hw:w.heap[Av]? = some (Obj.cells #[Value.string ⟨#[]⟩,Value.string ⟨#[]⟩,Value.string ⟨#[]⟩] 24):=hw
   have z0:w.cell? ⟨Av,0,none⟩=some (Value.string ⟨#[]⟩):=zA hw
   have y0:w.frozen? ⟨Av,0,none⟩=false:=zD hw
   have z1:w.cell? ⟨Av,1,none⟩=some (Value.string ⟨#[]⟩):=zA hw
   have y1:w.frozen? ⟨Av,1,none⟩=false:=zD hw
   have z2:w.cell? ⟨Av,2,none⟩=some (Value.string ⟨#[]⟩):=zA hw
   have y2:w.frozen? ⟨Av,2,none⟩=false:=zD hw
   refine ⟨_,?_,(Wrote.set (i:=2) (Wrote.set (i:=1) (Wrote.set (i:=0) (Wrote.refl hw) (Value.string ⟨#[]⟩)) (Value.string ⟨#[]⟩)) (Value.string ⟨#[]⟩))⟩
   go_simp
 refine ⟨_,(Value.int .i64 18),rfl,Or.inl ⟨rfl,fun p=>?_⟩,?_⟩
 · go_simp
   try exact ⟨rfl,rfl⟩
 intro w1 hk m0 Ad
 clear Ak Al Am An Aw Ax Ay Az Ao Ap Aq Ar Ae Af Ag A0 A1 A2 Ah Ai Aj
 replace a0:=zB hk a0
 replace a1:=zB hk a1
 replace a2:=zB hk a2
 replace Aa:=zB hk Aa
 replace Ac:=zB hk Ac
 replace Ab:=zB hk Ab
 obtain ⟨Ak,Al,Am,An⟩:=ce4 a0
 obtain ⟨Aw,Ax,Ay,Az⟩:=ce4 a1
 obtain ⟨Ao,Ap,Aq,Ar⟩:=ce4 a2
 obtain ⟨Ae,Af,Ag⟩:=ce3 Aa
 obtain ⟨A0,A1,A2⟩:=ce3 Ac
 obtain ⟨Ah,Ai,Aj⟩:=ce3 Ab
 replace hb:=hb.trans (hk.mono hb.size)
 clear hk
 replace Ad:w1.heap[Av]? = some (Obj.cells #[Value.string ⟨#[]⟩,Value.string ⟨#[]⟩,Value.string ⟨#[]⟩] 24):=Ad
 have A3:w1.cell? ⟨Av,0,none⟩=some (Value.string ⟨#[]⟩):=zA Ad
 have A4:w1.cell? ⟨Av,1,none⟩=some (Value.string ⟨#[]⟩):=zA Ad
 have A5:w1.cell? ⟨Av,2,none⟩=some (Value.string ⟨#[]⟩):=zA Ad
 clear B1 B2 B3 Ca Cb Cc A6 A7 A8 A9 Bf Bg Bh Bi Ba Bb Bc Bd Bj Bk Bl Bm Bn Bo Bp Bq Br m0
 go_upto_region 6 with fail
 clear Aw Ax Ay Az a1
 obtain ⟨A6,A7,A8,A9⟩:=cy4 a0
 obtain ⟨Ba,Bb,Bc,Bd⟩:=cy4 a2
 obtain ⟨Bj,Bk,Bl⟩:=cy3 Aa
 obtain ⟨Bm,Bn,Bo⟩:=cy3 Ac
 obtain ⟨Bp,Bq,Br⟩:=cy3 Ab
 obtain ⟨Cd,Ce,Cf⟩:=cy3 Ad
 have B4:=rrV C11 R hb
 have B5:=rrV C12 R hb
 have B6:=rrV C19 R hb
 refine wp_region_quiet_below (by first | assumption | kernel_rfl) (by kernel_rfl) ?_
 repeat (quiet_step (first | (with_reducible exact B4.out _ _) | (with_reducible exact B5.out _ _) | (with_reducible exact B6.out _ _)))
 refine wpQuiet_nil ?_
 intro w1 hw'
 obtain ⟨hk,hb⟩:=zQ hb hw'
 clear Ak Al Am An Ao Ap Aq Ar Ae Af Ag A0 A1 A2 Ah Ai Aj A3 A4 A5
 replace a0:=zB hk a0
 replace a2:=zB hk a2
 replace Aa:=zB hk Aa
 replace Ac:=zB hk Ac
 replace Ab:=zB hk Ab
 replace Ad:=zB hk Ad
 obtain ⟨Ak,Al,Am,An⟩:=ce4 a0
 obtain ⟨Ao,Ap,Aq,Ar⟩:=ce4 a2
 obtain ⟨Ae,Af,Ag⟩:=ce3 Aa
 obtain ⟨A0,A1,A2⟩:=ce3 Ac
 obtain ⟨Ah,Ai,Aj⟩:=ce3 Ab
 obtain ⟨A3,A4,A5⟩:=ce3 Ad
 clear B4 B5 B6 A6 A7 A8 A9 Ba Bb Bc Bd Bj Bk Bl Bm Bn Bo Bp Bq Br Cd Ce Cf
 clear hk hw'
 go_upto_region 10 with ((first | (go_at_call 35;with_reducible refine (chVB hb R C20).mono ?_) | (go_at_call 37;with_reducible refine (chVB hb R C21).mono ?_));clear hb;rintro e w1 ⟨rfl,hk,hb⟩;clear Ae Af Ag A0 A1 A2 Ah Ai Aj A3 A4 A5;replace Aa:=zB hk Aa;replace Ac:=zB hk Ac;replace Ab:=zB hk Ab;replace Ad:=zB hk Ad;obtain ⟨Ae,Af,Ag⟩:=ce3 Aa;obtain ⟨A0,A1,A2⟩:=ce3 Ac;obtain ⟨Ah,Ai,Aj⟩:=ce3 Ab;obtain ⟨A3,A4,A5⟩:=ce3 Ad;clear hk)
 clear Ak Al Am An a0 Ao Ap Aq Ar a2 A0 A1 A2 Ac
 refine wp_alloc1 (fun w1 Be hk=>?_)
 clear Ae Af Ag Ah Ai Aj A3 A4 A5
 replace Aa:=zB hk Aa
 replace Ab:=zB hk Ab
 replace Ad:=zB hk Ad
 obtain ⟨Ae,Af,Ag⟩:=ce3 Aa
 obtain ⟨Ah,Ai,Aj⟩:=ce3 Ab
 obtain ⟨A3,A4,A5⟩:=ce3 Ad
 replace hb:=hb.trans (hk.mono hb.size)
 clear hk
 obtain ⟨Bs,Bt,Bu⟩:=ce3 Be
 go_wp2_with (first | (go_at_call 28;with_reducible refine (chVB hb R C22).mono ?_;clear hb;rintro e w1 ⟨rfl,hk,hb⟩;clear Bs Bt Bu Ae Af Ag Ah Ai Aj A3 A4 A5;replace Be:=zB hk Be;replace Aa:=zB hk Aa;replace Ab:=zB hk Ab;replace Ad:=zB hk Ad;obtain ⟨Bs,Bt,Bu⟩:=ce3 Be;obtain ⟨Ae,Af,Ag⟩:=ce3 Aa;obtain ⟨Ah,Ai,Aj⟩:=ce3 Ab;obtain ⟨A3,A4,A5⟩:=ce3 Ad;clear hk) | (go_at_call 35;with_reducible refine (chVB hb R C20).mono ?_;clear hb;rintro e w1 ⟨rfl,hk,hb⟩;clear Bs Bt Bu Ae Af Ag Ah Ai Aj;replace Be:=zB hk Be;replace Aa:=zB hk Aa;replace Ab:=zB hk Ab;obtain ⟨Bs,Bt,Bu⟩:=ce3 Be;obtain ⟨Ae,Af,Ag⟩:=ce3 Aa;obtain ⟨Ah,Ai,Aj⟩:=ce3 Ab;clear hk))
 first | go_ret | go_ret2 | go_ret3
 exact ⟨rfl,hb⟩
theorem lplanes_nk1  (i0 i1 i2 j0 j1 j2 k0 k1 k2 X0 X1 X2 Y0 Y1 Y2 P0 P1 P2 K0 K1 K2:Int) (d e f D:Int) (s0 s1 s2 t0 t1 t2 u0 u1 u2:ByteArray) (ck:CV 12 #[] (.bool true)) (cX:CV 29 #[.agg #[.int .i8 i0,.int .i8 i1,.int .i8 i2,.int .u8 d]] (.agg #[.int .i64 X0,.int .i64 X1,.int .i64 X2])) (zX:CV 28 #[.agg #[.int .i64 X0,.int .i64 X1,.int .i64 X2]] (.bool false)) (cY:CV 29 #[.agg #[.int .i8 j0,.int .i8 j1,.int .i8 j2,.int .u8 e]] (.agg #[.int .i64 Y0,.int .i64 Y1,.int .i64 Y2])) (zY:CV 28 #[.agg #[.int .i64 Y0,.int .i64 Y1,.int .i64 Y2]] (.bool false)) (cP:CV 29 #[.agg #[.int .i8 k0,.int .i8 k1,.int .i8 k2,.int .u8 f]] (.agg #[.int .i64 P0,.int .i64 P1,.int .i64 P2])) (zP:CV 28 #[.agg #[.int .i64 P0,.int .i64 P1,.int .i64 P2]] (.bool false)) (ma:CV 30 #[.agg #[.int .i8 i0,.int .i8 i1,.int .i8 i2,.int .u8 d]] (.agg #[.string s0,.string s1,.string s2])) (mb:CV 30 #[.agg #[.int .i8 j0,.int .i8 j1,.int .i8 j2,.int .u8 e]] (.agg #[.string t0,.string t1,.string t2])) (ml:CV 30 #[.agg #[.int .i8 k0,.int .i8 k1,.int .i8 k2,.int .u8 f]] (.agg #[.string u0,.string u1,.string u2])) (hli:CV 21 #[.agg #[.string s0,.string s1,.string s2],.agg #[.string u0,.string u1,.string u2]] (.tuple #[.bool false,.int .i64 0])) (hin:CV 22 #[.agg #[.string s0,.string s1,.string s2],.agg #[.string t0,.string t1,.string t2]] (.tuple #[.agg #[.string ⟨#[]⟩,.string ⟨#[]⟩,.string ⟨#[]⟩],.int .i64 18])) (hpi:CV 23 #[.agg #[.string s0,.string s1,.string s2],.agg #[.string u0,.string u1,.string u2]] (.tuple #[.string ⟨#[]⟩,.int .i64 7])) (hdo:CV 35 #[.agg #[.int .i64 X0,.int .i64 X1,.int .i64 X2],.agg #[.int .i64 P0,.int .i64 P1,.int .i64 P2]] (.int .i64 D)) (hcr:CV 37 #[.agg #[.int .i64 X0,.int .i64 X1,.int .i64 X2],.agg #[.int .i64 Y0,.int .i64 Y1,.int .i64 Y2]] (.agg #[.int .i64 K0,.int .i64 K1,.int .i64 K2])) (hz:CV 28 #[.agg #[.int .i64 K0,.int .i64 K1,.int .i64 K2]] (.bool true)) (WC0:(D == 0)=false) (WC1:(X0 == 0)=true) (WC2:(X1 == 0)=false) (w:World) (R:EnvV w) :
   Calls Tryz.prog 8 #[.agg #[.int .i8 i0,.int .i8 i1,.int .i8 i2,.int .u8 d],.agg #[.int .i8 j0,.int .i8 j1,.int .i8 j2,.int .u8 e],.agg #[.int .i8 k0,.int .i8 k1,.int .i8 k2,.int .u8 f]] w (Ret w (.bool true)):=by
 have c1:=ck
 have c2:=cX
 have c3:=zX
 have c4:=cY
 have c5:=zY
 have c6:=cP
 have c7:=zP
 have c11:=ma
 have c12:=ml
 have c13:=hli
 have c15:=mb
 have c16:=hin
 have c19:=hpi
 have c20:=hdo
 have c21:=hcr
 have c22:=hz
 have gc0:(D == 0)=false:=WC0
 have gc1:(X0 == 0)=true:=WC1
 have gc2:(X1 == 0)=false:=WC2
 have C1:=Lib.hid c1
 have C2:=Lib.hid c2
 have C3:=Lib.hid c3
 have C4:=Lib.hid c4
 have C5:=Lib.hid c5
 have C6:=Lib.hid c6
 have C7:=Lib.hid c7
 have C11:=Lib.hid c11
 have C12:=Lib.hid c12
 have C13:=Lib.hid c13
 have C15:=Lib.hid c15
 have C16:=Lib.hid c16
 have C19:=Lib.hid c19
 have C20:=Lib.hid c20
 have C21:=Lib.hid c21
 have C22:=Lib.hid c22
 clear c1 c2 c3 c4 c5 c6 c7 c11 c12 c13 c15 c16 c19 c20 c21 c22 ck cX zX cY zY cP zP ma mb ml hli hin hpi hdo hcr hz WC0 WC1 WC2
 have hb:=Below.refl w.heap.size w
 go_enter Tryz.func8,Tryz.ntmps8
 go_upto_region 1 with fail
 refine wp_alloc3 (fun w1 a0 a1 a2 hk=>?_)
 replace hb:=hb.trans (hk.mono hb.size)
 clear hk
 obtain ⟨Ak,Al,Am,An⟩:=ce4 a0
 obtain ⟨Aw,Ax,Ay,Az⟩:=ce4 a1
 obtain ⟨Ao,Ap,Aq,Ar⟩:=ce4 a2
 go_upto_region 3 with ((first | (go_at_call 12;with_reducible refine (chVB hb R C1).mono ?_) | (go_at_call 29;first | with_reducible refine (chVB hb R C2).mono ?_ | with_reducible refine (chVB hb R C4).mono ?_ | with_reducible refine (chVB hb R C6).mono ?_) | (go_at_call 28;first | with_reducible refine (chVB hb R C3).mono ?_ | with_reducible refine (chVB hb R C5).mono ?_ | with_reducible refine (chVB hb R C7).mono ?_));clear hb;rintro e w1 ⟨rfl,hk,hb⟩;clear Ak Al Am An Aw Ax Ay Az Ao Ap Aq Ar;replace a0:=zB hk a0;replace a1:=zB hk a1;replace a2:=zB hk a2;obtain ⟨Ak,Al,Am,An⟩:=ce4 a0;obtain ⟨Aw,Ax,Ay,Az⟩:=ce4 a1;obtain ⟨Ao,Ap,Aq,Ar⟩:=ce4 a2;clear hk)
 obtain ⟨A6,A7,A8,A9⟩:=cy4 a0
 obtain ⟨Bf,Bg,Bh,Bi⟩:=cy4 a1
 obtain ⟨Ba,Bb,Bc,Bd⟩:=cy4 a2
 have B7:=rrV C2 R hb
 have B8:=rrV C4 R hb
 have B9:=rrV C6 R hb
 have Bv:=qqV C2 R hb
 have Bw:=qqV C4 R hb
 have Bx:=qqV C6 R hb
 refine wp_free3 6 0 (fun i=>if i=6 then Obj.cells #[Value.int .i64 0,Value.int .i64 0,Value.int .i64 0] 48 else if i=7 then Obj.cells #[Value.int .i64 0,Value.int .i64 0,Value.int .i64 0] 48 else if i=8 then Obj.cells #[Value.int .i64 0,Value.int .i64 0,Value.int .i64 0] 48 else Obj.cells #[] 0) (fun i=>if i=6 then Obj.cells #[Value.int .i64 X0,Value.int .i64 X1,Value.int .i64 X2] 48 else if i=7 then Obj.cells #[Value.int .i64 Y0,Value.int .i64 Y1,Value.int .i64 Y2] 48 else if i=8 then Obj.cells #[Value.int .i64 P0,Value.int .i64 P1,Value.int .i64 P2] 48 else Obj.cells #[] 0) (some 7) (some 8) (some 9) (by first | assumption | kernel_rfl) (by kernel_rfl) ?lay rfl rfl rfl ?_
 case lay =>
   intro i h1 h2
   obtain rfl | rfl | rfl:i=6∨i=7∨i=8:=by omega
   all_goals exact ⟨_,rfl,rfl,fun a w=>(by first | (go_simp;done) | (go_simp;rfl))⟩
 simp only [List.take_succ_cons,List.take_zero]
 repeat (refine wpB_step (fun K hK=>?_);go_simp;first | (refine hK _ ?_;clear hK K) | (apply Exists.intro;refine ⟨fun _=>?_,hK _ ?_⟩;(first | (with_reducible exact Bv.out _ _) | (with_reducible exact Bw.out _ _) | (with_reducible exact Bx.out _ _));clear hK K))
 refine wpB_nil ?_
 intro As At Au
 refine ⟨?_,?_,?_,?_⟩
 · refine ⟨_,rfl,rfl,rfl,fun cs b h=>(by cases h),fun w hw=>?_⟩
   replace hw:w.heap[As]? = some (Obj.cells #[Value.int .i64 0,Value.int .i64 0,Value.int .i64 0] 48):=hw
   have z0:w.cell? ⟨As,0,none⟩=some (Value.int .i64 0):=zA hw
   have y0:w.frozen? ⟨As,0,none⟩=false:=zD hw
   have z1:w.cell? ⟨As,1,none⟩=some (Value.int .i64 0):=zA hw
   have y1:w.frozen? ⟨As,1,none⟩=false:=zD hw
   have z2:w.cell? ⟨As,2,none⟩=some (Value.int .i64 0):=zA hw
   have y2:w.frozen? ⟨As,2,none⟩=false:=zD hw
   refine ⟨_,?_,(Wrote.set (i:=2) (Wrote.set (i:=1) (Wrote.set (i:=0) (Wrote.refl hw) (Value.int .i64 X0)) (Value.int .i64 X1)) (Value.int .i64 X2))⟩
   go_simp
 · refine ⟨_,rfl,rfl,rfl,fun cs b h=>(by cases h),fun w hw=>?_⟩
   replace hw:w.heap[At]? = some (Obj.cells #[Value.int .i64 0,Value.int .i64 0,Value.int .i64 0] 48):=hw
   have z0:w.cell? ⟨At,0,none⟩=some (Value.int .i64 0):=zA hw
   have y0:w.frozen? ⟨At,0,none⟩=false:=zD hw
   have z1:w.cell? ⟨At,1,none⟩=some (Value.int .i64 0):=zA hw
   have y1:w.frozen? ⟨At,1,none⟩=false:=zD hw
   have z2:w.cell? ⟨At,2,none⟩=some (Value.int .i64 0):=zA hw
   have y2:w.frozen? ⟨At,2,none⟩=false:=zD hw
   refine ⟨_,?_,(Wrote.set (i:=2) (Wrote.set (i:=1) (Wrote.set (i:=0) (Wrote.refl hw) (Value.int .i64 Y0)) (Value.int .i64 Y1)) (Value.int .i64 Y2))⟩
   go_simp
 · refine ⟨_,rfl,rfl,rfl,fun cs b h=>(by cases h),fun w hw=>?_⟩
   replace hw:w.heap[Au]? = some (Obj.cells #[Value.int .i64 0,Value.int .i64 0,Value.int .i64 0] 48):=hw
   have z0:w.cell? ⟨Au,0,none⟩=some (Value.int .i64 0):=zA hw
   have y0:w.frozen? ⟨Au,0,none⟩=false:=zD hw
   have z1:w.cell? ⟨Au,1,none⟩=some (Value.int .i64 0):=zA hw
   have y1:w.frozen? ⟨Au,1,none⟩=false:=zD hw
   have z2:w.cell? ⟨Au,2,none⟩=some (Value.int .i64 0):=zA hw
   have y2:w.frozen? ⟨Au,2,none⟩=false:=zD hw
   refine ⟨_,?_,(Wrote.set (i:=2) (Wrote.set (i:=1) (Wrote.set (i:=0) (Wrote.refl hw) (Value.int .i64 P0)) (Value.int .i64 P1)) (Value.int .i64 P2))⟩
   go_simp
 intro w1 hk m0 m1 m2 Aa Ac Ab _ _ _
 clear Ak Al Am An Aw Ax Ay Az Ao Ap Aq Ar
 replace a0:=zB hk a0
 replace a1:=zB hk a1
 replace a2:=zB hk a2
 obtain ⟨Ak,Al,Am,An⟩:=ce4 a0
 obtain ⟨Aw,Ax,Ay,Az⟩:=ce4 a1
 obtain ⟨Ao,Ap,Aq,Ar⟩:=ce4 a2
 replace hb:=hb.trans (hk.mono hb.size)
 clear hk
 replace Aa:w1.heap[As]? = some (Obj.cells #[Value.int .i64 X0,Value.int .i64 X1,Value.int .i64 X2] 48):=Aa
 have Ae:w1.cell? ⟨As,0,none⟩=some (Value.int .i64 X0):=zA Aa
 have Af:w1.cell? ⟨As,1,none⟩=some (Value.int .i64 X1):=zA Aa
 have Ag:w1.cell? ⟨As,2,none⟩=some (Value.int .i64 X2):=zA Aa
 replace Ac:w1.heap[At]? = some (Obj.cells #[Value.int .i64 Y0,Value.int .i64 Y1,Value.int .i64 Y2] 48):=Ac
 have A0:w1.cell? ⟨At,0,none⟩=some (Value.int .i64 Y0):=zA Ac
 have A1:w1.cell? ⟨At,1,none⟩=some (Value.int .i64 Y1):=zA Ac
 have A2:w1.cell? ⟨At,2,none⟩=some (Value.int .i64 Y2):=zA Ac
 replace Ab:w1.heap[Au]? = some (Obj.cells #[Value.int .i64 P0,Value.int .i64 P1,Value.int .i64 P2] 48):=Ab
 have Ah:w1.cell? ⟨Au,0,none⟩=some (Value.int .i64 P0):=zA Ab
 have Ai:w1.cell? ⟨Au,1,none⟩=some (Value.int .i64 P1):=zA Ab
 have Aj:w1.cell? ⟨Au,2,none⟩=some (Value.int .i64 P2):=zA Ab
 clear Bv Bw Bx B7 B8 B9 A6 A7 A8 A9 Bf Bg Bh Bi Ba Bb Bc Bd m0 m1 m2
 go_upto_region 4 with fail
 obtain ⟨A6,A7,A8,A9⟩:=cy4 a0
 obtain ⟨Bf,Bg,Bh,Bi⟩:=cy4 a1
 obtain ⟨Ba,Bb,Bc,Bd⟩:=cy4 a2
 obtain ⟨Bj,Bk,Bl⟩:=cy3 Aa
 obtain ⟨Bm,Bn,Bo⟩:=cy3 Ac
 obtain ⟨Bp,Bq,Br⟩:=cy3 Ab
 have By:=rrV C11 R hb
 have Bz:=rrV C12 R hb
 have B0:=rrV C13 R hb
 refine wp_region_quiet_below (by first | assumption | kernel_rfl) (by kernel_rfl) ?_
 repeat (quiet_step (first | (with_reducible exact By.out _ _) | (with_reducible exact Bz.out _ _) | (with_reducible exact B0.out _ _)))
 refine wpQuiet_nil ?_
 intro w1 hw'
 obtain ⟨hk,hb⟩:=zQ hb hw'
 clear Ak Al Am An Aw Ax Ay Az Ao Ap Aq Ar Ae Af Ag A0 A1 A2 Ah Ai Aj
 replace a0:=zB hk a0
 replace a1:=zB hk a1
 replace a2:=zB hk a2
 replace Aa:=zB hk Aa
 replace Ac:=zB hk Ac
 replace Ab:=zB hk Ab
 obtain ⟨Ak,Al,Am,An⟩:=ce4 a0
 obtain ⟨Aw,Ax,Ay,Az⟩:=ce4 a1
 obtain ⟨Ao,Ap,Aq,Ar⟩:=ce4 a2
 obtain ⟨Ae,Af,Ag⟩:=ce3 Aa
 obtain ⟨A0,A1,A2⟩:=ce3 Ac
 obtain ⟨Ah,Ai,Aj⟩:=ce3 Ab
 clear By Bz B0 A6 A7 A8 A9 Bf Bg Bh Bi Ba Bb Bc Bd Bj Bk Bl Bm Bn Bo Bp Bq Br
 clear hk hw'
 go_upto_region 5 with fail
 obtain ⟨A6,A7,A8,A9⟩:=cy4 a0
 obtain ⟨Bf,Bg,Bh,Bi⟩:=cy4 a1
 obtain ⟨Ba,Bb,Bc,Bd⟩:=cy4 a2
 obtain ⟨Bj,Bk,Bl⟩:=cy3 Aa
 obtain ⟨Bm,Bn,Bo⟩:=cy3 Ac
 obtain ⟨Bp,Bq,Br⟩:=cy3 Ab
 have Ca:=rrV C11 R hb
 have Cb:=rrV C15 R hb
 have Cc:=rrV C16 R hb
 have B1:=qqV C11 R hb
 have B2:=qqV C15 R hb
 have B3:=qqV C16 R hb
 refine wp_free1 8 1 (fun i=>if i=8 then Obj.cells #[Value.string ⟨#[]⟩,Value.string ⟨#[]⟩,Value.string ⟨#[]⟩] 24 else Obj.cells #[] 0) (fun i=>if i=8 then Obj.cells #[Value.string ⟨#[]⟩,Value.string ⟨#[]⟩,Value.string ⟨#[]⟩] 24 else Obj.cells #[] 0) (some 12) (by first | assumption | kernel_rfl) (by kernel_rfl) ?lay rfl ?_
 case lay =>
   intro i h1 h2
   obtain rfl:i=8:=by omega
   all_goals exact ⟨_,rfl,rfl,fun a w=>(by first | (go_simp;done) | (go_simp;rfl))⟩
 simp only [List.take_succ_cons,List.take_zero]
 repeat (refine wpB_step (fun K hK=>?_);go_simp;first | (refine hK _ ?_;clear hK K) | (apply Exists.intro;refine ⟨fun _=>?_,hK _ ?_⟩;(first | (with_reducible exact B1.out _ _) | (with_reducible exact B2.out _ _) | (with_reducible exact B3.out _ _));clear hK K))
 refine wpB_nil ?_
 intro Av
 refine ⟨?_,?_⟩
 · refine ⟨_,rfl,rfl,rfl,fun cs b h=>(by cases h),fun w hw=>?_⟩
   replace hw:w.heap[Av]? = some (Obj.cells #[Value.string ⟨#[]⟩,Value.string ⟨#[]⟩,Value.string ⟨#[]⟩] 24):=hw
   have z0:w.cell? ⟨Av,0,none⟩=some (Value.string ⟨#[]⟩):=zA hw
   have y0:w.frozen? ⟨Av,0,none⟩=false:=zD hw
   have z1:w.cell? ⟨Av,1,none⟩=some (Value.string ⟨#[]⟩):=zA hw
   have y1:w.frozen? ⟨Av,1,none⟩=false:=zD hw
   have z2:w.cell? ⟨Av,2,none⟩=some (Value.string ⟨#[]⟩):=zA hw
   have y2:w.frozen? ⟨Av,2,none⟩=false:=zD hw
   refine ⟨_,?_,(Wrote.set (i:=2) (Wrote.set (i:=1) (Wrote.set (i:=0) (Wrote.refl hw) (Value.string ⟨#[]⟩)) (Value.string ⟨#[]⟩)) (Value.string ⟨#[]⟩))⟩
   go_simp
 refine ⟨_,(Value.int .i64 18),rfl,Or.inl ⟨rfl,fun p=>?_⟩,?_⟩
 · go_simp
   try exact ⟨rfl,rfl⟩
 intro w1 hk m0 Ad
 clear Ak Al Am An Aw Ax Ay Az Ao Ap Aq Ar Ae Af Ag A0 A1 A2 Ah Ai Aj
 replace a0:=zB hk a0
 replace a1:=zB hk a1
 replace a2:=zB hk a2
 replace Aa:=zB hk Aa
 replace Ac:=zB hk Ac
 replace Ab:=zB hk Ab
 obtain ⟨Ak,Al,Am,An⟩:=ce4 a0
 obtain ⟨Aw,Ax,Ay,Az⟩:=ce4 a1
 obtain ⟨Ao,Ap,Aq,Ar⟩:=ce4 a2
 obtain ⟨Ae,Af,Ag⟩:=ce3 Aa
 obtain ⟨A0,A1,A2⟩:=ce3 Ac
 obtain ⟨Ah,Ai,Aj⟩:=ce3 Ab
 replace hb:=hb.trans (hk.mono hb.size)
 clear hk
 replace Ad:w1.heap[Av]? = some (Obj.cells #[Value.string ⟨#[]⟩,Value.string ⟨#[]⟩,Value.string ⟨#[]⟩] 24):=Ad
 have A3:w1.cell? ⟨Av,0,none⟩=some (Value.string ⟨#[]⟩):=zA Ad
 have A4:w1.cell? ⟨Av,1,none⟩=some (Value.string ⟨#[]⟩):=zA Ad
 have A5:w1.cell? ⟨Av,2,none⟩=some (Value.string ⟨#[]⟩):=zA Ad
 clear B1 B2 B3 Ca Cb Cc A6 A7 A8 A9 Bf Bg Bh Bi Ba Bb Bc Bd Bj Bk Bl Bm Bn Bo Bp Bq Br m0
 go_upto_region 6 with fail
 clear Aw Ax Ay Az a1
 obtain ⟨A6,A7,A8,A9⟩:=cy4 a0
 obtain ⟨Ba,Bb,Bc,Bd⟩:=cy4 a2
 obtain ⟨Bj,Bk,Bl⟩:=cy3 Aa
 obtain ⟨Bm,Bn,Bo⟩:=cy3 Ac
 obtain ⟨Bp,Bq,Br⟩:=cy3 Ab
 obtain ⟨Cd,Ce,Cf⟩:=cy3 Ad
 have B4:=rrV C11 R hb
 have B5:=rrV C12 R hb
 have B6:=rrV C19 R hb
 refine wp_region_quiet_below (by first | assumption | kernel_rfl) (by kernel_rfl) ?_
 repeat (quiet_step (first | (with_reducible exact B4.out _ _) | (with_reducible exact B5.out _ _) | (with_reducible exact B6.out _ _)))
 refine wpQuiet_nil ?_
 intro w1 hw'
 obtain ⟨hk,hb⟩:=zQ hb hw'
 clear Ak Al Am An Ao Ap Aq Ar Ae Af Ag A0 A1 A2 Ah Ai Aj A3 A4 A5
 replace a0:=zB hk a0
 replace a2:=zB hk a2
 replace Aa:=zB hk Aa
 replace Ac:=zB hk Ac
 replace Ab:=zB hk Ab
 replace Ad:=zB hk Ad
 obtain ⟨Ak,Al,Am,An⟩:=ce4 a0
 obtain ⟨Ao,Ap,Aq,Ar⟩:=ce4 a2
 obtain ⟨Ae,Af,Ag⟩:=ce3 Aa
 obtain ⟨A0,A1,A2⟩:=ce3 Ac
 obtain ⟨Ah,Ai,Aj⟩:=ce3 Ab
 obtain ⟨A3,A4,A5⟩:=ce3 Ad
 clear B4 B5 B6 A6 A7 A8 A9 Ba Bb Bc Bd Bj Bk Bl Bm Bn Bo Bp Bq Br Cd Ce Cf
 clear hk hw'
 go_upto_region 10 with ((first | (go_at_call 35;with_reducible refine (chVB hb R C20).mono ?_) | (go_at_call 37;with_reducible refine (chVB hb R C21).mono ?_));clear hb;rintro e w1 ⟨rfl,hk,hb⟩;clear Ae Af Ag A0 A1 A2 Ah Ai Aj A3 A4 A5;replace Aa:=zB hk Aa;replace Ac:=zB hk Ac;replace Ab:=zB hk Ab;replace Ad:=zB hk Ad;obtain ⟨Ae,Af,Ag⟩:=ce3 Aa;obtain ⟨A0,A1,A2⟩:=ce3 Ac;obtain ⟨Ah,Ai,Aj⟩:=ce3 Ab;obtain ⟨A3,A4,A5⟩:=ce3 Ad;clear hk)
 clear Ak Al Am An a0 Ao Ap Aq Ar a2 A0 A1 A2 Ac
 refine wp_alloc1 (fun w1 Be hk=>?_)
 clear Ae Af Ag Ah Ai Aj A3 A4 A5
 replace Aa:=zB hk Aa
 replace Ab:=zB hk Ab
 replace Ad:=zB hk Ad
 obtain ⟨Ae,Af,Ag⟩:=ce3 Aa
 obtain ⟨Ah,Ai,Aj⟩:=ce3 Ab
 obtain ⟨A3,A4,A5⟩:=ce3 Ad
 replace hb:=hb.trans (hk.mono hb.size)
 clear hk
 obtain ⟨Bs,Bt,Bu⟩:=ce3 Be
 go_wp2_with (first | (go_at_call 28;with_reducible refine (chVB hb R C22).mono ?_;clear hb;rintro e w1 ⟨rfl,hk,hb⟩;clear Bs Bt Bu Ae Af Ag Ah Ai Aj A3 A4 A5;replace Be:=zB hk Be;replace Aa:=zB hk Aa;replace Ab:=zB hk Ab;replace Ad:=zB hk Ad;obtain ⟨Bs,Bt,Bu⟩:=ce3 Be;obtain ⟨Ae,Af,Ag⟩:=ce3 Aa;obtain ⟨Ah,Ai,Aj⟩:=ce3 Ab;obtain ⟨A3,A4,A5⟩:=ce3 Ad;clear hk) | (go_at_call 35;with_reducible refine (chVB hb R C20).mono ?_;clear hb;rintro e w1 ⟨rfl,hk,hb⟩;clear Bs Bt Bu Ae Af Ag Ah Ai Aj;replace Be:=zB hk Be;replace Aa:=zB hk Aa;replace Ab:=zB hk Ab;obtain ⟨Bs,Bt,Bu⟩:=ce3 Be;obtain ⟨Ae,Af,Ag⟩:=ce3 Aa;obtain ⟨Ah,Ai,Aj⟩:=ce3 Ab;clear hk))
 first | go_ret | go_ret2 | go_ret3
 exact ⟨rfl,hb⟩
theorem lplanes_nk2  (i0 i1 i2 j0 j1 j2 k0 k1 k2 X0 X1 X2 Y0 Y1 Y2 P0 P1 P2 K0 K1 K2:Int) (d e f D:Int) (s0 s1 s2 t0 t1 t2 u0 u1 u2:ByteArray) (ck:CV 12 #[] (.bool true)) (cX:CV 29 #[.agg #[.int .i8 i0,.int .i8 i1,.int .i8 i2,.int .u8 d]] (.agg #[.int .i64 X0,.int .i64 X1,.int .i64 X2])) (zX:CV 28 #[.agg #[.int .i64 X0,.int .i64 X1,.int .i64 X2]] (.bool false)) (cY:CV 29 #[.agg #[.int .i8 j0,.int .i8 j1,.int .i8 j2,.int .u8 e]] (.agg #[.int .i64 Y0,.int .i64 Y1,.int .i64 Y2])) (zY:CV 28 #[.agg #[.int .i64 Y0,.int .i64 Y1,.int .i64 Y2]] (.bool false)) (cP:CV 29 #[.agg #[.int .i8 k0,.int .i8 k1,.int .i8 k2,.int .u8 f]] (.agg #[.int .i64 P0,.int .i64 P1,.int .i64 P2])) (zP:CV 28 #[.agg #[.int .i64 P0,.int .i64 P1,.int .i64 P2]] (.bool false)) (ma:CV 30 #[.agg #[.int .i8 i0,.int .i8 i1,.int .i8 i2,.int .u8 d]] (.agg #[.string s0,.string s1,.string s2])) (mb:CV 30 #[.agg #[.int .i8 j0,.int .i8 j1,.int .i8 j2,.int .u8 e]] (.agg #[.string t0,.string t1,.string t2])) (ml:CV 30 #[.agg #[.int .i8 k0,.int .i8 k1,.int .i8 k2,.int .u8 f]] (.agg #[.string u0,.string u1,.string u2])) (hli:CV 21 #[.agg #[.string s0,.string s1,.string s2],.agg #[.string u0,.string u1,.string u2]] (.tuple #[.bool false,.int .i64 0])) (hin:CV 22 #[.agg #[.string s0,.string s1,.string s2],.agg #[.string t0,.string t1,.string t2]] (.tuple #[.agg #[.string ⟨#[]⟩,.string ⟨#[]⟩,.string ⟨#[]⟩],.int .i64 18])) (hpi:CV 23 #[.agg #[.string s0,.string s1,.string s2],.agg #[.string u0,.string u1,.string u2]] (.tuple #[.string ⟨#[]⟩,.int .i64 19])) (hdo:CV 35 #[.agg #[.int .i64 X0,.int .i64 X1,.int .i64 X2],.agg #[.int .i64 P0,.int .i64 P1,.int .i64 P2]] (.int .i64 D)) (hcr:CV 37 #[.agg #[.int .i64 X0,.int .i64 X1,.int .i64 X2],.agg #[.int .i64 Y0,.int .i64 Y1,.int .i64 Y2]] (.agg #[.int .i64 K0,.int .i64 K1,.int .i64 K2])) (hz:CV 28 #[.agg #[.int .i64 K0,.int .i64 K1,.int .i64 K2]] (.bool true)) (WC0:(D == 0)=false) (WC1:(X0 == 0)=true) (WC2:(X1 == 0)=true) (w:World) (R:EnvV w) :
   Calls Tryz.prog 8 #[.agg #[.int .i8 i0,.int .i8 i1,.int .i8 i2,.int .u8 d],.agg #[.int .i8 j0,.int .i8 j1,.int .i8 j2,.int .u8 e],.agg #[.int .i8 k0,.int .i8 k1,.int .i8 k2,.int .u8 f]] w (Ret w (.bool true)):=by
 have c1:=ck
 have c2:=cX
 have c3:=zX
 have c4:=cY
 have c5:=zY
 have c6:=cP
 have c7:=zP
 have c11:=ma
 have c12:=ml
 have c13:=hli
 have c15:=mb
 have c16:=hin
 have c19:=hpi
 have c20:=hdo
 have c21:=hcr
 have c22:=hz
 have gc0:(D == 0)=false:=WC0
 have gc1:(X0 == 0)=true:=WC1
 have gc2:(X1 == 0)=true:=WC2
 have C1:=Lib.hid c1
 have C2:=Lib.hid c2
 have C3:=Lib.hid c3
 have C4:=Lib.hid c4
 have C5:=Lib.hid c5
 have C6:=Lib.hid c6
 have C7:=Lib.hid c7
 have C11:=Lib.hid c11
 have C12:=Lib.hid c12
 have C13:=Lib.hid c13
 have C15:=Lib.hid c15
 have C16:=Lib.hid c16
 have C19:=Lib.hid c19
 have C20:=Lib.hid c20
 have C21:=Lib.hid c21
 have C22:=Lib.hid c22
 clear c1 c2 c3 c4 c5 c6 c7 c11 c12 c13 c15 c16 c19 c20 c21 c22 ck cX zX cY zY cP zP ma mb ml hli hin hpi hdo hcr hz WC0 WC1 WC2
 have hb:=Below.refl w.heap.size w
 go_enter Tryz.func8,Tryz.ntmps8
 go_upto_region 1 with fail
 refine wp_alloc3 (fun w1 a0 a1 a2 hk=>?_)
 replace hb:=hb.trans (hk.mono hb.size)
 clear hk
 obtain ⟨Ak,Al,Am,An⟩:=ce4 a0
 obtain ⟨Aw,Ax,Ay,Az⟩:=ce4 a1
 obtain ⟨Ao,Ap,Aq,Ar⟩:=ce4 a2
 go_upto_region 3 with ((first | (go_at_call 12;with_reducible refine (chVB hb R C1).mono ?_) | (go_at_call 29;first | with_reducible refine (chVB hb R C2).mono ?_ | with_reducible refine (chVB hb R C4).mono ?_ | with_reducible refine (chVB hb R C6).mono ?_) | (go_at_call 28;first | with_reducible refine (chVB hb R C3).mono ?_ | with_reducible refine (chVB hb R C5).mono ?_ | with_reducible refine (chVB hb R C7).mono ?_));clear hb;rintro e w1 ⟨rfl,hk,hb⟩;clear Ak Al Am An Aw Ax Ay Az Ao Ap Aq Ar;replace a0:=zB hk a0;replace a1:=zB hk a1;replace a2:=zB hk a2;obtain ⟨Ak,Al,Am,An⟩:=ce4 a0;obtain ⟨Aw,Ax,Ay,Az⟩:=ce4 a1;obtain ⟨Ao,Ap,Aq,Ar⟩:=ce4 a2;clear hk)
 obtain ⟨A6,A7,A8,A9⟩:=cy4 a0
 obtain ⟨Be,Bf,Bg,Bh⟩:=cy4 a1
 obtain ⟨Ba,Bb,Bc,Bd⟩:=cy4 a2
 have B7:=rrV C2 R hb
 have B8:=rrV C4 R hb
 have B9:=rrV C6 R hb
 have Bs:=qqV C2 R hb
 have Bt:=qqV C4 R hb
 have Bu:=qqV C6 R hb
 refine wp_free3 6 0 (fun i=>if i=6 then Obj.cells #[Value.int .i64 0,Value.int .i64 0,Value.int .i64 0] 48 else if i=7 then Obj.cells #[Value.int .i64 0,Value.int .i64 0,Value.int .i64 0] 48 else if i=8 then Obj.cells #[Value.int .i64 0,Value.int .i64 0,Value.int .i64 0] 48 else Obj.cells #[] 0) (fun i=>if i=6 then Obj.cells #[Value.int .i64 X0,Value.int .i64 X1,Value.int .i64 X2] 48 else if i=7 then Obj.cells #[Value.int .i64 Y0,Value.int .i64 Y1,Value.int .i64 Y2] 48 else if i=8 then Obj.cells #[Value.int .i64 P0,Value.int .i64 P1,Value.int .i64 P2] 48 else Obj.cells #[] 0) (some 7) (some 8) (some 9) (by first | assumption | kernel_rfl) (by kernel_rfl) ?lay rfl rfl rfl ?_
 case lay =>
   intro i h1 h2
   obtain rfl | rfl | rfl:i=6∨i=7∨i=8:=by omega
   all_goals exact ⟨_,rfl,rfl,fun a w=>(by first | (go_simp;done) | (go_simp;rfl))⟩
 simp only [List.take_succ_cons,List.take_zero]
 repeat (refine wpB_step (fun K hK=>?_);go_simp;first | (refine hK _ ?_;clear hK K) | (apply Exists.intro;refine ⟨fun _=>?_,hK _ ?_⟩;(first | (with_reducible exact Bs.out _ _) | (with_reducible exact Bt.out _ _) | (with_reducible exact Bu.out _ _));clear hK K))
 refine wpB_nil ?_
 intro As At Au
 refine ⟨?_,?_,?_,?_⟩
 · refine ⟨_,rfl,rfl,rfl,fun cs b h=>(by cases h),fun w hw=>?_⟩
   replace hw:w.heap[As]? = some (Obj.cells #[Value.int .i64 0,Value.int .i64 0,Value.int .i64 0] 48):=hw
   have z0:w.cell? ⟨As,0,none⟩=some (Value.int .i64 0):=zA hw
   have y0:w.frozen? ⟨As,0,none⟩=false:=zD hw
   have z1:w.cell? ⟨As,1,none⟩=some (Value.int .i64 0):=zA hw
   have y1:w.frozen? ⟨As,1,none⟩=false:=zD hw
   have z2:w.cell? ⟨As,2,none⟩=some (Value.int .i64 0):=zA hw
   have y2:w.frozen? ⟨As,2,none⟩=false:=zD hw
   refine ⟨_,?_,(Wrote.set (i:=2) (Wrote.set (i:=1) (Wrote.set (i:=0) (Wrote.refl hw) (Value.int .i64 X0)) (Value.int .i64 X1)) (Value.int .i64 X2))⟩
   go_simp
 · refine ⟨_,rfl,rfl,rfl,fun cs b h=>(by cases h),fun w hw=>?_⟩
   replace hw:w.heap[At]? = some (Obj.cells #[Value.int .i64 0,Value.int .i64 0,Value.int .i64 0] 48):=hw
   have z0:w.cell? ⟨At,0,none⟩=some (Value.int .i64 0):=zA hw
   have y0:w.frozen? ⟨At,0,none⟩=false:=zD hw
   have z1:w.cell? ⟨At,1,none⟩=some (Value.int .i64 0):=zA hw
   have y1:w.frozen? ⟨At,1,none⟩=false:=zD hw
   have z2:w.cell? ⟨At,2,none⟩=some (Value.int .i64 0):=zA hw
   have y2:w.frozen? ⟨At,2,none⟩=false:=zD hw
   refine ⟨_,?_,(Wrote.set (i:=2) (Wrote.set (i:=1) (Wrote.set (i:=0) (Wrote.refl hw) (Value.int .i64 Y0)) (Value.int .i64 Y1)) (Value.int .i64 Y2))⟩
   go_simp
 · refine ⟨_,rfl,rfl,rfl,fun cs b h=>(by cases h),fun w hw=>?_⟩
   replace hw:w.heap[Au]? = some (Obj.cells #[Value.int .i64 0,Value.int .i64 0,Value.int .i64 0] 48):=hw
   have z0:w.cell? ⟨Au,0,none⟩=some (Value.int .i64 0):=zA hw
   have y0:w.frozen? ⟨Au,0,none⟩=false:=zD hw
   have z1:w.cell? ⟨Au,1,none⟩=some (Value.int .i64 0):=zA hw
   have y1:w.frozen? ⟨Au,1,none⟩=false:=zD hw
   have z2:w.cell? ⟨Au,2,none⟩=some (Value.int .i64 0):=zA hw
   have y2:w.frozen? ⟨Au,2,none⟩=false:=zD hw
   refine ⟨_,?_,(Wrote.set (i:=2) (Wrote.set (i:=1) (Wrote.set (i:=0) (Wrote.refl hw) (Value.int .i64 P0)) (Value.int .i64 P1)) (Value.int .i64 P2))⟩
   go_simp
 intro w1 hk m0 m1 m2 Aa Ac Ab _ _ _
 clear Ak Al Am An Aw Ax Ay Az Ao Ap Aq Ar
 replace a0:=zB hk a0
 replace a1:=zB hk a1
 replace a2:=zB hk a2
 obtain ⟨Ak,Al,Am,An⟩:=ce4 a0
 obtain ⟨Aw,Ax,Ay,Az⟩:=ce4 a1
 obtain ⟨Ao,Ap,Aq,Ar⟩:=ce4 a2
 replace hb:=hb.trans (hk.mono hb.size)
 clear hk
 replace Aa:w1.heap[As]? = some (Obj.cells #[Value.int .i64 X0,Value.int .i64 X1,Value.int .i64 X2] 48):=Aa
 have Ae:w1.cell? ⟨As,0,none⟩=some (Value.int .i64 X0):=zA Aa
 have Af:w1.cell? ⟨As,1,none⟩=some (Value.int .i64 X1):=zA Aa
 have Ag:w1.cell? ⟨As,2,none⟩=some (Value.int .i64 X2):=zA Aa
 replace Ac:w1.heap[At]? = some (Obj.cells #[Value.int .i64 Y0,Value.int .i64 Y1,Value.int .i64 Y2] 48):=Ac
 have A0:w1.cell? ⟨At,0,none⟩=some (Value.int .i64 Y0):=zA Ac
 have A1:w1.cell? ⟨At,1,none⟩=some (Value.int .i64 Y1):=zA Ac
 have A2:w1.cell? ⟨At,2,none⟩=some (Value.int .i64 Y2):=zA Ac
 replace Ab:w1.heap[Au]? = some (Obj.cells #[Value.int .i64 P0,Value.int .i64 P1,Value.int .i64 P2] 48):=Ab
 have Ah:w1.cell? ⟨Au,0,none⟩=some (Value.int .i64 P0):=zA Ab
 have Ai:w1.cell? ⟨Au,1,none⟩=some (Value.int .i64 P1):=zA Ab
 have Aj:w1.cell? ⟨Au,2,none⟩=some (Value.int .i64 P2):=zA Ab
 clear Bs Bt Bu B7 B8 B9 A6 A7 A8 A9 Be Bf Bg Bh Ba Bb Bc Bd m0 m1 m2
 go_upto_region 4 with fail
 obtain ⟨A6,A7,A8,A9⟩:=cy4 a0
 obtain ⟨Be,Bf,Bg,Bh⟩:=cy4 a1
 obtain ⟨Ba,Bb,Bc,Bd⟩:=cy4 a2
 obtain ⟨Bi,Bj,Bk⟩:=cy3 Aa
 obtain ⟨Bl,Bm,Bn⟩:=cy3 Ac
 obtain ⟨Bo,Bp,Bq⟩:=cy3 Ab
 have Bv:=rrV C11 R hb
 have Bw:=rrV C12 R hb
 have Bx:=rrV C13 R hb
 refine wp_region_quiet_below (by first | assumption | kernel_rfl) (by kernel_rfl) ?_
 repeat (quiet_step (first | (with_reducible exact Bv.out _ _) | (with_reducible exact Bw.out _ _) | (with_reducible exact Bx.out _ _)))
 refine wpQuiet_nil ?_
 intro w1 hw'
 obtain ⟨hk,hb⟩:=zQ hb hw'
 clear Ak Al Am An Aw Ax Ay Az Ao Ap Aq Ar Ae Af Ag A0 A1 A2 Ah Ai Aj
 replace a0:=zB hk a0
 replace a1:=zB hk a1
 replace a2:=zB hk a2
 replace Aa:=zB hk Aa
 replace Ac:=zB hk Ac
 replace Ab:=zB hk Ab
 obtain ⟨Ak,Al,Am,An⟩:=ce4 a0
 obtain ⟨Aw,Ax,Ay,Az⟩:=ce4 a1
 obtain ⟨Ao,Ap,Aq,Ar⟩:=ce4 a2
 obtain ⟨Ae,Af,Ag⟩:=ce3 Aa
 obtain ⟨A0,A1,A2⟩:=ce3 Ac
 obtain ⟨Ah,Ai,Aj⟩:=ce3 Ab
 clear Bv Bw Bx A6 A7 A8 A9 Be Bf Bg Bh Ba Bb Bc Bd Bi Bj Bk Bl Bm Bn Bo Bp Bq
 clear hk hw'
 go_upto_region 5 with fail
 obtain ⟨A6,A7,A8,A9⟩:=cy4 a0
 obtain ⟨Be,Bf,Bg,Bh⟩:=cy4 a1
 obtain ⟨Ba,Bb,Bc,Bd⟩:=cy4 a2
 obtain ⟨Bi,Bj,Bk⟩:=cy3 Aa
 obtain ⟨Bl,Bm,Bn⟩:=cy3 Ac
 obtain ⟨Bo,Bp,Bq⟩:=cy3 Ab
 have Ca:=rrV C11 R hb
 have Cb:=rrV C15 R hb
 have Cc:=rrV C16 R hb
 have By:=qqV C11 R hb
 have Bz:=qqV C15 R hb
 have B0:=qqV C16 R hb
 refine wp_free1 8 1 (fun i=>if i=8 then Obj.cells #[Value.string ⟨#[]⟩,Value.string ⟨#[]⟩,Value.string ⟨#[]⟩] 24 else Obj.cells #[] 0) (fun i=>if i=8 then Obj.cells #[Value.string ⟨#[]⟩,Value.string ⟨#[]⟩,Value.string ⟨#[]⟩] 24 else Obj.cells #[] 0) (some 12) (by first | assumption | kernel_rfl) (by kernel_rfl) ?lay rfl ?_
 case lay =>
   intro i h1 h2
   obtain rfl:i=8:=by omega
   all_goals exact ⟨_,rfl,rfl,fun a w=>(by first | (go_simp;done) | (go_simp;rfl))⟩
 simp only [List.take_succ_cons,List.take_zero]
 repeat (refine wpB_step (fun K hK=>?_);go_simp;first | (refine hK _ ?_;clear hK K) | (apply Exists.intro;refine ⟨fun _=>?_,hK _ ?_⟩;(first | (with_reducible exact By.out _ _) | (with_reducible exact Bz.out _ _) | (with_reducible exact B0.out _ _));clear hK K))
 refine wpB_nil ?_
 intro Av
 refine ⟨?_,?_⟩
 · refine ⟨_,rfl,rfl,rfl,fun cs b h=>(by cases h),fun w hw=>?_⟩
   replace hw:w.heap[Av]? = some (Obj.cells #[Value.string ⟨#[]⟩,Value.string ⟨#[]⟩,Value.string ⟨#[]⟩] 24):=hw
   have z0:w.cell? ⟨Av,0,none⟩=some (Value.string ⟨#[]⟩):=zA hw
   have y0:w.frozen? ⟨Av,0,none⟩=false:=zD hw
   have z1:w.cell? ⟨Av,1,none⟩=some (Value.string ⟨#[]⟩):=zA hw
   have y1:w.frozen? ⟨Av,1,none⟩=false:=zD hw
   have z2:w.cell? ⟨Av,2,none⟩=some (Value.string ⟨#[]⟩):=zA hw
   have y2:w.frozen? ⟨Av,2,none⟩=false:=zD hw
   refine ⟨_,?_,(Wrote.set (i:=2) (Wrote.set (i:=1) (Wrote.set (i:=0) (Wrote.refl hw) (Value.string ⟨#[]⟩)) (Value.string ⟨#[]⟩)) (Value.string ⟨#[]⟩))⟩
   go_simp
 refine ⟨_,(Value.int .i64 18),rfl,Or.inl ⟨rfl,fun p=>?_⟩,?_⟩
 · go_simp
   try exact ⟨rfl,rfl⟩
 intro w1 hk m0 Ad
 clear Ak Al Am An Aw Ax Ay Az Ao Ap Aq Ar Ae Af Ag A0 A1 A2 Ah Ai Aj
 replace a0:=zB hk a0
 replace a1:=zB hk a1
 replace a2:=zB hk a2
 replace Aa:=zB hk Aa
 replace Ac:=zB hk Ac
 replace Ab:=zB hk Ab
 obtain ⟨Ak,Al,Am,An⟩:=ce4 a0
 obtain ⟨Aw,Ax,Ay,Az⟩:=ce4 a1
 obtain ⟨Ao,Ap,Aq,Ar⟩:=ce4 a2
 obtain ⟨Ae,Af,Ag⟩:=ce3 Aa
 obtain ⟨A0,A1,A2⟩:=ce3 Ac
 obtain ⟨Ah,Ai,Aj⟩:=ce3 Ab
 replace hb:=hb.trans (hk.mono hb.size)
 clear hk
 replace Ad:w1.heap[Av]? = some (Obj.cells #[Value.string ⟨#[]⟩,Value.string ⟨#[]⟩,Value.string ⟨#[]⟩] 24):=Ad
 have A3:w1.cell? ⟨Av,0,none⟩=some (Value.string ⟨#[]⟩):=zA Ad
 have A4:w1.cell? ⟨Av,1,none⟩=some (Value.string ⟨#[]⟩):=zA Ad
 have A5:w1.cell? ⟨Av,2,none⟩=some (Value.string ⟨#[]⟩):=zA Ad
 clear By Bz B0 Ca Cb Cc A6 A7 A8 A9 Be Bf Bg Bh Ba Bb Bc Bd Bi Bj Bk Bl Bm Bn Bo Bp Bq m0
 go_upto_region 6 with fail
 clear Aw Ax Ay Az a1
 obtain ⟨A6,A7,A8,A9⟩:=cy4 a0
 obtain ⟨Ba,Bb,Bc,Bd⟩:=cy4 a2
 obtain ⟨Bi,Bj,Bk⟩:=cy3 Aa
 obtain ⟨Bl,Bm,Bn⟩:=cy3 Ac
 obtain ⟨Bo,Bp,Bq⟩:=cy3 Ab
 obtain ⟨Cd,Ce,Cf⟩:=cy3 Ad
 have B1:=rrV C11 R hb
 have B2:=rrV C12 R hb
 have B3:=rrV C19 R hb
 refine wp_region_quiet_below (by first | assumption | kernel_rfl) (by kernel_rfl) ?_
 repeat (quiet_step (first | (with_reducible exact B1.out _ _) | (with_reducible exact B2.out _ _) | (with_reducible exact B3.out _ _)))
 refine wpQuiet_nil ?_
 intro w1 hw'
 obtain ⟨hk,hb⟩:=zQ hb hw'
 clear Ak Al Am An Ao Ap Aq Ar Ae Af Ag A0 A1 A2 Ah Ai Aj A3 A4 A5
 replace a0:=zB hk a0
 replace a2:=zB hk a2
 replace Aa:=zB hk Aa
 replace Ac:=zB hk Ac
 replace Ab:=zB hk Ab
 replace Ad:=zB hk Ad
 obtain ⟨Ak,Al,Am,An⟩:=ce4 a0
 obtain ⟨Ao,Ap,Aq,Ar⟩:=ce4 a2
 obtain ⟨Ae,Af,Ag⟩:=ce3 Aa
 obtain ⟨A0,A1,A2⟩:=ce3 Ac
 obtain ⟨Ah,Ai,Aj⟩:=ce3 Ab
 obtain ⟨A3,A4,A5⟩:=ce3 Ad
 clear B1 B2 B3 A6 A7 A8 A9 Ba Bb Bc Bd Bi Bj Bk Bl Bm Bn Bo Bp Bq Cd Ce Cf
 clear hk hw'
 go_upto_region 10 with ((first | (go_at_call 35;with_reducible refine (chVB hb R C20).mono ?_) | (go_at_call 37;with_reducible refine (chVB hb R C21).mono ?_));clear hb;rintro e w1 ⟨rfl,hk,hb⟩;clear Ae Af Ag A0 A1 A2 Ah Ai Aj A3 A4 A5;replace Aa:=zB hk Aa;replace Ac:=zB hk Ac;replace Ab:=zB hk Ab;replace Ad:=zB hk Ad;obtain ⟨Ae,Af,Ag⟩:=ce3 Aa;obtain ⟨A0,A1,A2⟩:=ce3 Ac;obtain ⟨Ah,Ai,Aj⟩:=ce3 Ab;obtain ⟨A3,A4,A5⟩:=ce3 Ad;clear hk)
 clear Ak Al Am An a0 Ao Ap Aq Ar a2 A0 A1 A2 Ac
 refine wp_alloc1 (fun w1 Br hk=>?_)
 clear Ae Af Ag Ah Ai Aj A3 A4 A5
 replace Aa:=zB hk Aa
 replace Ab:=zB hk Ab
 replace Ad:=zB hk Ad
 obtain ⟨Ae,Af,Ag⟩:=ce3 Aa
 obtain ⟨Ah,Ai,Aj⟩:=ce3 Ab
 obtain ⟨A3,A4,A5⟩:=ce3 Ad
 replace hb:=hb.trans (hk.mono hb.size)
 clear hk
 obtain ⟨B4,B5,B6⟩:=ce3 Br
 go_wp2_with (go_at_call 28;with_reducible refine (chVB hb R C22).mono ?_;clear hb;rintro e w1 ⟨rfl,hk,hb⟩;clear B4 B5 B6 Ae Af Ag Ah Ai Aj A3 A4 A5;replace Br:=zB hk Br;replace Aa:=zB hk Aa;replace Ab:=zB hk Ab;replace Ad:=zB hk Ad;obtain ⟨B4,B5,B6⟩:=ce3 Br;obtain ⟨Ae,Af,Ag⟩:=ce3 Aa;obtain ⟨Ah,Ai,Aj⟩:=ce3 Ab;obtain ⟨A3,A4,A5⟩:=ce3 Ad;clear hk)
 first | go_ret | go_ret2 | go_ret3
 exact ⟨rfl,hb⟩
theorem lplanes_nm0  (i0 i1 i2 j0 j1 j2 k0 k1 k2 X0 X1 X2 Y0 Y1 Y2 P0 P1 P2 K0 K1 K2 W0 W1 W2:Int) (d e f D:Int) (s0 s1 s2 t0 t1 t2 u0 u1 u2 v0 v1 v2:ByteArray) (ck:CV 12 #[] (.bool true)) (cX:CV 29 #[.agg #[.int .i8 i0,.int .i8 i1,.int .i8 i2,.int .u8 d]] (.agg #[.int .i64 X0,.int .i64 X1,.int .i64 X2])) (zX:CV 28 #[.agg #[.int .i64 X0,.int .i64 X1,.int .i64 X2]] (.bool false)) (cY:CV 29 #[.agg #[.int .i8 j0,.int .i8 j1,.int .i8 j2,.int .u8 e]] (.agg #[.int .i64 Y0,.int .i64 Y1,.int .i64 Y2])) (zY:CV 28 #[.agg #[.int .i64 Y0,.int .i64 Y1,.int .i64 Y2]] (.bool false)) (cP:CV 29 #[.agg #[.int .i8 k0,.int .i8 k1,.int .i8 k2,.int .u8 f]] (.agg #[.int .i64 P0,.int .i64 P1,.int .i64 P2])) (zP:CV 28 #[.agg #[.int .i64 P0,.int .i64 P1,.int .i64 P2]] (.bool false)) (ma:CV 30 #[.agg #[.int .i8 i0,.int .i8 i1,.int .i8 i2,.int .u8 d]] (.agg #[.string s0,.string s1,.string s2])) (mb:CV 30 #[.agg #[.int .i8 j0,.int .i8 j1,.int .i8 j2,.int .u8 e]] (.agg #[.string t0,.string t1,.string t2])) (ml:CV 30 #[.agg #[.int .i8 k0,.int .i8 k1,.int .i8 k2,.int .u8 f]] (.agg #[.string u0,.string u1,.string u2])) (hli:CV 21 #[.agg #[.string s0,.string s1,.string s2],.agg #[.string u0,.string u1,.string u2]] (.tuple #[.bool false,.int .i64 0])) (hin:CV 22 #[.agg #[.string s0,.string s1,.string s2],.agg #[.string t0,.string t1,.string t2]] (.tuple #[.agg #[.string v0,.string v1,.string v2],.int .i64 0])) (hpi:CV 23 #[.agg #[.string s0,.string s1,.string s2],.agg #[.string u0,.string u1,.string u2]] (.tuple #[.string ⟨#[]⟩,.int .i64 7])) (hdo:CV 35 #[.agg #[.int .i64 X0,.int .i64 X1,.int .i64 X2],.agg #[.int .i64 P0,.int .i64 P1,.int .i64 P2]] (.int .i64 D)) (hcr:CV 37 #[.agg #[.int .i64 X0,.int .i64 X1,.int .i64 X2],.agg #[.int .i64 Y0,.int .i64 Y1,.int .i64 Y2]] (.agg #[.int .i64 K0,.int .i64 K1,.int .i64 K2])) (hz:CV 28 #[.agg #[.int .i64 K0,.int .i64 K1,.int .i64 K2]] (.bool false)) (hdn:CV 32 #[.agg #[.int .i64 K0,.int .i64 K1,.int .i64 K2]] (.agg #[.int .i64 W0,.int .i64 W1,.int .i64 W2])) (hof:CV 31 #[.agg #[.int .i64 W0,.int .i64 W1,.int .i64 W2]] (.agg #[.string v0,.string v1,.string v2])) (WC0:(D == 0)=false) (WC1:(X0 == 0)=false) (w:World) (R:EnvV w) :
   Calls Tryz.prog 8 #[.agg #[.int .i8 i0,.int .i8 i1,.int .i8 i2,.int .u8 d],.agg #[.int .i8 j0,.int .i8 j1,.int .i8 j2,.int .u8 e],.agg #[.int .i8 k0,.int .i8 k1,.int .i8 k2,.int .u8 f]] w (Ret w (.bool true)):=by
 have c1:=ck
 have c2:=cX
 have c3:=zX
 have c4:=cY
 have c5:=zY
 have c6:=cP
 have c7:=zP
 have c11:=ma
 have c12:=ml
 have c13:=hli
 have c15:=mb
 have c16:=hin
 have c19:=hpi
 have c20:=hdo
 have c21:=hcr
 have c22:=hz
 have c23:=hdn
 have c24:=hof
 have gc0:(D == 0)=false:=WC0
 have gc1:(X0 == 0)=false:=WC1
 have C1:=Lib.hid c1
 have C2:=Lib.hid c2
 have C3:=Lib.hid c3
 have C4:=Lib.hid c4
 have C5:=Lib.hid c5
 have C6:=Lib.hid c6
 have C7:=Lib.hid c7
 have C11:=Lib.hid c11
 have C12:=Lib.hid c12
 have C13:=Lib.hid c13
 have C15:=Lib.hid c15
 have C16:=Lib.hid c16
 have C19:=Lib.hid c19
 have C20:=Lib.hid c20
 have C21:=Lib.hid c21
 have C22:=Lib.hid c22
 have C23:=Lib.hid c23
 have C24:=Lib.hid c24
 clear c1 c2 c3 c4 c5 c6 c7 c11 c12 c13 c15 c16 c19 c20 c21 c22 c23 c24 ck cX zX cY zY cP zP ma mb ml hli hin hpi hdo hcr hz hdn hof WC0 WC1
 have hb:=Below.refl w.heap.size w
 go_enter Tryz.func8,Tryz.ntmps8
 go_upto_region 1 with fail
 refine wp_alloc3 (fun w1 a0 a1 a2 hk=>?_)
 replace hb:=hb.trans (hk.mono hb.size)
 clear hk
 obtain ⟨Ak,Al,Am,An⟩:=ce4 a0
 obtain ⟨A0,A1,A2,A3⟩:=ce4 a1
 obtain ⟨Ao,Ap,Aq,Ar⟩:=ce4 a2
 go_upto_region 3 with ((first | (go_at_call 12;with_reducible refine (chVB hb R C1).mono ?_) | (go_at_call 29;first | with_reducible refine (chVB hb R C2).mono ?_ | with_reducible refine (chVB hb R C4).mono ?_ | with_reducible refine (chVB hb R C6).mono ?_) | (go_at_call 28;first | with_reducible refine (chVB hb R C3).mono ?_ | with_reducible refine (chVB hb R C5).mono ?_ | with_reducible refine (chVB hb R C7).mono ?_));clear hb;rintro e w1 ⟨rfl,hk,hb⟩;clear Ak Al Am An A0 A1 A2 A3 Ao Ap Aq Ar;replace a0:=zB hk a0;replace a1:=zB hk a1;replace a2:=zB hk a2;obtain ⟨Ak,Al,Am,An⟩:=ce4 a0;obtain ⟨A0,A1,A2,A3⟩:=ce4 a1;obtain ⟨Ao,Ap,Aq,Ar⟩:=ce4 a2;clear hk)
 obtain ⟨A7,A8,A9,Ba⟩:=cy4 a0
 obtain ⟨Bo,Bp,Bq,Br⟩:=cy4 a1
 obtain ⟨Bb,Bc,Bd,Be⟩:=cy4 a2
 have Cc:=rrV C2 R hb
 have Cd:=rrV C4 R hb
 have Ce:=rrV C6 R hb
 have By:=qqV C2 R hb
 have Bz:=qqV C4 R hb
 have B0:=qqV C6 R hb
 refine wp_free3 6 0 (fun i=>if i=6 then Obj.cells #[Value.int .i64 0,Value.int .i64 0,Value.int .i64 0] 48 else if i=7 then Obj.cells #[Value.int .i64 0,Value.int .i64 0,Value.int .i64 0] 48 else if i=8 then Obj.cells #[Value.int .i64 0,Value.int .i64 0,Value.int .i64 0] 48 else Obj.cells #[] 0) (fun i=>if i=6 then Obj.cells #[Value.int .i64 X0,Value.int .i64 X1,Value.int .i64 X2] 48 else if i=7 then Obj.cells #[Value.int .i64 Y0,Value.int .i64 Y1,Value.int .i64 Y2] 48 else if i=8 then Obj.cells #[Value.int .i64 P0,Value.int .i64 P1,Value.int .i64 P2] 48 else Obj.cells #[] 0) (some 7) (some 8) (some 9) (by first | assumption | kernel_rfl) (by kernel_rfl) ?lay rfl rfl rfl ?_
 case lay =>
   intro i h1 h2
   obtain rfl | rfl | rfl:i=6∨i=7∨i=8:=by omega
   all_goals exact ⟨_,rfl,rfl,fun a w=>(by first | (go_simp;done) | (go_simp;rfl))⟩
 simp only [List.take_succ_cons,List.take_zero]
 repeat (refine wpB_step (fun K hK=>?_);go_simp;first | (refine hK _ ?_;clear hK K) | (apply Exists.intro;refine ⟨fun _=>?_,hK _ ?_⟩;(first | (with_reducible exact By.out _ _) | (with_reducible exact Bz.out _ _) | (with_reducible exact B0.out _ _));clear hK K))
 refine wpB_nil ?_
 intro As At Au
 refine ⟨?_,?_,?_,?_⟩
 · refine ⟨_,rfl,rfl,rfl,fun cs b h=>(by cases h),fun w hw=>?_⟩
   replace hw:w.heap[As]? = some (Obj.cells #[Value.int .i64 0,Value.int .i64 0,Value.int .i64 0] 48):=hw
   have z0:w.cell? ⟨As,0,none⟩=some (Value.int .i64 0):=zA hw
   have y0:w.frozen? ⟨As,0,none⟩=false:=zD hw
   have z1:w.cell? ⟨As,1,none⟩=some (Value.int .i64 0):=zA hw
   have y1:w.frozen? ⟨As,1,none⟩=false:=zD hw
   have z2:w.cell? ⟨As,2,none⟩=some (Value.int .i64 0):=zA hw
   have y2:w.frozen? ⟨As,2,none⟩=false:=zD hw
   refine ⟨_,?_,(Wrote.set (i:=2) (Wrote.set (i:=1) (Wrote.set (i:=0) (Wrote.refl hw) (Value.int .i64 X0)) (Value.int .i64 X1)) (Value.int .i64 X2))⟩
   go_simp
 · refine ⟨_,rfl,rfl,rfl,fun cs b h=>(by cases h),fun w hw=>?_⟩
   replace hw:w.heap[At]? = some (Obj.cells #[Value.int .i64 0,Value.int .i64 0,Value.int .i64 0] 48):=hw
   have z0:w.cell? ⟨At,0,none⟩=some (Value.int .i64 0):=zA hw
   have y0:w.frozen? ⟨At,0,none⟩=false:=zD hw
   have z1:w.cell? ⟨At,1,none⟩=some (Value.int .i64 0):=zA hw
   have y1:w.frozen? ⟨At,1,none⟩=false:=zD hw
   have z2:w.cell? ⟨At,2,none⟩=some (Value.int .i64 0):=zA hw
   have y2:w.frozen? ⟨At,2,none⟩=false:=zD hw
   refine ⟨_,?_,(Wrote.set (i:=2) (Wrote.set (i:=1) (Wrote.set (i:=0) (Wrote.refl hw) (Value.int .i64 Y0)) (Value.int .i64 Y1)) (Value.int .i64 Y2))⟩
   go_simp
 · refine ⟨_,rfl,rfl,rfl,fun cs b h=>(by cases h),fun w hw=>?_⟩
   replace hw:w.heap[Au]? = some (Obj.cells #[Value.int .i64 0,Value.int .i64 0,Value.int .i64 0] 48):=hw
   have z0:w.cell? ⟨Au,0,none⟩=some (Value.int .i64 0):=zA hw
   have y0:w.frozen? ⟨Au,0,none⟩=false:=zD hw
   have z1:w.cell? ⟨Au,1,none⟩=some (Value.int .i64 0):=zA hw
   have y1:w.frozen? ⟨Au,1,none⟩=false:=zD hw
   have z2:w.cell? ⟨Au,2,none⟩=some (Value.int .i64 0):=zA hw
   have y2:w.frozen? ⟨Au,2,none⟩=false:=zD hw
   refine ⟨_,?_,(Wrote.set (i:=2) (Wrote.set (i:=1) (Wrote.set (i:=0) (Wrote.refl hw) (Value.int .i64 P0)) (Value.int .i64 P1)) (Value.int .i64 P2))⟩
   go_simp
 intro w1 hk m0 m1 m2 Aa Ad Ab _ _ _
 clear Ak Al Am An A0 A1 A2 A3 Ao Ap Aq Ar
 replace a0:=zB hk a0
 replace a1:=zB hk a1
 replace a2:=zB hk a2
 obtain ⟨Ak,Al,Am,An⟩:=ce4 a0
 obtain ⟨A0,A1,A2,A3⟩:=ce4 a1
 obtain ⟨Ao,Ap,Aq,Ar⟩:=ce4 a2
 replace hb:=hb.trans (hk.mono hb.size)
 clear hk
 replace Aa:w1.heap[As]? = some (Obj.cells #[Value.int .i64 X0,Value.int .i64 X1,Value.int .i64 X2] 48):=Aa
 have Ae:w1.cell? ⟨As,0,none⟩=some (Value.int .i64 X0):=zA Aa
 have Af:w1.cell? ⟨As,1,none⟩=some (Value.int .i64 X1):=zA Aa
 have Ag:w1.cell? ⟨As,2,none⟩=some (Value.int .i64 X2):=zA Aa
 replace Ad:w1.heap[At]? = some (Obj.cells #[Value.int .i64 Y0,Value.int .i64 Y1,Value.int .i64 Y2] 48):=Ad
 have A4:w1.cell? ⟨At,0,none⟩=some (Value.int .i64 Y0):=zA Ad
 have A5:w1.cell? ⟨At,1,none⟩=some (Value.int .i64 Y1):=zA Ad
 have A6:w1.cell? ⟨At,2,none⟩=some (Value.int .i64 Y2):=zA Ad
 replace Ab:w1.heap[Au]? = some (Obj.cells #[Value.int .i64 P0,Value.int .i64 P1,Value.int .i64 P2] 48):=Ab
 have Ah:w1.cell? ⟨Au,0,none⟩=some (Value.int .i64 P0):=zA Ab
 have Ai:w1.cell? ⟨Au,1,none⟩=some (Value.int .i64 P1):=zA Ab
 have Aj:w1.cell? ⟨Au,2,none⟩=some (Value.int .i64 P2):=zA Ab
 clear By Bz B0 Cc Cd Ce A7 A8 A9 Ba Bo Bp Bq Br Bb Bc Bd Be m0 m1 m2
 go_upto_region 4 with fail
 obtain ⟨A7,A8,A9,Ba⟩:=cy4 a0
 obtain ⟨Bo,Bp,Bq,Br⟩:=cy4 a1
 obtain ⟨Bb,Bc,Bd,Be⟩:=cy4 a2
 obtain ⟨Bf,Bg,Bh⟩:=cy3 Aa
 obtain ⟨Bs,Bt,Bu⟩:=cy3 Ad
 obtain ⟨Bi,Bj,Bk⟩:=cy3 Ab
 have B1:=rrV C11 R hb
 have B2:=rrV C12 R hb
 have B3:=rrV C13 R hb
 refine wp_region_quiet_below (by first | assumption | kernel_rfl) (by kernel_rfl) ?_
 repeat (quiet_step (first | (with_reducible exact B1.out _ _) | (with_reducible exact B2.out _ _) | (with_reducible exact B3.out _ _)))
 refine wpQuiet_nil ?_
 intro w1 hw'
 obtain ⟨hk,hb⟩:=zQ hb hw'
 clear Ak Al Am An A0 A1 A2 A3 Ao Ap Aq Ar Ae Af Ag A4 A5 A6 Ah Ai Aj
 replace a0:=zB hk a0
 replace a1:=zB hk a1
 replace a2:=zB hk a2
 replace Aa:=zB hk Aa
 replace Ad:=zB hk Ad
 replace Ab:=zB hk Ab
 obtain ⟨Ak,Al,Am,An⟩:=ce4 a0
 obtain ⟨A0,A1,A2,A3⟩:=ce4 a1
 obtain ⟨Ao,Ap,Aq,Ar⟩:=ce4 a2
 obtain ⟨Ae,Af,Ag⟩:=ce3 Aa
 obtain ⟨A4,A5,A6⟩:=ce3 Ad
 obtain ⟨Ah,Ai,Aj⟩:=ce3 Ab
 clear B1 B2 B3 A7 A8 A9 Ba Bo Bp Bq Br Bb Bc Bd Be Bf Bg Bh Bs Bt Bu Bi Bj Bk
 clear hk hw'
 go_upto_region 5 with fail
 obtain ⟨A7,A8,A9,Ba⟩:=cy4 a0
 obtain ⟨Bo,Bp,Bq,Br⟩:=cy4 a1
 obtain ⟨Bb,Bc,Bd,Be⟩:=cy4 a2
 obtain ⟨Bf,Bg,Bh⟩:=cy3 Aa
 obtain ⟨Bs,Bt,Bu⟩:=cy3 Ad
 obtain ⟨Bi,Bj,Bk⟩:=cy3 Ab
 have Cf:=rrV C11 R hb
 have Cg:=rrV C15 R hb
 have Ch:=rrV C16 R hb
 have B4:=qqV C11 R hb
 have B5:=qqV C15 R hb
 have B6:=qqV C16 R hb
 refine wp_free1 8 1 (fun i=>if i=8 then Obj.cells #[Value.string ⟨#[]⟩,Value.string ⟨#[]⟩,Value.string ⟨#[]⟩] 24 else Obj.cells #[] 0) (fun i=>if i=8 then Obj.cells #[Value.string v0,Value.string v1,Value.string v2] 24 else Obj.cells #[] 0) (some 12) (by first | assumption | kernel_rfl) (by kernel_rfl) ?lay rfl ?_
 case lay =>
   intro i h1 h2
   obtain rfl:i=8:=by omega
   all_goals exact ⟨_,rfl,rfl,fun a w=>(by first | (go_simp;done) | (go_simp;rfl))⟩
 simp only [List.take_succ_cons,List.take_zero]
 repeat (refine wpB_step (fun K hK=>?_);go_simp;first | (refine hK _ ?_;clear hK K) | (apply Exists.intro;refine ⟨fun _=>?_,hK _ ?_⟩;(first | (with_reducible exact B4.out _ _) | (with_reducible exact B5.out _ _) | (with_reducible exact B6.out _ _));clear hK K))
 refine wpB_nil ?_
 intro Av
 refine ⟨?_,?_⟩
 · refine ⟨_,rfl,rfl,rfl,fun cs b h=>(by cases h),fun w hw=>?_⟩
   replace hw:w.heap[Av]? = some (Obj.cells #[Value.string ⟨#[]⟩,Value.string ⟨#[]⟩,Value.string ⟨#[]⟩] 24):=hw
   have z0:w.cell? ⟨Av,0,none⟩=some (Value.string ⟨#[]⟩):=zA hw
   have y0:w.frozen? ⟨Av,0,none⟩=false:=zD hw
   have z1:w.cell? ⟨Av,1,none⟩=some (Value.string ⟨#[]⟩):=zA hw
   have y1:w.frozen? ⟨Av,1,none⟩=false:=zD hw
   have z2:w.cell? ⟨Av,2,none⟩=some (Value.string ⟨#[]⟩):=zA hw
   have y2:w.frozen? ⟨Av,2,none⟩=false:=zD hw
   refine ⟨_,?_,(Wrote.set (i:=2) (Wrote.set (i:=1) (Wrote.set (i:=0) (Wrote.refl hw) (Value.string v0)) (Value.string v1)) (Value.string v2))⟩
   go_simp
 refine ⟨_,(Value.int .i64 0),rfl,Or.inl ⟨rfl,fun p=>?_⟩,?_⟩
 · go_simp
   try exact ⟨rfl,rfl⟩
 intro w1 hk m0 Ac
 clear Ak Al Am An A0 A1 A2 A3 Ao Ap Aq Ar Ae Af Ag A4 A5 A6 Ah Ai Aj
 replace a0:=zB hk a0
 replace a1:=zB hk a1
 replace a2:=zB hk a2
 replace Aa:=zB hk Aa
 replace Ad:=zB hk Ad
 replace Ab:=zB hk Ab
 obtain ⟨Ak,Al,Am,An⟩:=ce4 a0
 obtain ⟨A0,A1,A2,A3⟩:=ce4 a1
 obtain ⟨Ao,Ap,Aq,Ar⟩:=ce4 a2
 obtain ⟨Ae,Af,Ag⟩:=ce3 Aa
 obtain ⟨A4,A5,A6⟩:=ce3 Ad
 obtain ⟨Ah,Ai,Aj⟩:=ce3 Ab
 replace hb:=hb.trans (hk.mono hb.size)
 clear hk
 replace Ac:w1.heap[Av]? = some (Obj.cells #[Value.string v0,Value.string v1,Value.string v2] 24):=Ac
 have Ax:w1.cell? ⟨Av,0,none⟩=some (Value.string v0):=zA Ac
 have Ay:w1.cell? ⟨Av,1,none⟩=some (Value.string v1):=zA Ac
 have Az:w1.cell? ⟨Av,2,none⟩=some (Value.string v2):=zA Ac
 clear B4 B5 B6 Cf Cg Ch A7 A8 A9 Ba Bo Bp Bq Br Bb Bc Bd Be Bf Bg Bh Bs Bt Bu Bi Bj Bk m0
 go_upto_region 6 with fail
 clear A0 A1 A2 A3 a1
 obtain ⟨A7,A8,A9,Ba⟩:=cy4 a0
 obtain ⟨Bb,Bc,Bd,Be⟩:=cy4 a2
 obtain ⟨Bf,Bg,Bh⟩:=cy3 Aa
 obtain ⟨Bs,Bt,Bu⟩:=cy3 Ad
 obtain ⟨Bi,Bj,Bk⟩:=cy3 Ab
 obtain ⟨Bv,Bw,Bx⟩:=cy3 Ac
 have B7:=rrV C11 R hb
 have B8:=rrV C12 R hb
 have B9:=rrV C19 R hb
 refine wp_region_quiet_below (by first | assumption | kernel_rfl) (by kernel_rfl) ?_
 repeat (quiet_step (first | (with_reducible exact B7.out _ _) | (with_reducible exact B8.out _ _) | (with_reducible exact B9.out _ _)))
 refine wpQuiet_nil ?_
 intro w1 hw'
 obtain ⟨hk,hb⟩:=zQ hb hw'
 clear Ak Al Am An Ao Ap Aq Ar Ae Af Ag A4 A5 A6 Ah Ai Aj Ax Ay Az
 replace a0:=zB hk a0
 replace a2:=zB hk a2
 replace Aa:=zB hk Aa
 replace Ad:=zB hk Ad
 replace Ab:=zB hk Ab
 replace Ac:=zB hk Ac
 obtain ⟨Ak,Al,Am,An⟩:=ce4 a0
 obtain ⟨Ao,Ap,Aq,Ar⟩:=ce4 a2
 obtain ⟨Ae,Af,Ag⟩:=ce3 Aa
 obtain ⟨A4,A5,A6⟩:=ce3 Ad
 obtain ⟨Ah,Ai,Aj⟩:=ce3 Ab
 obtain ⟨Ax,Ay,Az⟩:=ce3 Ac
 clear B7 B8 B9 A7 A8 A9 Ba Bb Bc Bd Be Bf Bg Bh Bs Bt Bu Bi Bj Bk Bv Bw Bx
 clear hk hw'
 go_upto_region 10 with ((first | (go_at_call 35;with_reducible refine (chVB hb R C20).mono ?_) | (go_at_call 37;with_reducible refine (chVB hb R C21).mono ?_));clear hb;rintro e w1 ⟨rfl,hk,hb⟩;clear Ae Af Ag A4 A5 A6 Ah Ai Aj Ax Ay Az;replace Aa:=zB hk Aa;replace Ad:=zB hk Ad;replace Ab:=zB hk Ab;replace Ac:=zB hk Ac;obtain ⟨Ae,Af,Ag⟩:=ce3 Aa;obtain ⟨A4,A5,A6⟩:=ce3 Ad;obtain ⟨Ah,Ai,Aj⟩:=ce3 Ab;obtain ⟨Ax,Ay,Az⟩:=ce3 Ac;clear hk)
 clear Ak Al Am An a0 Ao Ap Aq Ar a2 A4 A5 A6 Ad
 refine wp_alloc1 (fun w1 Aw hk=>?_)
 clear Ae Af Ag Ah Ai Aj Ax Ay Az
 replace Aa:=zB hk Aa
 replace Ab:=zB hk Ab
 replace Ac:=zB hk Ac
 obtain ⟨Ae,Af,Ag⟩:=ce3 Aa
 obtain ⟨Ah,Ai,Aj⟩:=ce3 Ab
 obtain ⟨Ax,Ay,Az⟩:=ce3 Ac
 replace hb:=hb.trans (hk.mono hb.size)
 clear hk
 obtain ⟨Bl,Bm,Bn⟩:=ce3 Aw
 go_upto_region 13 with (go_at_call 28;with_reducible refine (chVB hb R C22).mono ?_;clear hb;rintro e w1 ⟨rfl,hk,hb⟩;clear Bl Bm Bn Ae Af Ag Ah Ai Aj Ax Ay Az;replace Aw:=zB hk Aw;replace Aa:=zB hk Aa;replace Ab:=zB hk Ab;replace Ac:=zB hk Ac;obtain ⟨Bl,Bm,Bn⟩:=ce3 Aw;obtain ⟨Ae,Af,Ag⟩:=ce3 Aa;obtain ⟨Ah,Ai,Aj⟩:=ce3 Ab;obtain ⟨Ax,Ay,Az⟩:=ce3 Ac;clear hk)
 obtain ⟨Ci,Cj,Ck⟩:=cy3 Aw
 obtain ⟨Bf,Bg,Bh⟩:=cy3 Aa
 obtain ⟨Bi,Bj,Bk⟩:=cy3 Ab
 obtain ⟨Bv,Bw,Bx⟩:=cy3 Ac
 have Ca:=rrV C23 R hb
 have Cb:=rrV C24 R hb
 refine wp_region_quiet_below (by first | assumption | kernel_rfl) (by kernel_rfl) ?_
 repeat (quiet_step (first | (with_reducible exact Ca.out _ _) | (with_reducible exact Cb.out _ _)))
 refine wpQuiet_nil ?_
 intro w1 hw'
 obtain ⟨hk,hb⟩:=zQ hb hw'
 clear Bl Bm Bn Ae Af Ag Ah Ai Aj Ax Ay Az
 replace Aw:=zB hk Aw
 replace Aa:=zB hk Aa
 replace Ab:=zB hk Ab
 replace Ac:=zB hk Ac
 obtain ⟨Bl,Bm,Bn⟩:=ce3 Aw
 obtain ⟨Ae,Af,Ag⟩:=ce3 Aa
 obtain ⟨Ah,Ai,Aj⟩:=ce3 Ab
 obtain ⟨Ax,Ay,Az⟩:=ce3 Ac
 clear Ca Cb Ci Cj Ck Bf Bg Bh Bi Bj Bk Bv Bw Bx
 clear hk hw'
 go_wp2_with (go_at_call 35;with_reducible refine (chVB hb R C20).mono ?_;clear hb;rintro e w1 ⟨rfl,hk,hb⟩;clear Bl Bm Bn Ae Af Ag Ah Ai Aj;replace Aw:=zB hk Aw;replace Aa:=zB hk Aa;replace Ab:=zB hk Ab;obtain ⟨Bl,Bm,Bn⟩:=ce3 Aw;obtain ⟨Ae,Af,Ag⟩:=ce3 Aa;obtain ⟨Ah,Ai,Aj⟩:=ce3 Ab;clear hk)
 first | go_ret | go_ret2 | go_ret3
 exact ⟨rfl,hb⟩
theorem lplanes_nm1  (i0 i1 i2 j0 j1 j2 k0 k1 k2 X0 X1 X2 Y0 Y1 Y2 P0 P1 P2 K0 K1 K2 W0 W1 W2:Int) (d e f D:Int) (s0 s1 s2 t0 t1 t2 u0 u1 u2 v0 v1 v2:ByteArray) (ck:CV 12 #[] (.bool true)) (cX:CV 29 #[.agg #[.int .i8 i0,.int .i8 i1,.int .i8 i2,.int .u8 d]] (.agg #[.int .i64 X0,.int .i64 X1,.int .i64 X2])) (zX:CV 28 #[.agg #[.int .i64 X0,.int .i64 X1,.int .i64 X2]] (.bool false)) (cY:CV 29 #[.agg #[.int .i8 j0,.int .i8 j1,.int .i8 j2,.int .u8 e]] (.agg #[.int .i64 Y0,.int .i64 Y1,.int .i64 Y2])) (zY:CV 28 #[.agg #[.int .i64 Y0,.int .i64 Y1,.int .i64 Y2]] (.bool false)) (cP:CV 29 #[.agg #[.int .i8 k0,.int .i8 k1,.int .i8 k2,.int .u8 f]] (.agg #[.int .i64 P0,.int .i64 P1,.int .i64 P2])) (zP:CV 28 #[.agg #[.int .i64 P0,.int .i64 P1,.int .i64 P2]] (.bool false)) (ma:CV 30 #[.agg #[.int .i8 i0,.int .i8 i1,.int .i8 i2,.int .u8 d]] (.agg #[.string s0,.string s1,.string s2])) (mb:CV 30 #[.agg #[.int .i8 j0,.int .i8 j1,.int .i8 j2,.int .u8 e]] (.agg #[.string t0,.string t1,.string t2])) (ml:CV 30 #[.agg #[.int .i8 k0,.int .i8 k1,.int .i8 k2,.int .u8 f]] (.agg #[.string u0,.string u1,.string u2])) (hli:CV 21 #[.agg #[.string s0,.string s1,.string s2],.agg #[.string u0,.string u1,.string u2]] (.tuple #[.bool false,.int .i64 0])) (hin:CV 22 #[.agg #[.string s0,.string s1,.string s2],.agg #[.string t0,.string t1,.string t2]] (.tuple #[.agg #[.string v0,.string v1,.string v2],.int .i64 0])) (hpi:CV 23 #[.agg #[.string s0,.string s1,.string s2],.agg #[.string u0,.string u1,.string u2]] (.tuple #[.string ⟨#[]⟩,.int .i64 7])) (hdo:CV 35 #[.agg #[.int .i64 X0,.int .i64 X1,.int .i64 X2],.agg #[.int .i64 P0,.int .i64 P1,.int .i64 P2]] (.int .i64 D)) (hcr:CV 37 #[.agg #[.int .i64 X0,.int .i64 X1,.int .i64 X2],.agg #[.int .i64 Y0,.int .i64 Y1,.int .i64 Y2]] (.agg #[.int .i64 K0,.int .i64 K1,.int .i64 K2])) (hz:CV 28 #[.agg #[.int .i64 K0,.int .i64 K1,.int .i64 K2]] (.bool false)) (hdn:CV 32 #[.agg #[.int .i64 K0,.int .i64 K1,.int .i64 K2]] (.agg #[.int .i64 W0,.int .i64 W1,.int .i64 W2])) (hof:CV 31 #[.agg #[.int .i64 W0,.int .i64 W1,.int .i64 W2]] (.agg #[.string v0,.string v1,.string v2])) (WC0:(D == 0)=false) (WC1:(X0 == 0)=true) (WC2:(X1 == 0)=false) (w:World) (R:EnvV w) :
   Calls Tryz.prog 8 #[.agg #[.int .i8 i0,.int .i8 i1,.int .i8 i2,.int .u8 d],.agg #[.int .i8 j0,.int .i8 j1,.int .i8 j2,.int .u8 e],.agg #[.int .i8 k0,.int .i8 k1,.int .i8 k2,.int .u8 f]] w (Ret w (.bool true)):=by
 have c1:=ck
 have c2:=cX
 have c3:=zX
 have c4:=cY
 have c5:=zY
 have c6:=cP
 have c7:=zP
 have c11:=ma
 have c12:=ml
 have c13:=hli
 have c15:=mb
 have c16:=hin
 have c19:=hpi
 have c20:=hdo
 have c21:=hcr
 have c22:=hz
 have c23:=hdn
 have c24:=hof
 have gc0:(D == 0)=false:=WC0
 have gc1:(X0 == 0)=true:=WC1
 have gc2:(X1 == 0)=false:=WC2
 have C1:=Lib.hid c1
 have C2:=Lib.hid c2
 have C3:=Lib.hid c3
 have C4:=Lib.hid c4
 have C5:=Lib.hid c5
 have C6:=Lib.hid c6
 have C7:=Lib.hid c7
 have C11:=Lib.hid c11
 have C12:=Lib.hid c12
 have C13:=Lib.hid c13
 have C15:=Lib.hid c15
 have C16:=Lib.hid c16
 have C19:=Lib.hid c19
 have C20:=Lib.hid c20
 have C21:=Lib.hid c21
 have C22:=Lib.hid c22
 have C23:=Lib.hid c23
 have C24:=Lib.hid c24
 clear c1 c2 c3 c4 c5 c6 c7 c11 c12 c13 c15 c16 c19 c20 c21 c22 c23 c24 ck cX zX cY zY cP zP ma mb ml hli hin hpi hdo hcr hz hdn hof WC0 WC1 WC2
 have hb:=Below.refl w.heap.size w
 go_enter Tryz.func8,Tryz.ntmps8
 go_upto_region 1 with fail
 refine wp_alloc3 (fun w1 a0 a1 a2 hk=>?_)
 replace hb:=hb.trans (hk.mono hb.size)
 clear hk
 obtain ⟨Ak,Al,Am,An⟩:=ce4 a0
 obtain ⟨A0,A1,A2,A3⟩:=ce4 a1
 obtain ⟨Ao,Ap,Aq,Ar⟩:=ce4 a2
 go_upto_region 3 with ((first | (go_at_call 12;with_reducible refine (chVB hb R C1).mono ?_) | (go_at_call 29;first | with_reducible refine (chVB hb R C2).mono ?_ | with_reducible refine (chVB hb R C4).mono ?_ | with_reducible refine (chVB hb R C6).mono ?_) | (go_at_call 28;first | with_reducible refine (chVB hb R C3).mono ?_ | with_reducible refine (chVB hb R C5).mono ?_ | with_reducible refine (chVB hb R C7).mono ?_));clear hb;rintro e w1 ⟨rfl,hk,hb⟩;clear Ak Al Am An A0 A1 A2 A3 Ao Ap Aq Ar;replace a0:=zB hk a0;replace a1:=zB hk a1;replace a2:=zB hk a2;obtain ⟨Ak,Al,Am,An⟩:=ce4 a0;obtain ⟨A0,A1,A2,A3⟩:=ce4 a1;obtain ⟨Ao,Ap,Aq,Ar⟩:=ce4 a2;clear hk)
 obtain ⟨A7,A8,A9,Ba⟩:=cy4 a0
 obtain ⟨Bo,Bp,Bq,Br⟩:=cy4 a1
 obtain ⟨Bb,Bc,Bd,Be⟩:=cy4 a2
 have Cc:=rrV C2 R hb
 have Cd:=rrV C4 R hb
 have Ce:=rrV C6 R hb
 have By:=qqV C2 R hb
 have Bz:=qqV C4 R hb
 have B0:=qqV C6 R hb
 refine wp_free3 6 0 (fun i=>if i=6 then Obj.cells #[Value.int .i64 0,Value.int .i64 0,Value.int .i64 0] 48 else if i=7 then Obj.cells #[Value.int .i64 0,Value.int .i64 0,Value.int .i64 0] 48 else if i=8 then Obj.cells #[Value.int .i64 0,Value.int .i64 0,Value.int .i64 0] 48 else Obj.cells #[] 0) (fun i=>if i=6 then Obj.cells #[Value.int .i64 X0,Value.int .i64 X1,Value.int .i64 X2] 48 else if i=7 then Obj.cells #[Value.int .i64 Y0,Value.int .i64 Y1,Value.int .i64 Y2] 48 else if i=8 then Obj.cells #[Value.int .i64 P0,Value.int .i64 P1,Value.int .i64 P2] 48 else Obj.cells #[] 0) (some 7) (some 8) (some 9) (by first | assumption | kernel_rfl) (by kernel_rfl) ?lay rfl rfl rfl ?_
 case lay =>
   intro i h1 h2
   obtain rfl | rfl | rfl:i=6∨i=7∨i=8:=by omega
   all_goals exact ⟨_,rfl,rfl,fun a w=>(by first | (go_simp;done) | (go_simp;rfl))⟩
 simp only [List.take_succ_cons,List.take_zero]
 repeat (refine wpB_step (fun K hK=>?_);go_simp;first | (refine hK _ ?_;clear hK K) | (apply Exists.intro;refine ⟨fun _=>?_,hK _ ?_⟩;(first | (with_reducible exact By.out _ _) | (with_reducible exact Bz.out _ _) | (with_reducible exact B0.out _ _));clear hK K))
 refine wpB_nil ?_
 intro As At Au
 refine ⟨?_,?_,?_,?_⟩
 · refine ⟨_,rfl,rfl,rfl,fun cs b h=>(by cases h),fun w hw=>?_⟩
   replace hw:w.heap[As]? = some (Obj.cells #[Value.int .i64 0,Value.int .i64 0,Value.int .i64 0] 48):=hw
   have z0:w.cell? ⟨As,0,none⟩=some (Value.int .i64 0):=zA hw
   have y0:w.frozen? ⟨As,0,none⟩=false:=zD hw
   have z1:w.cell? ⟨As,1,none⟩=some (Value.int .i64 0):=zA hw
   have y1:w.frozen? ⟨As,1,none⟩=false:=zD hw
   have z2:w.cell? ⟨As,2,none⟩=some (Value.int .i64 0):=zA hw
   have y2:w.frozen? ⟨As,2,none⟩=false:=zD hw
   refine ⟨_,?_,(Wrote.set (i:=2) (Wrote.set (i:=1) (Wrote.set (i:=0) (Wrote.refl hw) (Value.int .i64 X0)) (Value.int .i64 X1)) (Value.int .i64 X2))⟩
   go_simp
 · refine ⟨_,rfl,rfl,rfl,fun cs b h=>(by cases h),fun w hw=>?_⟩
   replace hw:w.heap[At]? = some (Obj.cells #[Value.int .i64 0,Value.int .i64 0,Value.int .i64 0] 48):=hw
   have z0:w.cell? ⟨At,0,none⟩=some (Value.int .i64 0):=zA hw
   have y0:w.frozen? ⟨At,0,none⟩=false:=zD hw
   have z1:w.cell? ⟨At,1,none⟩=some (Value.int .i64 0):=zA hw
   have y1:w.frozen? ⟨At,1,none⟩=false:=zD hw
   have z2:w.cell? ⟨At,2,none⟩=some (Value.int .i64 0):=zA hw
   have y2:w.frozen? ⟨At,2,none⟩=false:=zD hw
   refine ⟨_,?_,(Wrote.set (i:=2) (Wrote.set (i:=1) (Wrote.set (i:=0) (Wrote.refl hw) (Value.int .i64 Y0)) (Value.int .i64 Y1)) (Value.int .i64 Y2))⟩
   go_simp
 · refine ⟨_,rfl,rfl,rfl,fun cs b h=>(by cases h),fun w hw=>?_⟩
   replace hw:w.heap[Au]? = some (Obj.cells #[Value.int .i64 0,Value.int .i64 0,Value.int .i64 0] 48):=hw
   have z0:w.cell? ⟨Au,0,none⟩=some (Value.int .i64 0):=zA hw
   have y0:w.frozen? ⟨Au,0,none⟩=false:=zD hw
   have z1:w.cell? ⟨Au,1,none⟩=some (Value.int .i64 0):=zA hw
   have y1:w.frozen? ⟨Au,1,none⟩=false:=zD hw
   have z2:w.cell? ⟨Au,2,none⟩=some (Value.int .i64 0):=zA hw
   have y2:w.frozen? ⟨Au,2,none⟩=false:=zD hw
   refine ⟨_,?_,(Wrote.set (i:=2) (Wrote.set (i:=1) (Wrote.set (i:=0) (Wrote.refl hw) (Value.int .i64 P0)) (Value.int .i64 P1)) (Value.int .i64 P2))⟩
   go_simp
 intro w1 hk m0 m1 m2 Aa Ad Ab _ _ _
 clear Ak Al Am An A0 A1 A2 A3 Ao Ap Aq Ar
 replace a0:=zB hk a0
 replace a1:=zB hk a1
 replace a2:=zB hk a2
 obtain ⟨Ak,Al,Am,An⟩:=ce4 a0
 obtain ⟨A0,A1,A2,A3⟩:=ce4 a1
 obtain ⟨Ao,Ap,Aq,Ar⟩:=ce4 a2
 replace hb:=hb.trans (hk.mono hb.size)
 clear hk
 replace Aa:w1.heap[As]? = some (Obj.cells #[Value.int .i64 X0,Value.int .i64 X1,Value.int .i64 X2] 48):=Aa
 have Ae:w1.cell? ⟨As,0,none⟩=some (Value.int .i64 X0):=zA Aa
 have Af:w1.cell? ⟨As,1,none⟩=some (Value.int .i64 X1):=zA Aa
 have Ag:w1.cell? ⟨As,2,none⟩=some (Value.int .i64 X2):=zA Aa
 replace Ad:w1.heap[At]? = some (Obj.cells #[Value.int .i64 Y0,Value.int .i64 Y1,Value.int .i64 Y2] 48):=Ad
 have A4:w1.cell? ⟨At,0,none⟩=some (Value.int .i64 Y0):=zA Ad
 have A5:w1.cell? ⟨At,1,none⟩=some (Value.int .i64 Y1):=zA Ad
 have A6:w1.cell? ⟨At,2,none⟩=some (Value.int .i64 Y2):=zA Ad
 replace Ab:w1.heap[Au]? = some (Obj.cells #[Value.int .i64 P0,Value.int .i64 P1,Value.int .i64 P2] 48):=Ab
 have Ah:w1.cell? ⟨Au,0,none⟩=some (Value.int .i64 P0):=zA Ab
 have Ai:w1.cell? ⟨Au,1,none⟩=some (Value.int .i64 P1):=zA Ab
 have Aj:w1.cell? ⟨Au,2,none⟩=some (Value.int .i64 P2):=zA Ab
 clear By Bz B0 Cc Cd Ce A7 A8 A9 Ba Bo Bp Bq Br Bb Bc Bd Be m0 m1 m2
 go_upto_region 4 with fail
 obtain ⟨A7,A8,A9,Ba⟩:=cy4 a0
 obtain ⟨Bo,Bp,Bq,Br⟩:=cy4 a1
 obtain ⟨Bb,Bc,Bd,Be⟩:=cy4 a2
 obtain ⟨Bf,Bg,Bh⟩:=cy3 Aa
 obtain ⟨Bs,Bt,Bu⟩:=cy3 Ad
 obtain ⟨Bi,Bj,Bk⟩:=cy3 Ab
 have B1:=rrV C11 R hb
 have B2:=rrV C12 R hb
 have B3:=rrV C13 R hb
 refine wp_region_quiet_below (by first | assumption | kernel_rfl) (by kernel_rfl) ?_
 repeat (quiet_step (first | (with_reducible exact B1.out _ _) | (with_reducible exact B2.out _ _) | (with_reducible exact B3.out _ _)))
 refine wpQuiet_nil ?_
 intro w1 hw'
 obtain ⟨hk,hb⟩:=zQ hb hw'
 clear Ak Al Am An A0 A1 A2 A3 Ao Ap Aq Ar Ae Af Ag A4 A5 A6 Ah Ai Aj
 replace a0:=zB hk a0
 replace a1:=zB hk a1
 replace a2:=zB hk a2
 replace Aa:=zB hk Aa
 replace Ad:=zB hk Ad
 replace Ab:=zB hk Ab
 obtain ⟨Ak,Al,Am,An⟩:=ce4 a0
 obtain ⟨A0,A1,A2,A3⟩:=ce4 a1
 obtain ⟨Ao,Ap,Aq,Ar⟩:=ce4 a2
 obtain ⟨Ae,Af,Ag⟩:=ce3 Aa
 obtain ⟨A4,A5,A6⟩:=ce3 Ad
 obtain ⟨Ah,Ai,Aj⟩:=ce3 Ab
 clear B1 B2 B3 A7 A8 A9 Ba Bo Bp Bq Br Bb Bc Bd Be Bf Bg Bh Bs Bt Bu Bi Bj Bk
 clear hk hw'
 go_upto_region 5 with fail
 obtain ⟨A7,A8,A9,Ba⟩:=cy4 a0
 obtain ⟨Bo,Bp,Bq,Br⟩:=cy4 a1
 obtain ⟨Bb,Bc,Bd,Be⟩:=cy4 a2
 obtain ⟨Bf,Bg,Bh⟩:=cy3 Aa
 obtain ⟨Bs,Bt,Bu⟩:=cy3 Ad
 obtain ⟨Bi,Bj,Bk⟩:=cy3 Ab
 have Cf:=rrV C11 R hb
 have Cg:=rrV C15 R hb
 have Ch:=rrV C16 R hb
 have B4:=qqV C11 R hb
 have B5:=qqV C15 R hb
 have B6:=qqV C16 R hb
 refine wp_free1 8 1 (fun i=>if i=8 then Obj.cells #[Value.string ⟨#[]⟩,Value.string ⟨#[]⟩,Value.string ⟨#[]⟩] 24 else Obj.cells #[] 0) (fun i=>if i=8 then Obj.cells #[Value.string v0,Value.string v1,Value.string v2] 24 else Obj.cells #[] 0) (some 12) (by first | assumption | kernel_rfl) (by kernel_rfl) ?lay rfl ?_
 case lay =>
   intro i h1 h2
   obtain rfl:i=8:=by omega
   all_goals exact ⟨_,rfl,rfl,fun a w=>(by first | (go_simp;done) | (go_simp;rfl))⟩
 simp only [List.take_succ_cons,List.take_zero]
 repeat (refine wpB_step (fun K hK=>?_);go_simp;first | (refine hK _ ?_;clear hK K) | (apply Exists.intro;refine ⟨fun _=>?_,hK _ ?_⟩;(first | (with_reducible exact B4.out _ _) | (with_reducible exact B5.out _ _) | (with_reducible exact B6.out _ _));clear hK K))
 refine wpB_nil ?_
 intro Av
 refine ⟨?_,?_⟩
 · refine ⟨_,rfl,rfl,rfl,fun cs b h=>(by cases h),fun w hw=>?_⟩
   replace hw:w.heap[Av]? = some (Obj.cells #[Value.string ⟨#[]⟩,Value.string ⟨#[]⟩,Value.string ⟨#[]⟩] 24):=hw
   have z0:w.cell? ⟨Av,0,none⟩=some (Value.string ⟨#[]⟩):=zA hw
   have y0:w.frozen? ⟨Av,0,none⟩=false:=zD hw
   have z1:w.cell? ⟨Av,1,none⟩=some (Value.string ⟨#[]⟩):=zA hw
   have y1:w.frozen? ⟨Av,1,none⟩=false:=zD hw
   have z2:w.cell? ⟨Av,2,none⟩=some (Value.string ⟨#[]⟩):=zA hw
   have y2:w.frozen? ⟨Av,2,none⟩=false:=zD hw
   refine ⟨_,?_,(Wrote.set (i:=2) (Wrote.set (i:=1) (Wrote.set (i:=0) (Wrote.refl hw) (Value.string v0)) (Value.string v1)) (Value.string v2))⟩
   go_simp
 refine ⟨_,(Value.int .i64 0),rfl,Or.inl ⟨rfl,fun p=>?_⟩,?_⟩
 · go_simp
   try exact ⟨rfl,rfl⟩
 intro w1 hk m0 Ac
 clear Ak Al Am An A0 A1 A2 A3 Ao Ap Aq Ar Ae Af Ag A4 A5 A6 Ah Ai Aj
 replace a0:=zB hk a0
 replace a1:=zB hk a1
 replace a2:=zB hk a2
 replace Aa:=zB hk Aa
 replace Ad:=zB hk Ad
 replace Ab:=zB hk Ab
 obtain ⟨Ak,Al,Am,An⟩:=ce4 a0
 obtain ⟨A0,A1,A2,A3⟩:=ce4 a1
 obtain ⟨Ao,Ap,Aq,Ar⟩:=ce4 a2
 obtain ⟨Ae,Af,Ag⟩:=ce3 Aa
 obtain ⟨A4,A5,A6⟩:=ce3 Ad
 obtain ⟨Ah,Ai,Aj⟩:=ce3 Ab
 replace hb:=hb.trans (hk.mono hb.size)
 clear hk
 replace Ac:w1.heap[Av]? = some (Obj.cells #[Value.string v0,Value.string v1,Value.string v2] 24):=Ac
 have Ax:w1.cell? ⟨Av,0,none⟩=some (Value.string v0):=zA Ac
 have Ay:w1.cell? ⟨Av,1,none⟩=some (Value.string v1):=zA Ac
 have Az:w1.cell? ⟨Av,2,none⟩=some (Value.string v2):=zA Ac
 clear B4 B5 B6 Cf Cg Ch A7 A8 A9 Ba Bo Bp Bq Br Bb Bc Bd Be Bf Bg Bh Bs Bt Bu Bi Bj Bk m0
 go_upto_region 6 with fail
 clear A0 A1 A2 A3 a1
 obtain ⟨A7,A8,A9,Ba⟩:=cy4 a0
 obtain ⟨Bb,Bc,Bd,Be⟩:=cy4 a2
 obtain ⟨Bf,Bg,Bh⟩:=cy3 Aa
 obtain ⟨Bs,Bt,Bu⟩:=cy3 Ad
 obtain ⟨Bi,Bj,Bk⟩:=cy3 Ab
 obtain ⟨Bv,Bw,Bx⟩:=cy3 Ac
 have B7:=rrV C11 R hb
 have B8:=rrV C12 R hb
 have B9:=rrV C19 R hb
 refine wp_region_quiet_below (by first | assumption | kernel_rfl) (by kernel_rfl) ?_
 repeat (quiet_step (first | (with_reducible exact B7.out _ _) | (with_reducible exact B8.out _ _) | (with_reducible exact B9.out _ _)))
 refine wpQuiet_nil ?_
 intro w1 hw'
 obtain ⟨hk,hb⟩:=zQ hb hw'
 clear Ak Al Am An Ao Ap Aq Ar Ae Af Ag A4 A5 A6 Ah Ai Aj Ax Ay Az
 replace a0:=zB hk a0
 replace a2:=zB hk a2
 replace Aa:=zB hk Aa
 replace Ad:=zB hk Ad
 replace Ab:=zB hk Ab
 replace Ac:=zB hk Ac
 obtain ⟨Ak,Al,Am,An⟩:=ce4 a0
 obtain ⟨Ao,Ap,Aq,Ar⟩:=ce4 a2
 obtain ⟨Ae,Af,Ag⟩:=ce3 Aa
 obtain ⟨A4,A5,A6⟩:=ce3 Ad
 obtain ⟨Ah,Ai,Aj⟩:=ce3 Ab
 obtain ⟨Ax,Ay,Az⟩:=ce3 Ac
 clear B7 B8 B9 A7 A8 A9 Ba Bb Bc Bd Be Bf Bg Bh Bs Bt Bu Bi Bj Bk Bv Bw Bx
 clear hk hw'
 go_upto_region 10 with ((first | (go_at_call 35;with_reducible refine (chVB hb R C20).mono ?_) | (go_at_call 37;with_reducible refine (chVB hb R C21).mono ?_));clear hb;rintro e w1 ⟨rfl,hk,hb⟩;clear Ae Af Ag A4 A5 A6 Ah Ai Aj Ax Ay Az;replace Aa:=zB hk Aa;replace Ad:=zB hk Ad;replace Ab:=zB hk Ab;replace Ac:=zB hk Ac;obtain ⟨Ae,Af,Ag⟩:=ce3 Aa;obtain ⟨A4,A5,A6⟩:=ce3 Ad;obtain ⟨Ah,Ai,Aj⟩:=ce3 Ab;obtain ⟨Ax,Ay,Az⟩:=ce3 Ac;clear hk)
 clear Ak Al Am An a0 Ao Ap Aq Ar a2 A4 A5 A6 Ad
 refine wp_alloc1 (fun w1 Aw hk=>?_)
 clear Ae Af Ag Ah Ai Aj Ax Ay Az
 replace Aa:=zB hk Aa
 replace Ab:=zB hk Ab
 replace Ac:=zB hk Ac
 obtain ⟨Ae,Af,Ag⟩:=ce3 Aa
 obtain ⟨Ah,Ai,Aj⟩:=ce3 Ab
 obtain ⟨Ax,Ay,Az⟩:=ce3 Ac
 replace hb:=hb.trans (hk.mono hb.size)
 clear hk
 obtain ⟨Bl,Bm,Bn⟩:=ce3 Aw
 go_upto_region 13 with (go_at_call 28;with_reducible refine (chVB hb R C22).mono ?_;clear hb;rintro e w1 ⟨rfl,hk,hb⟩;clear Bl Bm Bn Ae Af Ag Ah Ai Aj Ax Ay Az;replace Aw:=zB hk Aw;replace Aa:=zB hk Aa;replace Ab:=zB hk Ab;replace Ac:=zB hk Ac;obtain ⟨Bl,Bm,Bn⟩:=ce3 Aw;obtain ⟨Ae,Af,Ag⟩:=ce3 Aa;obtain ⟨Ah,Ai,Aj⟩:=ce3 Ab;obtain ⟨Ax,Ay,Az⟩:=ce3 Ac;clear hk)
 obtain ⟨Ci,Cj,Ck⟩:=cy3 Aw
 obtain ⟨Bf,Bg,Bh⟩:=cy3 Aa
 obtain ⟨Bi,Bj,Bk⟩:=cy3 Ab
 obtain ⟨Bv,Bw,Bx⟩:=cy3 Ac
 have Ca:=rrV C23 R hb
 have Cb:=rrV C24 R hb
 refine wp_region_quiet_below (by first | assumption | kernel_rfl) (by kernel_rfl) ?_
 repeat (quiet_step (first | (with_reducible exact Ca.out _ _) | (with_reducible exact Cb.out _ _)))
 refine wpQuiet_nil ?_
 intro w1 hw'
 obtain ⟨hk,hb⟩:=zQ hb hw'
 clear Bl Bm Bn Ae Af Ag Ah Ai Aj Ax Ay Az
 replace Aw:=zB hk Aw
 replace Aa:=zB hk Aa
 replace Ab:=zB hk Ab
 replace Ac:=zB hk Ac
 obtain ⟨Bl,Bm,Bn⟩:=ce3 Aw
 obtain ⟨Ae,Af,Ag⟩:=ce3 Aa
 obtain ⟨Ah,Ai,Aj⟩:=ce3 Ab
 obtain ⟨Ax,Ay,Az⟩:=ce3 Ac
 clear Ca Cb Ci Cj Ck Bf Bg Bh Bi Bj Bk Bv Bw Bx
 clear hk hw'
 go_wp2_with (go_at_call 35;with_reducible refine (chVB hb R C20).mono ?_;clear hb;rintro e w1 ⟨rfl,hk,hb⟩;clear Bl Bm Bn Ae Af Ag Ah Ai Aj;replace Aw:=zB hk Aw;replace Aa:=zB hk Aa;replace Ab:=zB hk Ab;obtain ⟨Bl,Bm,Bn⟩:=ce3 Aw;obtain ⟨Ae,Af,Ag⟩:=ce3 Aa;obtain ⟨Ah,Ai,Aj⟩:=ce3 Ab;clear hk)
 first | go_ret | go_ret2 | go_ret3
 exact ⟨rfl,hb⟩
theorem lplanes_nm2  (i0 i1 i2 j0 j1 j2 k0 k1 k2 X0 X1 X2 Y0 Y1 Y2 P0 P1 P2 K0 K1 K2 W0 W1 W2:Int) (d e f D:Int) (s0 s1 s2 t0 t1 t2 u0 u1 u2 v0 v1 v2:ByteArray) (ck:CV 12 #[] (.bool true)) (cX:CV 29 #[.agg #[.int .i8 i0,.int .i8 i1,.int .i8 i2,.int .u8 d]] (.agg #[.int .i64 X0,.int .i64 X1,.int .i64 X2])) (zX:CV 28 #[.agg #[.int .i64 X0,.int .i64 X1,.int .i64 X2]] (.bool false)) (cY:CV 29 #[.agg #[.int .i8 j0,.int .i8 j1,.int .i8 j2,.int .u8 e]] (.agg #[.int .i64 Y0,.int .i64 Y1,.int .i64 Y2])) (zY:CV 28 #[.agg #[.int .i64 Y0,.int .i64 Y1,.int .i64 Y2]] (.bool false)) (cP:CV 29 #[.agg #[.int .i8 k0,.int .i8 k1,.int .i8 k2,.int .u8 f]] (.agg #[.int .i64 P0,.int .i64 P1,.int .i64 P2])) (zP:CV 28 #[.agg #[.int .i64 P0,.int .i64 P1,.int .i64 P2]] (.bool false)) (ma:CV 30 #[.agg #[.int .i8 i0,.int .i8 i1,.int .i8 i2,.int .u8 d]] (.agg #[.string s0,.string s1,.string s2])) (mb:CV 30 #[.agg #[.int .i8 j0,.int .i8 j1,.int .i8 j2,.int .u8 e]] (.agg #[.string t0,.string t1,.string t2])) (ml:CV 30 #[.agg #[.int .i8 k0,.int .i8 k1,.int .i8 k2,.int .u8 f]] (.agg #[.string u0,.string u1,.string u2])) (hli:CV 21 #[.agg #[.string s0,.string s1,.string s2],.agg #[.string u0,.string u1,.string u2]] (.tuple #[.bool false,.int .i64 0])) (hin:CV 22 #[.agg #[.string s0,.string s1,.string s2],.agg #[.string t0,.string t1,.string t2]] (.tuple #[.agg #[.string v0,.string v1,.string v2],.int .i64 0])) (hpi:CV 23 #[.agg #[.string s0,.string s1,.string s2],.agg #[.string u0,.string u1,.string u2]] (.tuple #[.string ⟨#[]⟩,.int .i64 19])) (hdo:CV 35 #[.agg #[.int .i64 X0,.int .i64 X1,.int .i64 X2],.agg #[.int .i64 P0,.int .i64 P1,.int .i64 P2]] (.int .i64 D)) (hcr:CV 37 #[.agg #[.int .i64 X0,.int .i64 X1,.int .i64 X2],.agg #[.int .i64 Y0,.int .i64 Y1,.int .i64 Y2]] (.agg #[.int .i64 K0,.int .i64 K1,.int .i64 K2])) (hz:CV 28 #[.agg #[.int .i64 K0,.int .i64 K1,.int .i64 K2]] (.bool false)) (hdn:CV 32 #[.agg #[.int .i64 K0,.int .i64 K1,.int .i64 K2]] (.agg #[.int .i64 W0,.int .i64 W1,.int .i64 W2])) (hof:CV 31 #[.agg #[.int .i64 W0,.int .i64 W1,.int .i64 W2]] (.agg #[.string v0,.string v1,.string v2])) (WC0:(D == 0)=false) (WC1:(X0 == 0)=true) (WC2:(X1 == 0)=true) (w:World) (R:EnvV w) :
   Calls Tryz.prog 8 #[.agg #[.int .i8 i0,.int .i8 i1,.int .i8 i2,.int .u8 d],.agg #[.int .i8 j0,.int .i8 j1,.int .i8 j2,.int .u8 e],.agg #[.int .i8 k0,.int .i8 k1,.int .i8 k2,.int .u8 f]] w (Ret w (.bool true)):=by
 have c1:=ck
 have c2:=cX
 have c3:=zX
 have c4:=cY
 have c5:=zY
 have c6:=cP
 have c7:=zP
 have c11:=ma
 have c12:=ml
 have c13:=hli
 have c15:=mb
 have c16:=hin
 have c19:=hpi
 have c20:=hdo
 have c21:=hcr
 have c22:=hz
 have c23:=hdn
 have c24:=hof
 have gc0:(D == 0)=false:=WC0
 have gc1:(X0 == 0)=true:=WC1
 have gc2:(X1 == 0)=true:=WC2
 have C1:=Lib.hid c1
 have C2:=Lib.hid c2
 have C3:=Lib.hid c3
 have C4:=Lib.hid c4
 have C5:=Lib.hid c5
 have C6:=Lib.hid c6
 have C7:=Lib.hid c7
 have C11:=Lib.hid c11
 have C12:=Lib.hid c12
 have C13:=Lib.hid c13
 have C15:=Lib.hid c15
 have C16:=Lib.hid c16
 have C19:=Lib.hid c19
 have C20:=Lib.hid c20
 have C21:=Lib.hid c21
 have C22:=Lib.hid c22
 have C23:=Lib.hid c23
 have C24:=Lib.hid c24
 clear c1 c2 c3 c4 c5 c6 c7 c11 c12 c13 c15 c16 c19 c20 c21 c22 c23 c24 ck cX zX cY zY cP zP ma mb ml hli hin hpi hdo hcr hz hdn hof WC0 WC1 WC2
 have hb:=Below.refl w.heap.size w
 go_enter Tryz.func8,Tryz.ntmps8
 go_upto_region 1 with fail
 refine wp_alloc3 (fun w1 a0 a1 a2 hk=>?_)
 replace hb:=hb.trans (hk.mono hb.size)
 clear hk
 obtain ⟨Ak,Al,Am,An⟩:=ce4 a0
 obtain ⟨Az,A0,A1,A2⟩:=ce4 a1
 obtain ⟨Ao,Ap,Aq,Ar⟩:=ce4 a2
 go_upto_region 3 with ((first | (go_at_call 12;with_reducible refine (chVB hb R C1).mono ?_) | (go_at_call 29;first | with_reducible refine (chVB hb R C2).mono ?_ | with_reducible refine (chVB hb R C4).mono ?_ | with_reducible refine (chVB hb R C6).mono ?_) | (go_at_call 28;first | with_reducible refine (chVB hb R C3).mono ?_ | with_reducible refine (chVB hb R C5).mono ?_ | with_reducible refine (chVB hb R C7).mono ?_));clear hb;rintro e w1 ⟨rfl,hk,hb⟩;clear Ak Al Am An Az A0 A1 A2 Ao Ap Aq Ar;replace a0:=zB hk a0;replace a1:=zB hk a1;replace a2:=zB hk a2;obtain ⟨Ak,Al,Am,An⟩:=ce4 a0;obtain ⟨Az,A0,A1,A2⟩:=ce4 a1;obtain ⟨Ao,Ap,Aq,Ar⟩:=ce4 a2;clear hk)
 obtain ⟨A7,A8,A9,Ba⟩:=cy4 a0
 obtain ⟨Bl,Bm,Bn,Bo⟩:=cy4 a1
 obtain ⟨Bb,Bc,Bd,Be⟩:=cy4 a2
 have Cc:=rrV C2 R hb
 have Cd:=rrV C4 R hb
 have Ce:=rrV C6 R hb
 have By:=qqV C2 R hb
 have Bz:=qqV C4 R hb
 have B0:=qqV C6 R hb
 refine wp_free3 6 0 (fun i=>if i=6 then Obj.cells #[Value.int .i64 0,Value.int .i64 0,Value.int .i64 0] 48 else if i=7 then Obj.cells #[Value.int .i64 0,Value.int .i64 0,Value.int .i64 0] 48 else if i=8 then Obj.cells #[Value.int .i64 0,Value.int .i64 0,Value.int .i64 0] 48 else Obj.cells #[] 0) (fun i=>if i=6 then Obj.cells #[Value.int .i64 X0,Value.int .i64 X1,Value.int .i64 X2] 48 else if i=7 then Obj.cells #[Value.int .i64 Y0,Value.int .i64 Y1,Value.int .i64 Y2] 48 else if i=8 then Obj.cells #[Value.int .i64 P0,Value.int .i64 P1,Value.int .i64 P2] 48 else Obj.cells #[] 0) (some 7) (some 8) (some 9) (by first | assumption | kernel_rfl) (by kernel_rfl) ?lay rfl rfl rfl ?_
 case lay =>
   intro i h1 h2
   obtain rfl | rfl | rfl:i=6∨i=7∨i=8:=by omega
   all_goals exact ⟨_,rfl,rfl,fun a w=>(by first | (go_simp;done) | (go_simp;rfl))⟩
 simp only [List.take_succ_cons,List.take_zero]
 repeat (refine wpB_step (fun K hK=>?_);go_simp;first | (refine hK _ ?_;clear hK K) | (apply Exists.intro;refine ⟨fun _=>?_,hK _ ?_⟩;(first | (with_reducible exact By.out _ _) | (with_reducible exact Bz.out _ _) | (with_reducible exact B0.out _ _));clear hK K))
 refine wpB_nil ?_
 intro As At Au
 refine ⟨?_,?_,?_,?_⟩
 · refine ⟨_,rfl,rfl,rfl,fun cs b h=>(by cases h),fun w hw=>?_⟩
   replace hw:w.heap[As]? = some (Obj.cells #[Value.int .i64 0,Value.int .i64 0,Value.int .i64 0] 48):=hw
   have z0:w.cell? ⟨As,0,none⟩=some (Value.int .i64 0):=zA hw
   have y0:w.frozen? ⟨As,0,none⟩=false:=zD hw
   have z1:w.cell? ⟨As,1,none⟩=some (Value.int .i64 0):=zA hw
   have y1:w.frozen? ⟨As,1,none⟩=false:=zD hw
   have z2:w.cell? ⟨As,2,none⟩=some (Value.int .i64 0):=zA hw
   have y2:w.frozen? ⟨As,2,none⟩=false:=zD hw
   refine ⟨_,?_,(Wrote.set (i:=2) (Wrote.set (i:=1) (Wrote.set (i:=0) (Wrote.refl hw) (Value.int .i64 X0)) (Value.int .i64 X1)) (Value.int .i64 X2))⟩
   go_simp
 · refine ⟨_,rfl,rfl,rfl,fun cs b h=>(by cases h),fun w hw=>?_⟩
   replace hw:w.heap[At]? = some (Obj.cells #[Value.int .i64 0,Value.int .i64 0,Value.int .i64 0] 48):=hw
   have z0:w.cell? ⟨At,0,none⟩=some (Value.int .i64 0):=zA hw
   have y0:w.frozen? ⟨At,0,none⟩=false:=zD hw
   have z1:w.cell? ⟨At,1,none⟩=some (Value.int .i64 0):=zA hw
   have y1:w.frozen? ⟨At,1,none⟩=false:=zD hw
   have z2:w.cell? ⟨At,2,none⟩=some (Value.int .i64 0):=zA hw
   have y2:w.frozen? ⟨At,2,none⟩=false:=zD hw
   refine ⟨_,?_,(Wrote.set (i:=2) (Wrote.set (i:=1) (Wrote.set (i:=0) (Wrote.refl hw) (Value.int .i64 Y0)) (Value.int .i64 Y1)) (Value.int .i64 Y2))⟩
   go_simp
 · refine ⟨_,rfl,rfl,rfl,fun cs b h=>(by cases h),fun w hw=>?_⟩
   replace hw:w.heap[Au]? = some (Obj.cells #[Value.int .i64 0,Value.int .i64 0,Value.int .i64 0] 48):=hw
   have z0:w.cell? ⟨Au,0,none⟩=some (Value.int .i64 0):=zA hw
   have y0:w.frozen? ⟨Au,0,none⟩=false:=zD hw
   have z1:w.cell? ⟨Au,1,none⟩=some (Value.int .i64 0):=zA hw
   have y1:w.frozen? ⟨Au,1,none⟩=false:=zD hw
   have z2:w.cell? ⟨Au,2,none⟩=some (Value.int .i64 0):=zA hw
   have y2:w.frozen? ⟨Au,2,none⟩=false:=zD hw
   refine ⟨_,?_,(Wrote.set (i:=2) (Wrote.set (i:=1) (Wrote.set (i:=0) (Wrote.refl hw) (Value.int .i64 P0)) (Value.int .i64 P1)) (Value.int .i64 P2))⟩
   go_simp
 intro w1 hk m0 m1 m2 Aa Ad Ab _ _ _
 clear Ak Al Am An Az A0 A1 A2 Ao Ap Aq Ar
 replace a0:=zB hk a0
 replace a1:=zB hk a1
 replace a2:=zB hk a2
 obtain ⟨Ak,Al,Am,An⟩:=ce4 a0
 obtain ⟨Az,A0,A1,A2⟩:=ce4 a1
 obtain ⟨Ao,Ap,Aq,Ar⟩:=ce4 a2
 replace hb:=hb.trans (hk.mono hb.size)
 clear hk
 replace Aa:w1.heap[As]? = some (Obj.cells #[Value.int .i64 X0,Value.int .i64 X1,Value.int .i64 X2] 48):=Aa
 have Ae:w1.cell? ⟨As,0,none⟩=some (Value.int .i64 X0):=zA Aa
 have Af:w1.cell? ⟨As,1,none⟩=some (Value.int .i64 X1):=zA Aa
 have Ag:w1.cell? ⟨As,2,none⟩=some (Value.int .i64 X2):=zA Aa
 replace Ad:w1.heap[At]? = some (Obj.cells #[Value.int .i64 Y0,Value.int .i64 Y1,Value.int .i64 Y2] 48):=Ad
 have A3:w1.cell? ⟨At,0,none⟩=some (Value.int .i64 Y0):=zA Ad
 have A4:w1.cell? ⟨At,1,none⟩=some (Value.int .i64 Y1):=zA Ad
 have A5:w1.cell? ⟨At,2,none⟩=some (Value.int .i64 Y2):=zA Ad
 replace Ab:w1.heap[Au]? = some (Obj.cells #[Value.int .i64 P0,Value.int .i64 P1,Value.int .i64 P2] 48):=Ab
 have Ah:w1.cell? ⟨Au,0,none⟩=some (Value.int .i64 P0):=zA Ab
 have Ai:w1.cell? ⟨Au,1,none⟩=some (Value.int .i64 P1):=zA Ab
 have Aj:w1.cell? ⟨Au,2,none⟩=some (Value.int .i64 P2):=zA Ab
 clear By Bz B0 Cc Cd Ce A7 A8 A9 Ba Bl Bm Bn Bo Bb Bc Bd Be m0 m1 m2
 go_upto_region 4 with fail
 obtain ⟨A7,A8,A9,Ba⟩:=cy4 a0
 obtain ⟨Bl,Bm,Bn,Bo⟩:=cy4 a1
 obtain ⟨Bb,Bc,Bd,Be⟩:=cy4 a2
 obtain ⟨Bf,Bg,Bh⟩:=cy3 Aa
 obtain ⟨Bp,Bq,Br⟩:=cy3 Ad
 obtain ⟨Bi,Bj,Bk⟩:=cy3 Ab
 have B1:=rrV C11 R hb
 have B2:=rrV C12 R hb
 have B3:=rrV C13 R hb
 refine wp_region_quiet_below (by first | assumption | kernel_rfl) (by kernel_rfl) ?_
 repeat (quiet_step (first | (with_reducible exact B1.out _ _) | (with_reducible exact B2.out _ _) | (with_reducible exact B3.out _ _)))
 refine wpQuiet_nil ?_
 intro w1 hw'
 obtain ⟨hk,hb⟩:=zQ hb hw'
 clear Ak Al Am An Az A0 A1 A2 Ao Ap Aq Ar Ae Af Ag A3 A4 A5 Ah Ai Aj
 replace a0:=zB hk a0
 replace a1:=zB hk a1
 replace a2:=zB hk a2
 replace Aa:=zB hk Aa
 replace Ad:=zB hk Ad
 replace Ab:=zB hk Ab
 obtain ⟨Ak,Al,Am,An⟩:=ce4 a0
 obtain ⟨Az,A0,A1,A2⟩:=ce4 a1
 obtain ⟨Ao,Ap,Aq,Ar⟩:=ce4 a2
 obtain ⟨Ae,Af,Ag⟩:=ce3 Aa
 obtain ⟨A3,A4,A5⟩:=ce3 Ad
 obtain ⟨Ah,Ai,Aj⟩:=ce3 Ab
 clear B1 B2 B3 A7 A8 A9 Ba Bl Bm Bn Bo Bb Bc Bd Be Bf Bg Bh Bp Bq Br Bi Bj Bk
 clear hk hw'
 go_upto_region 5 with fail
 obtain ⟨A7,A8,A9,Ba⟩:=cy4 a0
 obtain ⟨Bl,Bm,Bn,Bo⟩:=cy4 a1
 obtain ⟨Bb,Bc,Bd,Be⟩:=cy4 a2
 obtain ⟨Bf,Bg,Bh⟩:=cy3 Aa
 obtain ⟨Bp,Bq,Br⟩:=cy3 Ad
 obtain ⟨Bi,Bj,Bk⟩:=cy3 Ab
 have Cf:=rrV C11 R hb
 have Cg:=rrV C15 R hb
 have Ch:=rrV C16 R hb
 have B4:=qqV C11 R hb
 have B5:=qqV C15 R hb
 have B6:=qqV C16 R hb
 refine wp_free1 8 1 (fun i=>if i=8 then Obj.cells #[Value.string ⟨#[]⟩,Value.string ⟨#[]⟩,Value.string ⟨#[]⟩] 24 else Obj.cells #[] 0) (fun i=>if i=8 then Obj.cells #[Value.string v0,Value.string v1,Value.string v2] 24 else Obj.cells #[] 0) (some 12) (by first | assumption | kernel_rfl) (by kernel_rfl) ?lay rfl ?_
 case lay =>
   intro i h1 h2
   obtain rfl:i=8:=by omega
   all_goals exact ⟨_,rfl,rfl,fun a w=>(by first | (go_simp;done) | (go_simp;rfl))⟩
 simp only [List.take_succ_cons,List.take_zero]
 repeat (refine wpB_step (fun K hK=>?_);go_simp;first | (refine hK _ ?_;clear hK K) | (apply Exists.intro;refine ⟨fun _=>?_,hK _ ?_⟩;(first | (with_reducible exact B4.out _ _) | (with_reducible exact B5.out _ _) | (with_reducible exact B6.out _ _));clear hK K))
 refine wpB_nil ?_
 intro Av
 refine ⟨?_,?_⟩
 · refine ⟨_,rfl,rfl,rfl,fun cs b h=>(by cases h),fun w hw=>?_⟩
   replace hw:w.heap[Av]? = some (Obj.cells #[Value.string ⟨#[]⟩,Value.string ⟨#[]⟩,Value.string ⟨#[]⟩] 24):=hw
   have z0:w.cell? ⟨Av,0,none⟩=some (Value.string ⟨#[]⟩):=zA hw
   have y0:w.frozen? ⟨Av,0,none⟩=false:=zD hw
   have z1:w.cell? ⟨Av,1,none⟩=some (Value.string ⟨#[]⟩):=zA hw
   have y1:w.frozen? ⟨Av,1,none⟩=false:=zD hw
   have z2:w.cell? ⟨Av,2,none⟩=some (Value.string ⟨#[]⟩):=zA hw
   have y2:w.frozen? ⟨Av,2,none⟩=false:=zD hw
   refine ⟨_,?_,(Wrote.set (i:=2) (Wrote.set (i:=1) (Wrote.set (i:=0) (Wrote.refl hw) (Value.string v0)) (Value.string v1)) (Value.string v2))⟩
   go_simp
 refine ⟨_,(Value.int .i64 0),rfl,Or.inl ⟨rfl,fun p=>?_⟩,?_⟩
 · go_simp
   try exact ⟨rfl,rfl⟩
 intro w1 hk m0 Ac
 clear Ak Al Am An Az A0 A1 A2 Ao Ap Aq Ar Ae Af Ag A3 A4 A5 Ah Ai Aj
 replace a0:=zB hk a0
 replace a1:=zB hk a1
 replace a2:=zB hk a2
 replace Aa:=zB hk Aa
 replace Ad:=zB hk Ad
 replace Ab:=zB hk Ab
 obtain ⟨Ak,Al,Am,An⟩:=ce4 a0
 obtain ⟨Az,A0,A1,A2⟩:=ce4 a1
 obtain ⟨Ao,Ap,Aq,Ar⟩:=ce4 a2
 obtain ⟨Ae,Af,Ag⟩:=ce3 Aa
 obtain ⟨A3,A4,A5⟩:=ce3 Ad
 obtain ⟨Ah,Ai,Aj⟩:=ce3 Ab
 replace hb:=hb.trans (hk.mono hb.size)
 clear hk
 replace Ac:w1.heap[Av]? = some (Obj.cells #[Value.string v0,Value.string v1,Value.string v2] 24):=Ac
 have Aw:w1.cell? ⟨Av,0,none⟩=some (Value.string v0):=zA Ac
 have Ax:w1.cell? ⟨Av,1,none⟩=some (Value.string v1):=zA Ac
 have Ay:w1.cell? ⟨Av,2,none⟩=some (Value.string v2):=zA Ac
 clear B4 B5 B6 Cf Cg Ch A7 A8 A9 Ba Bl Bm Bn Bo Bb Bc Bd Be Bf Bg Bh Bp Bq Br Bi Bj Bk m0
 go_upto_region 6 with fail
 clear Az A0 A1 A2 a1
 obtain ⟨A7,A8,A9,Ba⟩:=cy4 a0
 obtain ⟨Bb,Bc,Bd,Be⟩:=cy4 a2
 obtain ⟨Bf,Bg,Bh⟩:=cy3 Aa
 obtain ⟨Bp,Bq,Br⟩:=cy3 Ad
 obtain ⟨Bi,Bj,Bk⟩:=cy3 Ab
 obtain ⟨Bv,Bw,Bx⟩:=cy3 Ac
 have B7:=rrV C11 R hb
 have B8:=rrV C12 R hb
 have B9:=rrV C19 R hb
 refine wp_region_quiet_below (by first | assumption | kernel_rfl) (by kernel_rfl) ?_
 repeat (quiet_step (first | (with_reducible exact B7.out _ _) | (with_reducible exact B8.out _ _) | (with_reducible exact B9.out _ _)))
 refine wpQuiet_nil ?_
 intro w1 hw'
 obtain ⟨hk,hb⟩:=zQ hb hw'
 clear Ak Al Am An Ao Ap Aq Ar Ae Af Ag A3 A4 A5 Ah Ai Aj Aw Ax Ay
 replace a0:=zB hk a0
 replace a2:=zB hk a2
 replace Aa:=zB hk Aa
 replace Ad:=zB hk Ad
 replace Ab:=zB hk Ab
 replace Ac:=zB hk Ac
 obtain ⟨Ak,Al,Am,An⟩:=ce4 a0
 obtain ⟨Ao,Ap,Aq,Ar⟩:=ce4 a2
 obtain ⟨Ae,Af,Ag⟩:=ce3 Aa
 obtain ⟨A3,A4,A5⟩:=ce3 Ad
 obtain ⟨Ah,Ai,Aj⟩:=ce3 Ab
 obtain ⟨Aw,Ax,Ay⟩:=ce3 Ac
 clear B7 B8 B9 A7 A8 A9 Ba Bb Bc Bd Be Bf Bg Bh Bp Bq Br Bi Bj Bk Bv Bw Bx
 clear hk hw'
 go_upto_region 10 with ((first | (go_at_call 35;with_reducible refine (chVB hb R C20).mono ?_) | (go_at_call 37;with_reducible refine (chVB hb R C21).mono ?_));clear hb;rintro e w1 ⟨rfl,hk,hb⟩;clear Ae Af Ag A3 A4 A5 Ah Ai Aj Aw Ax Ay;replace Aa:=zB hk Aa;replace Ad:=zB hk Ad;replace Ab:=zB hk Ab;replace Ac:=zB hk Ac;obtain ⟨Ae,Af,Ag⟩:=ce3 Aa;obtain ⟨A3,A4,A5⟩:=ce3 Ad;obtain ⟨Ah,Ai,Aj⟩:=ce3 Ab;obtain ⟨Aw,Ax,Ay⟩:=ce3 Ac;clear hk)
 clear Ak Al Am An a0 Ao Ap Aq Ar a2 A3 A4 A5 Ad
 refine wp_alloc1 (fun w1 A6 hk=>?_)
 clear Ae Af Ag Ah Ai Aj Aw Ax Ay
 replace Aa:=zB hk Aa
 replace Ab:=zB hk Ab
 replace Ac:=zB hk Ac
 obtain ⟨Ae,Af,Ag⟩:=ce3 Aa
 obtain ⟨Ah,Ai,Aj⟩:=ce3 Ab
 obtain ⟨Aw,Ax,Ay⟩:=ce3 Ac
 replace hb:=hb.trans (hk.mono hb.size)
 clear hk
 obtain ⟨Bs,Bt,Bu⟩:=ce3 A6
 go_upto_region 13 with (go_at_call 28;with_reducible refine (chVB hb R C22).mono ?_;clear hb;rintro e w1 ⟨rfl,hk,hb⟩;clear Bs Bt Bu Ae Af Ag Ah Ai Aj Aw Ax Ay;replace A6:=zB hk A6;replace Aa:=zB hk Aa;replace Ab:=zB hk Ab;replace Ac:=zB hk Ac;obtain ⟨Bs,Bt,Bu⟩:=ce3 A6;obtain ⟨Ae,Af,Ag⟩:=ce3 Aa;obtain ⟨Ah,Ai,Aj⟩:=ce3 Ab;obtain ⟨Aw,Ax,Ay⟩:=ce3 Ac;clear hk)
 obtain ⟨Ci,Cj,Ck⟩:=cy3 A6
 obtain ⟨Bf,Bg,Bh⟩:=cy3 Aa
 obtain ⟨Bi,Bj,Bk⟩:=cy3 Ab
 obtain ⟨Bv,Bw,Bx⟩:=cy3 Ac
 have Ca:=rrV C23 R hb
 have Cb:=rrV C24 R hb
 refine wp_region_quiet_below (by first | assumption | kernel_rfl) (by kernel_rfl) ?_
 repeat (quiet_step (first | (with_reducible exact Ca.out _ _) | (with_reducible exact Cb.out _ _)))
 refine wpQuiet_nil ?_
 intro w1 hw'
 obtain ⟨hk,hb⟩:=zQ hb hw'
 clear Bs Bt Bu Ae Af Ag Ah Ai Aj Aw Ax Ay
 replace A6:=zB hk A6
 replace Aa:=zB hk Aa
 replace Ab:=zB hk Ab
 replace Ac:=zB hk Ac
 obtain ⟨Bs,Bt,Bu⟩:=ce3 A6
 obtain ⟨Ae,Af,Ag⟩:=ce3 Aa
 obtain ⟨Ah,Ai,Aj⟩:=ce3 Ab
 obtain ⟨Aw,Ax,Ay⟩:=ce3 Ac
 clear Ca Cb Ci Cj Ck Bf Bg Bh Bi Bj Bk Bv Bw Bx
 clear hk hw'
 go_wp2
 first | go_ret | go_ret2 | go_ret3
 exact ⟨rfl,hb⟩
end Go.Proofs.YtpiiclmkbplkhaaGreatDoor.Kl
