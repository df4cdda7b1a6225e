import Derived.Test.YtpiiclmkbplkhaaGreatDoorKlLFormsCLC
import Derived.BigRegion
namespace Go.Proofs.YtpiiclmkbplkhaaGreatDoor.Kl
open Go Go.RowKit
set_option maxRecDepth 100000
set_option maxHeartbeats 8000000
theorem lforms_za  (i0 i1 i2 j0 j1 j2 x0 x1 x2:Int) (d e:Int) (ck:CV 12 #[] (.bool true)) (ca:CV 29 #[.agg #[.int .i8 i0,.int .i8 i1,.int .i8 i2,.int .u8 d]] (.agg #[.int .i64 x0,.int .i64 x1,.int .i64 x2])) (za:CV 28 #[.agg #[.int .i64 x0,.int .i64 x1,.int .i64 x2]] (.bool true)) (w:World) (R:EnvV w) :
   Calls Tryz.prog 4 #[.agg #[.int .i8 i0,.int .i8 i1,.int .i8 i2,.int .u8 d],.agg #[.int .i8 j0,.int .i8 j1,.int .i8 j2,.int .u8 e]] w (Ret w (.bool true)):=by
 have c1:=ck
 have c2:=ca
 have c3:=za
 have C1:=Lib.hid c1
 have C2:=Lib.hid c2
 have C3:=Lib.hid c3
 clear c1 c2 c3 ck ca za
 have hb:=Below.refl w.heap.size w
 go_enter Tryz.func4,Tryz.ntmps4
 go_upto_region 1 with fail
 refine wp_alloc2 (fun w1 a0 a1 hk=>?_)
 replace hb:=hb.trans (hk.mono hb.size)
 clear hk
 obtain ⟨Aa,Ab,Ac,Ad⟩:=ce4 a0
 obtain ⟨Ae,Af,Ag,Ah⟩:=ce4 a1
 go_wp2_with ((first | (go_at_call 12;first | with_reducible refine (chVB hb R C1).mono ?_ | with_reducible refine (chVB hb R C1).mono ?_) | (go_at_call 29;with_reducible refine (chVB hb R C2).mono ?_) | (go_at_call 28;with_reducible refine (chVB hb R C3).mono ?_));clear hb;rintro e w1 ⟨rfl,hk,hb⟩;clear Aa Ab Ac Ad Ae Af Ag Ah;replace a0:=zB hk a0;replace a1:=zB hk a1;obtain ⟨Aa,Ab,Ac,Ad⟩:=ce4 a0;obtain ⟨Ae,Af,Ag,Ah⟩:=ce4 a1;clear hk)
 first | go_ret | go_ret2 | go_ret3
 exact ⟨rfl,hb⟩
theorem lforms_zb  (i0 i1 i2 j0 j1 j2 x0 x1 x2 y0 y1 y2:Int) (d e:Int) (ck:CV 12 #[] (.bool true)) (ca:CV 29 #[.agg #[.int .i8 i0,.int .i8 i1,.int .i8 i2,.int .u8 d]] (.agg #[.int .i64 x0,.int .i64 x1,.int .i64 x2])) (za:CV 28 #[.agg #[.int .i64 x0,.int .i64 x1,.int .i64 x2]] (.bool false)) (cb:CV 29 #[.agg #[.int .i8 j0,.int .i8 j1,.int .i8 j2,.int .u8 e]] (.agg #[.int .i64 y0,.int .i64 y1,.int .i64 y2])) (zb:CV 28 #[.agg #[.int .i64 y0,.int .i64 y1,.int .i64 y2]] (.bool true)) (w:World) (R:EnvV w) :
   Calls Tryz.prog 4 #[.agg #[.int .i8 i0,.int .i8 i1,.int .i8 i2,.int .u8 d],.agg #[.int .i8 j0,.int .i8 j1,.int .i8 j2,.int .u8 e]] w (Ret w (.bool true)):=by
 have c1:=ck
 have c2:=ca
 have c3:=za
 have c4:=cb
 have c5:=zb
 have C1:=Lib.hid c1
 have C2:=Lib.hid c2
 have C3:=Lib.hid c3
 have C4:=Lib.hid c4
 have C5:=Lib.hid c5
 clear c1 c2 c3 c4 c5 ck ca za cb zb
 have hb:=Below.refl w.heap.size w
 go_enter Tryz.func4,Tryz.ntmps4
 go_upto_region 1 with fail
 refine wp_alloc2 (fun w1 a0 a1 hk=>?_)
 replace hb:=hb.trans (hk.mono hb.size)
 clear hk
 obtain ⟨Aa,Ab,Ac,Ad⟩:=ce4 a0
 obtain ⟨Ae,Af,Ag,Ah⟩:=ce4 a1
 go_wp2_with ((first | (go_at_call 12;first | with_reducible refine (chVB hb R C1).mono ?_ | with_reducible refine (chVB hb R C1).mono ?_) | (go_at_call 29;first | with_reducible refine (chVB hb R C2).mono ?_ | with_reducible refine (chVB hb R C4).mono ?_) | (go_at_call 28;first | with_reducible refine (chVB hb R C3).mono ?_ | with_reducible refine (chVB hb R C5).mono ?_));clear hb;rintro e w1 ⟨rfl,hk,hb⟩;clear Aa Ab Ac Ad Ae Af Ag Ah;replace a0:=zB hk a0;replace a1:=zB hk a1;obtain ⟨Aa,Ab,Ac,Ad⟩:=ce4 a0;obtain ⟨Ae,Af,Ag,Ah⟩:=ce4 a1;clear hk)
 first | go_ret | go_ret2 | go_ret3
 exact ⟨rfl,hb⟩
theorem lforms_t  (i0 i1 i2 j0 j1 j2 x0 x1 x2 y0 y1 y2 u0 u1 u2:Int) (d e:Int) (s0 s1 s2 t0 t1 t2 p0 p1 p2:ByteArray) (ck:CV 12 #[] (.bool true)) (ca:CV 29 #[.agg #[.int .i8 i0,.int .i8 i1,.int .i8 i2,.int .u8 d]] (.agg #[.int .i64 x0,.int .i64 x1,.int .i64 x2])) (za:CV 28 #[.agg #[.int .i64 x0,.int .i64 x1,.int .i64 x2]] (.bool false)) (cb:CV 29 #[.agg #[.int .i8 j0,.int .i8 j1,.int .i8 j2,.int .u8 e]] (.agg #[.int .i64 y0,.int .i64 y1,.int .i64 y2])) (zb:CV 28 #[.agg #[.int .i64 y0,.int .i64 y1,.int .i64 y2]] (.bool false)) (ma:CV 30 #[.agg #[.int .i8 i0,.int .i8 i1,.int .i8 i2,.int .u8 d]] (.agg #[.string s0,.string s1,.string s2])) (mb:CV 30 #[.agg #[.int .i8 j0,.int .i8 j1,.int .i8 j2,.int .u8 e]] (.agg #[.string t0,.string t1,.string t2])) (cof:CV 25 #[.agg #[.string s0,.string s1,.string s2]] (.tuple #[.agg #[.string p0,.string p1,.string p2],.int .i64 0])) (csa:CV 16 #[.agg #[.string s0,.string s1,.string s2],.agg #[.string t0,.string t1,.string t2]] (.tuple #[.bool true,.int .i64 0])) (da:CV 32 #[.agg #[.int .i64 x0,.int .i64 x1,.int .i64 x2]] (.agg #[.int .i64 u0,.int .i64 u1,.int .i64 u2])) (db:CV 32 #[.agg #[.int .i64 y0,.int .i64 y1,.int .i64 y2]] (.agg #[.int .i64 u0,.int .i64 u1,.int .i64 u2])) (co:CV 31 #[.agg #[.int .i64 u0,.int .i64 u1,.int .i64 u2]] (.agg #[.string p0,.string p1,.string p2])) (HE:∀ w,(Op.equalIn 10000 48 (.agg #[.int .i64 u0,.int .i64 u1,.int .i64 u2]) (.agg #[.int .i64 u0,.int .i64 u1,.int .i64 u2])).run Tryz.prog w = .ok true w) (w:World) (R:EnvV w) :
   Calls Tryz.prog 4 #[.agg #[.int .i8 i0,.int .i8 i1,.int .i8 i2,.int .u8 d],.agg #[.int .i8 j0,.int .i8 j1,.int .i8 j2,.int .u8 e]] w (Ret w (.bool true)):=by
 have c1:=ck
 have c2:=ca
 have c3:=za
 have c4:=cb
 have c5:=zb
 have c6:=ma
 have c7:=cof
 have c9:=mb
 have c10:=csa
 have c12:=da
 have c13:=co
 have c17:=db
 have gE:∀ w,(Op.equalIn 10000 48 (.agg #[.int .i64 u0,.int .i64 u1,.int .i64 u2]) (.agg #[.int .i64 u0,.int .i64 u1,.int .i64 u2])).run Tryz.prog w = .ok true w:=HE
 have C1:=Lib.hid c1
 have C2:=Lib.hid c2
 have C3:=Lib.hid c3
 have C4:=Lib.hid c4
 have C5:=Lib.hid c5
 have C6:=Lib.hid c6
 have C7:=Lib.hid c7
 have C9:=Lib.hid c9
 have C10:=Lib.hid c10
 have C12:=Lib.hid c12
 have C13:=Lib.hid c13
 have C17:=Lib.hid c17
 clear c1 c2 c3 c4 c5 c6 c7 c9 c10 c12 c13 c17 ck ca za cb zb ma mb cof csa da db co HE
 have hb:=Below.refl w.heap.size w
 go_enter Tryz.func4,Tryz.ntmps4
 go_upto_region 1 with fail
 refine wp_alloc2 (fun w1 a0 a1 hk=>?_)
 replace hb:=hb.trans (hk.mono hb.size)
 clear hk
 obtain ⟨Ab,Ac,Ad,Ae⟩:=ce4 a0
 obtain ⟨Af,Ag,Ah,Ai⟩:=ce4 a1
 go_upto_region 4 with ((first | (go_at_call 12;with_reducible refine (chVB hb R C1).mono ?_) | (go_at_call 29;first | with_reducible refine (chVB hb R C2).mono ?_ | with_reducible refine (chVB hb R C4).mono ?_) | (go_at_call 28;first | with_reducible refine (chVB hb R C3).mono ?_ | with_reducible refine (chVB hb R C5).mono ?_) | (go_at_call 30;with_reducible refine (chVB hb R C6).mono ?_) | (go_at_call 25;with_reducible refine (chVB hb R C7).mono ?_));clear hb;rintro e w1 ⟨rfl,hk,hb⟩;clear Ab Ac Ad Ae Af Ag Ah Ai;replace a0:=zB hk a0;replace a1:=zB hk a1;obtain ⟨Ab,Ac,Ad,Ae⟩:=ce4 a0;obtain ⟨Af,Ag,Ah,Ai⟩:=ce4 a1;clear hk)
 refine wp_alloc1 (fun w1 Aa hk=>?_)
 clear Ab Ac Ad Ae Af Ag Ah Ai
 replace a0:=zB hk a0
 replace a1:=zB hk a1
 obtain ⟨Ab,Ac,Ad,Ae⟩:=ce4 a0
 obtain ⟨Af,Ag,Ah,Ai⟩:=ce4 a1
 replace hb:=hb.trans (hk.mono hb.size)
 clear hk
 obtain ⟨Aj,Ak,Al⟩:=ce3 Aa
 obtain ⟨Am,An,Ao,Ap⟩:=cy4 a0
 obtain ⟨Aq,Ar,As,At⟩:=cy4 a1
 obtain ⟨Au,Av,Aw⟩:=cy3 Aa
 have Ax:=rrV C6 R hb
 have Ay:=rrV C9 R hb
 have Az:=rrV C10 R hb
 refine wp_region_quiet_below (by first | assumption | kernel_rfl) (by kernel_rfl) ?_
 repeat (quiet_step (first | (with_reducible exact Ax.out _ _) | (with_reducible exact Ay.out _ _) | (with_reducible exact Az.out _ _)))
 refine wpQuiet_nil ?_
 intro w1 hw'
 obtain ⟨hk,hb⟩:=zQ hb hw'
 clear Ab Ac Ad Ae Af Ag Ah Ai Aj Ak Al
 replace a0:=zB hk a0
 replace a1:=zB hk a1
 replace Aa:=zB hk Aa
 obtain ⟨Ab,Ac,Ad,Ae⟩:=ce4 a0
 obtain ⟨Af,Ag,Ah,Ai⟩:=ce4 a1
 obtain ⟨Aj,Ak,Al⟩:=ce3 Aa
 clear Ax Ay Az Am An Ao Ap Aq Ar As At Au Av Aw
 clear hk hw'
 go_upto_region 5 with fail
 obtain ⟨Am,An,Ao,Ap⟩:=cy4 a0
 obtain ⟨Aq,Ar,As,At⟩:=cy4 a1
 obtain ⟨Au,Av,Aw⟩:=cy3 Aa
 have A0:=rrV C2 R hb
 have A1:=rrV C12 R hb
 have A2:=rrV C13 R hb
 have A3:=rrV C2 R hb
 have A4:=rrV C12 R hb
 have A5:=rrV C4 R hb
 have A6:=rrV C17 R hb
 refine wp_region_quiet_below (by first | assumption | kernel_rfl) (by kernel_rfl) ?_
 repeat (quiet_step (first | (with_reducible exact A0.out _ _) | (with_reducible exact A1.out _ _) | (with_reducible exact A2.out _ _) | (with_reducible exact A3.out _ _) | (with_reducible exact A4.out _ _) | (with_reducible exact A5.out _ _) | (with_reducible exact A6.out _ _)))
 refine wpQuiet_nil ?_
 intro w1 hw'
 obtain ⟨hk,hb⟩:=zQ hb hw'
 clear Ab Ac Ad Ae Af Ag Ah Ai Aj Ak Al
 replace a0:=zB hk a0
 replace a1:=zB hk a1
 replace Aa:=zB hk Aa
 obtain ⟨Ab,Ac,Ad,Ae⟩:=ce4 a0
 obtain ⟨Af,Ag,Ah,Ai⟩:=ce4 a1
 obtain ⟨Aj,Ak,Al⟩:=ce3 Aa
 clear A0 A1 A2 A3 A4 A5 A6 Am An Ao Ap Aq Ar As At Au Av Aw
 clear hk hw'
 go_wp2
 first | go_ret | go_ret2 | go_ret3
 exact ⟨rfl,hb⟩
theorem lforms_f  (i0 i1 i2 j0 j1 j2 x0 x1 x2 y0 y1 y2 u0 u1 u2:Int) (v0 v1 v2:Int) (d e:Int) (s0 s1 s2 t0 t1 t2 p0 p1 p2:ByteArray) (ck:CV 12 #[] (.bool true)) (ca:CV 29 #[.agg #[.int .i8 i0,.int .i8 i1,.int .i8 i2,.int .u8 d]] (.agg #[.int .i64 x0,.int .i64 x1,.int .i64 x2])) (za:CV 28 #[.agg #[.int .i64 x0,.int .i64 x1,.int .i64 x2]] (.bool false)) (cb:CV 29 #[.agg #[.int .i8 j0,.int .i8 j1,.int .i8 j2,.int .u8 e]] (.agg #[.int .i64 y0,.int .i64 y1,.int .i64 y2])) (zb:CV 28 #[.agg #[.int .i64 y0,.int .i64 y1,.int .i64 y2]] (.bool false)) (ma:CV 30 #[.agg #[.int .i8 i0,.int .i8 i1,.int .i8 i2,.int .u8 d]] (.agg #[.string s0,.string s1,.string s2])) (mb:CV 30 #[.agg #[.int .i8 j0,.int .i8 j1,.int .i8 j2,.int .u8 e]] (.agg #[.string t0,.string t1,.string t2])) (cof:CV 25 #[.agg #[.string s0,.string s1,.string s2]] (.tuple #[.agg #[.string p0,.string p1,.string p2],.int .i64 0])) (csa:CV 16 #[.agg #[.string s0,.string s1,.string s2],.agg #[.string t0,.string t1,.string t2]] (.tuple #[.bool false,.int .i64 0])) (da:CV 32 #[.agg #[.int .i64 x0,.int .i64 x1,.int .i64 x2]] (.agg #[.int .i64 u0,.int .i64 u1,.int .i64 u2])) (db:CV 32 #[.agg #[.int .i64 y0,.int .i64 y1,.int .i64 y2]] (.agg #[.int .i64 v0,.int .i64 v1,.int .i64 v2])) (co:CV 31 #[.agg #[.int .i64 u0,.int .i64 u1,.int .i64 u2]] (.agg #[.string p0,.string p1,.string p2])) (HE:∀ w,(Op.equalIn 10000 48 (.agg #[.int .i64 u0,.int .i64 u1,.int .i64 u2]) (.agg #[.int .i64 v0,.int .i64 v1,.int .i64 v2])).run Tryz.prog w = .ok false w) (w:World) (R:EnvV w) :
   Calls Tryz.prog 4 #[.agg #[.int .i8 i0,.int .i8 i1,.int .i8 i2,.int .u8 d],.agg #[.int .i8 j0,.int .i8 j1,.int .i8 j2,.int .u8 e]] w (Ret w (.bool true)):=by
 have c1:=ck
 have c2:=ca
 have c3:=za
 have c4:=cb
 have c5:=zb
 have c6:=ma
 have c7:=cof
 have c9:=mb
 have c10:=csa
 have c12:=da
 have c13:=co
 have c17:=db
 have gE:∀ w,(Op.equalIn 10000 48 (.agg #[.int .i64 u0,.int .i64 u1,.int .i64 u2]) (.agg #[.int .i64 v0,.int .i64 v1,.int .i64 v2])).run Tryz.prog w = .ok false w:=HE
 have C1:=Lib.hid c1
 have C2:=Lib.hid c2
 have C3:=Lib.hid c3
 have C4:=Lib.hid c4
 have C5:=Lib.hid c5
 have C6:=Lib.hid c6
 have C7:=Lib.hid c7
 have C9:=Lib.hid c9
 have C10:=Lib.hid c10
 have C12:=Lib.hid c12
 have C13:=Lib.hid c13
 have C17:=Lib.hid c17
 clear c1 c2 c3 c4 c5 c6 c7 c9 c10 c12 c13 c17 ck ca za cb zb ma mb cof csa da db co HE
 have hb:=Below.refl w.heap.size w
 go_enter Tryz.func4,Tryz.ntmps4
 go_upto_region 1 with fail
 refine wp_alloc2 (fun w1 a0 a1 hk=>?_)
 replace hb:=hb.trans (hk.mono hb.size)
 clear hk
 obtain ⟨Ab,Ac,Ad,Ae⟩:=ce4 a0
 obtain ⟨Af,Ag,Ah,Ai⟩:=ce4 a1
 go_upto_region 4 with ((first | (go_at_call 12;with_reducible refine (chVB hb R C1).mono ?_) | (go_at_call 29;first | with_reducible refine (chVB hb R C2).mono ?_ | with_reducible refine (chVB hb R C4).mono ?_) | (go_at_call 28;first | with_reducible refine (chVB hb R C3).mono ?_ | with_reducible refine (chVB hb R C5).mono ?_) | (go_at_call 30;with_reducible refine (chVB hb R C6).mono ?_) | (go_at_call 25;with_reducible refine (chVB hb R C7).mono ?_));clear hb;rintro e w1 ⟨rfl,hk,hb⟩;clear Ab Ac Ad Ae Af Ag Ah Ai;replace a0:=zB hk a0;replace a1:=zB hk a1;obtain ⟨Ab,Ac,Ad,Ae⟩:=ce4 a0;obtain ⟨Af,Ag,Ah,Ai⟩:=ce4 a1;clear hk)
 refine wp_alloc1 (fun w1 Aa hk=>?_)
 clear Ab Ac Ad Ae Af Ag Ah Ai
 replace a0:=zB hk a0
 replace a1:=zB hk a1
 obtain ⟨Ab,Ac,Ad,Ae⟩:=ce4 a0
 obtain ⟨Af,Ag,Ah,Ai⟩:=ce4 a1
 replace hb:=hb.trans (hk.mono hb.size)
 clear hk
 obtain ⟨Aj,Ak,Al⟩:=ce3 Aa
 obtain ⟨Am,An,Ao,Ap⟩:=cy4 a0
 obtain ⟨Aq,Ar,As,At⟩:=cy4 a1
 obtain ⟨Au,Av,Aw⟩:=cy3 Aa
 have Ax:=rrV C6 R hb
 have Ay:=rrV C9 R hb
 have Az:=rrV C10 R hb
 refine wp_region_quiet_below (by first | assumption | kernel_rfl) (by kernel_rfl) ?_
 repeat (quiet_step (first | (with_reducible exact Ax.out _ _) | (with_reducible exact Ay.out _ _) | (with_reducible exact Az.out _ _)))
 refine wpQuiet_nil ?_
 intro w1 hw'
 obtain ⟨hk,hb⟩:=zQ hb hw'
 clear Ab Ac Ad Ae Af Ag Ah Ai Aj Ak Al
 replace a0:=zB hk a0
 replace a1:=zB hk a1
 replace Aa:=zB hk Aa
 obtain ⟨Ab,Ac,Ad,Ae⟩:=ce4 a0
 obtain ⟨Af,Ag,Ah,Ai⟩:=ce4 a1
 obtain ⟨Aj,Ak,Al⟩:=ce3 Aa
 clear Ax Ay Az Am An Ao Ap Aq Ar As At Au Av Aw
 clear hk hw'
 go_upto_region 5 with fail
 obtain ⟨Am,An,Ao,Ap⟩:=cy4 a0
 obtain ⟨Aq,Ar,As,At⟩:=cy4 a1
 obtain ⟨Au,Av,Aw⟩:=cy3 Aa
 have A0:=rrV C2 R hb
 have A1:=rrV C12 R hb
 have A2:=rrV C13 R hb
 have A3:=rrV C2 R hb
 have A4:=rrV C12 R hb
 have A5:=rrV C4 R hb
 have A6:=rrV C17 R hb
 refine wp_region_quiet_below (by first | assumption | kernel_rfl) (by kernel_rfl) ?_
 repeat (quiet_step (first | (with_reducible exact A0.out _ _) | (with_reducible exact A1.out _ _) | (with_reducible exact A2.out _ _) | (with_reducible exact A3.out _ _) | (with_reducible exact A4.out _ _) | (with_reducible exact A5.out _ _) | (with_reducible exact A6.out _ _)))
 refine wpQuiet_nil ?_
 intro w1 hw'
 obtain ⟨hk,hb⟩:=zQ hb hw'
 clear Ab Ac Ad Ae Af Ag Ah Ai Aj Ak Al
 replace a0:=zB hk a0
 replace a1:=zB hk a1
 replace Aa:=zB hk Aa
 obtain ⟨Ab,Ac,Ad,Ae⟩:=ce4 a0
 obtain ⟨Af,Ag,Ah,Ai⟩:=ce4 a1
 obtain ⟨Aj,Ak,Al⟩:=ce3 Aa
 clear A0 A1 A2 A3 A4 A5 A6 Am An Ao Ap Aq Ar As At Au Av Aw
 clear hk hw'
 go_wp2
 first | go_ret | go_ret2 | go_ret3
 exact ⟨rfl,hb⟩
end Go.Proofs.YtpiiclmkbplkhaaGreatDoor.Kl
