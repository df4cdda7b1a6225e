import Derived.Test.YtpennccflalobaaGreatDoorKlVErrorsVRaw
namespace Go.Proofs.YtpennccflalobaaGreatDoor.Kl
open Go Go.RowKit
set_option maxRecDepth 100000
set_option maxHeartbeats 8000000
theorem errLong_a0  (ta0 ta1 ta2 tb0 tb1 tb2 k:ByteArray) (sta0:40 < ta0.size) (zta0:ta0.size≤9223372036854775807) (w:World) (R:EnvV w) :
   Calls Tryz.prog 3 #[.agg #[.string ta0,.string ta1,.string ta2],.agg #[.string tb0,.string tb1,.string tb2],.string k] w (Ret w (.bool true)):=by
 have c1:=known5_any
 have c2:=short_0 ta0 ta1 ta2 sta0 zta0
 have C1:=Lib.hid c1
 have C2:=Lib.hid c2
 clear c1 c2
 have hb:=Below.refl w.heap.size w
 go_enter Tryz.func3,Tryz.ntmps3
 go_upto_region 1 with fail
 refine wp_alloc2 (fun w1 a0 a1 hk=>?_)
 replace hb:=hb.trans (hk.mono hb.size)
 clear hk
 obtain ⟨Aa,Ab,Ac⟩:=ce3 a0
 obtain ⟨Ad,Ae,Af⟩:=ce3 a1
 go_wp2_with ((first | (go_at_call 13;first | with_reducible refine (chVB hb R C1).mono ?_ | with_reducible refine (chVB hb R C1).mono ?_) | (go_at_call 14;with_reducible refine (chVB hb R C2).mono ?_));clear hb;rintro e w1 ⟨rfl,hk,hb⟩;clear Aa Ab Ac Ad Ae Af;replace a0:=zB hk a0;replace a1:=zB hk a1;obtain ⟨Aa,Ab,Ac⟩:=ce3 a0;obtain ⟨Ad,Ae,Af⟩:=ce3 a1;clear hk)
 first | go_ret | go_ret2 | go_ret3
 exact ⟨rfl,hb⟩
theorem errLong_a1  (ta0 ta1 ta2 tb0 tb1 tb2 k:ByteArray) (sta0:ta0.size≤40) (sta1:40 < ta1.size) (zta1:ta1.size≤9223372036854775807) (w:World) (R:EnvV w) :
   Calls Tryz.prog 3 #[.agg #[.string ta0,.string ta1,.string ta2],.agg #[.string tb0,.string tb1,.string tb2],.string k] w (Ret w (.bool true)):=by
 have c1:=known5_any
 have c2:=short_1 ta0 ta1 ta2 sta0 sta1 zta1
 have C1:=Lib.hid c1
 have C2:=Lib.hid c2
 clear c1 c2
 have hb:=Below.refl w.heap.size w
 go_enter Tryz.func3,Tryz.ntmps3
 go_upto_region 1 with fail
 refine wp_alloc2 (fun w1 a0 a1 hk=>?_)
 replace hb:=hb.trans (hk.mono hb.size)
 clear hk
 obtain ⟨Aa,Ab,Ac⟩:=ce3 a0
 obtain ⟨Ad,Ae,Af⟩:=ce3 a1
 go_wp2_with ((first | (go_at_call 13;first | with_reducible refine (chVB hb R C1).mono ?_ | with_reducible refine (chVB hb R C1).mono ?_) | (go_at_call 14;with_reducible refine (chVB hb R C2).mono ?_));clear hb;rintro e w1 ⟨rfl,hk,hb⟩;clear Aa Ab Ac Ad Ae Af;replace a0:=zB hk a0;replace a1:=zB hk a1;obtain ⟨Aa,Ab,Ac⟩:=ce3 a0;obtain ⟨Ad,Ae,Af⟩:=ce3 a1;clear hk)
 first | go_ret | go_ret2 | go_ret3
 exact ⟨rfl,hb⟩
theorem errLong_a2  (ta0 ta1 ta2 tb0 tb1 tb2 k:ByteArray) (sta0:ta0.size≤40) (sta1:ta1.size≤40) (sta2:40 < ta2.size) (zta2:ta2.size≤9223372036854775807) (w:World) (R:EnvV w) :
   Calls Tryz.prog 3 #[.agg #[.string ta0,.string ta1,.string ta2],.agg #[.string tb0,.string tb1,.string tb2],.string k] w (Ret w (.bool true)):=by
 have c1:=known5_any
 have c2:=short_2 ta0 ta1 ta2 sta0 sta1 sta2 zta2
 have C1:=Lib.hid c1
 have C2:=Lib.hid c2
 clear c1 c2
 have hb:=Below.refl w.heap.size w
 go_enter Tryz.func3,Tryz.ntmps3
 go_upto_region 1 with fail
 refine wp_alloc2 (fun w1 a0 a1 hk=>?_)
 replace hb:=hb.trans (hk.mono hb.size)
 clear hk
 obtain ⟨Aa,Ab,Ac⟩:=ce3 a0
 obtain ⟨Ad,Ae,Af⟩:=ce3 a1
 go_wp2_with ((first | (go_at_call 13;first | with_reducible refine (chVB hb R C1).mono ?_ | with_reducible refine (chVB hb R C1).mono ?_) | (go_at_call 14;with_reducible refine (chVB hb R C2).mono ?_));clear hb;rintro e w1 ⟨rfl,hk,hb⟩;clear Aa Ab Ac Ad Ae Af;replace a0:=zB hk a0;replace a1:=zB hk a1;obtain ⟨Aa,Ab,Ac⟩:=ce3 a0;obtain ⟨Ad,Ae,Af⟩:=ce3 a1;clear hk)
 first | go_ret | go_ret2 | go_ret3
 exact ⟨rfl,hb⟩
theorem errLong_b0  (ta0 ta1 ta2 tb0 tb1 tb2 k:ByteArray) (sta0:ta0.size≤40) (sta1:ta1.size≤40) (sta2:ta2.size≤40) (stb0:40 < tb0.size) (ztb0:tb0.size≤9223372036854775807) (w:World) (R:EnvV w) :
   Calls Tryz.prog 3 #[.agg #[.string ta0,.string ta1,.string ta2],.agg #[.string tb0,.string tb1,.string tb2],.string k] w (Ret w (.bool true)):=by
 have c1:=known5_any
 have c2:=short_yes ta0 ta1 ta2 sta0 sta1 sta2
 have c3:=short_0 tb0 tb1 tb2 stb0 ztb0
 have C1:=Lib.hid c1
 have C2:=Lib.hid c2
 have C3:=Lib.hid c3
 clear c1 c2 c3
 have hb:=Below.refl w.heap.size w
 go_enter Tryz.func3,Tryz.ntmps3
 go_upto_region 1 with fail
 refine wp_alloc2 (fun w1 a0 a1 hk=>?_)
 replace hb:=hb.trans (hk.mono hb.size)
 clear hk
 obtain ⟨Aa,Ab,Ac⟩:=ce3 a0
 obtain ⟨Ad,Ae,Af⟩:=ce3 a1
 go_wp2_with ((first | (go_at_call 13;first | with_reducible refine (chVB hb R C1).mono ?_ | with_reducible refine (chVB hb R C1).mono ?_) | (go_at_call 14;first | with_reducible refine (chVB hb R C2).mono ?_ | with_reducible refine (chVB hb R C3).mono ?_));clear hb;rintro e w1 ⟨rfl,hk,hb⟩;clear Aa Ab Ac Ad Ae Af;replace a0:=zB hk a0;replace a1:=zB hk a1;obtain ⟨Aa,Ab,Ac⟩:=ce3 a0;obtain ⟨Ad,Ae,Af⟩:=ce3 a1;clear hk)
 first | go_ret | go_ret2 | go_ret3
 exact ⟨rfl,hb⟩
theorem errLong_b1  (ta0 ta1 ta2 tb0 tb1 tb2 k:ByteArray) (sta0:ta0.size≤40) (sta1:ta1.size≤40) (sta2:ta2.size≤40) (stb0:tb0.size≤40) (stb1:40 < tb1.size) (ztb1:tb1.size≤9223372036854775807) (w:World) (R:EnvV w) :
   Calls Tryz.prog 3 #[.agg #[.string ta0,.string ta1,.string ta2],.agg #[.string tb0,.string tb1,.string tb2],.string k] w (Ret w (.bool true)):=by
 have c1:=known5_any
 have c2:=short_yes ta0 ta1 ta2 sta0 sta1 sta2
 have c3:=short_1 tb0 tb1 tb2 stb0 stb1 ztb1
 have C1:=Lib.hid c1
 have C2:=Lib.hid c2
 have C3:=Lib.hid c3
 clear c1 c2 c3
 have hb:=Below.refl w.heap.size w
 go_enter Tryz.func3,Tryz.ntmps3
 go_upto_region 1 with fail
 refine wp_alloc2 (fun w1 a0 a1 hk=>?_)
 replace hb:=hb.trans (hk.mono hb.size)
 clear hk
 obtain ⟨Aa,Ab,Ac⟩:=ce3 a0
 obtain ⟨Ad,Ae,Af⟩:=ce3 a1
 go_wp2_with ((first | (go_at_call 13;first | with_reducible refine (chVB hb R C1).mono ?_ | with_reducible refine (chVB hb R C1).mono ?_) | (go_at_call 14;first | with_reducible refine (chVB hb R C2).mono ?_ | with_reducible refine (chVB hb R C3).mono ?_));clear hb;rintro e w1 ⟨rfl,hk,hb⟩;clear Aa Ab Ac Ad Ae Af;replace a0:=zB hk a0;replace a1:=zB hk a1;obtain ⟨Aa,Ab,Ac⟩:=ce3 a0;obtain ⟨Ad,Ae,Af⟩:=ce3 a1;clear hk)
 first | go_ret | go_ret2 | go_ret3
 exact ⟨rfl,hb⟩
theorem errLong_b2  (ta0 ta1 ta2 tb0 tb1 tb2 k:ByteArray) (sta0:ta0.size≤40) (sta1:ta1.size≤40) (sta2:ta2.size≤40) (stb0:tb0.size≤40) (stb1:tb1.size≤40) (stb2:40 < tb2.size) (ztb2:tb2.size≤9223372036854775807) (w:World) (R:EnvV w) :
   Calls Tryz.prog 3 #[.agg #[.string ta0,.string ta1,.string ta2],.agg #[.string tb0,.string tb1,.string tb2],.string k] w (Ret w (.bool true)):=by
 have c1:=known5_any
 have c2:=short_yes ta0 ta1 ta2 sta0 sta1 sta2
 have c3:=short_2 tb0 tb1 tb2 stb0 stb1 stb2 ztb2
 have C1:=Lib.hid c1
 have C2:=Lib.hid c2
 have C3:=Lib.hid c3
 clear c1 c2 c3
 have hb:=Below.refl w.heap.size w
 go_enter Tryz.func3,Tryz.ntmps3
 go_upto_region 1 with fail
 refine wp_alloc2 (fun w1 a0 a1 hk=>?_)
 replace hb:=hb.trans (hk.mono hb.size)
 clear hk
 obtain ⟨Aa,Ab,Ac⟩:=ce3 a0
 obtain ⟨Ad,Ae,Af⟩:=ce3 a1
 go_wp2_with ((first | (go_at_call 13;first | with_reducible refine (chVB hb R C1).mono ?_ | with_reducible refine (chVB hb R C1).mono ?_) | (go_at_call 14;first | with_reducible refine (chVB hb R C2).mono ?_ | with_reducible refine (chVB hb R C3).mono ?_));clear hb;rintro e w1 ⟨rfl,hk,hb⟩;clear Aa Ab Ac Ad Ae Af;replace a0:=zB hk a0;replace a1:=zB hk a1;obtain ⟨Aa,Ab,Ac⟩:=ce3 a0;obtain ⟨Ad,Ae,Af⟩:=ce3 a1;clear hk)
 first | go_ret | go_ret2 | go_ret3
 exact ⟨rfl,hb⟩
theorem errLong_k0  (ta0 ta1 ta2 tb0 tb1 tb2 k:ByteArray) (sta0:ta0.size≤40) (sta1:ta1.size≤40) (sta2:ta2.size≤40) (stb0:tb0.size≤40) (stb1:tb1.size≤40) (stb2:tb2.size≤40) (_sk:40 < k.size) (_zk:k.size≤9223372036854775807) (w:World) (R:EnvV w) :
   Calls Tryz.prog 3 #[.agg #[.string ta0,.string ta1,.string ta2],.agg #[.string tb0,.string tb1,.string tb2],.string k] w (Ret w (.bool true)):=by
 have c1:=known5_any
 have c2:=short_yes ta0 ta1 ta2 sta0 sta1 sta2
 have c3:=short_yes tb0 tb1 tb2 stb0 stb1 stb2
 have C1:=Lib.hid c1
 have C2:=Lib.hid c2
 have C3:=Lib.hid c3
 clear c1 c2 c3
 have hb:=Below.refl w.heap.size w
 go_enter Tryz.func3,Tryz.ntmps3
 go_upto_region 1 with fail
 refine wp_alloc2 (fun w1 a0 a1 hk=>?_)
 replace hb:=hb.trans (hk.mono hb.size)
 clear hk
 obtain ⟨Aa,Ab,Ac⟩:=ce3 a0
 obtain ⟨Ad,Ae,Af⟩:=ce3 a1
 go_wp2_with ((first | (go_at_call 13;first | with_reducible refine (chVB hb R C1).mono ?_ | with_reducible refine (chVB hb R C1).mono ?_) | (go_at_call 14;first | with_reducible refine (chVB hb R C2).mono ?_ | with_reducible refine (chVB hb R C3).mono ?_));clear hb;rintro e w1 ⟨rfl,hk,hb⟩;clear Aa Ab Ac Ad Ae Af;replace a0:=zB hk a0;replace a1:=zB hk a1;obtain ⟨Aa,Ab,Ac⟩:=ce3 a0;obtain ⟨Ad,Ae,Af⟩:=ce3 a1;clear hk)
 first | go_ret | go_ret2 | go_ret3
 exact ⟨rfl,hb⟩
theorem errs_1  (ta0 ta1 ta2 tb0 tb1 tb2 k:ByteArray) (eb eq ep w1 w2 ea:Int) (sta0:ta0.size≤40) (sta1:ta1.size≤40) (sta2:ta2.size≤40) (stb0:tb0.size≤40) (stb1:tb1.size≤40) (stb2:tb2.size≤40) (_sk:k.size≤40) (cA:CV 15 #[.agg #[.string ta0,.string ta1,.string ta2]] (.int .i64 ea)) (oA:CV 16 #[.agg #[.string ta0,.string ta1,.string ta2]] (.int .i64 ea)) (cB:CV 15 #[.agg #[.string tb0,.string tb1,.string tb2]] (.int .i64 eb)) (oB:CV 16 #[.agg #[.string tb0,.string tb1,.string tb2]] (.int .i64 eb)) (cQ:CV 17 #[.agg #[.string ta0,.string ta1]] (.int .i64 eq)) (oQ:CV 18 #[.agg #[.string ta0,.string ta1]] (.int .i64 eq)) (cP:CV 19 #[.agg #[.string ta0,.string ta1,.string ta2,.string k]] (.int .i64 ep)) (oP:CV 20 #[.agg #[.string ta0,.string ta1,.string ta2,.string k]] (.int .i64 ep)) (h1:firstNZ [ea,eb]=w1) (h2:firstNZ [ep,eb]=w2) (n1:w1≠0) (n2:w2≠0) (nea:ea≠0) (ek:Int) (cK:CV 15 #[.agg #[.string k,.string k,.string k]] (.int .i64 ek)) (h3:firstNZ [ea,ek]=ea) (n3:(ea:Int)≠0) (w:World) (R:EnvV w) :
   Calls Tryz.prog 3 #[.agg #[.string ta0,.string ta1,.string ta2],.agg #[.string tb0,.string tb1,.string tb2],.string k] w (Ret w (.bool true)):=by
 have c1:=known5_any
 have c2:=short_yes ta0 ta1 ta2 sta0 sta1 sta2
 have c3:=short_yes tb0 tb1 tb2 stb0 stb1 stb2
 have c4:=cA
 have c5:=oA
 have c6:=cQ
 have c7:=oQ
 have c8:=cP
 have c9:=oP
 have c11:=oB
 have c12:=fun (w:World) (R:EnvV w)=>firstErr2 ea eb w1 h1 w R.toEnvR
 have c13:=add_err ta0 ta1 ta2 tb0 tb1 tb2 ea eb w1 cA cB h1 n1
 have c14:=sub_err ta0 ta1 ta2 tb0 tb1 tb2 ea eb w1 cA cB h1 n1
 have c15:=dot_err ta0 ta1 ta2 tb0 tb1 tb2 ea eb w1 cA cB h1 n1
 have c16:=cross_err ta0 ta1 ta2 tb0 tb1 tb2 ea eb w1 cA cB h1 n1
 have c17:=parallel_err ta0 ta1 ta2 tb0 tb1 tb2 ea eb w1 cA cB h1 n1
 have c20:=fun (w:World) (R:EnvV w)=>firstErr2 ep eb w2 h2 w R.toEnvR
 have c21:=side_err ta0 ta1 ta2 k tb0 tb1 tb2 ep eb w2 cP cB h2 n2
 have c23:=scale_err ta0 ta1 ta2 k ea ek ea cA cK h3 n3
 have tw1:(w1 == 0)=false:=beq_eq_false_iff_ne.2 n1
 have tw2:(w2 == 0)=false:=beq_eq_false_iff_ne.2 n2
 have tea:(ea == 0)=false:=beq_eq_false_iff_ne.2 nea
 have C1:=Lib.hid c1
 have C2:=Lib.hid c2
 have C3:=Lib.hid c3
 have C4:=Lib.hid c4
 have C5:=Lib.hid c5
 have C6:=Lib.hid c6
 have C7:=Lib.hid c7
 have C8:=Lib.hid c8
 have C9:=Lib.hid c9
 have C11:=Lib.hid c11
 have C12:=Lib.hid c12
 have C13:=Lib.hid c13
 have C14:=Lib.hid c14
 have C15:=Lib.hid c15
 have C16:=Lib.hid c16
 have C17:=Lib.hid c17
 have C20:=Lib.hid c20
 have C21:=Lib.hid c21
 have C23:=Lib.hid c23
 clear c1 c2 c3 c4 c5 c6 c7 c8 c9 c11 c12 c13 c14 c15 c16 c17 c20 c21 c23 cA oA cB oB cQ oQ cP oP h1 h2 cK h3 n3
 have hb:=Below.refl w.heap.size w
 go_enter Tryz.func3,Tryz.ntmps3
 go_upto_region 1 with fail
 refine wp_alloc2 (fun w1 a0 a1 hk=>?_)
 replace hb:=hb.trans (hk.mono hb.size)
 clear hk
 obtain ⟨Ac,Ad,Ae⟩:=ce3 a0
 obtain ⟨Af,Ag,Ah⟩:=ce3 a1
 go_upto_region 4 with ((first | (go_at_call 13;with_reducible refine (chVB hb R C1).mono ?_) | (go_at_call 14;first | with_reducible refine (chVB hb R C2).mono ?_ | with_reducible refine (chVB hb R C3).mono ?_));clear hb;rintro e w1 ⟨rfl,hk,hb⟩;clear Ac Ad Ae Af Ag Ah;replace a0:=zB hk a0;replace a1:=zB hk a1;obtain ⟨Ac,Ad,Ae⟩:=ce3 a0;obtain ⟨Af,Ag,Ah⟩:=ce3 a1;clear hk)
 refine wp_alloc1 (fun w1 Aa hk=>?_)
 clear Ac Ad Ae Af Ag Ah
 replace a0:=zB hk a0
 replace a1:=zB hk a1
 obtain ⟨Ac,Ad,Ae⟩:=ce3 a0
 obtain ⟨Af,Ag,Ah⟩:=ce3 a1
 replace hb:=hb.trans (hk.mono hb.size)
 clear hk
 obtain ⟨Aj,Ak,Al,Am⟩:=ce4 Aa
 go_upto_region 5 with fail
 refine wp_alloc1 (fun w1 Ab hk=>?_)
 clear Ac Ad Ae Af Ag Ah Aj Ak Al Am
 replace a0:=zB hk a0
 replace a1:=zB hk a1
 replace Aa:=zB hk Aa
 obtain ⟨Ac,Ad,Ae⟩:=ce3 a0
 obtain ⟨Af,Ag,Ah⟩:=ce3 a1
 obtain ⟨Aj,Ak,Al,Am⟩:=ce4 Aa
 replace hb:=hb.trans (hk.mono hb.size)
 clear hk
 obtain ⟨An,Ao⟩:=ce2 Ab
 obtain ⟨A0,A1,A2⟩:=cy3 a0
 obtain ⟨A3,A4,A5⟩:=cy3 a1
 obtain ⟨A6,A7,A8,A9⟩:=cy4 Aa
 obtain ⟨Ba,Bb⟩:=cy2 Ab
 have Bc:=rrV C4 R hb
 have Bd:=rrV C5 R hb
 have Be:=rrV C6 R hb
 have Bf:=rrV C7 R hb
 have Bg:=rrV C8 R hb
 have Bh:=rrV C9 R hb
 refine wp_region_quiet_below (by first | assumption | kernel_rfl) (by kernel_rfl) ?_
 repeat (quiet_step (first | (with_reducible exact Bc.out _ _) | (with_reducible exact Bd.out _ _) | (with_reducible exact Be.out _ _) | (with_reducible exact Bf.out _ _) | (with_reducible exact Bg.out _ _) | (with_reducible exact Bh.out _ _)))
 refine wpQuiet_nil ?_
 intro w1 hw'
 obtain ⟨hk,hb⟩:=zQ hb hw'
 clear Ac Ad Ae Af Ag Ah Aj Ak Al Am An Ao
 replace a0:=zB hk a0
 replace a1:=zB hk a1
 replace Aa:=zB hk Aa
 replace Ab:=zB hk Ab
 obtain ⟨Ac,Ad,Ae⟩:=ce3 a0
 obtain ⟨Af,Ag,Ah⟩:=ce3 a1
 obtain ⟨Aj,Ak,Al,Am⟩:=ce4 Aa
 obtain ⟨An,Ao⟩:=ce2 Ab
 clear Bc Bd Be Bf Bg Bh A0 A1 A2 A3 A4 A5 A6 A7 A8 A9 Ba Bb
 clear hk hw'
 go_upto_region 7 with fail
 obtain ⟨A0,A1,A2⟩:=cy3 a0
 obtain ⟨A3,A4,A5⟩:=cy3 a1
 obtain ⟨A6,A7,A8,A9⟩:=cy4 Aa
 obtain ⟨Ba,Bb⟩:=cy2 Ab
 have Bi:=rrV C5 R hb
 have Bj:=rrV C11 R hb
 refine wp_region_tail_below 4 (by first | assumption | kernel_rfl) (by kernel_rfl) ?_
 simp only [List.take_succ_cons,List.take_zero,List.drop_succ_cons,List.drop_zero]
 repeat (quiet_step (first | (with_reducible exact Bi.out _ _) | (with_reducible exact Bj.out _ _)))
 refine wpQuiet_nil ?_
 intro w1 hw'
 obtain ⟨hk,hb⟩:=zQ hb hw'
 clear Ac Ad Ae Af Ag Ah Aj Ak Al Am An Ao
 replace a0:=zB hk a0
 replace a1:=zB hk a1
 replace Aa:=zB hk Aa
 replace Ab:=zB hk Ab
 obtain ⟨Ac,Ad,Ae⟩:=ce3 a0
 obtain ⟨Af,Ag,Ah⟩:=ce3 a1
 obtain ⟨Aj,Ak,Al,Am⟩:=ce4 Aa
 obtain ⟨An,Ao⟩:=ce2 Ab
 clear Bi Bj A0 A1 A2 A3 A4 A5 A6 A7 A8 A9 Ba Bb
 clear hk hw'
 go_upto_region 10 with ((first | (go_at_call 21;with_reducible refine (zL hb (C12.out _ (R.below hb))).mono ?_) | (go_at_call 22;with_reducible refine (chVB hb R C13).mono ?_));clear hb;rintro e w1 ⟨rfl,hk,hb⟩;clear Ac Ad Ae Af Ag Ah Aj Ak Al Am An Ao;replace a0:=zB hk a0;replace a1:=zB hk a1;replace Aa:=zB hk Aa;replace Ab:=zB hk Ab;obtain ⟨Ac,Ad,Ae⟩:=ce3 a0;obtain ⟨Af,Ag,Ah⟩:=ce3 a1;obtain ⟨Aj,Ak,Al,Am⟩:=ce4 Aa;obtain ⟨An,Ao⟩:=ce2 Ab;clear hk)
 refine wp_alloc1 (fun w1 Ai hk=>?_)
 clear Ac Ad Ae Af Ag Ah Aj Ak Al Am An Ao
 replace a0:=zB hk a0
 replace a1:=zB hk a1
 replace Aa:=zB hk Aa
 replace Ab:=zB hk Ab
 obtain ⟨Ac,Ad,Ae⟩:=ce3 a0
 obtain ⟨Af,Ag,Ah⟩:=ce3 a1
 obtain ⟨Aj,Ak,Al,Am⟩:=ce4 Aa
 obtain ⟨An,Ao⟩:=ce2 Ab
 replace hb:=hb.trans (hk.mono hb.size)
 clear hk
 obtain ⟨Aq,Ar,As⟩:=ce3 Ai
 go_upto_region 11 with (go_at_call 23;with_reducible refine (chVB hb R C14).mono ?_;clear hb;rintro e w1 ⟨rfl,hk,hb⟩;clear Ac Ad Ae Af Ag Ah Aj Ak Al Am An Ao Aq Ar As;replace a0:=zB hk a0;replace a1:=zB hk a1;replace Aa:=zB hk Aa;replace Ab:=zB hk Ab;replace Ai:=zB hk Ai;obtain ⟨Ac,Ad,Ae⟩:=ce3 a0;obtain ⟨Af,Ag,Ah⟩:=ce3 a1;obtain ⟨Aj,Ak,Al,Am⟩:=ce4 Aa;obtain ⟨An,Ao⟩:=ce2 Ab;obtain ⟨Aq,Ar,As⟩:=ce3 Ai;clear hk)
 refine wp_alloc1 (fun w1 Ap hk=>?_)
 clear Ac Ad Ae Af Ag Ah Aj Ak Al Am An Ao Aq Ar As
 replace a0:=zB hk a0
 replace a1:=zB hk a1
 replace Aa:=zB hk Aa
 replace Ab:=zB hk Ab
 replace Ai:=zB hk Ai
 obtain ⟨Ac,Ad,Ae⟩:=ce3 a0
 obtain ⟨Af,Ag,Ah⟩:=ce3 a1
 obtain ⟨Aj,Ak,Al,Am⟩:=ce4 Aa
 obtain ⟨An,Ao⟩:=ce2 Ab
 obtain ⟨Aq,Ar,As⟩:=ce3 Ai
 replace hb:=hb.trans (hk.mono hb.size)
 clear hk
 obtain ⟨Au,Av,Aw⟩:=ce3 Ap
 go_upto_region 13 with ((first | (go_at_call 24;with_reducible refine (chVB hb R C15).mono ?_) | (go_at_call 25;with_reducible refine (chVB hb R C16).mono ?_));clear hb;rintro e w1 ⟨rfl,hk,hb⟩;clear Ac Ad Ae Af Ag Ah Aj Ak Al Am An Ao Aq Ar As Au Av Aw;replace a0:=zB hk a0;replace a1:=zB hk a1;replace Aa:=zB hk Aa;replace Ab:=zB hk Ab;replace Ai:=zB hk Ai;replace Ap:=zB hk Ap;obtain ⟨Ac,Ad,Ae⟩:=ce3 a0;obtain ⟨Af,Ag,Ah⟩:=ce3 a1;obtain ⟨Aj,Ak,Al,Am⟩:=ce4 Aa;obtain ⟨An,Ao⟩:=ce2 Ab;obtain ⟨Aq,Ar,As⟩:=ce3 Ai;obtain ⟨Au,Av,Aw⟩:=ce3 Ap;clear hk)
 refine wp_alloc1 (fun w1 At hk=>?_)
 clear Ac Ad Ae Af Ag Ah Aj Ak Al Am An Ao Aq Ar As Au Av Aw
 replace a0:=zB hk a0
 replace a1:=zB hk a1
 replace Aa:=zB hk Aa
 replace Ab:=zB hk Ab
 replace Ai:=zB hk Ai
 replace Ap:=zB hk Ap
 obtain ⟨Ac,Ad,Ae⟩:=ce3 a0
 obtain ⟨Af,Ag,Ah⟩:=ce3 a1
 obtain ⟨Aj,Ak,Al,Am⟩:=ce4 Aa
 obtain ⟨An,Ao⟩:=ce2 Ab
 obtain ⟨Aq,Ar,As⟩:=ce3 Ai
 obtain ⟨Au,Av,Aw⟩:=ce3 Ap
 replace hb:=hb.trans (hk.mono hb.size)
 clear hk
 obtain ⟨Ax,Ay,Az⟩:=ce3 At
 go_upto_region 16 with (go_at_call 26;with_reducible refine (chVB hb R C17).mono ?_;clear hb;rintro e w1 ⟨rfl,hk,hb⟩;clear Ac Ad Ae Af Ag Ah Aj Ak Al Am An Ao Aq Ar As Au Av Aw Ax Ay Az;replace a0:=zB hk a0;replace a1:=zB hk a1;replace Aa:=zB hk Aa;replace Ab:=zB hk Ab;replace Ai:=zB hk Ai;replace Ap:=zB hk Ap;replace At:=zB hk At;obtain ⟨Ac,Ad,Ae⟩:=ce3 a0;obtain ⟨Af,Ag,Ah⟩:=ce3 a1;obtain ⟨Aj,Ak,Al,Am⟩:=ce4 Aa;obtain ⟨An,Ao⟩:=ce2 Ab;obtain ⟨Aq,Ar,As⟩:=ce3 Ai;obtain ⟨Au,Av,Aw⟩:=ce3 Ap;obtain ⟨Ax,Ay,Az⟩:=ce3 At;clear hk)
 obtain ⟨A0,A1,A2⟩:=cy3 a0
 obtain ⟨A3,A4,A5⟩:=cy3 a1
 obtain ⟨A6,A7,A8,A9⟩:=cy4 Aa
 obtain ⟨Ba,Bb⟩:=cy2 Ab
 obtain ⟨Bm,Bn,Bo⟩:=cy3 Ai
 obtain ⟨Bp,Bq,Br⟩:=cy3 Ap
 obtain ⟨Bs,Bt,Bu⟩:=cy3 At
 have Bk:=rrV C9 R hb
 have Bl:=rrV C11 R hb
 refine wp_region_tail_below 4 (by first | assumption | kernel_rfl) (by kernel_rfl) ?_
 simp only [List.take_succ_cons,List.take_zero,List.drop_succ_cons,List.drop_zero]
 repeat (quiet_step (first | (with_reducible exact Bk.out _ _) | (with_reducible exact Bl.out _ _)))
 refine wpQuiet_nil ?_
 intro w1 hw'
 obtain ⟨hk,hb⟩:=zQ hb hw'
 clear Ac Ad Ae Af Ag Ah Aj Ak Al Am An Ao Aq Ar As Au Av Aw Ax Ay Az
 replace a0:=zB hk a0
 replace a1:=zB hk a1
 replace Aa:=zB hk Aa
 replace Ab:=zB hk Ab
 replace Ai:=zB hk Ai
 replace Ap:=zB hk Ap
 replace At:=zB hk At
 obtain ⟨Ac,Ad,Ae⟩:=ce3 a0
 obtain ⟨Af,Ag,Ah⟩:=ce3 a1
 obtain ⟨Aj,Ak,Al,Am⟩:=ce4 Aa
 obtain ⟨An,Ao⟩:=ce2 Ab
 obtain ⟨Aq,Ar,As⟩:=ce3 Ai
 obtain ⟨Au,Av,Aw⟩:=ce3 Ap
 obtain ⟨Ax,Ay,Az⟩:=ce3 At
 clear Bk Bl A0 A1 A2 A3 A4 A5 A6 A7 A8 A9 Ba Bb Bm Bn Bo Bp Bq Br Bs Bt Bu
 clear hk hw'
 go_upto_region 26 with (first | ((first | (go_at_call 21;with_reducible refine (zL hb (C20.out _ (R.below hb))).mono ?_) | (go_at_call 27;with_reducible refine (chVB hb R C21).mono ?_));clear hb;rintro e w1 ⟨rfl,hk,hb⟩;clear Ac Ad Ae Af Ag Ah Aj Ak Al Am An Ao Aq Ar As Au Av Aw Ax Ay Az;replace a0:=zB hk a0;replace a1:=zB hk a1;replace Aa:=zB hk Aa;replace Ab:=zB hk Ab;replace Ai:=zB hk Ai;replace Ap:=zB hk Ap;replace At:=zB hk At;obtain ⟨Ac,Ad,Ae⟩:=ce3 a0;obtain ⟨Af,Ag,Ah⟩:=ce3 a1;obtain ⟨Aj,Ak,Al,Am⟩:=ce4 Aa;obtain ⟨An,Ao⟩:=ce2 Ab;obtain ⟨Aq,Ar,As⟩:=ce3 Ai;obtain ⟨Au,Av,Aw⟩:=ce3 Ap;obtain ⟨Ax,Ay,Az⟩:=ce3 At;clear hk) | ((first | (go_at_call 16;with_reducible refine (chVB hb R C5).mono ?_) | (go_at_call 29;with_reducible refine (chVB hb R C23).mono ?_));clear hb;rintro e w1 ⟨rfl,hk,hb⟩;clear Ac Ad Ae Aj Ak Al Am An Ao Aq Ar As Au Av Aw Ax Ay Az;replace a0:=zB hk a0;replace Aa:=zB hk Aa;replace Ab:=zB hk Ab;replace Ai:=zB hk Ai;replace Ap:=zB hk Ap;replace At:=zB hk At;obtain ⟨Ac,Ad,Ae⟩:=ce3 a0;obtain ⟨Aj,Ak,Al,Am⟩:=ce4 Aa;obtain ⟨An,Ao⟩:=ce2 Ab;obtain ⟨Aq,Ar,As⟩:=ce3 Ai;obtain ⟨Au,Av,Aw⟩:=ce3 Ap;obtain ⟨Ax,Ay,Az⟩:=ce3 At;clear hk))
 clear Ac Ad Ae a0 Af Ag Ah a1
 refine wp_alloc1 (fun w1 Bv hk=>?_)
 clear Aj Ak Al Am An Ao Aq Ar As Au Av Aw Ax Ay Az
 replace Aa:=zB hk Aa
 replace Ab:=zB hk Ab
 replace Ai:=zB hk Ai
 replace Ap:=zB hk Ap
 replace At:=zB hk At
 obtain ⟨Aj,Ak,Al,Am⟩:=ce4 Aa
 obtain ⟨An,Ao⟩:=ce2 Ab
 obtain ⟨Aq,Ar,As⟩:=ce3 Ai
 obtain ⟨Au,Av,Aw⟩:=ce3 Ap
 obtain ⟨Ax,Ay,Az⟩:=ce3 At
 replace hb:=hb.trans (hk.mono hb.size)
 clear hk
 obtain ⟨Bw,Bx,By⟩:=ce3 Bv
 go_wp2
 first | go_ret | go_ret2 | go_ret3
 exact ⟨rfl,hb⟩
theorem errs_2a  (ta0 ta1 ta2 tb0 tb1 tb2 k:ByteArray) (eb eq ep w1 w2:Int) (sta0:ta0.size≤40) (sta1:ta1.size≤40) (sta2:ta2.size≤40) (stb0:tb0.size≤40) (stb1:tb1.size≤40) (stb2:tb2.size≤40) (_sk:k.size≤40) (cA:CV 15 #[.agg #[.string ta0,.string ta1,.string ta2]] (.int .i64 0)) (oA:CV 16 #[.agg #[.string ta0,.string ta1,.string ta2]] (.int .i64 0)) (cB:CV 15 #[.agg #[.string tb0,.string tb1,.string tb2]] (.int .i64 eb)) (oB:CV 16 #[.agg #[.string tb0,.string tb1,.string tb2]] (.int .i64 eb)) (cQ:CV 17 #[.agg #[.string ta0,.string ta1]] (.int .i64 eq)) (oQ:CV 18 #[.agg #[.string ta0,.string ta1]] (.int .i64 eq)) (cP:CV 19 #[.agg #[.string ta0,.string ta1,.string ta2,.string k]] (.int .i64 ep)) (oP:CV 20 #[.agg #[.string ta0,.string ta1,.string ta2,.string k]] (.int .i64 ep)) (h1:firstNZ [0,eb]=w1) (h2:firstNZ [ep,eb]=w2) (n1:w1≠0) (n2:w2≠0) (cR:CV 28 #[.string k] (.bool false)) (ek:Int) (cK:CV 15 #[.agg #[.string k,.string k,.string k]] (.int .i64 ek)) (h3:firstNZ [0,ek]=2) (n3:(2:Int)≠0) (w:World) (R:EnvV w) :
   Calls Tryz.prog 3 #[.agg #[.string ta0,.string ta1,.string ta2],.agg #[.string tb0,.string tb1,.string tb2],.string k] w (Ret w (.bool true)):=by
 have c1:=known5_any
 have c2:=short_yes ta0 ta1 ta2 sta0 sta1 sta2
 have c3:=short_yes tb0 tb1 tb2 stb0 stb1 stb2
 have c4:=cA
 have c5:=oA
 have c6:=cQ
 have c7:=oQ
 have c8:=cP
 have c9:=oP
 have c11:=oB
 have c12:=fun (w:World) (R:EnvV w)=>firstErr2 0 eb w1 h1 w R.toEnvR
 have c13:=add_err ta0 ta1 ta2 tb0 tb1 tb2 0 eb w1 cA cB h1 n1
 have c14:=sub_err ta0 ta1 ta2 tb0 tb1 tb2 0 eb w1 cA cB h1 n1
 have c15:=dot_err ta0 ta1 ta2 tb0 tb1 tb2 0 eb w1 cA cB h1 n1
 have c16:=cross_err ta0 ta1 ta2 tb0 tb1 tb2 0 eb w1 cA cB h1 n1
 have c17:=parallel_err ta0 ta1 ta2 tb0 tb1 tb2 0 eb w1 cA cB h1 n1
 have c20:=fun (w:World) (R:EnvV w)=>firstErr2 ep eb w2 h2 w R.toEnvR
 have c21:=side_err ta0 ta1 ta2 k tb0 tb1 tb2 ep eb w2 cP cB h2 n2
 have c23:=cR
 have c24:=scale_err ta0 ta1 ta2 k 0 ek 2 cA cK h3 n3
 have tw1:(w1 == 0)=false:=beq_eq_false_iff_ne.2 n1
 have tw2:(w2 == 0)=false:=beq_eq_false_iff_ne.2 n2
 have C1:=Lib.hid c1
 have C2:=Lib.hid c2
 have C3:=Lib.hid c3
 have C4:=Lib.hid c4
 have C5:=Lib.hid c5
 have C6:=Lib.hid c6
 have C7:=Lib.hid c7
 have C8:=Lib.hid c8
 have C9:=Lib.hid c9
 have C11:=Lib.hid c11
 have C12:=Lib.hid c12
 have C13:=Lib.hid c13
 have C14:=Lib.hid c14
 have C15:=Lib.hid c15
 have C16:=Lib.hid c16
 have C17:=Lib.hid c17
 have C20:=Lib.hid c20
 have C21:=Lib.hid c21
 have C23:=Lib.hid c23
 have C24:=Lib.hid c24
 clear c1 c2 c3 c4 c5 c6 c7 c8 c9 c11 c12 c13 c14 c15 c16 c17 c20 c21 c23 c24 cA oA cB oB cQ oQ cP oP h1 h2 cR cK h3 n3
 have hb:=Below.refl w.heap.size w
 go_enter Tryz.func3,Tryz.ntmps3
 go_upto_region 1 with fail
 refine wp_alloc2 (fun w1 a0 a1 hk=>?_)
 replace hb:=hb.trans (hk.mono hb.size)
 clear hk
 obtain ⟨Ac,Ad,Ae⟩:=ce3 a0
 obtain ⟨Af,Ag,Ah⟩:=ce3 a1
 go_upto_region 4 with ((first | (go_at_call 13;with_reducible refine (chVB hb R C1).mono ?_) | (go_at_call 14;first | with_reducible refine (chVB hb R C2).mono ?_ | with_reducible refine (chVB hb R C3).mono ?_));clear hb;rintro e w1 ⟨rfl,hk,hb⟩;clear Ac Ad Ae Af Ag Ah;replace a0:=zB hk a0;replace a1:=zB hk a1;obtain ⟨Ac,Ad,Ae⟩:=ce3 a0;obtain ⟨Af,Ag,Ah⟩:=ce3 a1;clear hk)
 refine wp_alloc1 (fun w1 Aa hk=>?_)
 clear Ac Ad Ae Af Ag Ah
 replace a0:=zB hk a0
 replace a1:=zB hk a1
 obtain ⟨Ac,Ad,Ae⟩:=ce3 a0
 obtain ⟨Af,Ag,Ah⟩:=ce3 a1
 replace hb:=hb.trans (hk.mono hb.size)
 clear hk
 obtain ⟨Aj,Ak,Al,Am⟩:=ce4 Aa
 go_upto_region 5 with fail
 refine wp_alloc1 (fun w1 Ab hk=>?_)
 clear Ac Ad Ae Af Ag Ah Aj Ak Al Am
 replace a0:=zB hk a0
 replace a1:=zB hk a1
 replace Aa:=zB hk Aa
 obtain ⟨Ac,Ad,Ae⟩:=ce3 a0
 obtain ⟨Af,Ag,Ah⟩:=ce3 a1
 obtain ⟨Aj,Ak,Al,Am⟩:=ce4 Aa
 replace hb:=hb.trans (hk.mono hb.size)
 clear hk
 obtain ⟨An,Ao⟩:=ce2 Ab
 obtain ⟨A0,A1,A2⟩:=cy3 a0
 obtain ⟨A3,A4,A5⟩:=cy3 a1
 obtain ⟨A6,A7,A8,A9⟩:=cy4 Aa
 obtain ⟨Ba,Bb⟩:=cy2 Ab
 have Bc:=rrV C4 R hb
 have Bd:=rrV C5 R hb
 have Be:=rrV C6 R hb
 have Bf:=rrV C7 R hb
 have Bg:=rrV C8 R hb
 have Bh:=rrV C9 R hb
 refine wp_region_quiet_below (by first | assumption | kernel_rfl) (by kernel_rfl) ?_
 repeat (quiet_step (first | (with_reducible exact Bc.out _ _) | (with_reducible exact Bd.out _ _) | (with_reducible exact Be.out _ _) | (with_reducible exact Bf.out _ _) | (with_reducible exact Bg.out _ _) | (with_reducible exact Bh.out _ _)))
 refine wpQuiet_nil ?_
 intro w1 hw'
 obtain ⟨hk,hb⟩:=zQ hb hw'
 clear Ac Ad Ae Af Ag Ah Aj Ak Al Am An Ao
 replace a0:=zB hk a0
 replace a1:=zB hk a1
 replace Aa:=zB hk Aa
 replace Ab:=zB hk Ab
 obtain ⟨Ac,Ad,Ae⟩:=ce3 a0
 obtain ⟨Af,Ag,Ah⟩:=ce3 a1
 obtain ⟨Aj,Ak,Al,Am⟩:=ce4 Aa
 obtain ⟨An,Ao⟩:=ce2 Ab
 clear Bc Bd Be Bf Bg Bh A0 A1 A2 A3 A4 A5 A6 A7 A8 A9 Ba Bb
 clear hk hw'
 go_upto_region 7 with fail
 obtain ⟨A0,A1,A2⟩:=cy3 a0
 obtain ⟨A3,A4,A5⟩:=cy3 a1
 obtain ⟨A6,A7,A8,A9⟩:=cy4 Aa
 obtain ⟨Ba,Bb⟩:=cy2 Ab
 have Bi:=rrV C5 R hb
 have Bj:=rrV C11 R hb
 refine wp_region_tail_below 4 (by first | assumption | kernel_rfl) (by kernel_rfl) ?_
 simp only [List.take_succ_cons,List.take_zero,List.drop_succ_cons,List.drop_zero]
 repeat (quiet_step (first | (with_reducible exact Bi.out _ _) | (with_reducible exact Bj.out _ _)))
 refine wpQuiet_nil ?_
 intro w1 hw'
 obtain ⟨hk,hb⟩:=zQ hb hw'
 clear Ac Ad Ae Af Ag Ah Aj Ak Al Am An Ao
 replace a0:=zB hk a0
 replace a1:=zB hk a1
 replace Aa:=zB hk Aa
 replace Ab:=zB hk Ab
 obtain ⟨Ac,Ad,Ae⟩:=ce3 a0
 obtain ⟨Af,Ag,Ah⟩:=ce3 a1
 obtain ⟨Aj,Ak,Al,Am⟩:=ce4 Aa
 obtain ⟨An,Ao⟩:=ce2 Ab
 clear Bi Bj A0 A1 A2 A3 A4 A5 A6 A7 A8 A9 Ba Bb
 clear hk hw'
 go_upto_region 10 with ((first | (go_at_call 21;with_reducible refine (zL hb (C12.out _ (R.below hb))).mono ?_) | (go_at_call 22;with_reducible refine (chVB hb R C13).mono ?_));clear hb;rintro e w1 ⟨rfl,hk,hb⟩;clear Ac Ad Ae Af Ag Ah Aj Ak Al Am An Ao;replace a0:=zB hk a0;replace a1:=zB hk a1;replace Aa:=zB hk Aa;replace Ab:=zB hk Ab;obtain ⟨Ac,Ad,Ae⟩:=ce3 a0;obtain ⟨Af,Ag,Ah⟩:=ce3 a1;obtain ⟨Aj,Ak,Al,Am⟩:=ce4 Aa;obtain ⟨An,Ao⟩:=ce2 Ab;clear hk)
 refine wp_alloc1 (fun w1 Ai hk=>?_)
 clear Ac Ad Ae Af Ag Ah Aj Ak Al Am An Ao
 replace a0:=zB hk a0
 replace a1:=zB hk a1
 replace Aa:=zB hk Aa
 replace Ab:=zB hk Ab
 obtain ⟨Ac,Ad,Ae⟩:=ce3 a0
 obtain ⟨Af,Ag,Ah⟩:=ce3 a1
 obtain ⟨Aj,Ak,Al,Am⟩:=ce4 Aa
 obtain ⟨An,Ao⟩:=ce2 Ab
 replace hb:=hb.trans (hk.mono hb.size)
 clear hk
 obtain ⟨Aq,Ar,As⟩:=ce3 Ai
 go_upto_region 11 with (go_at_call 23;with_reducible refine (chVB hb R C14).mono ?_;clear hb;rintro e w1 ⟨rfl,hk,hb⟩;clear Ac Ad Ae Af Ag Ah Aj Ak Al Am An Ao Aq Ar As;replace a0:=zB hk a0;replace a1:=zB hk a1;replace Aa:=zB hk Aa;replace Ab:=zB hk Ab;replace Ai:=zB hk Ai;obtain ⟨Ac,Ad,Ae⟩:=ce3 a0;obtain ⟨Af,Ag,Ah⟩:=ce3 a1;obtain ⟨Aj,Ak,Al,Am⟩:=ce4 Aa;obtain ⟨An,Ao⟩:=ce2 Ab;obtain ⟨Aq,Ar,As⟩:=ce3 Ai;clear hk)
 refine wp_alloc1 (fun w1 Ap hk=>?_)
 clear Ac Ad Ae Af Ag Ah Aj Ak Al Am An Ao Aq Ar As
 replace a0:=zB hk a0
 replace a1:=zB hk a1
 replace Aa:=zB hk Aa
 replace Ab:=zB hk Ab
 replace Ai:=zB hk Ai
 obtain ⟨Ac,Ad,Ae⟩:=ce3 a0
 obtain ⟨Af,Ag,Ah⟩:=ce3 a1
 obtain ⟨Aj,Ak,Al,Am⟩:=ce4 Aa
 obtain ⟨An,Ao⟩:=ce2 Ab
 obtain ⟨Aq,Ar,As⟩:=ce3 Ai
 replace hb:=hb.trans (hk.mono hb.size)
 clear hk
 obtain ⟨Au,Av,Aw⟩:=ce3 Ap
 go_upto_region 13 with ((first | (go_at_call 24;with_reducible refine (chVB hb R C15).mono ?_) | (go_at_call 25;with_reducible refine (chVB hb R C16).mono ?_));clear hb;rintro e w1 ⟨rfl,hk,hb⟩;clear Ac Ad Ae Af Ag Ah Aj Ak Al Am An Ao Aq Ar As Au Av Aw;replace a0:=zB hk a0;replace a1:=zB hk a1;replace Aa:=zB hk Aa;replace Ab:=zB hk Ab;replace Ai:=zB hk Ai;replace Ap:=zB hk Ap;obtain ⟨Ac,Ad,Ae⟩:=ce3 a0;obtain ⟨Af,Ag,Ah⟩:=ce3 a1;obtain ⟨Aj,Ak,Al,Am⟩:=ce4 Aa;obtain ⟨An,Ao⟩:=ce2 Ab;obtain ⟨Aq,Ar,As⟩:=ce3 Ai;obtain ⟨Au,Av,Aw⟩:=ce3 Ap;clear hk)
 refine wp_alloc1 (fun w1 At hk=>?_)
 clear Ac Ad Ae Af Ag Ah Aj Ak Al Am An Ao Aq Ar As Au Av Aw
 replace a0:=zB hk a0
 replace a1:=zB hk a1
 replace Aa:=zB hk Aa
 replace Ab:=zB hk Ab
 replace Ai:=zB hk Ai
 replace Ap:=zB hk Ap
 obtain ⟨Ac,Ad,Ae⟩:=ce3 a0
 obtain ⟨Af,Ag,Ah⟩:=ce3 a1
 obtain ⟨Aj,Ak,Al,Am⟩:=ce4 Aa
 obtain ⟨An,Ao⟩:=ce2 Ab
 obtain ⟨Aq,Ar,As⟩:=ce3 Ai
 obtain ⟨Au,Av,Aw⟩:=ce3 Ap
 replace hb:=hb.trans (hk.mono hb.size)
 clear hk
 obtain ⟨Ax,Ay,Az⟩:=ce3 At
 go_upto_region 16 with (go_at_call 26;with_reducible refine (chVB hb R C17).mono ?_;clear hb;rintro e w1 ⟨rfl,hk,hb⟩;clear Ac Ad Ae Af Ag Ah Aj Ak Al Am An Ao Aq Ar As Au Av Aw Ax Ay Az;replace a0:=zB hk a0;replace a1:=zB hk a1;replace Aa:=zB hk Aa;replace Ab:=zB hk Ab;replace Ai:=zB hk Ai;replace Ap:=zB hk Ap;replace At:=zB hk At;obtain ⟨Ac,Ad,Ae⟩:=ce3 a0;obtain ⟨Af,Ag,Ah⟩:=ce3 a1;obtain ⟨Aj,Ak,Al,Am⟩:=ce4 Aa;obtain ⟨An,Ao⟩:=ce2 Ab;obtain ⟨Aq,Ar,As⟩:=ce3 Ai;obtain ⟨Au,Av,Aw⟩:=ce3 Ap;obtain ⟨Ax,Ay,Az⟩:=ce3 At;clear hk)
 obtain ⟨A0,A1,A2⟩:=cy3 a0
 obtain ⟨A3,A4,A5⟩:=cy3 a1
 obtain ⟨A6,A7,A8,A9⟩:=cy4 Aa
 obtain ⟨Ba,Bb⟩:=cy2 Ab
 obtain ⟨Bm,Bn,Bo⟩:=cy3 Ai
 obtain ⟨Bp,Bq,Br⟩:=cy3 Ap
 obtain ⟨Bs,Bt,Bu⟩:=cy3 At
 have Bk:=rrV C9 R hb
 have Bl:=rrV C11 R hb
 refine wp_region_tail_below 4 (by first | assumption | kernel_rfl) (by kernel_rfl) ?_
 simp only [List.take_succ_cons,List.take_zero,List.drop_succ_cons,List.drop_zero]
 repeat (quiet_step (first | (with_reducible exact Bk.out _ _) | (with_reducible exact Bl.out _ _)))
 refine wpQuiet_nil ?_
 intro w1 hw'
 obtain ⟨hk,hb⟩:=zQ hb hw'
 clear Ac Ad Ae Af Ag Ah Aj Ak Al Am An Ao Aq Ar As Au Av Aw Ax Ay Az
 replace a0:=zB hk a0
 replace a1:=zB hk a1
 replace Aa:=zB hk Aa
 replace Ab:=zB hk Ab
 replace Ai:=zB hk Ai
 replace Ap:=zB hk Ap
 replace At:=zB hk At
 obtain ⟨Ac,Ad,Ae⟩:=ce3 a0
 obtain ⟨Af,Ag,Ah⟩:=ce3 a1
 obtain ⟨Aj,Ak,Al,Am⟩:=ce4 Aa
 obtain ⟨An,Ao⟩:=ce2 Ab
 obtain ⟨Aq,Ar,As⟩:=ce3 Ai
 obtain ⟨Au,Av,Aw⟩:=ce3 Ap
 obtain ⟨Ax,Ay,Az⟩:=ce3 At
 clear Bk Bl A0 A1 A2 A3 A4 A5 A6 A7 A8 A9 Ba Bb Bm Bn Bo Bp Bq Br Bs Bt Bu
 clear hk hw'
 go_upto_region 26 with (first | ((first | (go_at_call 21;with_reducible refine (zL hb (C20.out _ (R.below hb))).mono ?_) | (go_at_call 27;with_reducible refine (chVB hb R C21).mono ?_));clear hb;rintro e w1 ⟨rfl,hk,hb⟩;clear Ac Ad Ae Af Ag Ah Aj Ak Al Am An Ao Aq Ar As Au Av Aw Ax Ay Az;replace a0:=zB hk a0;replace a1:=zB hk a1;replace Aa:=zB hk Aa;replace Ab:=zB hk Ab;replace Ai:=zB hk Ai;replace Ap:=zB hk Ap;replace At:=zB hk At;obtain ⟨Ac,Ad,Ae⟩:=ce3 a0;obtain ⟨Af,Ag,Ah⟩:=ce3 a1;obtain ⟨Aj,Ak,Al,Am⟩:=ce4 Aa;obtain ⟨An,Ao⟩:=ce2 Ab;obtain ⟨Aq,Ar,As⟩:=ce3 Ai;obtain ⟨Au,Av,Aw⟩:=ce3 Ap;obtain ⟨Ax,Ay,Az⟩:=ce3 At;clear hk) | ((first | (go_at_call 16;with_reducible refine (chVB hb R C5).mono ?_) | (go_at_call 28;with_reducible refine (chVB hb R C23).mono ?_) | (go_at_call 29;with_reducible refine (chVB hb R C24).mono ?_));clear hb;rintro e w1 ⟨rfl,hk,hb⟩;clear Ac Ad Ae Aj Ak Al Am An Ao Aq Ar As Au Av Aw Ax Ay Az;replace a0:=zB hk a0;replace Aa:=zB hk Aa;replace Ab:=zB hk Ab;replace Ai:=zB hk Ai;replace Ap:=zB hk Ap;replace At:=zB hk At;obtain ⟨Ac,Ad,Ae⟩:=ce3 a0;obtain ⟨Aj,Ak,Al,Am⟩:=ce4 Aa;obtain ⟨An,Ao⟩:=ce2 Ab;obtain ⟨Aq,Ar,As⟩:=ce3 Ai;obtain ⟨Au,Av,Aw⟩:=ce3 Ap;obtain ⟨Ax,Ay,Az⟩:=ce3 At;clear hk))
 clear Ac Ad Ae a0 Af Ag Ah a1
 refine wp_alloc1 (fun w1 Bv hk=>?_)
 clear Aj Ak Al Am An Ao Aq Ar As Au Av Aw Ax Ay Az
 replace Aa:=zB hk Aa
 replace Ab:=zB hk Ab
 replace Ai:=zB hk Ai
 replace Ap:=zB hk Ap
 replace At:=zB hk At
 obtain ⟨Aj,Ak,Al,Am⟩:=ce4 Aa
 obtain ⟨An,Ao⟩:=ce2 Ab
 obtain ⟨Aq,Ar,As⟩:=ce3 Ai
 obtain ⟨Au,Av,Aw⟩:=ce3 Ap
 obtain ⟨Ax,Ay,Az⟩:=ce3 At
 replace hb:=hb.trans (hk.mono hb.size)
 clear hk
 obtain ⟨Bw,Bx,By⟩:=ce3 Bv
 go_wp2
 first | go_ret | go_ret2 | go_ret3
 exact ⟨rfl,hb⟩
theorem errs_2b  (ta0 ta1 ta2 tb0 tb1 tb2 k:ByteArray) (eb eq ep w1 w2:Int) (sta0:ta0.size≤40) (sta1:ta1.size≤40) (sta2:ta2.size≤40) (stb0:tb0.size≤40) (stb1:tb1.size≤40) (stb2:tb2.size≤40) (_sk:k.size≤40) (cA:CV 15 #[.agg #[.string ta0,.string ta1,.string ta2]] (.int .i64 0)) (oA:CV 16 #[.agg #[.string ta0,.string ta1,.string ta2]] (.int .i64 0)) (cB:CV 15 #[.agg #[.string tb0,.string tb1,.string tb2]] (.int .i64 eb)) (oB:CV 16 #[.agg #[.string tb0,.string tb1,.string tb2]] (.int .i64 eb)) (cQ:CV 17 #[.agg #[.string ta0,.string ta1]] (.int .i64 eq)) (oQ:CV 18 #[.agg #[.string ta0,.string ta1]] (.int .i64 eq)) (cP:CV 19 #[.agg #[.string ta0,.string ta1,.string ta2,.string k]] (.int .i64 ep)) (oP:CV 20 #[.agg #[.string ta0,.string ta1,.string ta2,.string k]] (.int .i64 ep)) (h1:firstNZ [0,eb]=w1) (h2:firstNZ [ep,eb]=w2) (n1:w1≠0) (n2:w2≠0) (cR:CV 28 #[.string k] (.bool true)) (w:World) (R:EnvV w) :
   Calls Tryz.prog 3 #[.agg #[.string ta0,.string ta1,.string ta2],.agg #[.string tb0,.string tb1,.string tb2],.string k] w (Ret w (.bool true)):=by
 have c1:=known5_any
 have c2:=short_yes ta0 ta1 ta2 sta0 sta1 sta2
 have c3:=short_yes tb0 tb1 tb2 stb0 stb1 stb2
 have c4:=cA
 have c5:=oA
 have c6:=cQ
 have c7:=oQ
 have c8:=cP
 have c9:=oP
 have c11:=oB
 have c12:=fun (w:World) (R:EnvV w)=>firstErr2 0 eb w1 h1 w R.toEnvR
 have c13:=add_err ta0 ta1 ta2 tb0 tb1 tb2 0 eb w1 cA cB h1 n1
 have c14:=sub_err ta0 ta1 ta2 tb0 tb1 tb2 0 eb w1 cA cB h1 n1
 have c15:=dot_err ta0 ta1 ta2 tb0 tb1 tb2 0 eb w1 cA cB h1 n1
 have c16:=cross_err ta0 ta1 ta2 tb0 tb1 tb2 0 eb w1 cA cB h1 n1
 have c17:=parallel_err ta0 ta1 ta2 tb0 tb1 tb2 0 eb w1 cA cB h1 n1
 have c20:=fun (w:World) (R:EnvV w)=>firstErr2 ep eb w2 h2 w R.toEnvR
 have c21:=side_err ta0 ta1 ta2 k tb0 tb1 tb2 ep eb w2 cP cB h2 n2
 have c23:=cR
 have tw1:(w1 == 0)=false:=beq_eq_false_iff_ne.2 n1
 have tw2:(w2 == 0)=false:=beq_eq_false_iff_ne.2 n2
 have C1:=Lib.hid c1
 have C2:=Lib.hid c2
 have C3:=Lib.hid c3
 have C4:=Lib.hid c4
 have C5:=Lib.hid c5
 have C6:=Lib.hid c6
 have C7:=Lib.hid c7
 have C8:=Lib.hid c8
 have C9:=Lib.hid c9
 have C11:=Lib.hid c11
 have C12:=Lib.hid c12
 have C13:=Lib.hid c13
 have C14:=Lib.hid c14
 have C15:=Lib.hid c15
 have C16:=Lib.hid c16
 have C17:=Lib.hid c17
 have C20:=Lib.hid c20
 have C21:=Lib.hid c21
 have C23:=Lib.hid c23
 clear c1 c2 c3 c4 c5 c6 c7 c8 c9 c11 c12 c13 c14 c15 c16 c17 c20 c21 c23 cA oA cB oB cQ oQ cP oP h1 h2 cR
 have hb:=Below.refl w.heap.size w
 go_enter Tryz.func3,Tryz.ntmps3
 go_upto_region 1 with fail
 refine wp_alloc2 (fun w1 a0 a1 hk=>?_)
 replace hb:=hb.trans (hk.mono hb.size)
 clear hk
 obtain ⟨Ac,Ad,Ae⟩:=ce3 a0
 obtain ⟨Af,Ag,Ah⟩:=ce3 a1
 go_upto_region 4 with ((first | (go_at_call 13;with_reducible refine (chVB hb R C1).mono ?_) | (go_at_call 14;first | with_reducible refine (chVB hb R C2).mono ?_ | with_reducible refine (chVB hb R C3).mono ?_));clear hb;rintro e w1 ⟨rfl,hk,hb⟩;clear Ac Ad Ae Af Ag Ah;replace a0:=zB hk a0;replace a1:=zB hk a1;obtain ⟨Ac,Ad,Ae⟩:=ce3 a0;obtain ⟨Af,Ag,Ah⟩:=ce3 a1;clear hk)
 refine wp_alloc1 (fun w1 Aa hk=>?_)
 clear Ac Ad Ae Af Ag Ah
 replace a0:=zB hk a0
 replace a1:=zB hk a1
 obtain ⟨Ac,Ad,Ae⟩:=ce3 a0
 obtain ⟨Af,Ag,Ah⟩:=ce3 a1
 replace hb:=hb.trans (hk.mono hb.size)
 clear hk
 obtain ⟨Ai,Aj,Ak,Al⟩:=ce4 Aa
 go_upto_region 5 with fail
 refine wp_alloc1 (fun w1 Ab hk=>?_)
 clear Ac Ad Ae Af Ag Ah Ai Aj Ak Al
 replace a0:=zB hk a0
 replace a1:=zB hk a1
 replace Aa:=zB hk Aa
 obtain ⟨Ac,Ad,Ae⟩:=ce3 a0
 obtain ⟨Af,Ag,Ah⟩:=ce3 a1
 obtain ⟨Ai,Aj,Ak,Al⟩:=ce4 Aa
 replace hb:=hb.trans (hk.mono hb.size)
 clear hk
 obtain ⟨An,Ao⟩:=ce2 Ab
 obtain ⟨A0,A1,A2⟩:=cy3 a0
 obtain ⟨A3,A4,A5⟩:=cy3 a1
 obtain ⟨A6,A7,A8,A9⟩:=cy4 Aa
 obtain ⟨Ba,Bb⟩:=cy2 Ab
 have Bc:=rrV C4 R hb
 have Bd:=rrV C5 R hb
 have Be:=rrV C6 R hb
 have Bf:=rrV C7 R hb
 have Bg:=rrV C8 R hb
 have Bh:=rrV C9 R hb
 refine wp_region_quiet_below (by first | assumption | kernel_rfl) (by kernel_rfl) ?_
 repeat (quiet_step (first | (with_reducible exact Bc.out _ _) | (with_reducible exact Bd.out _ _) | (with_reducible exact Be.out _ _) | (with_reducible exact Bf.out _ _) | (with_reducible exact Bg.out _ _) | (with_reducible exact Bh.out _ _)))
 refine wpQuiet_nil ?_
 intro w1 hw'
 obtain ⟨hk,hb⟩:=zQ hb hw'
 clear Ac Ad Ae Af Ag Ah Ai Aj Ak Al An Ao
 replace a0:=zB hk a0
 replace a1:=zB hk a1
 replace Aa:=zB hk Aa
 replace Ab:=zB hk Ab
 obtain ⟨Ac,Ad,Ae⟩:=ce3 a0
 obtain ⟨Af,Ag,Ah⟩:=ce3 a1
 obtain ⟨Ai,Aj,Ak,Al⟩:=ce4 Aa
 obtain ⟨An,Ao⟩:=ce2 Ab
 clear Bc Bd Be Bf Bg Bh A0 A1 A2 A3 A4 A5 A6 A7 A8 A9 Ba Bb
 clear hk hw'
 go_upto_region 7 with fail
 obtain ⟨A0,A1,A2⟩:=cy3 a0
 obtain ⟨A3,A4,A5⟩:=cy3 a1
 obtain ⟨A6,A7,A8,A9⟩:=cy4 Aa
 obtain ⟨Ba,Bb⟩:=cy2 Ab
 have Bi:=rrV C5 R hb
 have Bj:=rrV C11 R hb
 refine wp_region_tail_below 4 (by first | assumption | kernel_rfl) (by kernel_rfl) ?_
 simp only [List.take_succ_cons,List.take_zero,List.drop_succ_cons,List.drop_zero]
 repeat (quiet_step (first | (with_reducible exact Bi.out _ _) | (with_reducible exact Bj.out _ _)))
 refine wpQuiet_nil ?_
 intro w1 hw'
 obtain ⟨hk,hb⟩:=zQ hb hw'
 clear Ac Ad Ae Af Ag Ah Ai Aj Ak Al An Ao
 replace a0:=zB hk a0
 replace a1:=zB hk a1
 replace Aa:=zB hk Aa
 replace Ab:=zB hk Ab
 obtain ⟨Ac,Ad,Ae⟩:=ce3 a0
 obtain ⟨Af,Ag,Ah⟩:=ce3 a1
 obtain ⟨Ai,Aj,Ak,Al⟩:=ce4 Aa
 obtain ⟨An,Ao⟩:=ce2 Ab
 clear Bi Bj A0 A1 A2 A3 A4 A5 A6 A7 A8 A9 Ba Bb
 clear hk hw'
 go_upto_region 10 with ((first | (go_at_call 21;with_reducible refine (zL hb (C12.out _ (R.below hb))).mono ?_) | (go_at_call 22;with_reducible refine (chVB hb R C13).mono ?_));clear hb;rintro e w1 ⟨rfl,hk,hb⟩;clear Ac Ad Ae Af Ag Ah Ai Aj Ak Al An Ao;replace a0:=zB hk a0;replace a1:=zB hk a1;replace Aa:=zB hk Aa;replace Ab:=zB hk Ab;obtain ⟨Ac,Ad,Ae⟩:=ce3 a0;obtain ⟨Af,Ag,Ah⟩:=ce3 a1;obtain ⟨Ai,Aj,Ak,Al⟩:=ce4 Aa;obtain ⟨An,Ao⟩:=ce2 Ab;clear hk)
 refine wp_alloc1 (fun w1 Am hk=>?_)
 clear Ac Ad Ae Af Ag Ah Ai Aj Ak Al An Ao
 replace a0:=zB hk a0
 replace a1:=zB hk a1
 replace Aa:=zB hk Aa
 replace Ab:=zB hk Ab
 obtain ⟨Ac,Ad,Ae⟩:=ce3 a0
 obtain ⟨Af,Ag,Ah⟩:=ce3 a1
 obtain ⟨Ai,Aj,Ak,Al⟩:=ce4 Aa
 obtain ⟨An,Ao⟩:=ce2 Ab
 replace hb:=hb.trans (hk.mono hb.size)
 clear hk
 obtain ⟨Aq,Ar,As⟩:=ce3 Am
 go_upto_region 11 with (go_at_call 23;with_reducible refine (chVB hb R C14).mono ?_;clear hb;rintro e w1 ⟨rfl,hk,hb⟩;clear Ac Ad Ae Af Ag Ah Ai Aj Ak Al An Ao Aq Ar As;replace a0:=zB hk a0;replace a1:=zB hk a1;replace Aa:=zB hk Aa;replace Ab:=zB hk Ab;replace Am:=zB hk Am;obtain ⟨Ac,Ad,Ae⟩:=ce3 a0;obtain ⟨Af,Ag,Ah⟩:=ce3 a1;obtain ⟨Ai,Aj,Ak,Al⟩:=ce4 Aa;obtain ⟨An,Ao⟩:=ce2 Ab;obtain ⟨Aq,Ar,As⟩:=ce3 Am;clear hk)
 refine wp_alloc1 (fun w1 Ap hk=>?_)
 clear Ac Ad Ae Af Ag Ah Ai Aj Ak Al An Ao Aq Ar As
 replace a0:=zB hk a0
 replace a1:=zB hk a1
 replace Aa:=zB hk Aa
 replace Ab:=zB hk Ab
 replace Am:=zB hk Am
 obtain ⟨Ac,Ad,Ae⟩:=ce3 a0
 obtain ⟨Af,Ag,Ah⟩:=ce3 a1
 obtain ⟨Ai,Aj,Ak,Al⟩:=ce4 Aa
 obtain ⟨An,Ao⟩:=ce2 Ab
 obtain ⟨Aq,Ar,As⟩:=ce3 Am
 replace hb:=hb.trans (hk.mono hb.size)
 clear hk
 obtain ⟨Au,Av,Aw⟩:=ce3 Ap
 go_upto_region 13 with ((first | (go_at_call 24;with_reducible refine (chVB hb R C15).mono ?_) | (go_at_call 25;with_reducible refine (chVB hb R C16).mono ?_));clear hb;rintro e w1 ⟨rfl,hk,hb⟩;clear Ac Ad Ae Af Ag Ah Ai Aj Ak Al An Ao Aq Ar As Au Av Aw;replace a0:=zB hk a0;replace a1:=zB hk a1;replace Aa:=zB hk Aa;replace Ab:=zB hk Ab;replace Am:=zB hk Am;replace Ap:=zB hk Ap;obtain ⟨Ac,Ad,Ae⟩:=ce3 a0;obtain ⟨Af,Ag,Ah⟩:=ce3 a1;obtain ⟨Ai,Aj,Ak,Al⟩:=ce4 Aa;obtain ⟨An,Ao⟩:=ce2 Ab;obtain ⟨Aq,Ar,As⟩:=ce3 Am;obtain ⟨Au,Av,Aw⟩:=ce3 Ap;clear hk)
 refine wp_alloc1 (fun w1 At hk=>?_)
 clear Ac Ad Ae Af Ag Ah Ai Aj Ak Al An Ao Aq Ar As Au Av Aw
 replace a0:=zB hk a0
 replace a1:=zB hk a1
 replace Aa:=zB hk Aa
 replace Ab:=zB hk Ab
 replace Am:=zB hk Am
 replace Ap:=zB hk Ap
 obtain ⟨Ac,Ad,Ae⟩:=ce3 a0
 obtain ⟨Af,Ag,Ah⟩:=ce3 a1
 obtain ⟨Ai,Aj,Ak,Al⟩:=ce4 Aa
 obtain ⟨An,Ao⟩:=ce2 Ab
 obtain ⟨Aq,Ar,As⟩:=ce3 Am
 obtain ⟨Au,Av,Aw⟩:=ce3 Ap
 replace hb:=hb.trans (hk.mono hb.size)
 clear hk
 obtain ⟨Ax,Ay,Az⟩:=ce3 At
 go_upto_region 16 with (go_at_call 26;with_reducible refine (chVB hb R C17).mono ?_;clear hb;rintro e w1 ⟨rfl,hk,hb⟩;clear Ac Ad Ae Af Ag Ah Ai Aj Ak Al An Ao Aq Ar As Au Av Aw Ax Ay Az;replace a0:=zB hk a0;replace a1:=zB hk a1;replace Aa:=zB hk Aa;replace Ab:=zB hk Ab;replace Am:=zB hk Am;replace Ap:=zB hk Ap;replace At:=zB hk At;obtain ⟨Ac,Ad,Ae⟩:=ce3 a0;obtain ⟨Af,Ag,Ah⟩:=ce3 a1;obtain ⟨Ai,Aj,Ak,Al⟩:=ce4 Aa;obtain ⟨An,Ao⟩:=ce2 Ab;obtain ⟨Aq,Ar,As⟩:=ce3 Am;obtain ⟨Au,Av,Aw⟩:=ce3 Ap;obtain ⟨Ax,Ay,Az⟩:=ce3 At;clear hk)
 obtain ⟨A0,A1,A2⟩:=cy3 a0
 obtain ⟨A3,A4,A5⟩:=cy3 a1
 obtain ⟨A6,A7,A8,A9⟩:=cy4 Aa
 obtain ⟨Ba,Bb⟩:=cy2 Ab
 obtain ⟨Bm,Bn,Bo⟩:=cy3 Am
 obtain ⟨Bp,Bq,Br⟩:=cy3 Ap
 obtain ⟨Bs,Bt,Bu⟩:=cy3 At
 have Bk:=rrV C9 R hb
 have Bl:=rrV C11 R hb
 refine wp_region_tail_below 4 (by first | assumption | kernel_rfl) (by kernel_rfl) ?_
 simp only [List.take_succ_cons,List.take_zero,List.drop_succ_cons,List.drop_zero]
 repeat (quiet_step (first | (with_reducible exact Bk.out _ _) | (with_reducible exact Bl.out _ _)))
 refine wpQuiet_nil ?_
 intro w1 hw'
 obtain ⟨hk,hb⟩:=zQ hb hw'
 clear Ac Ad Ae Af Ag Ah Ai Aj Ak Al An Ao Aq Ar As Au Av Aw Ax Ay Az
 replace a0:=zB hk a0
 replace a1:=zB hk a1
 replace Aa:=zB hk Aa
 replace Ab:=zB hk Ab
 replace Am:=zB hk Am
 replace Ap:=zB hk Ap
 replace At:=zB hk At
 obtain ⟨Ac,Ad,Ae⟩:=ce3 a0
 obtain ⟨Af,Ag,Ah⟩:=ce3 a1
 obtain ⟨Ai,Aj,Ak,Al⟩:=ce4 Aa
 obtain ⟨An,Ao⟩:=ce2 Ab
 obtain ⟨Aq,Ar,As⟩:=ce3 Am
 obtain ⟨Au,Av,Aw⟩:=ce3 Ap
 obtain ⟨Ax,Ay,Az⟩:=ce3 At
 clear Bk Bl A0 A1 A2 A3 A4 A5 A6 A7 A8 A9 Ba Bb Bm Bn Bo Bp Bq Br Bs Bt Bu
 clear hk hw'
 go_wp2_with (first | ((first | (go_at_call 21;with_reducible refine (zL hb (C20.out _ (R.below hb))).mono ?_) | (go_at_call 27;with_reducible refine (chVB hb R C21).mono ?_));clear hb;rintro e w1 ⟨rfl,hk,hb⟩;clear Ac Ad Ae Af Ag Ah Ai Aj Ak Al An Ao Aq Ar As Au Av Aw Ax Ay Az;replace a0:=zB hk a0;replace a1:=zB hk a1;replace Aa:=zB hk Aa;replace Ab:=zB hk Ab;replace Am:=zB hk Am;replace Ap:=zB hk Ap;replace At:=zB hk At;obtain ⟨Ac,Ad,Ae⟩:=ce3 a0;obtain ⟨Af,Ag,Ah⟩:=ce3 a1;obtain ⟨Ai,Aj,Ak,Al⟩:=ce4 Aa;obtain ⟨An,Ao⟩:=ce2 Ab;obtain ⟨Aq,Ar,As⟩:=ce3 Am;obtain ⟨Au,Av,Aw⟩:=ce3 Ap;obtain ⟨Ax,Ay,Az⟩:=ce3 At;clear hk) | ((first | (go_at_call 16;with_reducible refine (chVB hb R C5).mono ?_) | (go_at_call 28;with_reducible refine (chVB hb R C23).mono ?_));clear hb;rintro e w1 ⟨rfl,hk,hb⟩;clear Ac Ad Ae Ai Aj Ak Al An Ao Aq Ar As Au Av Aw Ax Ay Az;replace a0:=zB hk a0;replace Aa:=zB hk Aa;replace Ab:=zB hk Ab;replace Am:=zB hk Am;replace Ap:=zB hk Ap;replace At:=zB hk At;obtain ⟨Ac,Ad,Ae⟩:=ce3 a0;obtain ⟨Ai,Aj,Ak,Al⟩:=ce4 Aa;obtain ⟨An,Ao⟩:=ce2 Ab;obtain ⟨Aq,Ar,As⟩:=ce3 Am;obtain ⟨Au,Av,Aw⟩:=ce3 Ap;obtain ⟨Ax,Ay,Az⟩:=ce3 At;clear hk))
 first | go_ret | go_ret2 | go_ret3
 exact ⟨rfl,hb⟩
theorem errs_3a  (ta0 ta1 ta2 tb0 tb1 tb2 k:ByteArray) (eb eq ep w2:Int) (sta0:ta0.size≤40) (sta1:ta1.size≤40) (sta2:ta2.size≤40) (stb0:tb0.size≤40) (stb1:tb1.size≤40) (stb2:tb2.size≤40) (_sk:k.size≤40) (cA:CV 15 #[.agg #[.string ta0,.string ta1,.string ta2]] (.int .i64 0)) (oA:CV 16 #[.agg #[.string ta0,.string ta1,.string ta2]] (.int .i64 0)) (cB:CV 15 #[.agg #[.string tb0,.string tb1,.string tb2]] (.int .i64 eb)) (oB:CV 16 #[.agg #[.string tb0,.string tb1,.string tb2]] (.int .i64 eb)) (cQ:CV 17 #[.agg #[.string ta0,.string ta1]] (.int .i64 eq)) (oQ:CV 18 #[.agg #[.string ta0,.string ta1]] (.int .i64 eq)) (cP:CV 19 #[.agg #[.string ta0,.string ta1,.string ta2,.string k]] (.int .i64 ep)) (oP:CV 20 #[.agg #[.string ta0,.string ta1,.string ta2,.string k]] (.int .i64 ep)) (h1:firstNZ [0,eb]=0) (h2:firstNZ [ep,eb]=w2) (n2:w2≠0) (cR:CV 28 #[.string k] (.bool false)) (ek:Int) (cK:CV 15 #[.agg #[.string k,.string k,.string k]] (.int .i64 ek)) (h3:firstNZ [0,ek]=2) (n3:(2:Int)≠0) (w:World) (R:EnvV w) :
   Calls Tryz.prog 3 #[.agg #[.string ta0,.string ta1,.string ta2],.agg #[.string tb0,.string tb1,.string tb2],.string k] w (Ret w (.bool true)):=by
 have c1:=known5_any
 have c2:=short_yes ta0 ta1 ta2 sta0 sta1 sta2
 have c3:=short_yes tb0 tb1 tb2 stb0 stb1 stb2
 have c4:=cA
 have c5:=oA
 have c6:=cQ
 have c7:=oQ
 have c8:=cP
 have c9:=oP
 have c11:=oB
 have c12:=fun (w:World) (R:EnvV w)=>firstErr2 0 eb 0 h1 w R.toEnvR
 have c15:=fun (w:World) (R:EnvV w)=>firstErr2 ep eb w2 h2 w R.toEnvR
 have c16:=side_err ta0 ta1 ta2 k tb0 tb1 tb2 ep eb w2 cP cB h2 n2
 have c18:=cR
 have c19:=scale_err ta0 ta1 ta2 k 0 ek 2 cA cK h3 n3
 have tw2:(w2 == 0)=false:=beq_eq_false_iff_ne.2 n2
 have C1:=Lib.hid c1
 have C2:=Lib.hid c2
 have C3:=Lib.hid c3
 have C4:=Lib.hid c4
 have C5:=Lib.hid c5
 have C6:=Lib.hid c6
 have C7:=Lib.hid c7
 have C8:=Lib.hid c8
 have C9:=Lib.hid c9
 have C11:=Lib.hid c11
 have C12:=Lib.hid c12
 have C15:=Lib.hid c15
 have C16:=Lib.hid c16
 have C18:=Lib.hid c18
 have C19:=Lib.hid c19
 clear c1 c2 c3 c4 c5 c6 c7 c8 c9 c11 c12 c15 c16 c18 c19 cA oA cB oB cQ oQ cP oP h1 h2 cR cK h3 n3
 have hb:=Below.refl w.heap.size w
 go_enter Tryz.func3,Tryz.ntmps3
 go_upto_region 1 with fail
 refine wp_alloc2 (fun w1 a0 a1 hk=>?_)
 replace hb:=hb.trans (hk.mono hb.size)
 clear hk
 obtain ⟨Ac,Ad,Ae⟩:=ce3 a0
 obtain ⟨Af,Ag,Ah⟩:=ce3 a1
 go_upto_region 4 with ((first | (go_at_call 13;with_reducible refine (chVB hb R C1).mono ?_) | (go_at_call 14;first | with_reducible refine (chVB hb R C2).mono ?_ | with_reducible refine (chVB hb R C3).mono ?_));clear hb;rintro e w1 ⟨rfl,hk,hb⟩;clear Ac Ad Ae Af Ag Ah;replace a0:=zB hk a0;replace a1:=zB hk a1;obtain ⟨Ac,Ad,Ae⟩:=ce3 a0;obtain ⟨Af,Ag,Ah⟩:=ce3 a1;clear hk)
 refine wp_alloc1 (fun w1 Aa hk=>?_)
 clear Ac Ad Ae Af Ag Ah
 replace a0:=zB hk a0
 replace a1:=zB hk a1
 obtain ⟨Ac,Ad,Ae⟩:=ce3 a0
 obtain ⟨Af,Ag,Ah⟩:=ce3 a1
 replace hb:=hb.trans (hk.mono hb.size)
 clear hk
 obtain ⟨Ai,Aj,Ak,Al⟩:=ce4 Aa
 go_upto_region 5 with fail
 refine wp_alloc1 (fun w1 Ab hk=>?_)
 clear Ac Ad Ae Af Ag Ah Ai Aj Ak Al
 replace a0:=zB hk a0
 replace a1:=zB hk a1
 replace Aa:=zB hk Aa
 obtain ⟨Ac,Ad,Ae⟩:=ce3 a0
 obtain ⟨Af,Ag,Ah⟩:=ce3 a1
 obtain ⟨Ai,Aj,Ak,Al⟩:=ce4 Aa
 replace hb:=hb.trans (hk.mono hb.size)
 clear hk
 obtain ⟨Am,An⟩:=ce2 Ab
 obtain ⟨Ao,Ap,Aq⟩:=cy3 a0
 obtain ⟨Ar,As,At⟩:=cy3 a1
 obtain ⟨Au,Av,Aw,Ax⟩:=cy4 Aa
 obtain ⟨Ay,Az⟩:=cy2 Ab
 have A0:=rrV C4 R hb
 have A1:=rrV C5 R hb
 have A2:=rrV C6 R hb
 have A3:=rrV C7 R hb
 have A4:=rrV C8 R hb
 have A5:=rrV C9 R hb
 refine wp_region_quiet_below (by first | assumption | kernel_rfl) (by kernel_rfl) ?_
 repeat (quiet_step (first | (with_reducible exact A0.out _ _) | (with_reducible exact A1.out _ _) | (with_reducible exact A2.out _ _) | (with_reducible exact A3.out _ _) | (with_reducible exact A4.out _ _) | (with_reducible exact A5.out _ _)))
 refine wpQuiet_nil ?_
 intro w1 hw'
 obtain ⟨hk,hb⟩:=zQ hb hw'
 clear Ac Ad Ae Af Ag Ah Ai Aj Ak Al Am An
 replace a0:=zB hk a0
 replace a1:=zB hk a1
 replace Aa:=zB hk Aa
 replace Ab:=zB hk Ab
 obtain ⟨Ac,Ad,Ae⟩:=ce3 a0
 obtain ⟨Af,Ag,Ah⟩:=ce3 a1
 obtain ⟨Ai,Aj,Ak,Al⟩:=ce4 Aa
 obtain ⟨Am,An⟩:=ce2 Ab
 clear A0 A1 A2 A3 A4 A5 Ao Ap Aq Ar As At Au Av Aw Ax Ay Az
 clear hk hw'
 go_upto_region 7 with fail
 obtain ⟨Ao,Ap,Aq⟩:=cy3 a0
 obtain ⟨Ar,As,At⟩:=cy3 a1
 obtain ⟨Au,Av,Aw,Ax⟩:=cy4 Aa
 obtain ⟨Ay,Az⟩:=cy2 Ab
 have A6:=rrV C5 R hb
 have A7:=rrV C11 R hb
 refine wp_region_tail_below 4 (by first | assumption | kernel_rfl) (by kernel_rfl) ?_
 simp only [List.take_succ_cons,List.take_zero,List.drop_succ_cons,List.drop_zero]
 repeat (quiet_step (first | (with_reducible exact A6.out _ _) | (with_reducible exact A7.out _ _)))
 refine wpQuiet_nil ?_
 intro w1 hw'
 obtain ⟨hk,hb⟩:=zQ hb hw'
 clear Ac Ad Ae Af Ag Ah Ai Aj Ak Al Am An
 replace a0:=zB hk a0
 replace a1:=zB hk a1
 replace Aa:=zB hk Aa
 replace Ab:=zB hk Ab
 obtain ⟨Ac,Ad,Ae⟩:=ce3 a0
 obtain ⟨Af,Ag,Ah⟩:=ce3 a1
 obtain ⟨Ai,Aj,Ak,Al⟩:=ce4 Aa
 obtain ⟨Am,An⟩:=ce2 Ab
 clear A6 A7 Ao Ap Aq Ar As At Au Av Aw Ax Ay Az
 clear hk hw'
 go_upto_region 16 with (go_at_call 21;with_reducible refine (zL hb (C12.out _ (R.below hb))).mono ?_;clear hb;rintro e w1 ⟨rfl,hk,hb⟩;clear Ac Ad Ae Af Ag Ah Ai Aj Ak Al Am An;replace a0:=zB hk a0;replace a1:=zB hk a1;replace Aa:=zB hk Aa;replace Ab:=zB hk Ab;obtain ⟨Ac,Ad,Ae⟩:=ce3 a0;obtain ⟨Af,Ag,Ah⟩:=ce3 a1;obtain ⟨Ai,Aj,Ak,Al⟩:=ce4 Aa;obtain ⟨Am,An⟩:=ce2 Ab;clear hk)
 obtain ⟨Ao,Ap,Aq⟩:=cy3 a0
 obtain ⟨Ar,As,At⟩:=cy3 a1
 obtain ⟨Au,Av,Aw,Ax⟩:=cy4 Aa
 obtain ⟨Ay,Az⟩:=cy2 Ab
 have A8:=rrV C9 R hb
 have A9:=rrV C11 R hb
 refine wp_region_tail_below 4 (by first | assumption | kernel_rfl) (by kernel_rfl) ?_
 simp only [List.take_succ_cons,List.take_zero,List.drop_succ_cons,List.drop_zero]
 repeat (quiet_step (first | (with_reducible exact A8.out _ _) | (with_reducible exact A9.out _ _)))
 refine wpQuiet_nil ?_
 intro w1 hw'
 obtain ⟨hk,hb⟩:=zQ hb hw'
 clear Ac Ad Ae Af Ag Ah Ai Aj Ak Al Am An
 replace a0:=zB hk a0
 replace a1:=zB hk a1
 replace Aa:=zB hk Aa
 replace Ab:=zB hk Ab
 obtain ⟨Ac,Ad,Ae⟩:=ce3 a0
 obtain ⟨Af,Ag,Ah⟩:=ce3 a1
 obtain ⟨Ai,Aj,Ak,Al⟩:=ce4 Aa
 obtain ⟨Am,An⟩:=ce2 Ab
 clear A8 A9 Ao Ap Aq Ar As At Au Av Aw Ax Ay Az
 clear hk hw'
 go_upto_region 26 with (first | ((first | (go_at_call 21;with_reducible refine (zL hb (C15.out _ (R.below hb))).mono ?_) | (go_at_call 27;with_reducible refine (chVB hb R C16).mono ?_));clear hb;rintro e w1 ⟨rfl,hk,hb⟩;clear Ac Ad Ae Af Ag Ah Ai Aj Ak Al Am An;replace a0:=zB hk a0;replace a1:=zB hk a1;replace Aa:=zB hk Aa;replace Ab:=zB hk Ab;obtain ⟨Ac,Ad,Ae⟩:=ce3 a0;obtain ⟨Af,Ag,Ah⟩:=ce3 a1;obtain ⟨Ai,Aj,Ak,Al⟩:=ce4 Aa;obtain ⟨Am,An⟩:=ce2 Ab;clear hk) | ((first | (go_at_call 16;with_reducible refine (chVB hb R C5).mono ?_) | (go_at_call 28;with_reducible refine (chVB hb R C18).mono ?_) | (go_at_call 29;with_reducible refine (chVB hb R C19).mono ?_));clear hb;rintro e w1 ⟨rfl,hk,hb⟩;clear Ac Ad Ae Ai Aj Ak Al Am An;replace a0:=zB hk a0;replace Aa:=zB hk Aa;replace Ab:=zB hk Ab;obtain ⟨Ac,Ad,Ae⟩:=ce3 a0;obtain ⟨Ai,Aj,Ak,Al⟩:=ce4 Aa;obtain ⟨Am,An⟩:=ce2 Ab;clear hk))
 clear Ac Ad Ae a0 Af Ag Ah a1
 refine wp_alloc1 (fun w1 Ba hk=>?_)
 clear Ai Aj Ak Al Am An
 replace Aa:=zB hk Aa
 replace Ab:=zB hk Ab
 obtain ⟨Ai,Aj,Ak,Al⟩:=ce4 Aa
 obtain ⟨Am,An⟩:=ce2 Ab
 replace hb:=hb.trans (hk.mono hb.size)
 clear hk
 obtain ⟨Bb,Bc,Bd⟩:=ce3 Ba
 go_wp2
 first | go_ret | go_ret2 | go_ret3
 exact ⟨rfl,hb⟩
theorem errs_3b  (ta0 ta1 ta2 tb0 tb1 tb2 k:ByteArray) (eb eq ep w2:Int) (sta0:ta0.size≤40) (sta1:ta1.size≤40) (sta2:ta2.size≤40) (stb0:tb0.size≤40) (stb1:tb1.size≤40) (stb2:tb2.size≤40) (_sk:k.size≤40) (cA:CV 15 #[.agg #[.string ta0,.string ta1,.string ta2]] (.int .i64 0)) (oA:CV 16 #[.agg #[.string ta0,.string ta1,.string ta2]] (.int .i64 0)) (cB:CV 15 #[.agg #[.string tb0,.string tb1,.string tb2]] (.int .i64 eb)) (oB:CV 16 #[.agg #[.string tb0,.string tb1,.string tb2]] (.int .i64 eb)) (cQ:CV 17 #[.agg #[.string ta0,.string ta1]] (.int .i64 eq)) (oQ:CV 18 #[.agg #[.string ta0,.string ta1]] (.int .i64 eq)) (cP:CV 19 #[.agg #[.string ta0,.string ta1,.string ta2,.string k]] (.int .i64 ep)) (oP:CV 20 #[.agg #[.string ta0,.string ta1,.string ta2,.string k]] (.int .i64 ep)) (h1:firstNZ [0,eb]=0) (h2:firstNZ [ep,eb]=w2) (n2:w2≠0) (cR:CV 28 #[.string k] (.bool true)) (w:World) (R:EnvV w) :
   Calls Tryz.prog 3 #[.agg #[.string ta0,.string ta1,.string ta2],.agg #[.string tb0,.string tb1,.string tb2],.string k] w (Ret w (.bool true)):=by
 have c1:=known5_any
 have c2:=short_yes ta0 ta1 ta2 sta0 sta1 sta2
 have c3:=short_yes tb0 tb1 tb2 stb0 stb1 stb2
 have c4:=cA
 have c5:=oA
 have c6:=cQ
 have c7:=oQ
 have c8:=cP
 have c9:=oP
 have c11:=oB
 have c12:=fun (w:World) (R:EnvV w)=>firstErr2 0 eb 0 h1 w R.toEnvR
 have c15:=fun (w:World) (R:EnvV w)=>firstErr2 ep eb w2 h2 w R.toEnvR
 have c16:=side_err ta0 ta1 ta2 k tb0 tb1 tb2 ep eb w2 cP cB h2 n2
 have c18:=cR
 have tw2:(w2 == 0)=false:=beq_eq_false_iff_ne.2 n2
 have C1:=Lib.hid c1
 have C2:=Lib.hid c2
 have C3:=Lib.hid c3
 have C4:=Lib.hid c4
 have C5:=Lib.hid c5
 have C6:=Lib.hid c6
 have C7:=Lib.hid c7
 have C8:=Lib.hid c8
 have C9:=Lib.hid c9
 have C11:=Lib.hid c11
 have C12:=Lib.hid c12
 have C15:=Lib.hid c15
 have C16:=Lib.hid c16
 have C18:=Lib.hid c18
 clear c1 c2 c3 c4 c5 c6 c7 c8 c9 c11 c12 c15 c16 c18 cA oA cB oB cQ oQ cP oP h1 h2 cR
 have hb:=Below.refl w.heap.size w
 go_enter Tryz.func3,Tryz.ntmps3
 go_upto_region 1 with fail
 refine wp_alloc2 (fun w1 a0 a1 hk=>?_)
 replace hb:=hb.trans (hk.mono hb.size)
 clear hk
 obtain ⟨Ac,Ad,Ae⟩:=ce3 a0
 obtain ⟨Af,Ag,Ah⟩:=ce3 a1
 go_upto_region 4 with ((first | (go_at_call 13;with_reducible refine (chVB hb R C1).mono ?_) | (go_at_call 14;first | with_reducible refine (chVB hb R C2).mono ?_ | with_reducible refine (chVB hb R C3).mono ?_));clear hb;rintro e w1 ⟨rfl,hk,hb⟩;clear Ac Ad Ae Af Ag Ah;replace a0:=zB hk a0;replace a1:=zB hk a1;obtain ⟨Ac,Ad,Ae⟩:=ce3 a0;obtain ⟨Af,Ag,Ah⟩:=ce3 a1;clear hk)
 refine wp_alloc1 (fun w1 Aa hk=>?_)
 clear Ac Ad Ae Af Ag Ah
 replace a0:=zB hk a0
 replace a1:=zB hk a1
 obtain ⟨Ac,Ad,Ae⟩:=ce3 a0
 obtain ⟨Af,Ag,Ah⟩:=ce3 a1
 replace hb:=hb.trans (hk.mono hb.size)
 clear hk
 obtain ⟨Ai,Aj,Ak,Al⟩:=ce4 Aa
 go_upto_region 5 with fail
 refine wp_alloc1 (fun w1 Ab hk=>?_)
 clear Ac Ad Ae Af Ag Ah Ai Aj Ak Al
 replace a0:=zB hk a0
 replace a1:=zB hk a1
 replace Aa:=zB hk Aa
 obtain ⟨Ac,Ad,Ae⟩:=ce3 a0
 obtain ⟨Af,Ag,Ah⟩:=ce3 a1
 obtain ⟨Ai,Aj,Ak,Al⟩:=ce4 Aa
 replace hb:=hb.trans (hk.mono hb.size)
 clear hk
 obtain ⟨Am,An⟩:=ce2 Ab
 obtain ⟨Ao,Ap,Aq⟩:=cy3 a0
 obtain ⟨Ar,As,At⟩:=cy3 a1
 obtain ⟨Au,Av,Aw,Ax⟩:=cy4 Aa
 obtain ⟨Ay,Az⟩:=cy2 Ab
 have A0:=rrV C4 R hb
 have A1:=rrV C5 R hb
 have A2:=rrV C6 R hb
 have A3:=rrV C7 R hb
 have A4:=rrV C8 R hb
 have A5:=rrV C9 R hb
 refine wp_region_quiet_below (by first | assumption | kernel_rfl) (by kernel_rfl) ?_
 repeat (quiet_step (first | (with_reducible exact A0.out _ _) | (with_reducible exact A1.out _ _) | (with_reducible exact A2.out _ _) | (with_reducible exact A3.out _ _) | (with_reducible exact A4.out _ _) | (with_reducible exact A5.out _ _)))
 refine wpQuiet_nil ?_
 intro w1 hw'
 obtain ⟨hk,hb⟩:=zQ hb hw'
 clear Ac Ad Ae Af Ag Ah Ai Aj Ak Al Am An
 replace a0:=zB hk a0
 replace a1:=zB hk a1
 replace Aa:=zB hk Aa
 replace Ab:=zB hk Ab
 obtain ⟨Ac,Ad,Ae⟩:=ce3 a0
 obtain ⟨Af,Ag,Ah⟩:=ce3 a1
 obtain ⟨Ai,Aj,Ak,Al⟩:=ce4 Aa
 obtain ⟨Am,An⟩:=ce2 Ab
 clear A0 A1 A2 A3 A4 A5 Ao Ap Aq Ar As At Au Av Aw Ax Ay Az
 clear hk hw'
 go_upto_region 7 with fail
 obtain ⟨Ao,Ap,Aq⟩:=cy3 a0
 obtain ⟨Ar,As,At⟩:=cy3 a1
 obtain ⟨Au,Av,Aw,Ax⟩:=cy4 Aa
 obtain ⟨Ay,Az⟩:=cy2 Ab
 have A6:=rrV C5 R hb
 have A7:=rrV C11 R hb
 refine wp_region_tail_below 4 (by first | assumption | kernel_rfl) (by kernel_rfl) ?_
 simp only [List.take_succ_cons,List.take_zero,List.drop_succ_cons,List.drop_zero]
 repeat (quiet_step (first | (with_reducible exact A6.out _ _) | (with_reducible exact A7.out _ _)))
 refine wpQuiet_nil ?_
 intro w1 hw'
 obtain ⟨hk,hb⟩:=zQ hb hw'
 clear Ac Ad Ae Af Ag Ah Ai Aj Ak Al Am An
 replace a0:=zB hk a0
 replace a1:=zB hk a1
 replace Aa:=zB hk Aa
 replace Ab:=zB hk Ab
 obtain ⟨Ac,Ad,Ae⟩:=ce3 a0
 obtain ⟨Af,Ag,Ah⟩:=ce3 a1
 obtain ⟨Ai,Aj,Ak,Al⟩:=ce4 Aa
 obtain ⟨Am,An⟩:=ce2 Ab
 clear A6 A7 Ao Ap Aq Ar As At Au Av Aw Ax Ay Az
 clear hk hw'
 go_upto_region 16 with (go_at_call 21;with_reducible refine (zL hb (C12.out _ (R.below hb))).mono ?_;clear hb;rintro e w1 ⟨rfl,hk,hb⟩;clear Ac Ad Ae Af Ag Ah Ai Aj Ak Al Am An;replace a0:=zB hk a0;replace a1:=zB hk a1;replace Aa:=zB hk Aa;replace Ab:=zB hk Ab;obtain ⟨Ac,Ad,Ae⟩:=ce3 a0;obtain ⟨Af,Ag,Ah⟩:=ce3 a1;obtain ⟨Ai,Aj,Ak,Al⟩:=ce4 Aa;obtain ⟨Am,An⟩:=ce2 Ab;clear hk)
 obtain ⟨Ao,Ap,Aq⟩:=cy3 a0
 obtain ⟨Ar,As,At⟩:=cy3 a1
 obtain ⟨Au,Av,Aw,Ax⟩:=cy4 Aa
 obtain ⟨Ay,Az⟩:=cy2 Ab
 have A8:=rrV C9 R hb
 have A9:=rrV C11 R hb
 refine wp_region_tail_below 4 (by first | assumption | kernel_rfl) (by kernel_rfl) ?_
 simp only [List.take_succ_cons,List.take_zero,List.drop_succ_cons,List.drop_zero]
 repeat (quiet_step (first | (with_reducible exact A8.out _ _) | (with_reducible exact A9.out _ _)))
 refine wpQuiet_nil ?_
 intro w1 hw'
 obtain ⟨hk,hb⟩:=zQ hb hw'
 clear Ac Ad Ae Af Ag Ah Ai Aj Ak Al Am An
 replace a0:=zB hk a0
 replace a1:=zB hk a1
 replace Aa:=zB hk Aa
 replace Ab:=zB hk Ab
 obtain ⟨Ac,Ad,Ae⟩:=ce3 a0
 obtain ⟨Af,Ag,Ah⟩:=ce3 a1
 obtain ⟨Ai,Aj,Ak,Al⟩:=ce4 Aa
 obtain ⟨Am,An⟩:=ce2 Ab
 clear A8 A9 Ao Ap Aq Ar As At Au Av Aw Ax Ay Az
 clear hk hw'
 go_wp2_with (first | ((first | (go_at_call 21;with_reducible refine (zL hb (C15.out _ (R.below hb))).mono ?_) | (go_at_call 27;with_reducible refine (chVB hb R C16).mono ?_));clear hb;rintro e w1 ⟨rfl,hk,hb⟩;clear Ac Ad Ae Af Ag Ah Ai Aj Ak Al Am An;replace a0:=zB hk a0;replace a1:=zB hk a1;replace Aa:=zB hk Aa;replace Ab:=zB hk Ab;obtain ⟨Ac,Ad,Ae⟩:=ce3 a0;obtain ⟨Af,Ag,Ah⟩:=ce3 a1;obtain ⟨Ai,Aj,Ak,Al⟩:=ce4 Aa;obtain ⟨Am,An⟩:=ce2 Ab;clear hk) | ((first | (go_at_call 16;with_reducible refine (chVB hb R C5).mono ?_) | (go_at_call 28;with_reducible refine (chVB hb R C18).mono ?_));clear hb;rintro e w1 ⟨rfl,hk,hb⟩;clear Ac Ad Ae Ai Aj Ak Al Am An;replace a0:=zB hk a0;replace Aa:=zB hk Aa;replace Ab:=zB hk Ab;obtain ⟨Ac,Ad,Ae⟩:=ce3 a0;obtain ⟨Ai,Aj,Ak,Al⟩:=ce4 Aa;obtain ⟨Am,An⟩:=ce2 Ab;clear hk))
 first | go_ret | go_ret2 | go_ret3
 exact ⟨rfl,hb⟩
theorem errs_3c  (ta0 ta1 ta2 tb0 tb1 tb2 k:ByteArray) (eb eq ep:Int) (sta0:ta0.size≤40) (sta1:ta1.size≤40) (sta2:ta2.size≤40) (stb0:tb0.size≤40) (stb1:tb1.size≤40) (stb2:tb2.size≤40) (_sk:k.size≤40) (cA:CV 15 #[.agg #[.string ta0,.string ta1,.string ta2]] (.int .i64 0)) (oA:CV 16 #[.agg #[.string ta0,.string ta1,.string ta2]] (.int .i64 0)) (_cB:CV 15 #[.agg #[.string tb0,.string tb1,.string tb2]] (.int .i64 eb)) (oB:CV 16 #[.agg #[.string tb0,.string tb1,.string tb2]] (.int .i64 eb)) (cQ:CV 17 #[.agg #[.string ta0,.string ta1]] (.int .i64 eq)) (oQ:CV 18 #[.agg #[.string ta0,.string ta1]] (.int .i64 eq)) (cP:CV 19 #[.agg #[.string ta0,.string ta1,.string ta2,.string k]] (.int .i64 ep)) (oP:CV 20 #[.agg #[.string ta0,.string ta1,.string ta2,.string k]] (.int .i64 ep)) (h1:firstNZ [0,eb]=0) (h2:firstNZ [ep,eb]=0) (cR:CV 28 #[.string k] (.bool true)) (w:World) (R:EnvV w) :
   Calls Tryz.prog 3 #[.agg #[.string ta0,.string ta1,.string ta2],.agg #[.string tb0,.string tb1,.string tb2],.string k] w (Ret w (.bool true)):=by
 have c1:=known5_any
 have c2:=short_yes ta0 ta1 ta2 sta0 sta1 sta2
 have c3:=short_yes tb0 tb1 tb2 stb0 stb1 stb2
 have c4:=cA
 have c5:=oA
 have c6:=cQ
 have c7:=oQ
 have c8:=cP
 have c9:=oP
 have c11:=oB
 have c12:=fun (w:World) (R:EnvV w)=>firstErr2 0 eb 0 h1 w R.toEnvR
 have c15:=fun (w:World) (R:EnvV w)=>firstErr2 ep eb 0 h2 w R.toEnvR
 have c17:=cR
 have C1:=Lib.hid c1
 have C2:=Lib.hid c2
 have C3:=Lib.hid c3
 have C4:=Lib.hid c4
 have C5:=Lib.hid c5
 have C6:=Lib.hid c6
 have C7:=Lib.hid c7
 have C8:=Lib.hid c8
 have C9:=Lib.hid c9
 have C11:=Lib.hid c11
 have C12:=Lib.hid c12
 have C15:=Lib.hid c15
 have C17:=Lib.hid c17
 clear c1 c2 c3 c4 c5 c6 c7 c8 c9 c11 c12 c15 c17 cA oA _cB oB cQ oQ cP oP h1 h2 cR
 have hb:=Below.refl w.heap.size w
 go_enter Tryz.func3,Tryz.ntmps3
 go_upto_region 1 with fail
 refine wp_alloc2 (fun w1 a0 a1 hk=>?_)
 replace hb:=hb.trans (hk.mono hb.size)
 clear hk
 obtain ⟨Ac,Ad,Ae⟩:=ce3 a0
 obtain ⟨Af,Ag,Ah⟩:=ce3 a1
 go_upto_region 4 with ((first | (go_at_call 13;with_reducible refine (chVB hb R C1).mono ?_) | (go_at_call 14;first | with_reducible refine (chVB hb R C2).mono ?_ | with_reducible refine (chVB hb R C3).mono ?_));clear hb;rintro e w1 ⟨rfl,hk,hb⟩;clear Ac Ad Ae Af Ag Ah;replace a0:=zB hk a0;replace a1:=zB hk a1;obtain ⟨Ac,Ad,Ae⟩:=ce3 a0;obtain ⟨Af,Ag,Ah⟩:=ce3 a1;clear hk)
 refine wp_alloc1 (fun w1 Aa hk=>?_)
 clear Ac Ad Ae Af Ag Ah
 replace a0:=zB hk a0
 replace a1:=zB hk a1
 obtain ⟨Ac,Ad,Ae⟩:=ce3 a0
 obtain ⟨Af,Ag,Ah⟩:=ce3 a1
 replace hb:=hb.trans (hk.mono hb.size)
 clear hk
 obtain ⟨Ai,Aj,Ak,Al⟩:=ce4 Aa
 go_upto_region 5 with fail
 refine wp_alloc1 (fun w1 Ab hk=>?_)
 clear Ac Ad Ae Af Ag Ah Ai Aj Ak Al
 replace a0:=zB hk a0
 replace a1:=zB hk a1
 replace Aa:=zB hk Aa
 obtain ⟨Ac,Ad,Ae⟩:=ce3 a0
 obtain ⟨Af,Ag,Ah⟩:=ce3 a1
 obtain ⟨Ai,Aj,Ak,Al⟩:=ce4 Aa
 replace hb:=hb.trans (hk.mono hb.size)
 clear hk
 obtain ⟨Am,An⟩:=ce2 Ab
 obtain ⟨Ao,Ap,Aq⟩:=cy3 a0
 obtain ⟨Ar,As,At⟩:=cy3 a1
 obtain ⟨Au,Av,Aw,Ax⟩:=cy4 Aa
 obtain ⟨Ay,Az⟩:=cy2 Ab
 have A0:=rrV C4 R hb
 have A1:=rrV C5 R hb
 have A2:=rrV C6 R hb
 have A3:=rrV C7 R hb
 have A4:=rrV C8 R hb
 have A5:=rrV C9 R hb
 refine wp_region_quiet_below (by first | assumption | kernel_rfl) (by kernel_rfl) ?_
 repeat (quiet_step (first | (with_reducible exact A0.out _ _) | (with_reducible exact A1.out _ _) | (with_reducible exact A2.out _ _) | (with_reducible exact A3.out _ _) | (with_reducible exact A4.out _ _) | (with_reducible exact A5.out _ _)))
 refine wpQuiet_nil ?_
 intro w1 hw'
 obtain ⟨hk,hb⟩:=zQ hb hw'
 clear Ac Ad Ae Af Ag Ah Ai Aj Ak Al Am An
 replace a0:=zB hk a0
 replace a1:=zB hk a1
 replace Aa:=zB hk Aa
 replace Ab:=zB hk Ab
 obtain ⟨Ac,Ad,Ae⟩:=ce3 a0
 obtain ⟨Af,Ag,Ah⟩:=ce3 a1
 obtain ⟨Ai,Aj,Ak,Al⟩:=ce4 Aa
 obtain ⟨Am,An⟩:=ce2 Ab
 clear A0 A1 A2 A3 A4 A5 Ao Ap Aq Ar As At Au Av Aw Ax Ay Az
 clear hk hw'
 go_upto_region 7 with fail
 obtain ⟨Ao,Ap,Aq⟩:=cy3 a0
 obtain ⟨Ar,As,At⟩:=cy3 a1
 obtain ⟨Au,Av,Aw,Ax⟩:=cy4 Aa
 obtain ⟨Ay,Az⟩:=cy2 Ab
 have A6:=rrV C5 R hb
 have A7:=rrV C11 R hb
 refine wp_region_tail_below 4 (by first | assumption | kernel_rfl) (by kernel_rfl) ?_
 simp only [List.take_succ_cons,List.take_zero,List.drop_succ_cons,List.drop_zero]
 repeat (quiet_step (first | (with_reducible exact A6.out _ _) | (with_reducible exact A7.out _ _)))
 refine wpQuiet_nil ?_
 intro w1 hw'
 obtain ⟨hk,hb⟩:=zQ hb hw'
 clear Ac Ad Ae Af Ag Ah Ai Aj Ak Al Am An
 replace a0:=zB hk a0
 replace a1:=zB hk a1
 replace Aa:=zB hk Aa
 replace Ab:=zB hk Ab
 obtain ⟨Ac,Ad,Ae⟩:=ce3 a0
 obtain ⟨Af,Ag,Ah⟩:=ce3 a1
 obtain ⟨Ai,Aj,Ak,Al⟩:=ce4 Aa
 obtain ⟨Am,An⟩:=ce2 Ab
 clear A6 A7 Ao Ap Aq Ar As At Au Av Aw Ax Ay Az
 clear hk hw'
 go_upto_region 16 with (go_at_call 21;with_reducible refine (zL hb (C12.out _ (R.below hb))).mono ?_;clear hb;rintro e w1 ⟨rfl,hk,hb⟩;clear Ac Ad Ae Af Ag Ah Ai Aj Ak Al Am An;replace a0:=zB hk a0;replace a1:=zB hk a1;replace Aa:=zB hk Aa;replace Ab:=zB hk Ab;obtain ⟨Ac,Ad,Ae⟩:=ce3 a0;obtain ⟨Af,Ag,Ah⟩:=ce3 a1;obtain ⟨Ai,Aj,Ak,Al⟩:=ce4 Aa;obtain ⟨Am,An⟩:=ce2 Ab;clear hk)
 obtain ⟨Ao,Ap,Aq⟩:=cy3 a0
 obtain ⟨Ar,As,At⟩:=cy3 a1
 obtain ⟨Au,Av,Aw,Ax⟩:=cy4 Aa
 obtain ⟨Ay,Az⟩:=cy2 Ab
 have A8:=rrV C9 R hb
 have A9:=rrV C11 R hb
 refine wp_region_tail_below 4 (by first | assumption | kernel_rfl) (by kernel_rfl) ?_
 simp only [List.take_succ_cons,List.take_zero,List.drop_succ_cons,List.drop_zero]
 repeat (quiet_step (first | (with_reducible exact A8.out _ _) | (with_reducible exact A9.out _ _)))
 refine wpQuiet_nil ?_
 intro w1 hw'
 obtain ⟨hk,hb⟩:=zQ hb hw'
 clear Ac Ad Ae Af Ag Ah Ai Aj Ak Al Am An
 replace a0:=zB hk a0
 replace a1:=zB hk a1
 replace Aa:=zB hk Aa
 replace Ab:=zB hk Ab
 obtain ⟨Ac,Ad,Ae⟩:=ce3 a0
 obtain ⟨Af,Ag,Ah⟩:=ce3 a1
 obtain ⟨Ai,Aj,Ak,Al⟩:=ce4 Aa
 obtain ⟨Am,An⟩:=ce2 Ab
 clear A8 A9 Ao Ap Aq Ar As At Au Av Aw Ax Ay Az
 clear hk hw'
 go_wp2_with (first | (go_at_call 21;with_reducible refine (zL hb (C15.out _ (R.below hb))).mono ?_;clear hb;rintro e w1 ⟨rfl,hk,hb⟩;clear Ac Ad Ae Af Ag Ah Ai Aj Ak Al Am An;replace a0:=zB hk a0;replace a1:=zB hk a1;replace Aa:=zB hk Aa;replace Ab:=zB hk Ab;obtain ⟨Ac,Ad,Ae⟩:=ce3 a0;obtain ⟨Af,Ag,Ah⟩:=ce3 a1;obtain ⟨Ai,Aj,Ak,Al⟩:=ce4 Aa;obtain ⟨Am,An⟩:=ce2 Ab;clear hk) | ((first | (go_at_call 16;with_reducible refine (chVB hb R C5).mono ?_) | (go_at_call 28;with_reducible refine (chVB hb R C17).mono ?_));clear hb;rintro e w1 ⟨rfl,hk,hb⟩;clear Ac Ad Ae Ai Aj Ak Al Am An;replace a0:=zB hk a0;replace Aa:=zB hk Aa;replace Ab:=zB hk Ab;obtain ⟨Ac,Ad,Ae⟩:=ce3 a0;obtain ⟨Ai,Aj,Ak,Al⟩:=ce4 Aa;obtain ⟨Am,An⟩:=ce2 Ab;clear hk))
 first | go_ret | go_ret2 | go_ret3
 exact ⟨rfl,hb⟩
theorem lawErrors (ta0 ta1 ta2 tb0 tb1 tb2 k:ByteArray) (mta0:ta0.size≤9223372036854775807) (mta1:ta1.size≤9223372036854775807) (mta2:ta2.size≤9223372036854775807) (mtb0:tb0.size≤9223372036854775807) (mtb1:tb1.size≤9223372036854775807) (mtb2:tb2.size≤9223372036854775807) (mk:k.size≤9223372036854775807) (w:World) (R:EnvV w) :
   Calls Tryz.prog 3 #[.agg #[.string ta0,.string ta1,.string ta2],.agg #[.string tb0,.string tb1,.string tb2],.string k] w (Ret w (.bool true)):=by
 by_cases sta0:ta0.size≤40
 case neg=>exact errLong_a0 ta0 ta1 ta2 tb0 tb1 tb2 k  (by omega) mta0 w R
 by_cases sta1:ta1.size≤40
 case neg=>exact errLong_a1 ta0 ta1 ta2 tb0 tb1 tb2 k sta0 (by omega) mta1 w R
 by_cases sta2:ta2.size≤40
 case neg=>exact errLong_a2 ta0 ta1 ta2 tb0 tb1 tb2 k sta0 sta1 (by omega) mta2 w R
 by_cases stb0:tb0.size≤40
 case neg=>exact errLong_b0 ta0 ta1 ta2 tb0 tb1 tb2 k sta0 sta1 sta2 (by omega) mtb0 w R
 by_cases stb1:tb1.size≤40
 case neg=>exact errLong_b1 ta0 ta1 ta2 tb0 tb1 tb2 k sta0 sta1 sta2 stb0 (by omega) mtb1 w R
 by_cases stb2:tb2.size≤40
 case neg=>exact errLong_b2 ta0 ta1 ta2 tb0 tb1 tb2 k sta0 sta1 sta2 stb0 stb1 (by omega) mtb2 w R
 by_cases sk:k.size≤40
 case neg=>exact errLong_k0 ta0 ta1 ta2 tb0 tb1 tb2 k sta0 sta1 sta2 stb0 stb1 stb2 (by omega) mk w R
 have zta0:ta0.size≤100000:=by omega
 have zta1:ta1.size≤100000:=by omega
 have zta2:ta2.size≤100000:=by omega
 have ztb0:tb0.size≤100000:=by omega
 have ztb1:tb1.size≤100000:=by omega
 have ztb2:tb2.size≤100000:=by omega
 have zk:k.size≤100000:=by omega
 have eqx:∃ eq:Int,((IsRat ta0.data.toList∧IsRat ta1.data.toList)→eq=0)∧(¬ (IsRat ta0.data.toList∧IsRat ta1.data.toList)→eq=2):=by
   by_cases h:IsRat ta0.data.toList∧IsRat ta1.data.toList
   · exact ⟨0,fun _=>rfl,fun k=>absurd h k⟩
   · exact ⟨2,fun k=>absurd k h,fun _=>rfl⟩
 obtain ⟨eq,q0,q2⟩:=eqx
 have cQ:=fun (w:World) (R:EnvV w)=>check2_raw ta0 ta1 eq q0 q2 zta0 zta1 w R
 have oQ:=fun (w:World) (R:EnvV w)=>of2_raw ta0 ta1 eq q0 q2 zta0 zta1 w R
 have ebx:∃ eb:Int,((IsRat tb0.data.toList∧IsRat tb1.data.toList∧IsRat tb2.data.toList)→eb=0)∧(¬ (IsRat tb0.data.toList∧IsRat tb1.data.toList∧IsRat tb2.data.toList)→eb=2):=by
   by_cases h:IsRat tb0.data.toList∧IsRat tb1.data.toList∧IsRat tb2.data.toList
   · exact ⟨0,fun _=>rfl,fun k=>absurd h k⟩
   · exact ⟨2,fun k=>absurd k h,fun _=>rfl⟩
 obtain ⟨eb,tb0',tb2'⟩:=ebx
 have cB:=fun (w:World) (R:EnvV w)=>check3_raw tb0 tb1 tb2 eb tb0' tb2' ztb0 ztb1 ztb2 w R
 have oB:=fun (w:World) (R:EnvV w)=>of3_raw tb0 tb1 tb2 eb tb0' tb2' ztb0 ztb1 ztb2 w R
 have ekx:∃ ek:Int,((IsRat k.data.toList∧IsRat k.data.toList∧IsRat k.data.toList)→ek=0)∧(¬ (IsRat k.data.toList∧IsRat k.data.toList∧IsRat k.data.toList)→ek=2):=by
   by_cases h:IsRat k.data.toList
   · exact ⟨0,fun _=>rfl,fun k=>absurd ⟨h,h,h⟩ k⟩
   · exact ⟨2,fun k=>absurd k.1 h,fun _=>rfl⟩
 obtain ⟨ek,k0',k2'⟩:=ekx
 have cK:=fun (w:World) (R:EnvV w)=>check3_raw k k k ek k0' k2' zk zk zk w R
 by_cases hA:IsRat ta0.data.toList∧IsRat ta1.data.toList∧IsRat ta2.data.toList
 case neg =>
   have cA:=fun (w:World) (R:EnvV w)=>check3_raw ta0 ta1 ta2 2 (fun k=>absurd k hA) (fun _=>rfl) zta0 zta1 zta2 w R
   have oA:=fun (w:World) (R:EnvV w)=>of3_raw ta0 ta1 ta2 2 (fun k=>absurd k hA) (fun _=>rfl) zta0 zta1 zta2 w R
   have cKc:∃ kc:Int,CV 70 #[.string k] (.int .i64 kc):=by
     by_cases h:IsRat k.data.toList
     · exact ⟨0,fun w R=>rcheck_any k 0 (.inl ⟨h,rfl⟩) zk w R.toEnvR⟩
     · exact ⟨2,fun w R=>rcheck_any k 2 (.inr ⟨h,rfl⟩) zk w R.toEnvR⟩
   obtain ⟨kc,cC⟩:=cKc
   have cP:=fun (w:World) (R:EnvV w)=>plane_err ta0 ta1 ta2 k 2 kc 2 cA cC rfl ne2 w R
   have oP:=fun (w:World) (R:EnvV w)=>refPlane_e0 ta0 ta1 ta2 k hA zta0 zta1 zta2 w R
   exact errs_1 ta0 ta1 ta2 tb0 tb1 tb2 k eb eq 2 2 2 2 sta0 sta1 sta2 stb0 stb1 stb2 sk cA oA cB oB cQ oQ cP oP rfl rfl ne2 ne2 ne2 ek cK rfl ne2 w R
 have cA:=fun (w:World) (R:EnvV w)=>check3_raw ta0 ta1 ta2 0 (fun _=>rfl) (fun k=>absurd hA k) zta0 zta1 zta2 w R
 have oA:=fun (w:World) (R:EnvV w)=>of3_raw ta0 ta1 ta2 0 (fun _=>rfl) (fun k=>absurd hA k) zta0 zta1 zta2 w R
 by_cases hK:IsRat k.data.toList
 case neg =>
   obtain rfl:ek=2:=k2' (fun h=>hK h.1)
   have cC:=fun (w:World) (R:EnvV w)=>rcheck_any k 2 (.inr ⟨hK,rfl⟩) zk w R.toEnvR
   have cR:=fun (w:World) (R:EnvV w)=>refRRight_any k false ⟨(fun h=>by cases h),fun h=>absurd h hK⟩ zk w R.toEnvR
   have cP:=fun (w:World) (R:EnvV w)=>plane_err ta0 ta1 ta2 k 0 2 2 cA cC rfl ne2 w R
   have oP:=fun (w:World) (R:EnvV w)=>refPlane_e1 ta0 ta1 ta2 k hA hK zta0 zta1 zta2 zk w R
   by_cases hB:IsRat tb0.data.toList∧IsRat tb1.data.toList∧IsRat tb2.data.toList
   · obtain rfl:=tb0' hB
     exact errs_3a ta0 ta1 ta2 tb0 tb1 tb2 k 0 eq 2 2 sta0 sta1 sta2 stb0 stb1 stb2 sk cA oA cB oB cQ oQ cP oP rfl rfl ne2 cR 2 cK rfl ne2 w R
   · obtain rfl:=tb2' hB
     exact errs_2a ta0 ta1 ta2 tb0 tb1 tb2 k 2 eq 2 2 2 sta0 sta1 sta2 stb0 stb1 stb2 sk cA oA cB oB cQ oQ cP oP rfl rfl ne2 ne2 cR 2 cK rfl ne2 w R
 have cR:=fun (w:World) (R:EnvV w)=>refRRight_any k true ⟨fun _=>hK,fun _=>rfl⟩ zk w R.toEnvR
 have pl:∃ ep:Int,(ep=17∨ep=0)∧(CV 19 #[.agg #[.string ta0,.string ta1,.string ta2,.string k]] (.int .i64 ep))
     ∧ (CV 20 #[.agg #[.string ta0,.string ta1,.string ta2,.string k]] (.int .i64 ep)):=by
   obtain ⟨h0,h1,h2⟩:=hA
   obtain ⟨p0,rfl,r0⟩:=rat_of h0
   obtain ⟨p1,rfl,r1⟩:=rat_of h1
   obtain ⟨p2,rfl,r2⟩:=rat_of h2
   obtain ⟨q,rfl,rq⟩:=rat_of hK
   refine ⟨planeE p0 p1 p2,?_,fun w R=>checkPlane_any p0 p1 p2 q r0 r1 r2 rq w R,fun w R=>refCheckPlane_any p0 p1 p2 q r0 r1 r2 rq w R⟩
   unfold planeE;split
   · exact Or.inl rfl
   · exact Or.inr rfl
 obtain ⟨ep,hep,cP,oP⟩:=pl
 by_cases hB:IsRat tb0.data.toList∧IsRat tb1.data.toList∧IsRat tb2.data.toList
 case neg =>
   obtain rfl:=tb2' hB
   rcases hep with rfl | rfl
   · exact errs_2b ta0 ta1 ta2 tb0 tb1 tb2 k 2 eq 17 2 17 sta0 sta1 sta2 stb0 stb1 stb2 sk cA oA cB oB cQ oQ cP oP rfl rfl ne2 (by decide) cR w R
   · exact errs_2b ta0 ta1 ta2 tb0 tb1 tb2 k 2 eq 0 2 2 sta0 sta1 sta2 stb0 stb1 stb2 sk cA oA cB oB cQ oQ cP oP rfl rfl ne2 ne2 cR w R
 obtain rfl:=tb0' hB
 rcases hep with rfl | rfl
 · exact errs_3b ta0 ta1 ta2 tb0 tb1 tb2 k 0 eq 17 17 sta0 sta1 sta2 stb0 stb1 stb2 sk cA oA cB oB cQ oQ cP oP rfl rfl (by decide) cR w R
 · exact errs_3c ta0 ta1 ta2 tb0 tb1 tb2 k 0 eq 0 sta0 sta1 sta2 stb0 stb1 stb2 sk cA oA cB oB cQ oQ cP oP rfl rfl cR w R
end Go.Proofs.YtpennccflalobaaGreatDoor.Kl
