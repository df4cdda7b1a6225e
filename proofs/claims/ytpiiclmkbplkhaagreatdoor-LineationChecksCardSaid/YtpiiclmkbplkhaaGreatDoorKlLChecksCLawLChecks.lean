import Derived.Test.YtpiiclmkbplkhaaGreatDoorKlLChecksCVI
import Derived.Test.YtpiiclmkbplkhaaGreatDoorKlBLAZ
import Derived.BigRegion
namespace Go.Proofs.YtpiiclmkbplkhaaGreatDoor.Kl
open Go Go.RowKit
set_option maxRecDepth 100000
set_option maxHeartbeats 8000000
theorem llong_0  (a b c:ByteArray) (sa:30 < a.size) (za:a.size≤9223372036854775807) (w:World) (_R:EnvV w) :
   Calls Tryz.prog 13 #[.agg #[.string a,.string b,.string c]] w (Ret w (.bool true)):=by
 have hb:=Below.refl w.heap.size w
 go_enter Tryz.func13,Tryz.ntmps13
 go_upto_region 1 with fail
 refine wp_alloc1 (fun w1 a0 hk=>?_)
 replace hb:=hb.trans (hk.mono hb.size)
 clear hk
 obtain ⟨Aa,Ab,Ac⟩:=ce3 a0
 go_wp2
 first | go_ret | go_ret2 | go_ret3
 exact ⟨rfl,hb⟩
theorem llong_1  (a b c:ByteArray) (sa:a.size≤30) (sb:30 < b.size) (zb:b.size≤9223372036854775807) (w:World) (_R:EnvV w) :
   Calls Tryz.prog 13 #[.agg #[.string a,.string b,.string c]] w (Ret w (.bool true)):=by
 have hb:=Below.refl w.heap.size w
 go_enter Tryz.func13,Tryz.ntmps13
 go_upto_region 1 with fail
 refine wp_alloc1 (fun w1 a0 hk=>?_)
 replace hb:=hb.trans (hk.mono hb.size)
 clear hk
 obtain ⟨Aa,Ab,Ac⟩:=ce3 a0
 go_wp2
 first | go_ret | go_ret2 | go_ret3
 exact ⟨rfl,hb⟩
theorem llong_2  (a b c:ByteArray) (sa:a.size≤30) (sb:b.size≤30) (sc:30 < c.size) (zc:c.size≤9223372036854775807) (w:World) (_R:EnvV w) :
   Calls Tryz.prog 13 #[.agg #[.string a,.string b,.string c]] w (Ret w (.bool true)):=by
 have hb:=Below.refl w.heap.size w
 go_enter Tryz.func13,Tryz.ntmps13
 go_upto_region 1 with fail
 refine wp_alloc1 (fun w1 a0 hk=>?_)
 replace hb:=hb.trans (hk.mono hb.size)
 clear hk
 obtain ⟨Aa,Ab,Ac⟩:=ce3 a0
 go_wp2
 first | go_ret | go_ret2 | go_ret3
 exact ⟨retBo (by simp only [Bool.or_eq_true,decide_eq_true_eq];omega),hb⟩
theorem llong_3  (a b c:ByteArray) (sa:a.size≤30) (sb:b.size≤30) (sc:c.size≤30) (w:World) (_R:EnvV w) :
   Calls Tryz.prog 13 #[.agg #[.string a,.string b,.string c]] w (Ret w (.bool false)):=by
 have hb:=Below.refl w.heap.size w
 go_enter Tryz.func13,Tryz.ntmps13
 go_upto_region 1 with fail
 refine wp_alloc1 (fun w1 a0 hk=>?_)
 replace hb:=hb.trans (hk.mono hb.size)
 clear hk
 obtain ⟨Aa,Ab,Ac⟩:=ce3 a0
 go_wp2
 first | go_ret | go_ret2 | go_ret3
 exact ⟨retBo (by simp only [Bool.or_eq_false_iff,decide_eq_false_iff_not];omega),hb⟩
theorem llong_t (a b c:ByteArray) (h:¬ (a.size≤30∧b.size≤30∧c.size≤30)) (za:a.size≤9223372036854775807) (zb:b.size≤9223372036854775807) (zc:c.size≤9223372036854775807) (w:World) (R:EnvV w) :
   Calls Tryz.prog 13 #[.agg #[.string a,.string b,.string c]] w (Ret w (.bool true)):=by
 by_cases sa:a.size≤30
 · by_cases sb:b.size≤30
   · exact llong_2 a b c sa sb (by omega) zc w R
   · exact llong_1 a b c sa (by omega) zb w R
 · exact llong_0 a b c (by omega) za w R
theorem lchecks_u  (s0 s1 s2 t0 t1 t2:ByteArray) (ck:CV 12 #[] (.bool true)) (lu:CV 13 #[.agg #[.string s0,.string s1,.string s2]] (.bool true)) (w:World) (R:EnvV w) :
   Calls Tryz.prog 3 #[.agg #[.string s0,.string s1,.string s2],.agg #[.string t0,.string t1,.string t2]] w (Ret w (.bool true)):=by
 have c1:=ck
 have c2:=lu
 have C1:=Lib.hid c1
 have C2:=Lib.hid c2
 clear c1 c2 ck lu
 have hb:=Below.refl w.heap.size w
 go_enter Tryz.func3,Tryz.ntmps3
 go_upto_region 1 with fail
 refine wp_alloc2 (fun w1 a0 a1 hk=>?_)
 replace hb:=hb.trans (hk.mono hb.size)
 clear hk
 obtain ⟨Aa,Ab,Ac⟩:=ce3 a0
 obtain ⟨Ad,Ae,Af⟩:=ce3 a1
 go_wp2_with ((first | (go_at_call 12;first | with_reducible refine (chVB hb R C1).mono ?_ | with_reducible refine (chVB hb R C1).mono ?_) | (go_at_call 13;with_reducible refine (chVB hb R C2).mono ?_));clear hb;rintro e w1 ⟨rfl,hk,hb⟩;clear Aa Ab Ac Ad Ae Af;replace a0:=zB hk a0;replace a1:=zB hk a1;obtain ⟨Aa,Ab,Ac⟩:=ce3 a0;obtain ⟨Ad,Ae,Af⟩:=ce3 a1;clear hk)
 first | go_ret | go_ret2 | go_ret3
 exact ⟨rfl,hb⟩
theorem lchecks_v  (s0 s1 s2 t0 t1 t2:ByteArray) (ck:CV 12 #[] (.bool true)) (lu:CV 13 #[.agg #[.string s0,.string s1,.string s2]] (.bool false)) (lv:CV 13 #[.agg #[.string t0,.string t1,.string t2]] (.bool true)) (w:World) (R:EnvV w) :
   Calls Tryz.prog 3 #[.agg #[.string s0,.string s1,.string s2],.agg #[.string t0,.string t1,.string t2]] w (Ret w (.bool true)):=by
 have c1:=ck
 have c2:=lu
 have c3:=lv
 have C1:=Lib.hid c1
 have C2:=Lib.hid c2
 have C3:=Lib.hid c3
 clear c1 c2 c3 ck lu lv
 have hb:=Below.refl w.heap.size w
 go_enter Tryz.func3,Tryz.ntmps3
 go_upto_region 1 with fail
 refine wp_alloc2 (fun w1 a0 a1 hk=>?_)
 replace hb:=hb.trans (hk.mono hb.size)
 clear hk
 obtain ⟨Aa,Ab,Ac⟩:=ce3 a0
 obtain ⟨Ad,Ae,Af⟩:=ce3 a1
 go_wp2_with ((first | (go_at_call 12;first | with_reducible refine (chVB hb R C1).mono ?_ | with_reducible refine (chVB hb R C1).mono ?_) | (go_at_call 13;first | with_reducible refine (chVB hb R C2).mono ?_ | with_reducible refine (chVB hb R C3).mono ?_));clear hb;rintro e w1 ⟨rfl,hk,hb⟩;clear Aa Ab Ac Ad Ae Af;replace a0:=zB hk a0;replace a1:=zB hk a1;obtain ⟨Aa,Ab,Ac⟩:=ce3 a0;obtain ⟨Ad,Ae,Af⟩:=ce3 a1;clear hk)
 first | go_ret | go_ret2 | go_ret3
 exact ⟨rfl,hb⟩
theorem lchecks_ok  (s0 s1 s2 t0 t1 t2:ByteArray) (ck:CV 12 #[] (.bool true)) (lu:CV 13 #[.agg #[.string s0,.string s1,.string s2]] (.bool false)) (lv:CV 13 #[.agg #[.string t0,.string t1,.string t2]] (.bool false)) (cu:CV 14 #[.agg #[.string s0,.string s1,.string s2]] (.int .i64 0)) (cv:CV 14 #[.agg #[.string t0,.string t1,.string t2]] (.int .i64 0)) (pu:CV 15 #[.agg #[.string s0,.string s1,.string s2]] (.int .i64 0)) (w:World) (R:EnvV w) :
   Calls Tryz.prog 3 #[.agg #[.string s0,.string s1,.string s2],.agg #[.string t0,.string t1,.string t2]] w (Ret w (.bool true)):=by
 have c1:=ck
 have c2:=lu
 have c3:=lv
 have c4:=cu
 have c6:=cv
 have c7:=pu
 have C1:=Lib.hid c1
 have C2:=Lib.hid c2
 have C3:=Lib.hid c3
 have C4:=Lib.hid c4
 have C6:=Lib.hid c6
 have C7:=Lib.hid c7
 clear c1 c2 c3 c4 c6 c7 ck lu lv cu cv pu
 have hb:=Below.refl w.heap.size w
 go_enter Tryz.func3,Tryz.ntmps3
 go_upto_region 1 with fail
 refine wp_alloc2 (fun w1 a0 a1 hk=>?_)
 replace hb:=hb.trans (hk.mono hb.size)
 clear hk
 obtain ⟨Aa,Ab,Ac⟩:=ce3 a0
 obtain ⟨Ad,Ae,Af⟩:=ce3 a1
 go_upto_region 3 with ((first | (go_at_call 12;with_reducible refine (chVB hb R C1).mono ?_) | (go_at_call 13;first | with_reducible refine (chVB hb R C2).mono ?_ | with_reducible refine (chVB hb R C3).mono ?_));clear hb;rintro e w1 ⟨rfl,hk,hb⟩;clear Aa Ab Ac Ad Ae Af;replace a0:=zB hk a0;replace a1:=zB hk a1;obtain ⟨Aa,Ab,Ac⟩:=ce3 a0;obtain ⟨Ad,Ae,Af⟩:=ce3 a1;clear hk)
 obtain ⟨Ai,Aj,Ak⟩:=cy3 a0
 obtain ⟨Al,Am,An⟩:=cy3 a1
 have Ag:=rrV C4 R hb
 have Ah:=rrV C4 R hb
 refine wp_region_quiet_below (by first | assumption | kernel_rfl) (by kernel_rfl) ?_
 repeat (quiet_step (first | (with_reducible exact Ag.out _ _) | (with_reducible exact Ah.out _ _)))
 refine wpQuiet_nil ?_
 intro w1 hw'
 obtain ⟨hk,hb⟩:=zQ hb hw'
 clear Aa Ab Ac Ad Ae Af
 replace a0:=zB hk a0
 replace a1:=zB hk a1
 obtain ⟨Aa,Ab,Ac⟩:=ce3 a0
 obtain ⟨Ad,Ae,Af⟩:=ce3 a1
 clear Ag Ah Ai Aj Ak Al Am An
 clear hk hw'
 go_wp2_with ((first | (go_at_call 14;with_reducible refine (chVB hb R C6).mono ?_) | (go_at_call 15;with_reducible refine (chVB hb R C7).mono ?_));clear hb;rintro e w1 ⟨rfl,hk,hb⟩;clear Aa Ab Ac Ad Ae Af;replace a0:=zB hk a0;replace a1:=zB hk a1;obtain ⟨Aa,Ab,Ac⟩:=ce3 a0;obtain ⟨Ad,Ae,Af⟩:=ce3 a1;clear hk)
 first | go_ret | go_ret2 | go_ret3
 exact ⟨rfl,hb⟩
theorem lchecks_e1  (s0 s1 s2 t0 t1 t2:ByteArray) (v:Int) (ck:CV 12 #[] (.bool true)) (lu:CV 13 #[.agg #[.string s0,.string s1,.string s2]] (.bool false)) (lv:CV 13 #[.agg #[.string t0,.string t1,.string t2]] (.bool false)) (cu:CV 14 #[.agg #[.string s0,.string s1,.string s2]] (.int .i64 v)) (pu:CV 15 #[.agg #[.string s0,.string s1,.string s2]] (.int .i64 v)) (f1:CV 16 #[.agg #[.string s0,.string s1,.string s2],.agg #[.string t0,.string t1,.string t2]] (.tuple #[.bool false,.int .i64 v])) (f2:CV 17 #[.agg #[.string s0,.string s1,.string s2],.agg #[.string t0,.string t1,.string t2]] (.tuple #[.int .i64 0,.int .i64 v])) (f3:CV 18 #[.agg #[.string s0,.string s1,.string s2],.agg #[.string t0,.string t1,.string t2]] (.tuple #[.int .i64 0,.int .i64 v])) (f4:CV 19 #[.agg #[.string s0,.string s1,.string s2],.agg #[.string t0,.string t1,.string t2]] (.tuple #[.string ⟨#[]⟩,.int .i64 v])) (f5:CV 20 #[.agg #[.string s0,.string s1,.string s2,.string t0,.string t1,.string t2],.agg #[.string s0,.string s1,.string s2,.string s0,.string s1,.string s2]] (.tuple #[.int .i64 0,.int .i64 v])) (f6:CV 21 #[.agg #[.string s0,.string s1,.string s2],.agg #[.string t0,.string t1,.string t2]] (.tuple #[.bool false,.int .i64 v])) (f7:CV 22 #[.agg #[.string s0,.string s1,.string s2],.agg #[.string t0,.string t1,.string t2]] (.tuple #[.agg #[.string ⟨#[]⟩,.string ⟨#[]⟩,.string ⟨#[]⟩],.int .i64 v])) (f8:CV 23 #[.agg #[.string s0,.string s1,.string s2],.agg #[.string t0,.string t1,.string t2]] (.tuple #[.string ⟨#[]⟩,.int .i64 v])) (f9:CV 24 #[.agg #[.string s0,.string s1,.string s2],.agg #[.string t0,.string t1,.string t2]] (.tuple #[.int .i64 0,.int .i64 v])) (g1:CV 25 #[.agg #[.string s0,.string s1,.string s2]] (.tuple #[.agg #[.string ⟨#[]⟩,.string ⟨#[]⟩,.string ⟨#[]⟩],.int .i64 v])) (g2:CV 26 #[.agg #[.string s0,.string s1,.string s2]] (.tuple #[.int .i64 0,.int .i64 v])) (g3:CV 27 #[.agg #[.string s0,.string s1,.string s2]] (.tuple #[.string ⟨#[]⟩,.bool false,.int .i64 v])) (hv:v≠0) (w:World) (R:EnvV w) :
   Calls Tryz.prog 3 #[.agg #[.string s0,.string s1,.string s2],.agg #[.string t0,.string t1,.string t2]] w (Ret w (.bool true)):=by
 have c1:=ck
 have c2:=lu
 have c3:=lv
 have c4:=cu
 have c6:=pu
 have c7:=f1
 have c8:=f2
 have c9:=f3
 have c10:=f4
 have c11:=f5
 have c12:=f6
 have c13:=f7
 have c14:=f8
 have c15:=f9
 have c16:=g1
 have c17:=g2
 have c18:=g3
 have eq0:(v == 0)=false:=beq_eq_false_iff_ne.2 hv
 have pq0:¬ v=0:=hv
 have C1:=Lib.hid c1
 have C2:=Lib.hid c2
 have C3:=Lib.hid c3
 have C4:=Lib.hid c4
 have C6:=Lib.hid c6
 have C7:=Lib.hid c7
 have C8:=Lib.hid c8
 have C9:=Lib.hid c9
 have C10:=Lib.hid c10
 have C11:=Lib.hid c11
 have C12:=Lib.hid c12
 have C13:=Lib.hid c13
 have C14:=Lib.hid c14
 have C15:=Lib.hid c15
 have C16:=Lib.hid c16
 have C17:=Lib.hid c17
 have C18:=Lib.hid c18
 clear c1 c2 c3 c4 c6 c7 c8 c9 c10 c11 c12 c13 c14 c15 c16 c17 c18 ck lu lv cu pu f1 f2 f3 f4 f5 f6 f7 f8 f9 g1 g2 g3 hv
 have hb:=Below.refl w.heap.size w
 go_enter Tryz.func3,Tryz.ntmps3
 go_upto_region 1 with fail
 refine wp_alloc2 (fun w1 a0 a1 hk=>?_)
 replace hb:=hb.trans (hk.mono hb.size)
 clear hk
 obtain ⟨Aa,Ab,Ac⟩:=ce3 a0
 obtain ⟨Ae,Af,Ag⟩:=ce3 a1
 go_upto_region 3 with ((first | (go_at_call 12;with_reducible refine (chVB hb R C1).mono ?_) | (go_at_call 13;first | with_reducible refine (chVB hb R C2).mono ?_ | with_reducible refine (chVB hb R C3).mono ?_));clear hb;rintro e w1 ⟨rfl,hk,hb⟩;clear Aa Ab Ac Ae Af Ag;replace a0:=zB hk a0;replace a1:=zB hk a1;obtain ⟨Aa,Ab,Ac⟩:=ce3 a0;obtain ⟨Ae,Af,Ag⟩:=ce3 a1;clear hk)
 obtain ⟨Aq,Ar,As⟩:=cy3 a0
 obtain ⟨At,Au,Av⟩:=cy3 a1
 have Al:=rrV C4 R hb
 have Am:=rrV C4 R hb
 refine wp_region_quiet_below (by first | assumption | kernel_rfl) (by kernel_rfl) ?_
 repeat (quiet_step (first | (with_reducible exact Al.out _ _) | (with_reducible exact Am.out _ _)))
 refine wpQuiet_nil ?_
 intro w1 hw'
 obtain ⟨hk,hb⟩:=zQ hb hw'
 clear Aa Ab Ac Ae Af Ag
 replace a0:=zB hk a0
 replace a1:=zB hk a1
 obtain ⟨Aa,Ab,Ac⟩:=ce3 a0
 obtain ⟨Ae,Af,Ag⟩:=ce3 a1
 clear Al Am Aq Ar As At Au Av
 clear hk hw'
 go_upto_region 19 with ((first | (go_at_call 15;with_reducible refine (chVB hb R C6).mono ?_) | (go_at_call 16;with_reducible refine (chVB hb R C7).mono ?_) | (go_at_call 17;with_reducible refine (chVB hb R C8).mono ?_) | (go_at_call 18;with_reducible refine (chVB hb R C9).mono ?_) | (go_at_call 19;with_reducible refine (chVB hb R C10).mono ?_) | (go_at_call 20;with_reducible refine (chVB hb R C11).mono ?_) | (go_at_call 21;with_reducible refine (chVB hb R C12).mono ?_) | (go_at_call 22;with_reducible refine (chVB hb R C13).mono ?_));clear hb;rintro e w1 ⟨rfl,hk,hb⟩;clear Aa Ab Ac Ae Af Ag;replace a0:=zB hk a0;replace a1:=zB hk a1;obtain ⟨Aa,Ab,Ac⟩:=ce3 a0;obtain ⟨Ae,Af,Ag⟩:=ce3 a1;clear hk)
 refine wp_alloc1 (fun w1 Ad hk=>?_)
 clear Aa Ab Ac Ae Af Ag
 replace a0:=zB hk a0
 replace a1:=zB hk a1
 obtain ⟨Aa,Ab,Ac⟩:=ce3 a0
 obtain ⟨Ae,Af,Ag⟩:=ce3 a1
 replace hb:=hb.trans (hk.mono hb.size)
 clear hk
 obtain ⟨Ah,Ai,Aj⟩:=ce3 Ad
 go_upto_region 26 with (first | ((first | (go_at_call 23;with_reducible refine (chVB hb R C14).mono ?_) | (go_at_call 24;with_reducible refine (chVB hb R C15).mono ?_));clear hb;rintro e w1 ⟨rfl,hk,hb⟩;clear Aa Ab Ac Ae Af Ag Ah Ai Aj;replace a0:=zB hk a0;replace a1:=zB hk a1;replace Ad:=zB hk Ad;obtain ⟨Aa,Ab,Ac⟩:=ce3 a0;obtain ⟨Ae,Af,Ag⟩:=ce3 a1;obtain ⟨Ah,Ai,Aj⟩:=ce3 Ad;clear hk) | (go_at_call 25;with_reducible refine (chVB hb R C16).mono ?_;clear hb;rintro e w1 ⟨rfl,hk,hb⟩;clear Aa Ab Ac Ah Ai Aj;replace a0:=zB hk a0;replace Ad:=zB hk Ad;obtain ⟨Aa,Ab,Ac⟩:=ce3 a0;obtain ⟨Ah,Ai,Aj⟩:=ce3 Ad;clear hk))
 clear Ae Af Ag a1
 refine wp_alloc1 (fun w1 Ak hk=>?_)
 clear Aa Ab Ac Ah Ai Aj
 replace a0:=zB hk a0
 replace Ad:=zB hk Ad
 obtain ⟨Aa,Ab,Ac⟩:=ce3 a0
 obtain ⟨Ah,Ai,Aj⟩:=ce3 Ad
 replace hb:=hb.trans (hk.mono hb.size)
 clear hk
 obtain ⟨An,Ao,Ap⟩:=ce3 Ak
 go_wp2_with ((first | (go_at_call 26;with_reducible refine (chVB hb R C17).mono ?_) | (go_at_call 27;with_reducible refine (chVB hb R C18).mono ?_));clear hb;rintro e w1 ⟨rfl,hk,hb⟩;clear Aa Ab Ac Ah Ai Aj An Ao Ap;replace a0:=zB hk a0;replace Ad:=zB hk Ad;replace Ak:=zB hk Ak;obtain ⟨Aa,Ab,Ac⟩:=ce3 a0;obtain ⟨Ah,Ai,Aj⟩:=ce3 Ad;obtain ⟨An,Ao,Ap⟩:=ce3 Ak;clear hk)
 first | go_ret | go_ret2 | go_ret3
 exact ⟨rfl,hb⟩
theorem lchecks_e2  (s0 s1 s2 t0 t1 t2:ByteArray) (v:Int) (ck:CV 12 #[] (.bool true)) (lu:CV 13 #[.agg #[.string s0,.string s1,.string s2]] (.bool false)) (lv:CV 13 #[.agg #[.string t0,.string t1,.string t2]] (.bool false)) (cu:CV 14 #[.agg #[.string s0,.string s1,.string s2]] (.int .i64 0)) (cv:CV 14 #[.agg #[.string t0,.string t1,.string t2]] (.int .i64 v)) (pu:CV 15 #[.agg #[.string s0,.string s1,.string s2]] (.int .i64 0)) (f1:CV 16 #[.agg #[.string s0,.string s1,.string s2],.agg #[.string t0,.string t1,.string t2]] (.tuple #[.bool false,.int .i64 v])) (f2:CV 17 #[.agg #[.string s0,.string s1,.string s2],.agg #[.string t0,.string t1,.string t2]] (.tuple #[.int .i64 0,.int .i64 v])) (f3:CV 18 #[.agg #[.string s0,.string s1,.string s2],.agg #[.string t0,.string t1,.string t2]] (.tuple #[.int .i64 0,.int .i64 v])) (f4:CV 19 #[.agg #[.string s0,.string s1,.string s2],.agg #[.string t0,.string t1,.string t2]] (.tuple #[.string ⟨#[]⟩,.int .i64 v])) (f5:CV 20 #[.agg #[.string s0,.string s1,.string s2,.string t0,.string t1,.string t2],.agg #[.string s0,.string s1,.string s2,.string s0,.string s1,.string s2]] (.tuple #[.int .i64 0,.int .i64 v])) (f6:CV 21 #[.agg #[.string s0,.string s1,.string s2],.agg #[.string t0,.string t1,.string t2]] (.tuple #[.bool false,.int .i64 v])) (f7:CV 22 #[.agg #[.string s0,.string s1,.string s2],.agg #[.string t0,.string t1,.string t2]] (.tuple #[.agg #[.string ⟨#[]⟩,.string ⟨#[]⟩,.string ⟨#[]⟩],.int .i64 v])) (f8:CV 23 #[.agg #[.string s0,.string s1,.string s2],.agg #[.string t0,.string t1,.string t2]] (.tuple #[.string ⟨#[]⟩,.int .i64 v])) (f9:CV 24 #[.agg #[.string s0,.string s1,.string s2],.agg #[.string t0,.string t1,.string t2]] (.tuple #[.int .i64 0,.int .i64 v])) (hv:v≠0) (w:World) (R:EnvV w) :
   Calls Tryz.prog 3 #[.agg #[.string s0,.string s1,.string s2],.agg #[.string t0,.string t1,.string t2]] w (Ret w (.bool true)):=by
 have c1:=ck
 have c2:=lu
 have c3:=lv
 have c4:=cu
 have c6:=cv
 have c7:=pu
 have c8:=f1
 have c9:=f2
 have c10:=f3
 have c11:=f4
 have c12:=f5
 have c13:=f6
 have c14:=f7
 have c15:=f8
 have c16:=f9
 have eq0:(v == 0)=false:=beq_eq_false_iff_ne.2 hv
 have pq0:¬ v=0:=hv
 have C1:=Lib.hid c1
 have C2:=Lib.hid c2
 have C3:=Lib.hid c3
 have C4:=Lib.hid c4
 have C6:=Lib.hid c6
 have C7:=Lib.hid c7
 have C8:=Lib.hid c8
 have C9:=Lib.hid c9
 have C10:=Lib.hid c10
 have C11:=Lib.hid c11
 have C12:=Lib.hid c12
 have C13:=Lib.hid c13
 have C14:=Lib.hid c14
 have C15:=Lib.hid c15
 have C16:=Lib.hid c16
 clear c1 c2 c3 c4 c6 c7 c8 c9 c10 c11 c12 c13 c14 c15 c16 ck lu lv cu cv pu f1 f2 f3 f4 f5 f6 f7 f8 f9 hv
 have hb:=Below.refl w.heap.size w
 go_enter Tryz.func3,Tryz.ntmps3
 go_upto_region 1 with fail
 refine wp_alloc2 (fun w1 a0 a1 hk=>?_)
 replace hb:=hb.trans (hk.mono hb.size)
 clear hk
 obtain ⟨Aa,Ab,Ac⟩:=ce3 a0
 obtain ⟨Ad,Ae,Af⟩:=ce3 a1
 go_upto_region 3 with ((first | (go_at_call 12;with_reducible refine (chVB hb R C1).mono ?_) | (go_at_call 13;first | with_reducible refine (chVB hb R C2).mono ?_ | with_reducible refine (chVB hb R C3).mono ?_));clear hb;rintro e w1 ⟨rfl,hk,hb⟩;clear Aa Ab Ac Ad Ae Af;replace a0:=zB hk a0;replace a1:=zB hk a1;obtain ⟨Aa,Ab,Ac⟩:=ce3 a0;obtain ⟨Ad,Ae,Af⟩:=ce3 a1;clear hk)
 obtain ⟨Am,An,Ao⟩:=cy3 a0
 obtain ⟨Ap,Aq,Ar⟩:=cy3 a1
 have Ah:=rrV C4 R hb
 have Ai:=rrV C4 R hb
 refine wp_region_quiet_below (by first | assumption | kernel_rfl) (by kernel_rfl) ?_
 repeat (quiet_step (first | (with_reducible exact Ah.out _ _) | (with_reducible exact Ai.out _ _)))
 refine wpQuiet_nil ?_
 intro w1 hw'
 obtain ⟨hk,hb⟩:=zQ hb hw'
 clear Aa Ab Ac Ad Ae Af
 replace a0:=zB hk a0
 replace a1:=zB hk a1
 obtain ⟨Aa,Ab,Ac⟩:=ce3 a0
 obtain ⟨Ad,Ae,Af⟩:=ce3 a1
 clear Ah Ai Am An Ao Ap Aq Ar
 clear hk hw'
 go_upto_region 19 with ((first | (go_at_call 14;with_reducible refine (chVB hb R C6).mono ?_) | (go_at_call 15;with_reducible refine (chVB hb R C7).mono ?_) | (go_at_call 16;with_reducible refine (chVB hb R C8).mono ?_) | (go_at_call 17;with_reducible refine (chVB hb R C9).mono ?_) | (go_at_call 18;with_reducible refine (chVB hb R C10).mono ?_) | (go_at_call 19;with_reducible refine (chVB hb R C11).mono ?_) | (go_at_call 20;with_reducible refine (chVB hb R C12).mono ?_) | (go_at_call 21;with_reducible refine (chVB hb R C13).mono ?_) | (go_at_call 22;with_reducible refine (chVB hb R C14).mono ?_));clear hb;rintro e w1 ⟨rfl,hk,hb⟩;clear Aa Ab Ac Ad Ae Af;replace a0:=zB hk a0;replace a1:=zB hk a1;obtain ⟨Aa,Ab,Ac⟩:=ce3 a0;obtain ⟨Ad,Ae,Af⟩:=ce3 a1;clear hk)
 refine wp_alloc1 (fun w1 Ag hk=>?_)
 clear Aa Ab Ac Ad Ae Af
 replace a0:=zB hk a0
 replace a1:=zB hk a1
 obtain ⟨Aa,Ab,Ac⟩:=ce3 a0
 obtain ⟨Ad,Ae,Af⟩:=ce3 a1
 replace hb:=hb.trans (hk.mono hb.size)
 clear hk
 obtain ⟨Aj,Ak,Al⟩:=ce3 Ag
 go_wp2_with ((first | (go_at_call 23;with_reducible refine (chVB hb R C15).mono ?_) | (go_at_call 24;with_reducible refine (chVB hb R C16).mono ?_));clear hb;rintro e w1 ⟨rfl,hk,hb⟩;clear Aa Ab Ac Ad Ae Af Aj Ak Al;replace a0:=zB hk a0;replace a1:=zB hk a1;replace Ag:=zB hk Ag;obtain ⟨Aa,Ab,Ac⟩:=ce3 a0;obtain ⟨Ad,Ae,Af⟩:=ce3 a1;obtain ⟨Aj,Ak,Al⟩:=ce3 Ag;clear hk)
 first | go_ret | go_ret2 | go_ret3
 exact ⟨rfl,hb⟩
end Go.Proofs.YtpiiclmkbplkhaaGreatDoor.Kl
