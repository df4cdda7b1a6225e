import Derived.Test.YtpiiclmkbplkhaaGreatDoorKlLMultiplesCLN
import Derived.Test.YtpiiclmkbplkhaaGreatDoorKlBLRZ
namespace Go.Proofs.YtpiiclmkbplkhaaGreatDoor.Kl
open Go Go.RowKit
set_option maxRecDepth 100000
set_option maxHeartbeats 8000000
theorem lver_t (a b c:Rat) (q0:a=0) (q1:b=0) (w:World) (_R:EnvV w) :
   Calls Tryz.prog 45 #[.agg #[.string (ratB a),.string (ratB b),.string (ratB c)]] w (Ret w (.bool true)):=by
 have eq0:((ratB a).toList == [48])=true:=by rw [ratB_eq_zero];exact decide_eq_true q0
 have pq0:(ratB a).toList=[48]:=(zero_iff _).2 q0
 have eq1:((ratB b).toList == [48])=true:=by rw [ratB_eq_zero];exact decide_eq_true q1
 have pq1:(ratB b).toList=[48]:=(zero_iff _).2 q1
 clear q0 q1
 have hb:=Below.refl w.heap.size w
 go_enter Tryz.func45,Tryz.ntmps45
 go_upto_region 1 with fail
 refine wp_alloc1 (fun w1 a0 hk=>?_)
 replace hb:=hb.trans (hk.mono hb.size)
 clear hk
 obtain ⟨Aa,Ab,Ac⟩:=ce3 a0
 go_wp2
 first | go_ret | go_ret2 | go_ret3
 exact ⟨rfl,hb⟩
theorem lTrend_v  (s0 s1 s2:ByteArray) (ck:CV 15 #[.agg #[.string s0,.string s1,.string s2]] (.int .i64 0)) (iv:CV 45 #[.agg #[.string s0,.string s1,.string s2]] (.bool true)) (w:World) (R:EnvV w) :
   Calls Tryz.prog 26 #[.agg #[.string s0,.string s1,.string s2]] w (Ret w (.tuple #[.int .i64 0,.int .i64 19])):=by
 have c1:=ck
 have c2:=iv
 have C1:=Lib.hid c1
 have C2:=Lib.hid c2
 clear c1 c2 ck iv
 have hb:=Below.refl w.heap.size w
 go_enter Tryz.func26,Tryz.ntmps26
 go_upto_region 1 with fail
 refine wp_alloc1 (fun w1 a0 hk=>?_)
 replace hb:=hb.trans (hk.mono hb.size)
 clear hk
 obtain ⟨Aa,Ab,Ac⟩:=ce3 a0
 go_wp2_with ((first | (go_at_call 15;with_reducible refine (chVB hb R C1).mono ?_) | (go_at_call 45;with_reducible refine (chVB hb R C2).mono ?_));clear hb;rintro e w1 ⟨rfl,hk,hb⟩;clear Aa Ab Ac;replace a0:=zB hk a0;obtain ⟨Aa,Ab,Ac⟩:=ce3 a0;clear hk)
 first | go_ret | go_ret2 | go_ret3
 exact ⟨rfl,hb⟩
end Go.Proofs.YtpiiclmkbplkhaaGreatDoor.Kl
