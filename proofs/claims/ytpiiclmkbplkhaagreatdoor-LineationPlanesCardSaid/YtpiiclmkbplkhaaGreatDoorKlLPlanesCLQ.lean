import Derived.Test.YtpiiclmkbplkhaaGreatDoorKlLPlanesCVI
import Derived.Test.YtpiiclmkbplkhaaGreatDoorKlBLPZ
namespace Go.Proofs.YtpiiclmkbplkhaaGreatDoor.Kl
open Go Go.RowKit
set_option maxRecDepth 100000
set_option maxHeartbeats 8000000
theorem lver_t (a b c:Rat) (q0:a=0) (q1:b=0) (w:World) (_R:EnvV w) :
   Calls Tryz.prog 45 #[.agg #[.string (ratB a),.string (ratB b),.string (ratB c)]] w (Ret w (.bool true)):=by
 have eq0:((ratB a).toList == [48])=true:=by rw [ratB_eq_zero];exact decide_eq_true q0
 have pq0:(ratB a).toList=[48]:=(zero_iff _).2 q0
 have eq1:((ratB b).toList == [48])=true:=by rw [ratB_eq_zero];exact decide_eq_true q1
 have pq1:(ratB b).toList=[48]:=(zero_iff _).2 q1
 clear q0 q1
 have hb:=Below.refl w.heap.size w
 go_enter Tryz.func45,Tryz.ntmps45
 go_upto_region 1 with fail
 refine wp_alloc1 (fun w1 a0 hk=>?_)
 replace hb:=hb.trans (hk.mono hb.size)
 clear hk
 obtain ⟨Aa,Ab,Ac⟩:=ce3 a0
 go_wp2
 first | go_ret | go_ret2 | go_ret3
 exact ⟨rfl,hb⟩
end Go.Proofs.YtpiiclmkbplkhaaGreatDoor.Kl
