import Derived.Test.YtejfiegmdllfbaaGreatDoorKlACompassVZ
namespace Go.Proofs.YtejfiegmdllfbaaGreatDoor.Kl
open Go Go.RowKit
set_option maxRecDepth 100000
set_option maxHeartbeats 8000000
theorem isRat_0 : IsRat (⟨#[48]⟩:ByteArray).data.toList:=(isRat_nos (l:=[48]) (by decide)).2 (by decide +kernel)
theorem check2_raw  (a b:ByteArray) (v:Int) (h0:(IsRat a.data.toList∧IsRat b.data.toList)→v=0) (h2:¬ (IsRat a.data.toList∧IsRat b.data.toList)→v=2) (za:a.size≤100000) (zb:b.size≤100000) (w:World) (R:EnvV w) :
   Calls Tryz.prog 77 #[.agg #[.string a,.string b]] w (Ret w (.int .i64 v)):=by
 have c1:=fun (w:World) (R:EnvV w)=>numCheck2 a b v h0 h2 za zb w R.toEnvR
 have C1:=Lib.hid c1
 clear c1 h0 h2 za zb
 have hb:=Below.refl w.heap.size w
 go_enter Tryz.func77,Tryz.ntmps77
 go_upto_region 1 with fail
 refine wp_alloc1 (fun w1 a0 hk=>?_)
 replace hb:=hb.trans (hk.mono hb.size)
 clear hk
 obtain ⟨Aa,Ab⟩:=ce2 a0
 go_wp2_with (go_at_call 114;with_reducible refine (zL hb (C1.out _ (R.below hb))).mono ?_;clear hb;rintro e w1 ⟨rfl,hk,hb⟩;clear Aa Ab;replace a0:=zB hk a0;obtain ⟨Aa,Ab⟩:=ce2 a0;clear hk)
 first | go_ret | go_ret2 | go_ret3
 exact ⟨rfl,hb⟩
end Go.Proofs.YtejfiegmdllfbaaGreatDoor.Kl
