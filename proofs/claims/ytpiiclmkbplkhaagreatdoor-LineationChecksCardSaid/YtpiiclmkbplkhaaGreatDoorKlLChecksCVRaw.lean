import Derived.Test.YtpiiclmkbplkhaaGreatDoorKlLChecksCVI
import Derived.BigRegion
namespace Go.Proofs.YtpiiclmkbplkhaaGreatDoor.Kl
open Go Go.RowKit
set_option maxRecDepth 100000
set_option maxHeartbeats 8000000
theorem rat_of {s:ByteArray} (h:IsRat s.data.toList):∃ q:Rat,s=ratB q∧RL q 200:=by
 obtain ⟨q,e,hq⟩:=h
 refine ⟨q,?_,hq⟩
 unfold ratB strOf
 rw [← e]
theorem check3_raw  (a b c:ByteArray) (v:Int) (h0:(IsRat a.data.toList∧IsRat b.data.toList∧IsRat c.data.toList)→v=0) (h2:¬ (IsRat a.data.toList∧IsRat b.data.toList∧IsRat c.data.toList)→v=2) (za:a.size≤100000) (zb:b.size≤100000) (zc:c.size≤100000) (w:World) (R:EnvV w) :
   Calls Tryz.prog 76 #[.agg #[.string a,.string b,.string c]] w (Ret w (.int .i64 v)):=by
 have c1:=fun (w:World) (R:EnvV w)=>numCheck3 a b c v h0 h2 za zb zc w R.toEnvR
 have C1:=Lib.hid c1
 clear c1 h0 h2 za zb zc
 have hb:=Below.refl w.heap.size w
 go_enter Tryz.func76,Tryz.ntmps76
 go_upto_region 1 with fail
 refine wp_alloc1 (fun w1 a0 hk=>?_)
 replace hb:=hb.trans (hk.mono hb.size)
 clear hk
 obtain ⟨Aa,Ab,Ac⟩:=ce3 a0
 go_wp2_with (go_at_call 110;with_reducible refine (zL hb (C1.out _ (R.below hb))).mono ?_;clear hb;rintro e w1 ⟨rfl,hk,hb⟩;clear Aa Ab Ac;replace a0:=zB hk a0;obtain ⟨Aa,Ab,Ac⟩:=ce3 a0;clear hk)
 first | go_ret | go_ret2 | go_ret3
 exact ⟨rfl,hb⟩
end Go.Proofs.YtpiiclmkbplkhaaGreatDoor.Kl
