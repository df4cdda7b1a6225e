import Derived.Test.YtpiiclmkbplkhaaGreatDoorKlLLimbsCText
import Derived.Test.YtpiiclmkbplkhaaGreatDoorKlBRatZ
namespace Go.Proofs.YtpiiclmkbplkhaaGreatDoor.Kl
open Go Go.RowKit
set_option maxRecDepth 100000
set_option maxHeartbeats 8000000
theorem rof_call (n d:Int) (hn0 : -9223372036854775808≤n) (hn1:n≤9223372036854775807) (hd0 : -9223372036854775808≤d) (hd1:d≤9223372036854775807) (s:ByteArray) (z:Int) (hc:CR 88 #[.string (itoaB n),.string (itoaB d)] (.tuple #[.string s,.int .i64 z])) (w:World) (R:EnvR w) :
   Calls Tryz.prog 59 #[.int .i64 n,.int .i64 d] w (Ret w (.tuple #[.string s,.int .i64 z])):=by
 have c1:=fun (w:World) (R:EnvR w)=>of_any n hn0 hn1 w R.env
 have c2:=fun (w:World) (R:EnvR w)=>of_any d hd0 hd1 w R.env
 have c3:=hc
 obtain ⟨a,ea⟩:∃ v,itoaB n=v:=⟨_,rfl⟩
 try simp only [ea] at c1 c2 c3 ⊢
 obtain ⟨b,eb⟩:∃ v,itoaB d=v:=⟨_,rfl⟩
 try simp only [eb] at c1 c2 c3 ⊢
 have C1:=Lib.hid c1
 have C2:=Lib.hid c2
 have C3:=Lib.hid c3
 clear c1 c2 c3 ea eb hc
 have hb:=Below.refl w.heap.size w
 go_enter Tryz.func59,Tryz.ntmps59
 go_wp2_with ((first | (go_at_call 89;first | with_reducible refine (chRA hb R C1).mono ?_ | with_reducible refine (chRA hb R C2).mono ?_) | (go_at_call 88;with_reducible refine (chRA hb R C3).mono ?_));clear hb;rintro e w1 ⟨rfl,hb⟩)
 go_ret2
 exact ⟨rfl,hb⟩
theorem rof_any (n d:Int) (hn0 : -9223372036854775808≤n) (hn1:n≤9223372036854775807) (hd0 : -9223372036854775808≤d) (hd1:d≤9223372036854775807) (hd:d≠0) (w:World) (R:EnvR w) :
   Calls Tryz.prog 59 #[.int .i64 n,.int .i64 d] w (Ret w (.tuple #[.string (ratB (Rat.divInt n d)),.int .i64 0])):=
 rof_call n d hn0 hn1 hd0 hd1 _ _ (fun w R=>rnew_any n d w R (Nat.le_trans (dlen_int n hn0 hn1) (by decide)) (Nat.le_trans (dlen_int d hd0 hd1) (by decide)) hd) w R
end Go.Proofs.YtpiiclmkbplkhaaGreatDoor.Kl
