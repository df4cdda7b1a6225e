import Derived.Test.YtpiiclmkbplkhaaGreatDoorKlLChecksCText
import Derived.Test.YtpiiclmkbplkhaaGreatDoorKlBRatZ
namespace Go.Proofs.YtpiiclmkbplkhaaGreatDoor.Kl
open Go
set_option maxRecDepth 100000
set_option maxHeartbeats 8000000
theorem RL_of_size {q:Rat} {K:Nat} (h:(ratB q).size≤K):RL q K:=by
 have:=ratS_len q;rw [ratB_size] at h;exact ⟨by omega,by omega⟩
end Go.Proofs.YtpiiclmkbplkhaaGreatDoor.Kl
