import Derived.Test.YtejfiegmdllfbaaGreatDoorKlACompassRat
import Derived.Test.YtejfiegmdllfbaaGreatDoorKlBVYZ
namespace Go.Proofs.YtejfiegmdllfbaaGreatDoor.Kl
open Go Go.RowKit
set_option maxRecDepth 100000
set_option maxHeartbeats 8000000
theorem rn_3 : RN (3:Rat) 1 1:=by unfold RN;decide +kernel
theorem rb_3 : ratB (3:Rat)=⟨#[51]⟩:=by decide +kernel
end Go.Proofs.YtejfiegmdllfbaaGreatDoor.Kl
