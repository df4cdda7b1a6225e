import Derived.Test.YtpennccflalobaaGreatDoorKlVPointsRatR
namespace Go.Proofs.YtpennccflalobaaGreatDoor.Kl
open Go Go.RowKit
set_option maxRecDepth 100000
set_option maxHeartbeats 8000000
theorem drop_past (D E:List UInt8):(D ++ 47 :: E).drop (D.length+1)=E:=by
 induction D with
 | nil=>rfl
 | cons a D ih=>simp
end Go.Proofs.YtpennccflalobaaGreatDoor.Kl
