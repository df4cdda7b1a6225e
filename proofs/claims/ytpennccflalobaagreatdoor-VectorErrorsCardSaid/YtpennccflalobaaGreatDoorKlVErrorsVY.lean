import Derived.Test.YtpennccflalobaaGreatDoorKlVErrorsVU
import Derived.Test.YtpennccflalobaaGreatDoorKlBVYZ
namespace Go.Proofs.YtpennccflalobaaGreatDoor.Kl
open Go Go.RowKit
set_option maxRecDepth 100000
set_option maxHeartbeats 8000000
def planeE (a b c:Rat):Int:=if a=0∧b=0∧c=0 then 17 else 0
theorem checkPlane_any (a b c d:Rat) (r1:RL a 200) (r2:RL b 200) (r3:RL c 200) (r4:RL d 200) (w:World) (R:EnvV w) :
   Calls Tryz.prog 19 #[.agg #[.string (ratB a),.string (ratB b),.string (ratB c),.string (ratB d)]] w (Ret w (.int .i64 (planeE a b c))):=by
 by_cases z0:a=0
 · by_cases z1:b=0
   · by_cases z2:c=0
     · rw [show planeE a b c=17 from if_pos ⟨z0,z1,z2⟩]
       exact checkPlane_3 a b c d z0 z1 z2 r1 r2 r3 r4 w R
     · rw [show planeE a b c=0 from if_neg (fun h=>z2 h.2.2)]
       exact checkPlane_2 a b c d z0 z1 z2 r1 r2 r3 r4 w R
   · rw [show planeE a b c=0 from if_neg (fun h=>z1 h.2.1)]
     exact checkPlane_1 a b c d z0 z1 r1 r2 r3 r4 w R
 · rw [show planeE a b c=0 from if_neg (fun h=>z0 h.1)]
   exact checkPlane_0 a b c d z0 r1 r2 r3 r4 w R
end Go.Proofs.YtpennccflalobaaGreatDoor.Kl
