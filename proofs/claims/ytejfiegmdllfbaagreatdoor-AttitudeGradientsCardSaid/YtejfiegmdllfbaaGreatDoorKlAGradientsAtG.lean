import Derived.Test.YtejfiegmdllfbaaGreatDoorKlAGradientsAtD
import Derived.Test.YtejfiegmdllfbaaGreatDoorKlBAtK
namespace Go.Proofs.YtejfiegmdllfbaaGreatDoor.Kl
open Go Go.RowKit
set_option maxRecDepth 100000
set_option maxHeartbeats 8000000
theorem fnz_r (v:Int):firstNZ [v,0]=v:=by
 by_cases h:v=0
 · subst h;decide
 · exact firstNZ_at [v,0] 0 v (fun y hy=>by simp at hy) rfl h
end Go.Proofs.YtejfiegmdllfbaaGreatDoor.Kl
