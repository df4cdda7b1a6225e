import Derived.Test.YtejfiegmdllfbaaGreatDoorKlAOrdersAtA
import Derived.Test.YtejfiegmdllfbaaGreatDoorKlBAtK
namespace Go.Proofs.YtejfiegmdllfbaaGreatDoor.Kl
open Go Go.RowKit
set_option maxRecDepth 100000
set_option maxHeartbeats 8000000
theorem fnz_l (v:Int):firstNZ [0,v]=v:=by
 by_cases h:v=0
 · subst h;decide
 · exact firstNZ_at [0,v] 1 v (fun y hy=>by simpa using hy) rfl h
theorem fnz_1 (v x:Int) (h:v≠0):firstNZ [v,x]=v:=firstNZ_at [v,x] 0 v (fun y hy=>by simp at hy) rfl h
end Go.Proofs.YtejfiegmdllfbaaGreatDoor.Kl
