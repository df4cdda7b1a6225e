import Derived.Test.YtejfiegmdllfbaaGreatDoorKlATurnsVW
import Derived.Test.YtejfiegmdllfbaaGreatDoorKlBVYZ
namespace Go.Proofs.YtejfiegmdllfbaaGreatDoor.Kl
open Go Go.RowKit
set_option maxRecDepth 100000
set_option maxHeartbeats 8000000
def SmallIs (i g:Int) (p:Rat):Prop:=(-32768≤i∧i≤32767)∧(0≤g∧g≤255)∧fieldQ i g=p
theorem SmallIs.rn {i g:Int} {p:Rat} (h:SmallIs i g p):RN p 5 3:=h.2.2 ▸ RN_field i g h.1 h.2.1
theorem SmallIs.i0 {i g:Int} {p:Rat} (h:SmallIs i g p) : -32768≤i:=h.1.1
end Go.Proofs.YtejfiegmdllfbaaGreatDoor.Kl
