import Derived.WalkKit
namespace Go.Proofs.YtejfiegmdllfbaaGreatDoor.Kl
open Go Go.RowKit
@[reducible] def Ret (w : World) (v : Value) : Ending → World → Prop := fun e w' => e = .returned v ∧ Below w.heap.size w w'
end Go.Proofs.YtejfiegmdllfbaaGreatDoor.Kl
