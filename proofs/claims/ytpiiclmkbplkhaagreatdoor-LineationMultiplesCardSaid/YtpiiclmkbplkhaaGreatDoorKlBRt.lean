import Derived.WalkKit
namespace Go.Proofs.YtpiiclmkbplkhaaGreatDoor.Kl
open Go Go.RowKit
@[reducible] def Ret (w : World) (v : Value) : Ending → World → Prop := fun e w' => e = .returned v ∧ Below w.heap.size w w'
end Go.Proofs.YtpiiclmkbplkhaaGreatDoor.Kl
