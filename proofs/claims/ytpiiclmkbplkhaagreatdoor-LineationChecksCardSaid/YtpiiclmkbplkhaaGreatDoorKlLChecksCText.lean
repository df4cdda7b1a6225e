import Derived.Test.YtpiiclmkbplkhaaGreatDoorKlBText
namespace Go.Proofs.YtpiiclmkbplkhaaGreatDoor.Kl
open Go Go.RowKit Go.Shelf
set_option maxRecDepth 100000
set_option maxHeartbeats 8000000
attribute [local go_sem] Oper.semAt_some
theorem ce6 {w:World} {b:Nat} {t:TypeId} {u0 u1 u2 u3 u4 u5:Value} (h:w.heap[b]? = some (.cells #[u0,u1,u2,u3,u4,u5] t)):w.cell? ⟨b,0,none⟩=some u0∧w.cell? ⟨b,1,none⟩=some u1∧w.cell? ⟨b,2,none⟩=some u2∧w.cell? ⟨b,3,none⟩=some u3∧w.cell? ⟨b,4,none⟩=some u4∧w.cell? ⟨b,5,none⟩=some u5:=⟨zA h,zA h,zA h,zA h,zA h,zA h⟩
end Go.Proofs.YtpiiclmkbplkhaaGreatDoor.Kl
