import Derived.Test.YtpennccflalobaaGreatDoorKlBText
namespace Go.Proofs.YtpennccflalobaaGreatDoor.Kl
open Go Go.RowKit Go.Shelf
set_option maxRecDepth 100000
set_option maxHeartbeats 8000000
attribute [local go_sem] Oper.semAt_some
theorem ce12 {w:World} {b:Nat} {t:TypeId} {u0 u1 u2 u3 u4 u5 u6 u7 u8 u9 u10 u11:Value} (h:w.heap[b]? = some (.cells #[u0,u1,u2,u3,u4,u5,u6,u7,u8,u9,u10,u11] t)):w.cell? ⟨b,0,none⟩=some u0∧w.cell? ⟨b,1,none⟩=some u1∧w.cell? ⟨b,2,none⟩=some u2∧w.cell? ⟨b,3,none⟩=some u3∧w.cell? ⟨b,4,none⟩=some u4∧w.cell? ⟨b,5,none⟩=some u5∧w.cell? ⟨b,6,none⟩=some u6∧w.cell? ⟨b,7,none⟩=some u7∧w.cell? ⟨b,8,none⟩=some u8∧w.cell? ⟨b,9,none⟩=some u9∧w.cell? ⟨b,10,none⟩=some u10∧w.cell? ⟨b,11,none⟩=some u11:=⟨zA h,zA h,zA h,zA h,zA h,zA h,zA h,zA h,zA h,zA h,zA h,zA h⟩
end Go.Proofs.YtpennccflalobaaGreatDoor.Kl
