import Derived.Test.YtpiiclmkbplkhaaGreatDoorKlLChecksCRat
import Derived.Test.YtpiiclmkbplkhaaGreatDoorKlBRatC
namespace Go.Proofs.YtpiiclmkbplkhaaGreatDoor.Kl
open Go Go.RowKit
set_option maxRecDepth 100000
set_option maxHeartbeats 8000000
theorem cy6 {w:World} {b:Nat} {t:TypeId} {u0 u1 u2 u3 u4 u5:Value} (h:w.heap[b]? = some (.cells #[u0,u1,u2,u3,u4,u5] t)):(∀ d os,(Sort.grow (redrawn w d) os).cell? ⟨b,0,none⟩=some u0)∧(∀ d os,(Sort.grow (redrawn w d) os).cell? ⟨b,1,none⟩=some u1)∧(∀ d os,(Sort.grow (redrawn w d) os).cell? ⟨b,2,none⟩=some u2)∧(∀ d os,(Sort.grow (redrawn w d) os).cell? ⟨b,3,none⟩=some u3)∧(∀ d os,(Sort.grow (redrawn w d) os).cell? ⟨b,4,none⟩=some u4)∧(∀ d os,(Sort.grow (redrawn w d) os).cell? ⟨b,5,none⟩=some u5):=⟨zR (zA h),zR (zA h),zR (zA h),zR (zA h),zR (zA h),zR (zA h)⟩
end Go.Proofs.YtpiiclmkbplkhaaGreatDoor.Kl
