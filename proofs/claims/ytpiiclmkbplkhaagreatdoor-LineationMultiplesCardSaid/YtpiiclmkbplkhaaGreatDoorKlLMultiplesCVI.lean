import Derived.Test.YtpiiclmkbplkhaaGreatDoorKlLMultiplesCRatP
import Derived.Test.YtpiiclmkbplkhaaGreatDoorKlLMultiplesCFree2
import Derived.Test.YtpiiclmkbplkhaaGreatDoorKlBVKZ
namespace Go.Proofs.YtpiiclmkbplkhaaGreatDoor.Kl
open Go Go.RowKit
set_option maxRecDepth 100000
set_option maxHeartbeats 8000000
theorem qqV {f:FuncId} {args:Array Value} {v:Value} {w0 w:World} (C:Hid (∀ w,EnvV w→Calls Tryz.prog f args w (Ret w v))) (R:EnvV w0) (hb:Below w0.heap.size w0 w):Hid (∀ d os,Calls Tryz.prog f args (Sort.grow (redrawn w d) os) fun e w' => e = .returned v∧Since (Sort.grow (redrawn w d) os) w'):=Lib.hid (fun d os=>(C.out (Sort.grow (redrawn w d) os) (R.below (hb.trans ((below_regrown w d os).mono hb.size)))).mono (fun _ _ h=>⟨h.1,h.2⟩))
end Go.Proofs.YtpiiclmkbplkhaaGreatDoor.Kl
