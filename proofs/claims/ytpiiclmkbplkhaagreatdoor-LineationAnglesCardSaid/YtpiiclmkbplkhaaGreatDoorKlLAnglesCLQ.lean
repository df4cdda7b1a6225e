import Derived.Test.YtpiiclmkbplkhaaGreatDoorKlLAnglesCVI
import Derived.Test.YtpiiclmkbplkhaaGreatDoorKlBLPZ
namespace Go.Proofs.YtpiiclmkbplkhaaGreatDoor.Kl
open Go Go.RowKit
set_option maxRecDepth 100000
set_option maxHeartbeats 8000000
set_option maxRecDepth 512 in
theorem orErr4 (a0 a1 a2 a3:Int) (v:Int) (hv:firstNZ [a0,a1,a2,a3]=v) (w:World) (_R:EnvR w) :
   Calls Tryz.prog 43 #[.slice (some ⟨w.heap.size,0,none⟩) 4 4] (w.alloc (Obj.cells #[Value.int .i64 a0,Value.int .i64 a1,Value.int .i64 a2,Value.int .i64 a3] 27)) (Ret w (.int .i64 v)):=by
 have hba:Below w.heap.size w (w.alloc (Obj.cells #[Value.int .i64 a0,Value.int .i64 a1,Value.int .i64 a2,Value.int .i64 a3] 27)):=(Below.refl _ _).alloc (Nat.le_refl _) _
 refine (orErr_w w.heap.size 4 4 [a0,a1,a2,a3] rfl (by decide) v hv _ ?_).mono fun e w' h=>⟨h.1,hba.trans (h.2.mono hba.size)⟩
 intro j t h
 match j,h with
 | 0,h=>injection h with h;subst h;simp [go_sem]
 | 1,h=>injection h with h;subst h;simp [go_sem]
 | 2,h=>injection h with h;subst h;simp [go_sem]
 | 3,h=>injection h with h;subst h;simp [go_sem]
 | j+4,h=>simp at h
end Go.Proofs.YtpiiclmkbplkhaaGreatDoor.Kl
