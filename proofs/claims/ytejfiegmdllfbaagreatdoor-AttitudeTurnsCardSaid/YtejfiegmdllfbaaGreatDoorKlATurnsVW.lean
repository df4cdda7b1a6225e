import Derived.Test.YtejfiegmdllfbaaGreatDoorKlATurnsVM
namespace Go.Proofs.YtejfiegmdllfbaaGreatDoor.Kl
open Go Go.RowKit
set_option maxRecDepth 100000
set_option maxHeartbeats 8000000
theorem primM_pos (x y z:Rat):0 < primM x y z:=Nat.lcm_pos (Nat.lcm_pos x.den_pos y.den_pos) z.den_pos
theorem prim_pos (x y z:Rat) (h:x≠0∨y≠0∨z≠0):0 < primF x y z:=by
 unfold primF
 have h1:=primM_pos x y z
 have h2:=primD_pos x y z h
 rw [Rat.divInt_eq_div]
 rw [Rat.div_def]
 exact Rat.mul_pos (by exact_mod_cast h1) (Rat.inv_pos.2 (by exact_mod_cast h2))
end Go.Proofs.YtejfiegmdllfbaaGreatDoor.Kl
