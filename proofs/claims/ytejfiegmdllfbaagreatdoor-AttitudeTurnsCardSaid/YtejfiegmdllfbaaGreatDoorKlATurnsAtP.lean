import Derived.Test.YtejfiegmdllfbaaGreatDoorKlATurnsAtD
import Derived.Test.YtejfiegmdllfbaaGreatDoorKlBAtFZ
namespace Go.Proofs.YtejfiegmdllfbaaGreatDoor.Kl
open Go Go.RowKit
set_option maxRecDepth 100000
set_option maxHeartbeats 8000000
theorem dir_dot (x y:Rat) (h:x≠0∨y≠0):0 < (x*(x*primF x y (0:Rat))+y*(y*primF x y (0:Rat))).num.sign:=by
 have h3:x≠0∨y≠0∨(0:Rat)≠0:=h.elim Or.inl (fun k=>Or.inr (Or.inl k))
 have hF:=prim_pos x y 0 h3
 have e:x*(x*primF x y (0:Rat))+y*(y*primF x y (0:Rat))=primF x y (0:Rat)*(x*x+y*y):=by grind
 have sq:∀ q:Rat,0≤q*q:=fun q=>by
   rcases (Rat.le_total:(0:Rat)≤q∨q≤0) with h | h
   · exact Rat.mul_nonneg h h
   · have:0 ≤ -q:=by grind
     have:=Rat.mul_nonneg this this
     grind
 have sp:∀ q:Rat,q≠0→0 < q*q:=fun q hq=>by
   have h0:=sq q
   have hne:q*q≠0:=fun h=>(Rat.mul_eq_zero.1 h).elim hq hq
   grind
 have hs:0 < x*x+y*y:=by
   have ha:=sq x
   have hb:=sq y
   rcases h with h | h
   · have:=sp x h;grind
   · have:=sp y h;grind
 have hp:0 < primF x y (0:Rat)*(x*x+y*y):=Rat.mul_pos hF hs
 rw [e,sign_rat,if_neg (by grind),if_neg (by grind)];decide
end Go.Proofs.YtejfiegmdllfbaaGreatDoor.Kl
