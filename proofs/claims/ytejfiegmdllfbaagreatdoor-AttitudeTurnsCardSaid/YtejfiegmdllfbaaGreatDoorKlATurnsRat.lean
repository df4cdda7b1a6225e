import Derived.Test.YtejfiegmdllfbaaGreatDoorKlBRatZ
namespace Go.Proofs.YtejfiegmdllfbaaGreatDoor.Kl
open Go
set_option maxRecDepth 100000
set_option maxHeartbeats 8000000
theorem sign_rat (q:Rat):q.num.sign=(if q < 0 then -1 else if q=0 then 0 else 1):=by
 rcases Int.lt_trichotomy q.num 0 with h | h | h
 · rw [Int.sign_eq_neg_one_of_neg h,if_pos]
   rw [← Rat.not_le,← Rat.num_nonneg];omega
 · have:q=0:=Rat.num_eq_zero.1 h
   subst this;rfl
 · rw [Int.sign_eq_one_of_pos h,if_neg,if_neg]
   · intro e;rw [e] at h;exact absurd h (by decide)
   · rw [← Rat.not_le,← Rat.num_nonneg];omega
end Go.Proofs.YtejfiegmdllfbaaGreatDoor.Kl
