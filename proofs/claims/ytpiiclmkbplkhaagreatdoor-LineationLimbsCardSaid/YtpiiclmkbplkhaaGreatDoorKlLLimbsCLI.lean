import Derived.Test.YtpiiclmkbplkhaaGreatDoorKlLLimbsCLW
namespace Go.Proofs.YtpiiclmkbplkhaaGreatDoor.Kl
open Go Go.RowKit
set_option maxRecDepth 100000
set_option maxHeartbeats 8000000
theorem nz3I {a b c:Int} (h:¬ (a=0∧b=0∧c=0)):a≠0∨b≠0∨c≠0:=by omega
theorem one_txt (p:Int):ratB ((1:Rat)*(p:Rat))=itoaB p:=by rw [Rat.one_mul];exact rbI p
theorem RN_one (p:Int) (h:p.natAbs≤1000):RN ((1:Rat)*(p:Rat)) 6 3:=by
 rw [Rat.one_mul]
 exact ⟨dlen_le _ 6 (by decide) (Nat.lt_of_le_of_lt h (by decide +kernel)),(by show dlen ((1:Nat):Int)≤3;decide +kernel)⟩
theorem DV_one {p q r:Int} (hp:p.natAbs≤1000) (hq:q.natAbs≤1000) (hr:r.natAbs≤1000) (h:p≠0∨q≠0∨r≠0):DV 1 p q r:=⟨by decide,RN_one p hp,RN_one q hq,RN_one r hr,hp,hq,hr,h⟩
theorem tdiv0 {X Y Z:Int} (h:X≠0∨Y≠0∨Z≠0):∃ G:Int,G≠0∧X=G*X.tdiv (dnG X Y Z)∧Y=G*Y.tdiv (dnG X Y Z)∧Z=G*Z.tdiv (dnG X Y Z):=by
 obtain ⟨d1,d2,d3⟩:=g3_dvd X Y Z
 have gp:=g3_pos X Y Z h
 refine ⟨dnG X Y Z,?_,?_,?_,?_⟩
 · unfold dnG;split <;> omega
 all_goals
   have dv:∀ V:Int,(g3 X Y Z:Int) ∣ V→V=dnG X Y Z*V.tdiv (dnG X Y Z):=fun V hV=>(Int.mul_tdiv_cancel' (by unfold dnG;split;exact Int.neg_dvd.2 hV;exact hV)).symm
   first | exact dv _ d1 | exact dv _ d2 | exact dv _ d3
theorem nz_of {X Y Z p q r G:Int} (h:X≠0∨Y≠0∨Z≠0) (e0:X=G*p) (e1:Y=G*q) (e2:Z=G*r):p≠0∨q≠0∨r≠0:=by
 rcases h with h | h | h
 · exact Or.inl (fun k=>h (by rw [e0,k,Int.mul_zero]))
 · exact Or.inr (Or.inl (fun k=>h (by rw [e1,k,Int.mul_zero])))
 · exact Or.inr (Or.inr (fun k=>h (by rw [e2,k,Int.mul_zero])))
end Go.Proofs.YtpiiclmkbplkhaaGreatDoor.Kl
