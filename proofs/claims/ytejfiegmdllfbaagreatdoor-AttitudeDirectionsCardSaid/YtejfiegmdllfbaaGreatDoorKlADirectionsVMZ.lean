import Derived.Test.YtejfiegmdllfbaaGreatDoorKlADirectionsRatQ
import Derived.Test.YtejfiegmdllfbaaGreatDoorKlBVKZ
namespace Go.Proofs.YtejfiegmdllfbaaGreatDoor.Kl
open Go Go.RowKit
set_option maxRecDepth 100000
set_option maxHeartbeats 8000000
theorem RN_of {q:Rat} {K:Nat} (h:RL q K):RN q K K:=h
theorem primM_pos (x y z:Rat):0 < primM x y z:=Nat.lcm_pos (Nat.lcm_pos x.den_pos y.den_pos) z.den_pos
theorem primD_dvd (x y z:Rat):(primD x y z:Int) ∣ x.num∧(primD x y z:Int) ∣ y.num∧(primD x y z:Int) ∣ z.num:=by
 unfold primD
 refine ⟨?_,?_,?_⟩
 · exact Int.ofNat_dvd_left.2 (Nat.dvd_trans (Nat.gcd_dvd_left ..) (Nat.gcd_dvd_left ..))
 · exact Int.ofNat_dvd_left.2 (Nat.dvd_trans (Nat.gcd_dvd_left ..) (Nat.gcd_dvd_right ..))
 · exact Int.ofNat_dvd_left.2 (Nat.gcd_dvd_right ..)
theorem primM_dvd (x y z:Rat):x.den ∣ primM x y z∧y.den ∣ primM x y z∧z.den ∣ primM x y z:=by
 unfold primM
 exact ⟨Nat.dvd_trans (Nat.dvd_lcm_left ..) (Nat.dvd_lcm_left ..),Nat.dvd_trans (Nat.dvd_lcm_right ..) (Nat.dvd_lcm_left ..),Nat.dvd_lcm_right ..⟩
theorem prim_int (q:Rat) (M D:Nat) (_hD:0 < D) (h1:(D:Int) ∣ q.num) (h2:q.den ∣ M) :
   q*Rat.divInt (M:Int) (D:Int)=((q.num / D*((M / q.den:Nat):Int):Int):Rat):=by
 obtain ⟨a,ha⟩:=h1
 obtain ⟨b,hb⟩:=h2
 have hq:q=Rat.divInt q.num q.den:=(Rat.num_divInt_den q).symm
 have hdp:=q.den_pos
 have e1:q.num / (D:Int)=a:=by rw [ha];exact Int.mul_ediv_cancel_left _ (by omega)
 have e2:M / q.den=b:=by rw [hb];exact Nat.mul_div_cancel_left _ hdp
 rw [e1,e2]
 generalize hn:q.num=n at *
 generalize hd:q.den=d at *
 subst ha hb
 rw [hq,Rat.divInt_mul_divInt,← divInt_one]
 rw [Rat.divInt_eq_divInt_iff (by have:(0:Int) < d*D:=Int.mul_pos (by omega) (by omega);omega) (by decide)]
 push_cast
 grind
theorem prim_share (A:Int) (k:Nat) (_hk:0 < k) (h:((A:Rat)*Rat.divInt 1 (k:Int)).den=1):(k:Int) ∣ A:=by
 have e:(A:Rat)*Rat.divInt 1 (k:Int)=Rat.divInt A k:=by
   rw [← divInt_one,Rat.divInt_mul_divInt];simp
 rw [e] at h
 have h3:Rat.divInt A k=(((Rat.divInt A k).num:Int):Rat):=by
   apply Rat.ext
   · rfl
   · exact h
 rw [← divInt_one,Rat.divInt_eq_divInt_iff (by omega) (by decide)] at h3
 rw [Int.mul_one] at h3
 exact ⟨_,h3.trans (Int.mul_comm _ _)⟩
theorem least_div (k:Nat) (hk:2≤k):∃ q,2≤q∧q ∣ k∧∀ a b:Nat,q ∣ a*b→q ∣ a∨q ∣ b:=by
 have:∃ q,(2≤q∧q ∣ k)∧∀ r,r < q→¬ (2≤r∧r ∣ k):=by
   have wf:∀ n,(2≤n∧n ∣ k)→∃ q,(2≤q∧q ∣ k)∧∀ r,r < q→¬ (2≤r∧r ∣ k):=by
     intro n
     induction n using Nat.strongRecOn with
     | _ n ih =>
       intro hn
       by_cases h:∃ r,r < n∧(2≤r∧r ∣ k)
       · obtain ⟨r,hr,h2⟩:=h;exact ih r hr h2
       · exact ⟨n,hn,fun r hr h2=>h ⟨r,hr,h2⟩⟩
   exact wf k ⟨hk,Nat.dvd_refl k⟩
 obtain ⟨q,⟨h2,hd⟩,hmin⟩:=this
 refine ⟨q,h2,hd,fun a b hab=>?_⟩
 by_cases hg:Nat.gcd q a=1
 · exact Or.inr (Nat.Coprime.dvd_of_dvd_mul_left hg hab)
 · left
   have hgq:Nat.gcd q a ∣ q:=Nat.gcd_dvd_left ..
   have hpos:0 < Nat.gcd q a:=Nat.gcd_pos_of_pos_left _ (by omega)
   have hle:Nat.gcd q a≤q:=Nat.le_of_dvd (by omega) hgq
   have:¬ Nat.gcd q a < q:=fun hlt=>hmin _ hlt ⟨by omega,Nat.dvd_trans hgq hd⟩
   have e:Nat.gcd q a=q:=by omega
   rw [← e];exact Nat.gcd_dvd_right ..
theorem prim_no (x y z:Rat) (h:x≠0∨y≠0∨z≠0) (k:Nat) (hk:2≤k)
   (hx:(x*primF x y z*Rat.divInt 1 (k:Int)).den=1) (hy:(y*primF x y z*Rat.divInt 1 (k:Int)).den=1) (hz:(z*primF x y z*Rat.divInt 1 (k:Int)).den=1):False:=by
 have hD:=primD_pos x y z h
 have hM:=primM_pos x y z
 obtain ⟨d1,d2,d3⟩:=primD_dvd x y z
 obtain ⟨m1,m2,m3⟩:=primM_dvd x y z
 obtain ⟨q,q2,qk,qp⟩:=least_div k hk
 have key:∀ t:Rat,(primD x y z:Int) ∣ t.num→t.den ∣ primM x y z→(t*primF x y z*Rat.divInt 1 (k:Int)).den=1→q ∣ (t.num / (primD x y z:Int)).natAbs∨q ∣ primM x y z / t.den:=by
   intro t h1 h2 h3
   unfold primF at h3
   rw [prim_int t _ _ hD h1 h2] at h3
   have h4:=prim_share _ k (by omega) h3
   have h5:k ∣ (t.num / (primD x y z:Int)*((primM x y z / t.den:Nat):Int)).natAbs:=Int.ofNat_dvd_left.1 h4
   rw [Int.natAbs_mul,Int.natAbs_natCast] at h5
   exact qp _ _ (Nat.dvd_trans qk h5)
 have kx:=key x d1 m1 hx
 have ky:=key y d2 m2 hy
 have kz:=key z d3 m3 hz
 -- where q divides the quotient of the multiple, and where it does not
 have no:∀ t:Rat,(primD x y z:Int) ∣ t.num→q ∣ t.den→q ∣ (t.num / (primD x y z:Int)).natAbs→False:=by
   intro t h1 h2 h3
   have h4:q ∣ t.num.natAbs:=by
     have e:t.num.natAbs=primD x y z*(t.num / (primD x y z:Int)).natAbs:=by
       have:=Int.mul_ediv_cancel' h1
       conv=>lhs;rw [← this]
       rw [Int.natAbs_mul,Int.natAbs_natCast]
     rw [e];exact Nat.dvd_mul_left_of_dvd h3 _
   have h5:q ∣ Nat.gcd t.num.natAbs t.den:=Nat.dvd_gcd h4 h2
   rw [t.reduced] at h5
   have:=Nat.le_of_dvd (by decide) h5
   omega
 have up:∀ t:Rat,t.den ∣ primM x y z→q ∣ primM x y z / t.den→q ∣ primM x y z∧t.den ∣ primM x y z / q:=by
   intro t h1 ⟨c,hc⟩
   obtain ⟨b,hb⟩:=h1
   have hb2:primM x y z / t.den=b:=by rw [hb];exact Nat.mul_div_cancel_left _ t.den_pos
   rw [hb2] at hc
   subst hc
   refine ⟨⟨t.den*c,by rw [hb];ac_rfl⟩,⟨c,?_⟩⟩
   rw [hb,show t.den*(q*c)=q*(t.den*c) by ac_rfl,Nat.mul_div_cancel_left _ (by omega)]
 -- all three: then a smaller multiple
 have alldvd:(q ∣ primM x y z / x.den)→(q ∣ primM x y z / y.den)→(q ∣ primM x y z / z.den)→False:=by
   intro a b c
   obtain ⟨e0,e1⟩:=up x m1 a
   obtain ⟨_,e2⟩:=up y m2 b
   obtain ⟨_,e3⟩:=up z m3 c
   have:primM x y z ∣ primM x y z / q:=by
     conv=>lhs;unfold primM
     exact Nat.lcm_dvd (Nat.lcm_dvd e1 e2) e3
   have h6:=Nat.le_of_dvd (Nat.div_pos (Nat.le_of_dvd hM e0) (by omega)) this
   have h7:=Nat.div_lt_self hM q2
   omega
 have alldvd2:q ∣ (x.num / (primD x y z:Int)).natAbs→q ∣ (y.num / (primD x y z:Int)).natAbs→q ∣ (z.num / (primD x y z:Int)).natAbs→False:=by
   intro a b c
   have e:∀ t:Rat,(primD x y z:Int) ∣ t.num→q ∣ (t.num / (primD x y z:Int)).natAbs→primD x y z*q ∣ t.num.natAbs:=by
     intro t h1 h3
     have e:t.num.natAbs=primD x y z*(t.num / (primD x y z:Int)).natAbs:=by
       have:=Int.mul_ediv_cancel' h1
       conv=>lhs;rw [← this]
       rw [Int.natAbs_mul,Int.natAbs_natCast]
     rw [e];exact Nat.mul_dvd_mul_left _ h3
   have:primD x y z*q ∣ primD x y z:=by
     conv=>rhs;unfold primD
     exact Nat.dvd_gcd (Nat.dvd_gcd (e x d1 a) (e y d2 b)) (e z d3 c)
   have h6:=Nat.le_of_dvd hD this
   have:primD x y z*2≤primD x y z*q:=Nat.mul_le_mul_left _ q2
   omega
 -- one whose denominator keeps q
 have some:q ∣ primM x y z→∃ t,(t=x∨t=y∨t=z)∧¬ q ∣ primM x y z / t.den:=by
   intro _
   by_cases a:q ∣ primM x y z / x.den
   · by_cases b:q ∣ primM x y z / y.den
     · by_cases c:q ∣ primM x y z / z.den
       · exact (alldvd a b c).elim
       · exact ⟨z,by simp,c⟩
     · exact ⟨y,by simp,b⟩
   · exact ⟨x,by simp,a⟩
 have hqM:q ∣ primM x y z:=by
   by_cases a:q ∣ (x.num / (primD x y z:Int)).natAbs
   · by_cases b:q ∣ (y.num / (primD x y z:Int)).natAbs
     · by_cases c:q ∣ (z.num / (primD x y z:Int)).natAbs
       · exact (alldvd2 a b c).elim
       · exact (up z m3 (kz.resolve_left c)).1
     · exact (up y m2 (ky.resolve_left b)).1
   · exact (up x m1 (kx.resolve_left a)).1
 obtain ⟨t,ht,hn⟩:=some hqM
 have hdt:(primD x y z:Int) ∣ t.num∧t.den ∣ primM x y z∧(q ∣ (t.num / (primD x y z:Int)).natAbs∨q ∣ primM x y z / t.den):=by
   rcases ht with rfl | rfl | rfl
   · exact ⟨d1,m1,kx⟩
   · exact ⟨d2,m2,ky⟩
   · exact ⟨d3,m3,kz⟩
 obtain ⟨g1,g2,g3⟩:=hdt
 have h8:=g3.resolve_right hn
 refine no t g1 ?_ h8
 obtain ⟨b,hb⟩:=g2
 have hb2:primM x y z / t.den=b:=by rw [hb];exact Nat.mul_div_cancel_left _ t.den_pos
 rw [hb2] at hn
 have:=qp t.den b (by rw [← hb];exact hqM)
 exact this.resolve_right hn
theorem prim_pos (x y z:Rat) (h:x≠0∨y≠0∨z≠0):0 < primF x y z:=by
 unfold primF
 have h1:=primM_pos x y z
 have h2:=primD_pos x y z h
 rw [Rat.divInt_eq_div]
 rw [Rat.div_def]
 exact Rat.mul_pos (by exact_mod_cast h1) (Rat.inv_pos.2 (by exact_mod_cast h2))
end Go.Proofs.YtejfiegmdllfbaaGreatDoor.Kl
