import Derived.Test.YtpiiclmkbplkhaaGreatDoorKlLMultiplesCVI
namespace Go.Proofs.YtpiiclmkbplkhaaGreatDoor.Kl
open Go Go.RowKit
set_option maxRecDepth 100000
set_option maxHeartbeats 8000000
theorem upQ_neg (a b c:Rat) (h:a≠0∨b≠0∨c≠0):upQ (-a) (-b) (-c)↔¬ upQ a b c:=by
 unfold upQ
 constructor
 · intro g k
   rcases g with g | ⟨g0,g | ⟨g1,g2⟩⟩ <;> rcases k with k | ⟨k0,k | ⟨k1,k2⟩⟩ <;> grind
 · intro g
   by_cases c0:c=0
   · by_cases b0:b=0
     · have a0 : a ≠ 0 := by rcases h with h | h | h
                             · exact h
                             · exact absurd b0 h
                             · exact absurd c0 h
       refine Or.inr ⟨by grind,Or.inr ⟨by grind,?_⟩⟩
       by_cases ha:a < 0
       · exact absurd (Or.inr ⟨c0,Or.inr ⟨b0,ha⟩⟩) g
       · grind
     · refine Or.inr ⟨by grind,Or.inl ?_⟩
       by_cases hb:b < 0
       · exact absurd (Or.inr ⟨c0,Or.inl hb⟩) g
       · grind
   · refine Or.inl ?_
     by_cases hc:0 < c
     · exact absurd (Or.inl hc) g
     · grind
theorem dnF_neg (a b c:Rat) (h:a≠0∨b≠0∨c≠0):dnF (-a) (-b) (-c) = -dnF a b c:=by
 have hu:=upQ_neg a b c h
 unfold dnF
 by_cases u:upQ a b c
 · rw [if_pos u,if_neg (fun k=>hu.1 k u),primF_neg,Rat.neg_neg]
 · rw [if_neg u,if_pos (hu.2 u),primF_neg]
theorem same_ints (X Y Z P Q S : Int) (h : X≠0∨Y≠0∨Z≠0) (g:P≠0∨Q≠0∨S≠0) :
   (Y*S - Z*Q=0∧Z*P - X*S=0∧X*Q - Y*P=0)↔(X.tdiv (dnG X Y Z)=P.tdiv (dnG P Q S)∧Y.tdiv (dnG X Y Z)=Q.tdiv (dnG P Q S)∧Z.tdiv (dnG X Y Z)=S.tdiv (dnG P Q S)):=by
 have i1:∀ V:Int,(V:Rat)=1*(V:Rat):=fun V=>(Rat.one_mul _).symm
 obtain ⟨e1,e2,e3⟩:=dn_ints (P:Rat) (Q:Rat) (S:Rat) 1 P Q S (by decide) (i1 P) (i1 Q) (i1 S) g
 have gr:(P:Rat)≠0∨(Q:Rat)≠0∨(S:Rat)≠0:=by
   rcases g with g | g | g
   · exact Or.inl (fun k=>g (by exact_mod_cast k))
   · exact Or.inr (Or.inl (fun k=>g (by exact_mod_cast k)))
   · exact Or.inr (Or.inr (fun k=>g (by exact_mod_cast k)))
 constructor
 · rintro ⟨z1,z2,z3⟩
   have y1 : (Y : Rat) * S = Z * Q := by have:Y*S=Z*Q:=by omega
                                         exact_mod_cast this
   have y2 : (Z : Rat) * P = X * S := by have:Z*P=X*S:=by omega
                                         exact_mod_cast this
   have y3 : (X : Rat) * Q = Y * P := by have:X*Q=Y*P:=by omega
                                         exact_mod_cast this
   have key:∃ t:Rat,(P:Rat)=t*X∧(Q:Rat)=t*Y∧(S:Rat)=t*Z:=by
     by_cases x0:X=0
     · by_cases w0:Y=0
       · have n0 : Z ≠ 0 := by rcases h with h | h | h
                               · exact absurd x0 h
                               · exact absurd w0 h
                               · exact h
         have n1:(Z:Rat)≠0:=fun k=>n0 (by exact_mod_cast k)
         refine ⟨S / Z,?_,?_,?_⟩ <;> (rw [Rat.div_def];grind)
       · have n1:(Y:Rat)≠0:=fun k=>w0 (by exact_mod_cast k)
         refine ⟨Q / Y,?_,?_,?_⟩ <;> (rw [Rat.div_def];grind)
     · have n1:(X:Rat)≠0:=fun k=>x0 (by exact_mod_cast k)
       refine ⟨P / X,?_,?_,?_⟩ <;> (rw [Rat.div_def];grind)
   obtain ⟨t,t1,t2,t3⟩:=key
   have t0:t≠0:=fun k=>by
     rw [k,Rat.zero_mul] at t1 t2 t3
     rcases gr with q | q | q
     · exact q t1
     · exact q t2
     · exact q t3
   have fin:(P:Rat)*dnF P Q S=((X.tdiv (dnG X Y Z):Int):Rat)∧(Q:Rat)*dnF P Q S=((Y.tdiv (dnG X Y Z):Int):Rat)∧(S:Rat)*dnF P Q S=((Z.tdiv (dnG X Y Z):Int):Rat):=by
     by_cases tp:0 < t
     · exact dn_ints P Q S t X Y Z tp t1 t2 t3 h
     · have tn:0 < -t:=by grind
       have:=dn_ints (-(P:Rat)) (-(Q:Rat)) (-(S:Rat)) (-t) X Y Z tn (by rw [t1];grind) (by rw [t2];grind) (by rw [t3];grind) h
       rw [dnF_neg _ _ _ gr] at this
       obtain ⟨f1,f2,f3⟩:=this
       exact ⟨by rw [← f1];grind,by rw [← f2];grind,by rw [← f3];grind⟩
   obtain ⟨f1,f2,f3⟩:=fin
   exact ⟨by exact_mod_cast (f1.symm.trans e1),by exact_mod_cast (f2.symm.trans e2),by exact_mod_cast (f3.symm.trans e3)⟩
 · have dv:∀ A B C:Int,A=dnG A B C*A.tdiv (dnG A B C)∧B=dnG A B C*B.tdiv (dnG A B C)∧C=dnG A B C*C.tdiv (dnG A B C):=by
     intro A B C
     obtain ⟨d1,d2,d3⟩:=g3_dvd A B C
     have:∀ V:Int,(g3 A B C:Int) ∣ V→dnG A B C ∣ V:=fun V hV=>by
       unfold dnG;by_cases u:upI A B C
       · rw [if_pos u];exact Int.neg_dvd.2 hV
       · rw [if_neg u];exact hV
     exact ⟨(Int.mul_tdiv_cancel' (this A d1)).symm,(Int.mul_tdiv_cancel' (this B d2)).symm,(Int.mul_tdiv_cancel' (this C d3)).symm⟩
   obtain ⟨a1,a2,a3⟩:=dv X Y Z
   obtain ⟨b1,b2,b3⟩:=dv P Q S
   rintro ⟨s1,s2,s3⟩
   generalize dnG X Y Z=G at *
   generalize dnG P Q S=H at *
   rw [← s1] at b1;rw [← s2] at b2;rw [← s3] at b3
   generalize X.tdiv G=x at *
   generalize Y.tdiv G=y at *
   generalize Z.tdiv G=z at *
   subst a1 a2 a3 b1 b2 b3
   refine ⟨?_,?_,?_⟩ <;> grind
end Go.Proofs.YtpiiclmkbplkhaaGreatDoor.Kl
