import Derived.Test.YtpiiclmkbplkhaaGreatDoorKlLMultiplesCLV
namespace Go.Proofs.YtpiiclmkbplkhaaGreatDoor.Kl
open Go Go.RowKit
set_option maxRecDepth 100000
set_option maxHeartbeats 8000000
theorem dvSame_t {k t:Rat} {X Y Z P Q S:Int} (h:DV k X Y Z) (g:DV t P Q S) (hc:Y*S - Z*Q=0∧Z*P - X*S=0∧X*Q - Y*P=0) (w:World) (R:EnvV w) :
   Calls Tryz.prog 16 #[.agg #[.string (ratB (k*(X:Rat))),.string (ratB (k*(Y:Rat))),.string (ratB (k*(Z:Rat)))],.agg #[.string (ratB (t*(P:Rat))),.string (ratB (t*(Q:Rat))),.string (ratB (t*(S:Rat)))]] w (Ret w (.tuple #[.bool true,.int .i64 0])):=
 lSame_t _ _ _ _ _ _ h.n0 h.n1 h.n2 g.n0 g.n1 g.n2 h.ne g.ne ((crossz h.kp g.kp X Y Z P Q S).2 hc) w R
theorem dvPlunge_v {k:Rat} {X Y Z:Int} (h:DV k X Y Z) (v:X=0∧Y=0) (w:World) (R:EnvV w) :
   Calls Tryz.prog 27 #[.agg #[.string (ratB (k*(X:Rat))),.string (ratB (k*(Y:Rat))),.string (ratB (k*(Z:Rat)))]] w (Ret w (.tuple #[.string ⟨#[]⟩,.bool true,.int .i64 0])):=
 lPlunge_t _ _ _ h.n0 h.n1 h.n2 h.ne ⟨(zk h.kp X).2 v.1,(zk h.kp Y).2 v.2⟩ w R
theorem dvPlunge {k:Rat} {X Y Z:Int} (h:DV k X Y Z) (v:¬ (X=0∧Y=0)) (w:World) (R:EnvV w) :
   Calls Tryz.prog 27 #[.agg #[.string (ratB (k*(X:Rat))),.string (ratB (k*(Y:Rat))),.string (ratB (k*(Z:Rat)))]] w (Ret w (.tuple #[.string (ratB (Rat.divInt (Z*Z) (X*X+Y*Y))),.bool false,.int .i64 0])):=by
 have c:=lPlunge_f _ _ _ h.n0 h.n1 h.n2 h.ne (h.ne2 v) w R
 rwa [plk k h.kp X Y Z v] at c
theorem dvVert_t {k:Rat} {X Y Z:Int} (h:DV k X Y Z) (v:X=0∧Y=0) (w:World) (R:EnvV w) :
   Calls Tryz.prog 45 #[.agg #[.string (ratB (k*(X:Rat))),.string (ratB (k*(Y:Rat))),.string (ratB (k*(Z:Rat)))]] w (Ret w (.bool true)):=lver_t _ _ _ ((zk h.kp X).2 v.1) ((zk h.kp Y).2 v.2) w R
theorem dvTrend_v {k:Rat} {X Y Z:Int} (h:DV k X Y Z) (v:X=0∧Y=0) (w:World) (R:EnvV w) :
   Calls Tryz.prog 26 #[.agg #[.string (ratB (k*(X:Rat))),.string (ratB (k*(Y:Rat))),.string (ratB (k*(Z:Rat)))]] w (Ret w (.tuple #[.int .i64 0,.int .i64 19])):=
 lTrend_v _ _ _ (fun w R=>lcheck_ok _ _ _ h.ne (h.n0.rl) (h.n1.rl) (h.n2.rl) w R) (fun w R=>dvVert_t h v w R) w R
theorem nz3I {a b c:Int} (h:¬ (a=0∧b=0∧c=0)):a≠0∨b≠0∨c≠0:=by omega
theorem one_txt (p:Int):ratB ((1:Rat)*(p:Rat))=itoaB p:=by rw [Rat.one_mul];exact rbI p
theorem RN_one (p:Int) (h:p.natAbs≤1000):RN ((1:Rat)*(p:Rat)) 6 3:=by
 rw [Rat.one_mul]
 exact ⟨dlen_le _ 6 (by decide) (Nat.lt_of_le_of_lt h (by decide +kernel)),(by show dlen ((1:Nat):Int)≤3;decide +kernel)⟩
theorem DV_one {p q r:Int} (hp:p.natAbs≤1000) (hq:q.natAbs≤1000) (hr:r.natAbs≤1000) (h:p≠0∨q≠0∨r≠0):DV 1 p q r:=⟨by decide,RN_one p hp,RN_one q hq,RN_one r hr,hp,hq,hr,h⟩
theorem tdiv0 {X Y Z:Int} (h:X≠0∨Y≠0∨Z≠0):∃ G:Int,G≠0∧X=G*X.tdiv (dnG X Y Z)∧Y=G*Y.tdiv (dnG X Y Z)∧Z=G*Z.tdiv (dnG X Y Z):=by
 obtain ⟨d1,d2,d3⟩:=g3_dvd X Y Z
 have gp:=g3_pos X Y Z h
 refine ⟨dnG X Y Z,?_,?_,?_,?_⟩
 · unfold dnG;split <;> omega
 all_goals
   have dv:∀ V:Int,(g3 X Y Z:Int) ∣ V→V=dnG X Y Z*V.tdiv (dnG X Y Z):=fun V hV=>(Int.mul_tdiv_cancel' (by unfold dnG;split;exact Int.neg_dvd.2 hV;exact hV)).symm
   first | exact dv _ d1 | exact dv _ d2 | exact dv _ d3
theorem nz_of {X Y Z p q r G:Int} (h:X≠0∨Y≠0∨Z≠0) (e0:X=G*p) (e1:Y=G*q) (e2:Z=G*r):p≠0∨q≠0∨r≠0:=by
 rcases h with h | h | h
 · exact Or.inl (fun k=>h (by rw [e0,k,Int.mul_zero]))
 · exact Or.inr (Or.inl (fun k=>h (by rw [e1,k,Int.mul_zero])))
 · exact Or.inr (Or.inr (fun k=>h (by rw [e2,k,Int.mul_zero])))
end Go.Proofs.YtpiiclmkbplkhaaGreatDoor.Kl
