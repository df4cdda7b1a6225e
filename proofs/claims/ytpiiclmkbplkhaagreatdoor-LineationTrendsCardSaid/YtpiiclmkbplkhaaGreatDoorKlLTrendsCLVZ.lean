import Derived.Test.YtpiiclmkbplkhaaGreatDoorKlLTrendsCLBZ
import Derived.Test.YtpiiclmkbplkhaaGreatDoorKlLTrendsCLQZ
import Derived.Test.YtpiiclmkbplkhaaGreatDoorKlBLVZ
namespace Go.Proofs.YtpiiclmkbplkhaaGreatDoor.Kl
open Go Go.RowKit
set_option maxRecDepth 100000
set_option maxHeartbeats 8000000
theorem small_rn : ∀ (x:Fin 41) (d:Fin 3),Rat.divInt ((x.val:Int) - 20) ((d.val:Int)+1)=Rat.divInt 1 ((d.val:Int)+1)*(((x.val:Int) - 20:Int):Rat)∧RN (Rat.divInt 1 ((d.val:Int)+1)*(((x.val:Int) - 20:Int):Rat)) 2 1:=by unfold RN;decide +kernel
theorem small_k (X D:Int) (hX : -20≤X∧X≤20) (hD:1≤D∧D≤3):Rat.divInt X D=Rat.divInt 1 D*(X:Rat)∧RN (Rat.divInt 1 D*(X:Rat)) 2 1:=by
 have h:=small_rn ⟨(X+20).toNat,by omega⟩ ⟨(D - 1).toNat,by omega⟩
 simp only at h
 rw [show (((X+20).toNat:Nat):Int) - 20=X by omega,show (((D - 1).toNat:Nat):Int)+1=D by omega] at h
 exact h
theorem k_pos (D:Int) (hD:1≤D∧D≤3):0 < Rat.divInt 1 D:=by
 have:D=1∨D=2∨D=3:=by omega
 rcases this with rfl | rfl | rfl <;> decide +kernel
theorem descr (i0 i1 i2 d:Int) (b0 : -128≤i0∧i0≤127) (b1 : -128≤i1∧i1≤127) (b2 : -128≤i2∧i2≤127) (b3:0≤d∧d≤255) :
   ∃ (X0 X1 X2:Int) (k:Rat),(X0.natAbs≤20∧X1.natAbs≤20∧X2.natAbs≤20)∧0 < k∧(RN (k*(X0:Rat)) 2 1∧RN (k*(X1:Rat)) 2 1∧RN (k*(X2:Rat)) 2 1) ∧
     (CV 29 #[.agg #[.int .i8 i0,.int .i8 i1,.int .i8 i2,.int .u8 d]] (.agg #[.int .i64 X0,.int .i64 X1,.int .i64 X2])) ∧
     (CV 30 #[.agg #[.int .i8 i0,.int .i8 i1,.int .i8 i2,.int .u8 d]] (.agg #[.string (ratB (k*(X0:Rat))),.string (ratB (k*(X1:Rat))),.string (ratB (k*(X2:Rat)))])):=by
 have hD:=byI_le d b3.1
 have t0:=tmod21 i0;have t1:=tmod21 i1;have t2:=tmod21 i2
 obtain ⟨e0,m0⟩:=small_k _ _ t0 hD
 obtain ⟨e1,m1⟩:=small_k _ _ t1 hD
 obtain ⟨e2,m2⟩:=small_k _ _ t2 hD
 refine ⟨i0.tmod 21,i1.tmod 21,i2.tmod 21,Rat.divInt 1 (byI d),⟨by omega,by omega,by omega⟩,k_pos _ hD,⟨m0,m1,m2⟩,fun w _=>lints_any i0 i1 i2 d b0 b1 b2 w,fun w R=>?_⟩
 have h:=lmake_any i0 i1 i2 d b0 b1 b2 b3 w R
 rw [e0,e1,e2] at h
 exact h
theorem DV_of {k:Rat} {X0 X1 X2:Int} (hb:X0.natAbs≤20∧X1.natAbs≤20∧X2.natAbs≤20) (hk:0 < k) (hr:RN (k*(X0:Rat)) 2 1∧RN (k*(X1:Rat)) 2 1∧RN (k*(X2:Rat)) 2 1) (h:¬ (X0=0∧X1=0∧X2=0)):DV k X0 X1 X2:=
 ⟨hk,RN.up hr.1 (by decide) (by decide),RN.up hr.2.1 (by decide) (by decide),RN.up hr.2.2 (by decide) (by decide),Nat.le_trans hb.1 (by decide),Nat.le_trans hb.2.1 (by decide),Nat.le_trans hb.2.2 (by decide),by
   by_cases q0:X0=0
   · by_cases q1:X1=0
     · exact Or.inr (Or.inr (fun q2=>h ⟨q0,q1,q2⟩))
     · exact Or.inr (Or.inl q1)
   · exact Or.inl q0⟩
theorem lzero_t {x y z:Int} (h:x=0∧y=0∧z=0) (w:World):Calls Tryz.prog 28 #[.agg #[.int .i64 x,.int .i64 y,.int .i64 z]] w (Ret w (.bool true)):=by
 have g:=lzero_any x y z w
 rwa [show (x == 0 && (y == 0 && z == 0))=true by simp [h.1,h.2.1,h.2.2]] at g
theorem lzero_f {x y z:Int} (h:¬ (x=0∧y=0∧z=0)) (w:World):Calls Tryz.prog 28 #[.agg #[.int .i64 x,.int .i64 y,.int .i64 z]] w (Ret w (.bool false)):=by
 have g:=lzero_any x y z w
 rwa [show (x == 0 && (y == 0 && z == 0))=false by rw [Bool.eq_false_iff];intro e;simp at e;exact h e] at g
theorem dvVert_t {k:Rat} {X Y Z:Int} (h:DV k X Y Z) (v:X=0∧Y=0) (w:World) (R:EnvV w) :
   Calls Tryz.prog 45 #[.agg #[.string (ratB (k*(X:Rat))),.string (ratB (k*(Y:Rat))),.string (ratB (k*(Z:Rat)))]] w (Ret w (.bool true)):=lver_t _ _ _ ((zk h.kp X).2 v.1) ((zk h.kp Y).2 v.2) w R
theorem dvTrend_v {k:Rat} {X Y Z:Int} (h:DV k X Y Z) (v:X=0∧Y=0) (w:World) (R:EnvV w) :
   Calls Tryz.prog 26 #[.agg #[.string (ratB (k*(X:Rat))),.string (ratB (k*(Y:Rat))),.string (ratB (k*(Z:Rat)))]] w (Ret w (.tuple #[.int .i64 0,.int .i64 19])):=
 lTrend_v _ _ _ (fun w R=>lcheck_ok _ _ _ h.ne (h.n0.rl) (h.n1.rl) (h.n2.rl) w R) (fun w R=>dvVert_t h v w R) w R
theorem dvCmpTrend_v {k t:Rat} {X Y Z P Q S:Int} (h:DV k X Y Z) (g:DV t P Q S) (v:(X=0∧Y=0)∨(P=0∧Q=0)) (w:World) (R:EnvV w) :
   Calls Tryz.prog 17 #[.agg #[.string (ratB (k*(X:Rat))),.string (ratB (k*(Y:Rat))),.string (ratB (k*(Z:Rat)))],.agg #[.string (ratB (t*(P:Rat))),.string (ratB (t*(Q:Rat))),.string (ratB (t*(S:Rat)))]] w (Ret w (.tuple #[.int .i64 0,.int .i64 19])):=by
 have hc:∀ w,EnvV w→_:=fun w R=>lcheck_ok _ _ _ h.ne (h.n0.rl) (h.n1.rl) (h.n2.rl) w R
 have gc:∀ w,EnvV w→_:=fun w R=>lcheck_ok _ _ _ g.ne (g.n0.rl) (g.n1.rl) (g.n2.rl) w R
 by_cases q:X=0∧Y=0
 · exact lCmpTrend_0 _ _ _ _ _ _ hc gc (fun w R=>dvVert_t h q w R) w R
 · exact lCmpTrend_1 _ _ _ _ _ _ hc gc (fun w R=>dvVert_f h q w R) (fun w R=>dvVert_t g (v.resolve_left q) w R) w R
theorem dvCmpTrend {k t:Rat} {X Y Z P Q S:Int} (h:DV k X Y Z) (g:DV t P Q S) (v:¬ (X=0∧Y=0)) (v':¬ (P=0∧Q=0)) (w:World) (R:EnvV w) :
   Calls Tryz.prog 17 #[.agg #[.string (ratB (k*(X:Rat))),.string (ratB (k*(Y:Rat))),.string (ratB (k*(Z:Rat)))],.agg #[.string (ratB (t*(P:Rat))),.string (ratB (t*(Q:Rat))),.string (ratB (t*(S:Rat)))]] w (Ret w (.tuple #[.int .i64 (cwI (X.tdiv (dnG X Y Z)) (Y.tdiv (dnG X Y Z)) (P.tdiv (dnG P Q S)) (Q.tdiv (dnG P Q S))),.int .i64 0])):=by
 have hc:∀ w,EnvV w→_:=fun w R=>lcheck_ok _ _ _ h.ne (h.n0.rl) (h.n1.rl) (h.n2.rl) w R
 have gc:∀ w,EnvV w→_:=fun w R=>lcheck_ok _ _ _ g.ne (g.n0.rl) (g.n1.rl) (g.n2.rl) w R
 obtain ⟨a,ha,ru,rv,hb⟩:=dvBear h
 obtain ⟨b,hb',rp,rq,gb⟩:=dvBear g
 exact lCmpTrend_2 _ _ _ _ _ _ _ _ _ _ _ hc gc (fun w R=>dvVert_f h v w R) (fun w R=>dvVert_f g v' w R) hb gb (fun w R=>dvClock a b _ _ _ _ ha hb' ru rv rp rq w R) w R
theorem sgn_same (u:Int):(u=0↔u.sign=0)∧(0 < u↔0 < u.sign)∧(u < 0↔u.sign < 0):=by
 rcases sgnI u with ⟨hu,su⟩ | ⟨hu,su⟩ | ⟨hu,su⟩ <;> rw [su] <;> omega
theorem octI_sign (u v:Int):octI u v=octI u.sign v.sign:=by
 obtain ⟨e1,e2,e3⟩:=sgn_same u
 obtain ⟨f1,f2,f3⟩:=sgn_same v
 unfold octI
 simp only [e1,e2,f1,f2,f3]
theorem sgn_if (z:Int):z.sign=if z < 0 then -1 else if z > 0 then 1 else 0:=by
 rcases sgnI z with ⟨h,s⟩ | ⟨h,s⟩ | ⟨h,s⟩ <;> rw [s] <;> (repeat' split) <;> omega
theorem fin_oct (K n r z:Int) (h0:K=0→(n < r→z < 0)∧(n > r→z > 0)) (h1:K≠0→(K = -1∧n < r)∨(K=1∧n > r)) :
   (if K=0 then z.sign else K)=if n < r∨n=r∧z < 0 then -1 else if n > r∨n=r∧z > 0 then 1 else 0:=by
 rw [sgn_if]
 by_cases hK:K=0
 · have h:=h0 hK
   rw [if_pos hK]
   rcases Int.lt_trichotomy n r with q | q | q
   · rw [if_pos (h.1 q),if_pos (Or.inl q)]
   · subst q;(repeat' split) <;> omega
   · have:=h.2 q;(repeat' split) <;> omega
 · have h:=h1 hK
   rw [if_neg hK]
   (repeat' split) <;> omega
theorem cwI_oct (u v p q:Int) (h:¬ (u=0∧v=0)) (g:¬ (p=0∧q=0)) :
   cwI u v p q=if octI u v < octI p q∨octI u v=octI p q∧u*q - v*p < 0 then -1 else if octI u v > octI p q∨octI u v=octI p q∧u*q - v*p > 0 then 1 else 0:=by
 have m1:=Int.sign_mul u q
 have m2:=Int.sign_mul v p
 have s1:=sgnI (u*q)
 have s2:=sgnI (v*p)
 unfold cwI
 generalize u*q=x at *
 generalize v*p=y at *
 rw [octI_sign u v,octI_sign p q]
 rcases sgnI u with ⟨hu,su⟩ | ⟨hu,su⟩ | ⟨hu,su⟩ <;> rcases sgnI v with ⟨hv,sv⟩ | ⟨hv,sv⟩ | ⟨hv,sv⟩ <;> rcases sgnI p with ⟨hp,sp⟩ | ⟨hp,sp⟩ | ⟨hp,sp⟩ <;> rcases sgnI q with ⟨hq,sq⟩ | ⟨hq,sq⟩ | ⟨hq,sq⟩ <;>
   try (exfalso;clear m1 m2 s1 s2;omega)
 all_goals rw [su,sq] at m1
 all_goals rw [sv,sp] at m2
 all_goals rw [su,sv,sp,sq]
 all_goals refine fin_oct _ _ _ _ (fun hK=>⟨fun hn=>?_,fun hn=>?_⟩) (fun hK=>?_)
 all_goals first | exact absurd hn (by decide) | exact absurd rfl hK | exact absurd hK (by decide) | decide | omega
end Go.Proofs.YtpiiclmkbplkhaaGreatDoor.Kl
