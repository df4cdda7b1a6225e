import Derived.Test.YtpiiclmkbplkhaaGreatDoorKlLPlanesCLC
import Derived.Test.YtpiiclmkbplkhaaGreatDoorKlLPlanesCLR
import Derived.Test.YtpiiclmkbplkhaaGreatDoorKlBLVZ
namespace Go.Proofs.YtpiiclmkbplkhaaGreatDoor.Kl
open Go Go.RowKit
set_option maxRecDepth 100000
set_option maxHeartbeats 8000000
theorem small_rn : ∀ (x:Fin 41) (d:Fin 3),Rat.divInt ((x.val:Int) - 20) ((d.val:Int)+1)=Rat.divInt 1 ((d.val:Int)+1)*(((x.val:Int) - 20:Int):Rat)∧RN (Rat.divInt 1 ((d.val:Int)+1)*(((x.val:Int) - 20:Int):Rat)) 2 1:=by unfold RN;decide +kernel
theorem small_k (X D:Int) (hX : -20≤X∧X≤20) (hD:1≤D∧D≤3):Rat.divInt X D=Rat.divInt 1 D*(X:Rat)∧RN (Rat.divInt 1 D*(X:Rat)) 2 1:=by
 have h:=small_rn ⟨(X+20).toNat,by omega⟩ ⟨(D - 1).toNat,by omega⟩
 simp only at h
 rw [show (((X+20).toNat:Nat):Int) - 20=X by omega,show (((D - 1).toNat:Nat):Int)+1=D by omega] at h
 exact h
theorem k_pos (D:Int) (hD:1≤D∧D≤3):0 < Rat.divInt 1 D:=by
 have:D=1∨D=2∨D=3:=by omega
 rcases this with rfl | rfl | rfl <;> decide +kernel
theorem descr (i0 i1 i2 d:Int) (b0 : -128≤i0∧i0≤127) (b1 : -128≤i1∧i1≤127) (b2 : -128≤i2∧i2≤127) (b3:0≤d∧d≤255) :
   ∃ (X0 X1 X2:Int) (k:Rat),(X0.natAbs≤20∧X1.natAbs≤20∧X2.natAbs≤20)∧0 < k∧(RN (k*(X0:Rat)) 2 1∧RN (k*(X1:Rat)) 2 1∧RN (k*(X2:Rat)) 2 1) ∧
     (CV 29 #[.agg #[.int .i8 i0,.int .i8 i1,.int .i8 i2,.int .u8 d]] (.agg #[.int .i64 X0,.int .i64 X1,.int .i64 X2])) ∧
     (CV 30 #[.agg #[.int .i8 i0,.int .i8 i1,.int .i8 i2,.int .u8 d]] (.agg #[.string (ratB (k*(X0:Rat))),.string (ratB (k*(X1:Rat))),.string (ratB (k*(X2:Rat)))])):=by
 have hD:=byI_le d b3.1
 have t0:=tmod21 i0;have t1:=tmod21 i1;have t2:=tmod21 i2
 obtain ⟨e0,m0⟩:=small_k _ _ t0 hD
 obtain ⟨e1,m1⟩:=small_k _ _ t1 hD
 obtain ⟨e2,m2⟩:=small_k _ _ t2 hD
 refine ⟨i0.tmod 21,i1.tmod 21,i2.tmod 21,Rat.divInt 1 (byI d),⟨by omega,by omega,by omega⟩,k_pos _ hD,⟨m0,m1,m2⟩,fun w _=>lints_any i0 i1 i2 d b0 b1 b2 w,fun w R=>?_⟩
 have h:=lmake_any i0 i1 i2 d b0 b1 b2 b3 w R
 rw [e0,e1,e2] at h
 exact h
theorem DV_of {k:Rat} {X0 X1 X2:Int} (hb:X0.natAbs≤20∧X1.natAbs≤20∧X2.natAbs≤20) (hk:0 < k) (hr:RN (k*(X0:Rat)) 2 1∧RN (k*(X1:Rat)) 2 1∧RN (k*(X2:Rat)) 2 1) (h:¬ (X0=0∧X1=0∧X2=0)):DV k X0 X1 X2:=
 ⟨hk,RN.up hr.1 (by decide) (by decide),RN.up hr.2.1 (by decide) (by decide),RN.up hr.2.2 (by decide) (by decide),Nat.le_trans hb.1 (by decide),Nat.le_trans hb.2.1 (by decide),Nat.le_trans hb.2.2 (by decide),by
   by_cases q0:X0=0
   · by_cases q1:X1=0
     · exact Or.inr (Or.inr (fun q2=>h ⟨q0,q1,q2⟩))
     · exact Or.inr (Or.inl q1)
   · exact Or.inl q0⟩
theorem lzero_t {x y z:Int} (h:x=0∧y=0∧z=0) (w:World):Calls Tryz.prog 28 #[.agg #[.int .i64 x,.int .i64 y,.int .i64 z]] w (Ret w (.bool true)):=by
 have g:=lzero_any x y z w
 rwa [show (x == 0 && (y == 0 && z == 0))=true by simp [h.1,h.2.1,h.2.2]] at g
theorem lzero_f {x y z:Int} (h:¬ (x=0∧y=0∧z=0)) (w:World):Calls Tryz.prog 28 #[.agg #[.int .i64 x,.int .i64 y,.int .i64 z]] w (Ret w (.bool false)):=by
 have g:=lzero_any x y z w
 rwa [show (x == 0 && (y == 0 && z == 0))=false by rw [Bool.eq_false_iff];intro e;simp at e;exact h e] at g
theorem dvLies {k t:Rat} {X Y Z P Q S:Int} (h:DV k X Y Z) (g:DV t P Q S) (b:Bool) (hb:(X*P+Y*Q+Z*S == 0)=b) (w:World) (R:EnvV w) :
   Calls Tryz.prog 21 #[.agg #[.string (ratB (k*(X:Rat))),.string (ratB (k*(Y:Rat))),.string (ratB (k*(Z:Rat)))],.agg #[.string (ratB (t*(P:Rat))),.string (ratB (t*(Q:Rat))),.string (ratB (t*(S:Rat)))]] w (Ret w (.tuple #[.bool b,.int .i64 0])):=by
 subst hb
 by_cases q:X*P+Y*Q+Z*S=0
 · rw [show (X*P+Y*Q+Z*S == 0)=true by rw [q];rfl]
   exact lLies_t _ _ _ _ _ _ h.n0 h.n1 h.n2 g.n0 g.n1 g.n2 h.ne g.ne ((dotz h.kp g.kp X Y Z P Q S).2 q) w R
 · rw [show (X*P+Y*Q+Z*S == 0)=false from beq_eq_false_iff_ne.2 q]
   exact lLies_f _ _ _ _ _ _ h.n0 h.n1 h.n2 g.n0 g.n1 g.n2 h.ne g.ne (mt (dotz h.kp g.kp X Y Z P Q S).1 q) w R
theorem dvPitch_v {k t:Rat} {X Y Z P Q S:Int} (h:DV k X Y Z) (g:DV t P Q S) (v:X=0∧Y=0) (w:World) (R:EnvV w) :
   Calls Tryz.prog 23 #[.agg #[.string (ratB (k*(X:Rat))),.string (ratB (k*(Y:Rat))),.string (ratB (k*(Z:Rat)))],.agg #[.string (ratB (t*(P:Rat))),.string (ratB (t*(Q:Rat))),.string (ratB (t*(S:Rat)))]] w (Ret w (.tuple #[.string ⟨#[]⟩,.int .i64 19])):=
 lPitch_v _ _ _ _ _ _ h.n0 h.n1 h.n2 g.n0 g.n1 g.n2 h.ne g.ne ⟨(zk h.kp X).2 v.1,(zk h.kp Y).2 v.2⟩ w R
theorem dvPitch_n {k t:Rat} {X Y Z P Q S:Int} (h:DV k X Y Z) (g:DV t P Q S) (v:¬ (X=0∧Y=0)) (q:X*P+Y*Q+Z*S≠0) (w:World) (R:EnvV w) :
   Calls Tryz.prog 23 #[.agg #[.string (ratB (k*(X:Rat))),.string (ratB (k*(Y:Rat))),.string (ratB (k*(Z:Rat)))],.agg #[.string (ratB (t*(P:Rat))),.string (ratB (t*(Q:Rat))),.string (ratB (t*(S:Rat)))]] w (Ret w (.tuple #[.string ⟨#[]⟩,.int .i64 7])):=
 lPitch_n _ _ _ _ _ _ h.n0 h.n1 h.n2 g.n0 g.n1 g.n2 h.ne g.ne (h.ne2 v) (mt (dotz h.kp g.kp X Y Z P Q S).1 q) w R
theorem dvIntersect_d {k t:Rat} {X Y Z P Q S:Int} (h:DV k X Y Z) (g:DV t P Q S) (hc:Y*S - Z*Q=0∧Z*P - X*S=0∧X*Q - Y*P=0) (w:World) (R:EnvV w) :
   Calls Tryz.prog 22 #[.agg #[.string (ratB (k*(X:Rat))),.string (ratB (k*(Y:Rat))),.string (ratB (k*(Z:Rat)))],.agg #[.string (ratB (t*(P:Rat))),.string (ratB (t*(Q:Rat))),.string (ratB (t*(S:Rat)))]] w (Ret w (.tuple #[.agg #[.string ⟨#[]⟩,.string ⟨#[]⟩,.string ⟨#[]⟩],.int .i64 18])):=
 lIntersect_d _ _ _ _ _ _ h.n0 h.n1 h.n2 g.n0 g.n1 g.n2 h.ne g.ne ((crossz h.kp g.kp X Y Z P Q S).2 hc) w R
theorem nz3I {a b c:Int} (h:¬ (a=0∧b=0∧c=0)):a≠0∨b≠0∨c≠0:=by omega
end Go.Proofs.YtpiiclmkbplkhaaGreatDoor.Kl
