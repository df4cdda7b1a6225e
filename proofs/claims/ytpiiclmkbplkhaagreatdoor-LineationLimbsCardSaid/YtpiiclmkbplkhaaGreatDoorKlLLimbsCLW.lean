import Derived.Test.YtpiiclmkbplkhaaGreatDoorKlLLimbsCLV
namespace Go.Proofs.YtpiiclmkbplkhaaGreatDoor.Kl
open Go Go.RowKit
set_option maxRecDepth 100000
set_option maxHeartbeats 8000000
theorem dvSame_t {k t:Rat} {X Y Z P Q S:Int} (h:DV k X Y Z) (g:DV t P Q S) (hc:Y*S - Z*Q=0∧Z*P - X*S=0∧X*Q - Y*P=0) (w:World) (R:EnvV w) :
   Calls Tryz.prog 16 #[.agg #[.string (ratB (k*(X:Rat))),.string (ratB (k*(Y:Rat))),.string (ratB (k*(Z:Rat)))],.agg #[.string (ratB (t*(P:Rat))),.string (ratB (t*(Q:Rat))),.string (ratB (t*(S:Rat)))]] w (Ret w (.tuple #[.bool true,.int .i64 0])):=
 lSame_t _ _ _ _ _ _ h.n0 h.n1 h.n2 g.n0 g.n1 g.n2 h.ne g.ne ((crossz h.kp g.kp X Y Z P Q S).2 hc) w R
theorem dvAngle {k t:Rat} {X Y Z P Q S:Int} (h:DV k X Y Z) (g:DV t P Q S) (w:World) (R:EnvV w) :
   Calls Tryz.prog 19 #[.agg #[.string (ratB (k*(X:Rat))),.string (ratB (k*(Y:Rat))),.string (ratB (k*(Z:Rat)))],.agg #[.string (ratB (t*(P:Rat))),.string (ratB (t*(Q:Rat))),.string (ratB (t*(S:Rat)))]] w (Ret w (.tuple #[.string (ratB (Rat.divInt ((X*P+Y*Q+Z*S)*(X*P+Y*Q+Z*S)) (SS X Y Z*SS P Q S))),.int .i64 0])):=by
 have c:=lAngle _ _ _ _ _ _ h.n0 h.n1 h.n2 g.n0 g.n1 g.n2 h.ne g.ne w R
 rwa [cosk k t h.kp g.kp X Y Z P Q S h.nz g.nz] at c
theorem dvLies {k t:Rat} {X Y Z P Q S:Int} (h:DV k X Y Z) (g:DV t P Q S) (b:Bool) (hb:(X*P+Y*Q+Z*S == 0)=b) (w:World) (R:EnvV w) :
   Calls Tryz.prog 21 #[.agg #[.string (ratB (k*(X:Rat))),.string (ratB (k*(Y:Rat))),.string (ratB (k*(Z:Rat)))],.agg #[.string (ratB (t*(P:Rat))),.string (ratB (t*(Q:Rat))),.string (ratB (t*(S:Rat)))]] w (Ret w (.tuple #[.bool b,.int .i64 0])):=by
 subst hb
 by_cases q:X*P+Y*Q+Z*S=0
 · rw [show (X*P+Y*Q+Z*S == 0)=true by rw [q];rfl]
   exact lLies_t _ _ _ _ _ _ h.n0 h.n1 h.n2 g.n0 g.n1 g.n2 h.ne g.ne ((dotz h.kp g.kp X Y Z P Q S).2 q) w R
 · rw [show (X*P+Y*Q+Z*S == 0)=false from beq_eq_false_iff_ne.2 q]
   exact lLies_f _ _ _ _ _ _ h.n0 h.n1 h.n2 g.n0 g.n1 g.n2 h.ne g.ne (mt (dotz h.kp g.kp X Y Z P Q S).1 q) w R
theorem dvIntersect_d {k t:Rat} {X Y Z P Q S:Int} (h:DV k X Y Z) (g:DV t P Q S) (hc:Y*S - Z*Q=0∧Z*P - X*S=0∧X*Q - Y*P=0) (w:World) (R:EnvV w) :
   Calls Tryz.prog 22 #[.agg #[.string (ratB (k*(X:Rat))),.string (ratB (k*(Y:Rat))),.string (ratB (k*(Z:Rat)))],.agg #[.string (ratB (t*(P:Rat))),.string (ratB (t*(Q:Rat))),.string (ratB (t*(S:Rat)))]] w (Ret w (.tuple #[.agg #[.string ⟨#[]⟩,.string ⟨#[]⟩,.string ⟨#[]⟩],.int .i64 18])):=
 lIntersect_d _ _ _ _ _ _ h.n0 h.n1 h.n2 g.n0 g.n1 g.n2 h.ne g.ne ((crossz h.kp g.kp X Y Z P Q S).2 hc) w R
end Go.Proofs.YtpiiclmkbplkhaaGreatDoor.Kl
