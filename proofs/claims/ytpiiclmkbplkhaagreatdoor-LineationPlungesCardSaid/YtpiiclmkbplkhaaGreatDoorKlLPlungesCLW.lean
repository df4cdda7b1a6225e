import Derived.Test.YtpiiclmkbplkhaaGreatDoorKlLPlungesCLV
namespace Go.Proofs.YtpiiclmkbplkhaaGreatDoor.Kl
open Go Go.RowKit
set_option maxRecDepth 100000
set_option maxHeartbeats 8000000
theorem dvPlunge_v {k:Rat} {X Y Z:Int} (h:DV k X Y Z) (v:X=0∧Y=0) (w:World) (R:EnvV w) :
   Calls Tryz.prog 27 #[.agg #[.string (ratB (k*(X:Rat))),.string (ratB (k*(Y:Rat))),.string (ratB (k*(Z:Rat)))]] w (Ret w (.tuple #[.string ⟨#[]⟩,.bool true,.int .i64 0])):=
 lPlunge_t _ _ _ h.n0 h.n1 h.n2 h.ne ⟨(zk h.kp X).2 v.1,(zk h.kp Y).2 v.2⟩ w R
theorem dvPlunge {k:Rat} {X Y Z:Int} (h:DV k X Y Z) (v:¬ (X=0∧Y=0)) (w:World) (R:EnvV w) :
   Calls Tryz.prog 27 #[.agg #[.string (ratB (k*(X:Rat))),.string (ratB (k*(Y:Rat))),.string (ratB (k*(Z:Rat)))]] w (Ret w (.tuple #[.string (ratB (Rat.divInt (Z*Z) (X*X+Y*Y))),.bool false,.int .i64 0])):=by
 have c:=lPlunge_f _ _ _ h.n0 h.n1 h.n2 h.ne (h.ne2 v) w R
 rwa [plk k h.kp X Y Z v] at c
theorem dvCmpPlunge {k t:Rat} {X Y Z P Q S:Int} (h:DV k X Y Z) (g:DV t P Q S) (v:Int) (hv:v=(Z*Z*(P*P+Q*Q) - S*S*(X*X+Y*Y)).sign) (w:World) (R:EnvV w) :
   Calls Tryz.prog 18 #[.agg #[.string (ratB (k*(X:Rat))),.string (ratB (k*(Y:Rat))),.string (ratB (k*(Z:Rat)))],.agg #[.string (ratB (t*(P:Rat))),.string (ratB (t*(Q:Rat))),.string (ratB (t*(S:Rat)))]] w (Ret w (.tuple #[.int .i64 v,.int .i64 0])):=by
 have c:=lCmpPlunge _ _ _ _ _ _ h.n0 h.n1 h.n2 g.n0 g.n1 g.n2 h.ne g.ne w R
 rwa [cpk k t h.kp g.kp X Y Z P Q S,← hv] at c
end Go.Proofs.YtpiiclmkbplkhaaGreatDoor.Kl
