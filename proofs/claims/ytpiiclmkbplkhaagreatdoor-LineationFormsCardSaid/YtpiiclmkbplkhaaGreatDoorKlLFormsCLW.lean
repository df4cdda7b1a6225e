import Derived.Test.YtpiiclmkbplkhaaGreatDoorKlLFormsCLV
namespace Go.Proofs.YtpiiclmkbplkhaaGreatDoor.Kl
open Go Go.RowKit
set_option maxRecDepth 100000
set_option maxHeartbeats 8000000
theorem dvSame_t {k t:Rat} {X Y Z P Q S:Int} (h:DV k X Y Z) (g:DV t P Q S) (hc:Y*S - Z*Q=0∧Z*P - X*S=0∧X*Q - Y*P=0) (w:World) (R:EnvV w) :
   Calls Tryz.prog 16 #[.agg #[.string (ratB (k*(X:Rat))),.string (ratB (k*(Y:Rat))),.string (ratB (k*(Z:Rat)))],.agg #[.string (ratB (t*(P:Rat))),.string (ratB (t*(Q:Rat))),.string (ratB (t*(S:Rat)))]] w (Ret w (.tuple #[.bool true,.int .i64 0])):=
 lSame_t _ _ _ _ _ _ h.n0 h.n1 h.n2 g.n0 g.n1 g.n2 h.ne g.ne ((crossz h.kp g.kp X Y Z P Q S).2 hc) w R
theorem dvSame_f {k t:Rat} {X Y Z P Q S:Int} (h:DV k X Y Z) (g:DV t P Q S) (hc:¬ (Y*S - Z*Q=0∧Z*P - X*S=0∧X*Q - Y*P=0)) (w:World) (R:EnvV w) :
   Calls Tryz.prog 16 #[.agg #[.string (ratB (k*(X:Rat))),.string (ratB (k*(Y:Rat))),.string (ratB (k*(Z:Rat)))],.agg #[.string (ratB (t*(P:Rat))),.string (ratB (t*(Q:Rat))),.string (ratB (t*(S:Rat)))]] w (Ret w (.tuple #[.bool false,.int .i64 0])):=
 lSame_f _ _ _ _ _ _ h.n0 h.n1 h.n2 g.n0 g.n1 g.n2 h.ne g.ne (mt (crossz h.kp g.kp X Y Z P Q S).1 hc) w R
end Go.Proofs.YtpiiclmkbplkhaaGreatDoor.Kl
