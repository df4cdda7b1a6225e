import Derived.Test.YtpiiclmkbplkhaaGreatDoorKlLFormsCLW
import Derived.Test.YtpiiclmkbplkhaaGreatDoorKlLFormsCLawLForms
namespace Go.Proofs.YtpiiclmkbplkhaaGreatDoor.Kl
open Go Go.RowKit
set_option maxRecDepth 100000
set_option maxHeartbeats 8000000
theorem eq_i3f {a b c x y z:Int} (h:¬ (a=x∧b=y∧c=z)) (w:World):(Op.equalIn 10000 48 (.agg #[.int .i64 a,.int .i64 b,.int .i64 c]) (.agg #[.int .i64 x,.int .i64 y,.int .i64 z])).run Tryz.prog w = .ok false w:=by
 rw [eq_i3,show (a == x && (b == y && c == z))=false from Bool.eq_false_iff.2 (fun k=>h (by simpa using k))]
theorem lawForms (i0 i1 i2 d j0 j1 j2 e:Int) (bi0 : -128≤i0∧i0≤127) (bi1 : -128≤i1∧i1≤127) (bi2 : -128≤i2∧i2≤127) (bi3:0≤d∧d≤255) (bj0 : -128≤j0∧j0≤127) (bj1 : -128≤j1∧j1≤127) (bj2 : -128≤j2∧j2≤127) (bj3:0≤e∧e≤255) (w:World) (R:EnvV w) :
   Calls Tryz.prog 4 #[.agg #[.int .i8 i0,.int .i8 i1,.int .i8 i2,.int .u8 d],.agg #[.int .i8 j0,.int .i8 j1,.int .i8 j2,.int .u8 e]] w fun e_ w' => e_ = .returned (.bool true)∧Below w.heap.size w w':=by
 obtain ⟨X0,X1,X2,kX,bX,pX,rX,ca,ma⟩:=descr i0 i1 i2 d bi0 bi1 bi2 bi3
 obtain ⟨Y0,Y1,Y2,kY,bY,pY,rY,cb,mb⟩:=descr j0 j1 j2 e bj0 bj1 bj2 bj3
 by_cases zX:X0=0∧X1=0∧X2=0
 · exact lforms_za i0 i1 i2 j0 j1 j2 _ _ _ d e (fun w R=>known16_any w R) ca (fun w _=>lzero_t zX w) w R
 by_cases zY:Y0=0∧Y1=0∧Y2=0
 · exact lforms_zb i0 i1 i2 j0 j1 j2 _ _ _ _ _ _ d e (fun w R=>known16_any w R) ca (fun w _=>lzero_f zX w) cb (fun w _=>lzero_t zY w) w R
 have h:=DV_of bX pX rX zX
 have g:=DV_of bY pY rY zY
 have same:=same_ints X0 X1 X2 Y0 Y1 Y2 h.nz g.nz
 by_cases hc:X1*Y2 - X2*Y1=0∧X2*Y0 - X0*Y2=0∧X0*Y1 - X1*Y0=0
 · obtain ⟨e0,e1,e2⟩:=same.1 hc
   exact lforms_t i0 i1 i2 j0 j1 j2 _ _ _ _ _ _ _ _ _ d e _ _ _ _ _ _ _ _ _ (fun w R=>known16_any w R) ca (fun w _=>lzero_f zX w) cb (fun w _=>lzero_f zY w) ma mb (fun w R=>dvOf h w R) (fun w R=>dvSame_t h g hc w R) (fun w _=>ldown_any _ _ _ h.b0 h.b1 h.b2 h.nz w) (fun w _=>by have c:=ldown_any Y0 Y1 Y2 g.b0 g.b1 g.b2 g.nz w;rw [← e0,← e1,← e2] at c;exact c) (fun w R=>lof_any _ _ _ (Nat.le_trans (dn_bound _ _ _ h.b0) (by decide)) (Nat.le_trans (dn_bound _ _ _ h.b1) (by decide)) (Nat.le_trans (dn_bound _ _ _ h.b2) (by decide)) w R) (fun w=>(eq_i3 _ _ _ _ _ _ w).trans (by rw [beq_self_eq_true,beq_self_eq_true,beq_self_eq_true];rfl)) w R
 · exact lforms_f i0 i1 i2 j0 j1 j2 _ _ _ _ _ _ _ _ _ _ _ _ d e _ _ _ _ _ _ _ _ _ (fun w R=>known16_any w R) ca (fun w _=>lzero_f zX w) cb (fun w _=>lzero_f zY w) ma mb (fun w R=>dvOf h w R) (fun w R=>dvSame_f h g hc w R) (fun w _=>ldown_any _ _ _ h.b0 h.b1 h.b2 h.nz w) (fun w _=>ldown_any _ _ _ g.b0 g.b1 g.b2 g.nz w) (fun w R=>lof_any _ _ _ (Nat.le_trans (dn_bound _ _ _ h.b0) (by decide)) (Nat.le_trans (dn_bound _ _ _ h.b1) (by decide)) (Nat.le_trans (dn_bound _ _ _ h.b2) (by decide)) w R) (fun w=>eq_i3f (fun k=>hc (same.2 k)) w) w R
end Go.Proofs.YtpiiclmkbplkhaaGreatDoor.Kl
