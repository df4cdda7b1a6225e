import Derived.Test.YtpiiclmkbplkhaaGreatDoorKlBEnv
import Derived.OpenShut
import Derived.Lib.SmallJoins
namespace Go.Proofs.YtpiiclmkbplkhaaGreatDoor
open Go.ChangeShapes Go.WideShapes Go.ChangeAt Go.RowKit
open Go.Lib
set_option maxRecDepth 100000
set_option maxHeartbeats 8000000
variable {H:Type} {enc:TypeId × Value→H}
theorem Kl.open_dir {W:World} {base:Nat} {v:Value} {d:DataW H} {p:List MemPlace} (hok:Value.okWide Tryz.prog W .any base 46 v)
   (h:DataW.Trod enc Tryz.prog W 0 (fun _=>true) true 46 v d p) :
   ∃ a0 b0 c0 d0:Int,v = .agg #[.int .i8 a0,.int .i8 b0,.int .i8 c0,.int .u8 d0]∧d = .agg [.lit (.int .i8 a0),.lit (.int .i8 b0),.lit (.int .i8 c0),.lit (.int .u8 d0)]∧p=[]∧(Lit.int .i8 a0).wf=true∧(Lit.int .i8 b0).wf=true∧(Lit.int .i8 c0).wf=true∧(Lit.int .u8 d0).wf=true:=by
 obtain ⟨v0,v1,v2,v3,y0,y1,y2,y3,n,rfl,rfl,rfl,h0,h1,h2,h3⟩:=Go.Joins.open_agg4 Tryz.underlying46 (by kernel_rfl) (by kernel_rfl) hok h
 obtain ⟨a0,e0,rfl,w0⟩:=DataW.trod_int Tryz.underlying44 h0
 obtain rfl:v0 = .int .i8 a0:=by simpa using e0
 obtain ⟨b0,e1,rfl,w1⟩:=DataW.trod_int Tryz.underlying44 h1
 obtain rfl:v1 = .int .i8 b0:=by simpa using e1
 obtain ⟨c0,e2,rfl,w2⟩:=DataW.trod_int Tryz.underlying44 h2
 obtain rfl:v2 = .int .i8 c0:=by simpa using e2
 obtain ⟨d0,e3,rfl,w3⟩:=DataW.trod_int Tryz.underlying5 h3
 obtain rfl:v3 = .int .u8 d0:=by simpa using e3
 exact ⟨a0,b0,c0,d0,rfl,rfl,rfl,w0,w1,w2,w3⟩
theorem Kl.shut_dir {W:World} {base:Nat} {spare:Nat→Bool} {held:Bool} {a0 b0 c0 d0:Int} (w:(Lit.int .i8 a0).wf=true∧(Lit.int .i8 b0).wf=true∧(Lit.int .i8 c0).wf=true∧(Lit.int .u8 d0).wf=true) :
   DataW.Trod enc Tryz.prog W base spare held 46 (.agg #[.int .i8 a0,.int .i8 b0,.int .i8 c0,.int .u8 d0]) (.agg [.lit (.int .i8 a0),.lit (.int .i8 b0),.lit (.int .i8 c0),.lit (.int .u8 d0)]) []:=by
 obtain ⟨w0,w1,w2,w3⟩:=w
 exact Go.Joins.shut_agg4 (y0:=(.lit (.int .i8 a0),[])) (y1:=(.lit (.int .i8 b0),[])) (y2:=(.lit (.int .i8 c0),[])) (y3:=(.lit (.int .u8 d0),[])) Tryz.underlying46 (by kernel_rfl) (by kernel_rfl) ⟨1,trod_int_mk 0 Tryz.underlying44 w0⟩ ⟨1,trod_int_mk 0 Tryz.underlying44 w1⟩ ⟨1,trod_int_mk 0 Tryz.underlying44 w2⟩ ⟨1,trod_int_mk 0 Tryz.underlying5 w3⟩
end Go.Proofs.YtpiiclmkbplkhaaGreatDoor
