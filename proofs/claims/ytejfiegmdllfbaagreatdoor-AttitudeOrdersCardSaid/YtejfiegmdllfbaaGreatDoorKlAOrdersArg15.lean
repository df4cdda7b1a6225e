import Derived.Deep.Strs
import Derived.Test.YtejfiegmdllfbaaGreatDoorKlBEnv
import Derived.OpenShut
import Derived.Lib.SmallJoins
namespace Go.Proofs.YtejfiegmdllfbaaGreatDoor
open Go.ChangeShapes Go.WideShapes Go.ChangeAt Go.RowKit
open Go.Lib
set_option maxRecDepth 100000
set_option maxHeartbeats 8000000
variable {H:Type} {enc:TypeId × Value→H}
theorem Kl.open_comp {W:World} {base:Nat} {v:Value} {d:DataW H} {p:List MemPlace} (hok:Value.okWide Tryz.prog W .any base 40 v)
   (h:DataW.Trod enc Tryz.prog W 0 (fun _=>true) true 40 v d p) :
   ∃ (k:Int) (s0:ByteArray),v = .agg #[.int .i64 k,.string s0]∧d = .agg [.lit (.int .i64 k),.lit (.string s0.data.toList)]∧p=[]∧(Lit.int .i64 k).wf=true∧s0.size≤maxLen:=by
 obtain ⟨v0,v1,y0,y1,n,rfl,rfl,rfl,h0,h1⟩:=Go.Joins.open_agg2 Tryz.underlying40 (by kernel_rfl) (by kernel_rfl) hok h
 obtain ⟨k,c0,rfl,w0⟩:=DataW.trod_int Tryz.underlying3 h0
 obtain rfl:v0 = .int .i64 k:=by simpa using c0
 obtain ⟨s0,c1,rfl,w1⟩:=DataW.trod_string Tryz.underlying22 h1
 obtain rfl:v1 = .string s0:=by simpa using c1
 exact ⟨k,s0,rfl,rfl,rfl,w0,w1⟩
theorem Kl.shut_comp {W:World} {base:Nat} {spare:Nat→Bool} {held:Bool} {k:Int} {s0:ByteArray} (w:(Lit.int .i64 k).wf=true∧s0.size≤maxLen) :
   DataW.Trod enc Tryz.prog W base spare held 40 (.agg #[.int .i64 k,.string s0]) (.agg [.lit (.int .i64 k),.lit (.string s0.data.toList)]) []:=by
 obtain ⟨w0,w1⟩:=w
 exact Go.Joins.shut_agg2 (y0:=(.lit (.int .i64 k),[])) (y1:=(.lit (.string s0.data.toList),[])) Tryz.underlying40 (by kernel_rfl) (by kernel_rfl) ⟨1,trod_int_mk 0 Tryz.underlying3 w0⟩ ⟨1,by simp [DataW.trod,show Tryz.prog.underlying 22=some .string from Tryz.underlying22,w1]⟩
end Go.Proofs.YtejfiegmdllfbaaGreatDoor
