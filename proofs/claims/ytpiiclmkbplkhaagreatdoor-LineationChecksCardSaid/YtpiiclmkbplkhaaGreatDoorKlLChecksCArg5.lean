import Derived.OpenShut
import Derived.Lib.SmallJoins
import Derived.Test.YtpiiclmkbplkhaaGreatDoorKlBEnv
namespace Go.Proofs.YtpiiclmkbplkhaaGreatDoor
open Go.ChangeShapes Go.WideShapes Go.ChangeAt Go.RowKit
open Go.Lib
set_option maxRecDepth 100000
set_option maxHeartbeats 8000000
variable {H:Type} {enc:TypeId × Value→H}
theorem Kl.open_vec {W:World} {base:Nat} {v:Value} {d:DataW H} {p:List MemPlace} (hok:Value.okWide Tryz.prog W .any base 24 v)
   (h:DataW.Trod enc Tryz.prog W 0 (fun _=>true) true 24 v d p) :
   ∃ s0 s1 s2:ByteArray,v = .agg #[.string s0,.string s1,.string s2]∧d = .agg [.lit (.string s0.data.toList),.lit (.string s1.data.toList),.lit (.string s2.data.toList)]∧p=[]∧s0.size≤maxLen∧s1.size≤maxLen∧s2.size≤maxLen:=by
 obtain ⟨v0,v1,v2,y0,y1,y2,n,rfl,rfl,rfl,h0,h1,h2⟩:=Go.Joins.open_agg3 Tryz.underlying24 (by kernel_rfl) (by kernel_rfl) hok h
 obtain ⟨s0,c0,rfl,w0⟩:=DataW.trod_string Tryz.underlying22 h0
 obtain rfl:v0 = .string s0:=by simpa using c0
 obtain ⟨s1,c1,rfl,w1⟩:=DataW.trod_string Tryz.underlying22 h1
 obtain rfl:v1 = .string s1:=by simpa using c1
 obtain ⟨s2,c2,rfl,w2⟩:=DataW.trod_string Tryz.underlying22 h2
 obtain rfl:v2 = .string s2:=by simpa using c2
 exact ⟨s0,s1,s2,rfl,rfl,rfl,w0,w1,w2⟩
theorem Kl.shut_vec {W:World} {base:Nat} {spare:Nat→Bool} {held:Bool} {s0 s1 s2:ByteArray} (w:s0.size≤maxLen∧s1.size≤maxLen∧s2.size≤maxLen) :
   DataW.Trod enc Tryz.prog W base spare held 24 (.agg #[.string s0,.string s1,.string s2]) (.agg [.lit (.string s0.data.toList),.lit (.string s1.data.toList),.lit (.string s2.data.toList)]) []:=by
 obtain ⟨w0,w1,w2⟩:=w
 exact Go.Joins.shut_agg3 (y0:=(.lit (.string s0.data.toList),[])) (y1:=(.lit (.string s1.data.toList),[])) (y2:=(.lit (.string s2.data.toList),[])) Tryz.underlying24 (by kernel_rfl) (by kernel_rfl) ⟨1,by simp [DataW.trod,show Tryz.prog.underlying 22=some .string from Tryz.underlying22,w0]⟩ ⟨1,by simp [DataW.trod,show Tryz.prog.underlying 22=some .string from Tryz.underlying22,w1]⟩ ⟨1,by simp [DataW.trod,show Tryz.prog.underlying 22=some .string from Tryz.underlying22,w2]⟩
end Go.Proofs.YtpiiclmkbplkhaaGreatDoor
