import Derived.Deep.Strs
import Derived.Test.YtejfiegmdllfbaaGreatDoorKlAFallsArg5
namespace Go.Proofs.YtejfiegmdllfbaaGreatDoor
open Go.ChangeShapes Go.WideShapes Go.ChangeAt Go.RowKit
open Go.Lib
set_option maxRecDepth 100000
set_option maxHeartbeats 8000000
variable {H:Type} {enc:TypeId × Value→H}
theorem Kl.m_str {W:World} {base:Nat} {spare:Nat→Bool} {held:Bool} {s:ByteArray} (w:s.size≤maxLen) :
   DataW.trod enc Tryz.prog W base spare held 1 22 [.string s]=some (.lit (.string s.data.toList),[]):=by
 simp [DataW.trod,show Tryz.prog.underlying 22=some .string from Tryz.underlying22,w]
theorem Kl.m_str2 {W:World} {base:Nat} {spare:Nat→Bool} {held:Bool} {s:ByteArray} (w:s.size≤maxLen) :
   DataW.trod enc Tryz.prog W base spare held 2 22 [.string s]=some (.lit (.string s.data.toList),[]):=by
 simp [DataW.trod,show Tryz.prog.underlying 22=some .string from Tryz.underlying22,w]
theorem Kl.t_fall {W:World} {base:Nat} {spare:Nat→Bool} {held:Bool} {fuel:Nat} {cs:List Value} {x:DataW H × List MemPlace}
   (h:DataW.trod enc Tryz.prog W base spare held fuel 60 cs=some x) :
   ∃ s0 s1 s2:ByteArray,cs=[.string s0,.string s1,.string s2]∧x=(.agg [.agg [.lit (.string s0.data.toList),.lit (.string s1.data.toList)],.lit (.string s2.data.toList)],[])∧s0.size≤maxLen∧s1.size≤maxLen∧s2.size≤maxLen:=by
 obtain ⟨y0,y1,n,hx,hl,e0,e1⟩:=trod_struct2 Tryz.underlying60 h
 have hC : Tryz.prog.cellsOf 60=3:=by kernel_rfl
 have hE : Tryz.prog.cellsOf 34=2:=by kernel_rfl
 have hR : Tryz.prog.cellsOf 22=1:=by kernel_rfl
 rw [hC] at hl
 match cs,hl with
 | [c0,c1,c2],_ =>
   obtain ⟨z0,z1,m,hz,_,g0,g1⟩:=trod_struct2 Tryz.underlying34 e0
   obtain ⟨s0,b0,rfl,w0⟩:=DataW.trod_string Tryz.underlying22 g0
   obtain ⟨s1,b1,rfl,w1⟩:=DataW.trod_string Tryz.underlying22 g1
   obtain ⟨s2,b2,rfl,w2⟩:=DataW.trod_string Tryz.underlying22 e1
   subst hz
   simp [hE,hR] at b0 b1 b2
   subst b0 b1 b2
   exact ⟨s0,s1,s2,rfl,by simpa using hx,w0,w1,w2⟩
theorem Kl.m_fall {W:World} {base:Nat} {spare:Nat→Bool} {held:Bool} {s0 s1 s2:ByteArray} (w:s0.size≤maxLen∧s1.size≤maxLen∧s2.size≤maxLen) :
   DataW.trod enc Tryz.prog W base spare held 3 60 [.string s0,.string s1,.string s2]=some (.agg [.agg [.lit (.string s0.data.toList),.lit (.string s1.data.toList)],.lit (.string s2.data.toList)],[]):=by
 obtain ⟨w0,w1,w2⟩:=w
 exact trod_struct2_mk (n:=2) (y0:=(.agg [.lit (.string s0.data.toList),.lit (.string s1.data.toList)],[])) (y1:=(_,[])) Tryz.underlying60 (by kernel_rfl)
   (trod_struct2_mk (n:=1) (y0:=(_,[])) (y1:=(_,[])) Tryz.underlying34 (by kernel_rfl) (Kl.m_str w0) (Kl.m_str w1)) (Kl.m_str2 w2)
theorem Kl.open_fall {W:World} {base:Nat} {v:Value} {d:DataW H} {p:List MemPlace} (hok:Value.okWide Tryz.prog W .any base 60 v)
   (h:DataW.Trod enc Tryz.prog W 0 (fun _=>true) true 60 v d p) :
   ∃ s0 s1 s2:ByteArray,v = .agg #[.string s0,.string s1,.string s2]∧d = .agg [.agg [.lit (.string s0.data.toList),.lit (.string s1.data.toList)],.lit (.string s2.data.toList)]∧p=[]∧s0.size≤maxLen∧s1.size≤maxLen∧s2.size≤maxLen:=by
 have hu:=Tryz.underlying60
 simp only [Value.okWide,hu] at hok
 obtain ⟨cs,rfl,hsz,_⟩:=hok
 obtain ⟨fuel,hf⟩:=h
 have hf2:DataW.trod enc Tryz.prog W 0 (fun _=>true) true fuel 60 cs.toList=some (d,p):=hf
 obtain ⟨s0,s1,s2,hc,hx,hw⟩:=Kl.t_fall hf2
 simp only [Prod.mk.injEq] at hx
 obtain rfl:cs=#[.string s0,.string s1,.string s2]:=Array.toList_inj.1 hc
 exact ⟨s0,s1,s2,rfl,hx.1,hx.2,hw⟩
theorem Kl.shut_fall {W:World} {base:Nat} {spare:Nat→Bool} {held:Bool} {s0 s1 s2:ByteArray} (w:s0.size≤maxLen∧s1.size≤maxLen∧s2.size≤maxLen) :
   DataW.Trod enc Tryz.prog W base spare held 60 (.agg #[.string s0,.string s1,.string s2]) (.agg [.agg [.lit (.string s0.data.toList),.lit (.string s1.data.toList)],.lit (.string s2.data.toList)]) []:=⟨3,Kl.m_fall w⟩
end Go.Proofs.YtejfiegmdllfbaaGreatDoor
