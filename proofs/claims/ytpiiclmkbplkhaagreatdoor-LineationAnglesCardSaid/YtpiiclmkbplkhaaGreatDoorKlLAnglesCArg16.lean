import Derived.Test.YtpiiclmkbplkhaaGreatDoorKlBEnv
import Derived.OpenShut
import Derived.Lib.SmallJoins
namespace Go.Proofs.YtpiiclmkbplkhaaGreatDoor
open Go.ChangeShapes Go.WideShapes Go.ChangeAt Go.RowKit
open Go.Lib
set_option maxRecDepth 100000
set_option maxHeartbeats 8000000
variable {H:Type} {enc:TypeId × Value→H}
theorem Kl.open_dir {W:World} {base:Nat} {v:Value} {d:DataW H} {p:List MemPlace} (hok:Value.okWide Tryz.prog W .any base 46 v)
   (h:DataW.Trod enc Tryz.prog W 0 (fun _=>true) true 46 v d p) :
   ∃ a0 b0 c0 d0:Int,v = .agg #[.int .i8 a0,.int .i8 b0,.int .i8 c0,.int .u8 d0]∧d = .agg [.lit (.int .i8 a0),.lit (.int .i8 b0),.lit (.int .i8 c0),.lit (.int .u8 d0)]∧p=[]∧(Lit.int .i8 a0).wf=true∧(Lit.int .i8 b0).wf=true∧(Lit.int .i8 c0).wf=true∧(Lit.int .u8 d0).wf=true:=by
 obtain ⟨v0,v1,v2,v3,y0,y1,y2,y3,n,rfl,rfl,rfl,h0,h1,h2,h3⟩:=Go.Joins.open_agg4 Tryz.underlying46 (by kernel_rfl) (by kernel_rfl) hok h
 obtain ⟨a0,e0,rfl,w0⟩:=DataW.trod_int Tryz.underlying44 h0
 obtain rfl:v0 = .int .i8 a0:=by simpa using e0
 obtain ⟨b0,e1,rfl,w1⟩:=DataW.trod_int Tryz.underlying44 h1
 obtain rfl:v1 = .int .i8 b0:=by simpa using e1
 obtain ⟨c0,e2,rfl,w2⟩:=DataW.trod_int Tryz.underlying44 h2
 obtain rfl:v2 = .int .i8 c0:=by simpa using e2
 obtain ⟨d0,e3,rfl,w3⟩:=DataW.trod_int Tryz.underlying5 h3
 obtain rfl:v3 = .int .u8 d0:=by simpa using e3
 exact ⟨a0,b0,c0,d0,rfl,rfl,rfl,w0,w1,w2,w3⟩
theorem Kl.shut_dir {W:World} {base:Nat} {spare:Nat→Bool} {held:Bool} {a0 b0 c0 d0:Int} (w:(Lit.int .i8 a0).wf=true∧(Lit.int .i8 b0).wf=true∧(Lit.int .i8 c0).wf=true∧(Lit.int .u8 d0).wf=true) :
   DataW.Trod enc Tryz.prog W base spare held 46 (.agg #[.int .i8 a0,.int .i8 b0,.int .i8 c0,.int .u8 d0]) (.agg [.lit (.int .i8 a0),.lit (.int .i8 b0),.lit (.int .i8 c0),.lit (.int .u8 d0)]) []:=by
 obtain ⟨w0,w1,w2,w3⟩:=w
 exact Go.Joins.shut_agg4 (y0:=(.lit (.int .i8 a0),[])) (y1:=(.lit (.int .i8 b0),[])) (y2:=(.lit (.int .i8 c0),[])) (y3:=(.lit (.int .u8 d0),[])) Tryz.underlying46 (by kernel_rfl) (by kernel_rfl) ⟨1,trod_int_mk 0 Tryz.underlying44 w0⟩ ⟨1,trod_int_mk 0 Tryz.underlying44 w1⟩ ⟨1,trod_int_mk 0 Tryz.underlying44 w2⟩ ⟨1,trod_int_mk 0 Tryz.underlying5 w3⟩
theorem Kl.t_dir {W:World} {base:Nat} {spare:Nat→Bool} {held:Bool} {fuel:Nat} {cs:List Value} {x:DataW H × List MemPlace}
   (h:DataW.trod enc Tryz.prog W base spare held fuel 46 cs=some x) :
   ∃ a0 b0 c0 d0:Int,cs=[.int .i8 a0,.int .i8 b0,.int .i8 c0,.int .u8 d0]∧x=(.agg [.lit (.int .i8 a0),.lit (.int .i8 b0),.lit (.int .i8 c0),.lit (.int .u8 d0)],[])∧(Lit.int .i8 a0).wf=true∧(Lit.int .i8 b0).wf=true∧(Lit.int .i8 c0).wf=true∧(Lit.int .u8 d0).wf=true:=by
 obtain ⟨y0,y1,y2,y3,n,hx,hl,g0,g1,g2,g3⟩:=Go.Joins.trod_struct4 Tryz.underlying46 h
 have hC : Tryz.prog.cellsOf 46=4:=by kernel_rfl
 have h8 : Tryz.prog.cellsOf 44=1:=by kernel_rfl
 have h9 : Tryz.prog.cellsOf 5=1:=by kernel_rfl
 rw [hC] at hl
 match cs,hl with
 | [c0,c1,c2,c3],_ =>
   obtain ⟨a0,e0,hy0,w0⟩:=DataW.trod_int Tryz.underlying44 g0
   obtain ⟨b0,e1,hy1,w1⟩:=DataW.trod_int Tryz.underlying44 g1
   obtain ⟨c0,e2,hy2,w2⟩:=DataW.trod_int Tryz.underlying44 g2
   obtain ⟨d0,e3,hy3,w3⟩:=DataW.trod_int Tryz.underlying5 g3
   subst hy0 hy1 hy2 hy3
   simp [h8,h9] at e0 e1 e2 e3
   subst e0 e1 e2 e3
   exact ⟨a0,b0,c0,d0,rfl,hx,w0,w1,w2,w3⟩
theorem Kl.m_dir {W:World} {base:Nat} {spare:Nat→Bool} {held:Bool} {a0 b0 c0 d0:Int} (w:(Lit.int .i8 a0).wf=true∧(Lit.int .i8 b0).wf=true∧(Lit.int .i8 c0).wf=true∧(Lit.int .u8 d0).wf=true) :
   DataW.trod enc Tryz.prog W base spare held 2 46 [.int .i8 a0,.int .i8 b0,.int .i8 c0,.int .u8 d0]=some (.agg [.lit (.int .i8 a0),.lit (.int .i8 b0),.lit (.int .i8 c0),.lit (.int .u8 d0)],[]):=by
 obtain ⟨w0,w1,w2,w3⟩:=w
 exact Go.Joins.trod_struct4_mk (n:=1) (y0:=(_,[])) (y1:=(_,[])) (y2:=(_,[])) (y3:=(_,[])) Tryz.underlying46 (by kernel_rfl) (trod_int_mk 0 Tryz.underlying44 w0) (trod_int_mk 0 Tryz.underlying44 w1) (trod_int_mk 0 Tryz.underlying44 w2) (trod_int_mk 0 Tryz.underlying5 w3)
theorem Kl.open_dirs {W:World} {base:Nat} {v:Value} {d:DataW H} {p:List MemPlace} (hok:Value.okWide Tryz.prog W .any base 56 v)
   (h:DataW.Trod enc Tryz.prog W 0 (fun _=>true) true 56 v d p) :
   ∃ a0 b0 c0 d0 a1 b1 c1 d1:Int,v = .agg #[.int .i8 a0,.int .i8 b0,.int .i8 c0,.int .u8 d0,.int .i8 a1,.int .i8 b1,.int .i8 c1,.int .u8 d1]∧d = .agg [.agg [.lit (.int .i8 a0),.lit (.int .i8 b0),.lit (.int .i8 c0),.lit (.int .u8 d0)],.agg [.lit (.int .i8 a1),.lit (.int .i8 b1),.lit (.int .i8 c1),.lit (.int .u8 d1)]]∧p=[]∧(Lit.int .i8 a0).wf=true∧(Lit.int .i8 b0).wf=true∧(Lit.int .i8 c0).wf=true∧(Lit.int .u8 d0).wf=true∧(Lit.int .i8 a1).wf=true∧(Lit.int .i8 b1).wf=true∧(Lit.int .i8 c1).wf=true∧(Lit.int .u8 d1).wf=true:=by
 have hu : Tryz.prog.underlying 56=some (.array 2 46):=Tryz.underlying56
 simp only [Value.okWide,hu] at hok
 obtain ⟨cs,rfl,hsz,_⟩:=hok
 have hC : Tryz.prog.cellsOf 56=8:=by kernel_rfl
 have hE : Tryz.prog.cellsOf 46=4:=by kernel_rfl
 rw [hC] at hsz
 obtain ⟨fuel,hf⟩:=h
 obtain ⟨xs,m,_,hx,_,hlen,hi⟩:=DataW.trod_array hu hf
 match xs,hlen with
 | [y0,y1],_ =>
   have hl:cs.toList.length=8:=by simpa using hsz
   match hcs:cs.toList,hl with
   | [u0,u1,u2,u3,u4,u5,u6,u7],_ =>
     have e0:=hi 0 (by decide)
     have e1:=hi 1 (by decide)
     rw [hE] at e0 e1
     simp [Value.cells,hcs] at e0 e1
     obtain ⟨a0,b0,c0,d0,f0,hy0,wa0,wa1,wa2,wa3⟩:=Kl.t_dir e0
     obtain ⟨a1,b1,c1,d1,f1,hy1,wb0,wb1,wb2,wb3⟩:=Kl.t_dir e1
     subst hy0 hy1
     simp at f0 f1 hx
     obtain ⟨rfl,rfl,rfl,rfl⟩:=f0
     obtain ⟨rfl,rfl,rfl,rfl⟩:=f1
     obtain rfl:cs=#[.int .i8 a0,.int .i8 b0,.int .i8 c0,.int .u8 d0,.int .i8 a1,.int .i8 b1,.int .i8 c1,.int .u8 d1]:=Array.toList_inj.1 hcs
     exact ⟨a0,b0,c0,d0,a1,b1,c1,d1,rfl,hx.1,hx.2,wa0,wa1,wa2,wa3,wb0,wb1,wb2,wb3⟩
theorem Kl.shut_dirs {W:World} {base:Nat} {spare:Nat→Bool} {held:Bool} {a0 b0 c0 d0 a1 b1 c1 d1:Int} (w:(Lit.int .i8 a0).wf=true∧(Lit.int .i8 b0).wf=true∧(Lit.int .i8 c0).wf=true∧(Lit.int .u8 d0).wf=true∧(Lit.int .i8 a1).wf=true∧(Lit.int .i8 b1).wf=true∧(Lit.int .i8 c1).wf=true∧(Lit.int .u8 d1).wf=true) :
   DataW.Trod enc Tryz.prog W base spare held 56 (.agg #[.int .i8 a0,.int .i8 b0,.int .i8 c0,.int .u8 d0,.int .i8 a1,.int .i8 b1,.int .i8 c1,.int .u8 d1]) (.agg [.agg [.lit (.int .i8 a0),.lit (.int .i8 b0),.lit (.int .i8 c0),.lit (.int .u8 d0)],.agg [.lit (.int .i8 a1),.lit (.int .i8 b1),.lit (.int .i8 c1),.lit (.int .u8 d1)]]) []:=by
 obtain ⟨wa0,wa1,wa2,wa3,wb0,wb1,wb2,wb3⟩:=w
 refine ⟨3,?_⟩
 have hu : Tryz.prog.underlying 56=some (.array 2 46):=Tryz.underlying56
 have hC : Tryz.prog.cellsOf 56=8:=by kernel_rfl
 have hE : Tryz.prog.cellsOf 46=4:=by kernel_rfl
 have t0:=Kl.m_dir (enc:=enc) (W:=W) (base:=base) (spare:=spare) (held:=held) ⟨wa0,wa1,wa2,wa3⟩
 have t1:=Kl.m_dir (enc:=enc) (W:=W) (base:=base) (spare:=spare) (held:=held) ⟨wb0,wb1,wb2,wb3⟩
 have r2:List.range 2=[0,1]:=rfl
 unfold DataW.trod
 rw [hu]
 simp [Value.cells,hC,hE,r2,t0,t1]
end Go.Proofs.YtpiiclmkbplkhaaGreatDoor
