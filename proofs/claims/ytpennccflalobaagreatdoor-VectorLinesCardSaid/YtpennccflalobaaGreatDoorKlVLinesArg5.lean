import Derived.OpenShut
import Derived.Lib.SmallJoins
import Derived.Test.YtpennccflalobaaGreatDoorKlBEnv
namespace Go.Proofs.YtpennccflalobaaGreatDoor
open Go.ChangeShapes Go.WideShapes Go.ChangeAt Go.RowKit
open Go.Lib
set_option maxRecDepth 100000
set_option maxHeartbeats 8000000
variable {H:Type} {enc:TypeId × Value→H}
theorem Kl.t_small {W:World} {base:Nat} {spare:Nat→Bool} {held:Bool} {fuel:Nat} {cs:List Value} {x:DataW H × List MemPlace}
   (h:DataW.trod enc Tryz.prog W base spare held fuel 50 cs=some x) :
   ∃ a0 b0:Int,cs=[.int .i16 a0,.int .u8 b0]∧x=(.agg [.lit (.int .i16 a0),.lit (.int .u8 b0)],[])∧(Lit.int .i16 a0).wf=true∧(Lit.int .u8 b0).wf=true:=by
 obtain ⟨y0,y1,n,hx,hl,e0,e1⟩:=trod_struct2 Tryz.underlying50 h
 have hC : Tryz.prog.cellsOf 50=2:=by kernel_rfl
 have h16 : Tryz.prog.cellsOf 48=1:=by kernel_rfl
 have h8 : Tryz.prog.cellsOf 5=1:=by kernel_rfl
 rw [hC] at hl
 match cs,hl with
 | [c0,c1],_ =>
   obtain ⟨a,ea,hy0,wa⟩:=DataW.trod_int Tryz.underlying48 e0
   obtain ⟨b,eb,hy1,wb⟩:=DataW.trod_int Tryz.underlying5 e1
   subst hy0 hy1
   simp [h16,h8] at ea eb
   subst ea eb
   exact ⟨a,b,rfl,hx,wa,wb⟩
theorem Kl.m_small {W:World} {base:Nat} {spare:Nat→Bool} {held:Bool} {a b:Int} (ha:(Lit.int .i16 a).wf=true) (hb:(Lit.int .u8 b).wf=true) :
   DataW.trod enc Tryz.prog W base spare held 2 50 [.int .i16 a,.int .u8 b]=some (.agg [.lit (.int .i16 a),.lit (.int .u8 b)],[]):=
 trod_struct2_mk (n:=1) (y0:=(_,[])) (y1:=(_,[])) Tryz.underlying50 (by kernel_rfl) (trod_int_mk 0 Tryz.underlying48 ha) (trod_int_mk 0 Tryz.underlying5 hb)
theorem Kl.t_place {W:World} {base:Nat} {spare:Nat→Bool} {held:Bool} {fuel:Nat} {cs:List Value} {x:DataW H × List MemPlace}
   (h:DataW.trod enc Tryz.prog W base spare held fuel 52 cs=some x) (hlc:cs.length=6) :
   ∃ a0 b0 a1 b1 a2 b2:Int,cs=[.int .i16 a0,.int .u8 b0,.int .i16 a1,.int .u8 b1,.int .i16 a2,.int .u8 b2]∧x=(.agg [.agg [.lit (.int .i16 a0),.lit (.int .u8 b0)],.agg [.lit (.int .i16 a1),.lit (.int .u8 b1)],.agg [.lit (.int .i16 a2),.lit (.int .u8 b2)]],[])∧(Lit.int .i16 a0).wf=true∧(Lit.int .u8 b0).wf=true∧(Lit.int .i16 a1).wf=true∧(Lit.int .u8 b1).wf=true∧(Lit.int .i16 a2).wf=true∧(Lit.int .u8 b2).wf=true:=by
 have hu : Tryz.prog.underlying 52=some (.array 3 50):=Tryz.underlying52
 have hE : Tryz.prog.cellsOf 50=2:=by kernel_rfl
 obtain ⟨xs,m,_,hx,_,hlen,hi⟩:=DataW.trod_array hu h
 match xs,hlen with
 | [y0,y1,y2],_ =>
   match cs,hlc with
   | [c0,c1,c2,c3,c4,c5],_ =>
     have e0:=hi 0 (by decide)
     have e1:=hi 1 (by decide)
     have e2:=hi 2 (by decide)
     rw [hE] at e0 e1 e2
     simp at e0 e1 e2
     obtain ⟨a0,b0,f0,hy0,wa0,wb0⟩:=Kl.t_small e0
     obtain ⟨a1,b1,f1,hy1,wa1,wb1⟩:=Kl.t_small e1
     obtain ⟨a2,b2,f2,hy2,wa2,wb2⟩:=Kl.t_small e2
     subst hy0 hy1 hy2
     simp at f0 f1 f2 hx
     obtain ⟨rfl,rfl⟩:=f0
     obtain ⟨rfl,rfl⟩:=f1
     obtain ⟨rfl,rfl⟩:=f2
     exact ⟨a0,b0,a1,b1,a2,b2,rfl,hx,wa0,wb0,wa1,wb1,wa2,wb2⟩
theorem Kl.m_place {W:World} {base:Nat} {spare:Nat→Bool} {held:Bool} {a0 b0 a1 b1 a2 b2:Int} (wa0:(Lit.int .i16 a0).wf=true) (wb0:(Lit.int .u8 b0).wf=true) (wa1:(Lit.int .i16 a1).wf=true) (wb1:(Lit.int .u8 b1).wf=true) (wa2:(Lit.int .i16 a2).wf=true) (wb2:(Lit.int .u8 b2).wf=true) :
   DataW.trod enc Tryz.prog W base spare held 3 52 [.int .i16 a0,.int .u8 b0,.int .i16 a1,.int .u8 b1,.int .i16 a2,.int .u8 b2]=some (.agg [.agg [.lit (.int .i16 a0),.lit (.int .u8 b0)],.agg [.lit (.int .i16 a1),.lit (.int .u8 b1)],.agg [.lit (.int .i16 a2),.lit (.int .u8 b2)]],[]):=by
 have hu : Tryz.prog.underlying 52=some (.array 3 50):=Tryz.underlying52
 have hC : Tryz.prog.cellsOf 52=6:=by kernel_rfl
 have hE : Tryz.prog.cellsOf 50=2:=by kernel_rfl
 have t0:=Kl.m_small (enc:=enc) (W:=W) (base:=base) (spare:=spare) (held:=held) wa0 wb0
 have t1:=Kl.m_small (enc:=enc) (W:=W) (base:=base) (spare:=spare) (held:=held) wa1 wb1
 have t2:=Kl.m_small (enc:=enc) (W:=W) (base:=base) (spare:=spare) (held:=held) wa2 wb2
 have r3:List.range 3=[0,1,2]:=rfl
 unfold DataW.trod
 rw [hu]
 simp [hC,hE,r3,t0,t1,t2]
theorem Kl.t_pair {W:World} {base:Nat} {spare:Nat→Bool} {held:Bool} {fuel:Nat} {cs:List Value} {x:DataW H × List MemPlace}
   (h:DataW.trod enc Tryz.prog W base spare held fuel 54 cs=some x) :
   ∃ a0 b0 a1 b1 a2 b2 a3 b3 a4 b4 a5 b5:Int,cs=[.int .i16 a0,.int .u8 b0,.int .i16 a1,.int .u8 b1,.int .i16 a2,.int .u8 b2,.int .i16 a3,.int .u8 b3,.int .i16 a4,.int .u8 b4,.int .i16 a5,.int .u8 b5]∧x=(.agg [.agg [.agg [.lit (.int .i16 a0),.lit (.int .u8 b0)],.agg [.lit (.int .i16 a1),.lit (.int .u8 b1)],.agg [.lit (.int .i16 a2),.lit (.int .u8 b2)]],.agg [.agg [.lit (.int .i16 a3),.lit (.int .u8 b3)],.agg [.lit (.int .i16 a4),.lit (.int .u8 b4)],.agg [.lit (.int .i16 a5),.lit (.int .u8 b5)]]],[])∧(Lit.int .i16 a0).wf=true∧(Lit.int .u8 b0).wf=true∧(Lit.int .i16 a1).wf=true∧(Lit.int .u8 b1).wf=true∧(Lit.int .i16 a2).wf=true∧(Lit.int .u8 b2).wf=true∧(Lit.int .i16 a3).wf=true∧(Lit.int .u8 b3).wf=true∧(Lit.int .i16 a4).wf=true∧(Lit.int .u8 b4).wf=true∧(Lit.int .i16 a5).wf=true∧(Lit.int .u8 b5).wf=true:=by
 obtain ⟨y0,y1,n,hx,hl,e0,e1⟩:=trod_struct2 Tryz.underlying54 h
 have hC : Tryz.prog.cellsOf 54=12:=by kernel_rfl
 have hE : Tryz.prog.cellsOf 52=6:=by kernel_rfl
 rw [hC] at hl
 match cs,hl with
 | [c0,c1,c2,c3,c4,c5,c6,c7,c8,c9,c10,c11],_ =>
   obtain ⟨a0,b0,a1,b1,a2,b2,f0,hy0,w0⟩:=Kl.t_place e0 (by simp [hE])
   obtain ⟨a3,b3,a4,b4,a5,b5,f1,hy1,w1⟩:=Kl.t_place e1 (by simp [hE])
   subst hy0 hy1
   simp [hE] at f0 f1
   obtain ⟨rfl,rfl,rfl,rfl,rfl,rfl⟩:=f0
   obtain ⟨rfl,rfl,rfl,rfl,rfl,rfl⟩:=f1
   exact ⟨a0,b0,a1,b1,a2,b2,a3,b3,a4,b4,a5,b5,rfl,hx,w0.1,w0.2.1,w0.2.2.1,w0.2.2.2.1,w0.2.2.2.2.1,w0.2.2.2.2.2,w1⟩
theorem Kl.m_pair {W:World} {base:Nat} {spare:Nat→Bool} {held:Bool} {a0 b0 a1 b1 a2 b2 a3 b3 a4 b4 a5 b5:Int} (wa0:(Lit.int .i16 a0).wf=true) (wb0:(Lit.int .u8 b0).wf=true) (wa1:(Lit.int .i16 a1).wf=true) (wb1:(Lit.int .u8 b1).wf=true) (wa2:(Lit.int .i16 a2).wf=true) (wb2:(Lit.int .u8 b2).wf=true) (wa3:(Lit.int .i16 a3).wf=true) (wb3:(Lit.int .u8 b3).wf=true) (wa4:(Lit.int .i16 a4).wf=true) (wb4:(Lit.int .u8 b4).wf=true) (wa5:(Lit.int .i16 a5).wf=true) (wb5:(Lit.int .u8 b5).wf=true) :
   DataW.trod enc Tryz.prog W base spare held 4 54 [.int .i16 a0,.int .u8 b0,.int .i16 a1,.int .u8 b1,.int .i16 a2,.int .u8 b2,.int .i16 a3,.int .u8 b3,.int .i16 a4,.int .u8 b4,.int .i16 a5,.int .u8 b5]=some (.agg [.agg [.agg [.lit (.int .i16 a0),.lit (.int .u8 b0)],.agg [.lit (.int .i16 a1),.lit (.int .u8 b1)],.agg [.lit (.int .i16 a2),.lit (.int .u8 b2)]],.agg [.agg [.lit (.int .i16 a3),.lit (.int .u8 b3)],.agg [.lit (.int .i16 a4),.lit (.int .u8 b4)],.agg [.lit (.int .i16 a5),.lit (.int .u8 b5)]]],[]):=
 trod_struct2_mk (n:=3) (y0:=(_,[])) (y1:=(_,[])) Tryz.underlying54 (by kernel_rfl) (Kl.m_place wa0 wb0 wa1 wb1 wa2 wb2) (Kl.m_place wa3 wb3 wa4 wb4 wa5 wb5)
theorem Kl.open_pair {W:World} {base:Nat} {v:Value} {d:DataW H} {p:List MemPlace} (hok:Value.okWide Tryz.prog W .any base 54 v)
   (h:DataW.Trod enc Tryz.prog W 0 (fun _=>true) true 54 v d p) :
   ∃ a0 b0 a1 b1 a2 b2 a3 b3 a4 b4 a5 b5:Int,v = .agg #[.int .i16 a0,.int .u8 b0,.int .i16 a1,.int .u8 b1,.int .i16 a2,.int .u8 b2,.int .i16 a3,.int .u8 b3,.int .i16 a4,.int .u8 b4,.int .i16 a5,.int .u8 b5]∧d = .agg [.agg [.agg [.lit (.int .i16 a0),.lit (.int .u8 b0)],.agg [.lit (.int .i16 a1),.lit (.int .u8 b1)],.agg [.lit (.int .i16 a2),.lit (.int .u8 b2)]],.agg [.agg [.lit (.int .i16 a3),.lit (.int .u8 b3)],.agg [.lit (.int .i16 a4),.lit (.int .u8 b4)],.agg [.lit (.int .i16 a5),.lit (.int .u8 b5)]]]∧p=[]∧(Lit.int .i16 a0).wf=true∧(Lit.int .u8 b0).wf=true∧(Lit.int .i16 a1).wf=true∧(Lit.int .u8 b1).wf=true∧(Lit.int .i16 a2).wf=true∧(Lit.int .u8 b2).wf=true∧(Lit.int .i16 a3).wf=true∧(Lit.int .u8 b3).wf=true∧(Lit.int .i16 a4).wf=true∧(Lit.int .u8 b4).wf=true∧(Lit.int .i16 a5).wf=true∧(Lit.int .u8 b5).wf=true:=by
 have hu:=Tryz.underlying54
 simp only [Value.okWide,hu] at hok
 obtain ⟨cs,rfl,hsz,_⟩:=hok
 obtain ⟨fuel,hf⟩:=h
 have hf2:DataW.trod enc Tryz.prog W 0 (fun _=>true) true fuel 54 cs.toList=some (d,p):=hf
 obtain ⟨a0,b0,a1,b1,a2,b2,a3,b3,a4,b4,a5,b5,hc,hx,hw⟩:=Kl.t_pair hf2
 simp only [Prod.mk.injEq] at hx
 obtain rfl:cs=#[.int .i16 a0,.int .u8 b0,.int .i16 a1,.int .u8 b1,.int .i16 a2,.int .u8 b2,.int .i16 a3,.int .u8 b3,.int .i16 a4,.int .u8 b4,.int .i16 a5,.int .u8 b5]:=Array.toList_inj.1 hc
 exact ⟨a0,b0,a1,b1,a2,b2,a3,b3,a4,b4,a5,b5,rfl,hx.1,hx.2,hw⟩
theorem Kl.shut_pair {W:World} {base:Nat} {spare:Nat→Bool} {held:Bool} {a0 b0 a1 b1 a2 b2 a3 b3 a4 b4 a5 b5:Int} (w:(Lit.int .i16 a0).wf=true∧(Lit.int .u8 b0).wf=true∧(Lit.int .i16 a1).wf=true∧(Lit.int .u8 b1).wf=true∧(Lit.int .i16 a2).wf=true∧(Lit.int .u8 b2).wf=true∧(Lit.int .i16 a3).wf=true∧(Lit.int .u8 b3).wf=true∧(Lit.int .i16 a4).wf=true∧(Lit.int .u8 b4).wf=true∧(Lit.int .i16 a5).wf=true∧(Lit.int .u8 b5).wf=true) :
   DataW.Trod enc Tryz.prog W base spare held 54 (.agg #[.int .i16 a0,.int .u8 b0,.int .i16 a1,.int .u8 b1,.int .i16 a2,.int .u8 b2,.int .i16 a3,.int .u8 b3,.int .i16 a4,.int .u8 b4,.int .i16 a5,.int .u8 b5]) (.agg [.agg [.agg [.lit (.int .i16 a0),.lit (.int .u8 b0)],.agg [.lit (.int .i16 a1),.lit (.int .u8 b1)],.agg [.lit (.int .i16 a2),.lit (.int .u8 b2)]],.agg [.agg [.lit (.int .i16 a3),.lit (.int .u8 b3)],.agg [.lit (.int .i16 a4),.lit (.int .u8 b4)],.agg [.lit (.int .i16 a5),.lit (.int .u8 b5)]]]) []:=by
 obtain ⟨wa0,wb0,wa1,wb1,wa2,wb2,wa3,wb3,wa4,wb4,wa5,wb5⟩:=w
 exact ⟨4,Kl.m_pair wa0 wb0 wa1 wb1 wa2 wb2 wa3 wb3 wa4 wb4 wa5 wb5⟩
end Go.Proofs.YtpennccflalobaaGreatDoor
