import Derived.Deep.Strs
import Derived.Test.YtejfiegmdllfbaaGreatDoorKlBEnv
import Derived.OpenShut
import Derived.Lib.SmallJoins
namespace Go.Proofs.YtejfiegmdllfbaaGreatDoor
open Go.ChangeShapes Go.WideShapes Go.ChangeAt Go.RowKit
open Go.Lib
set_option maxRecDepth 100000
set_option maxHeartbeats 8000000
variable {H:Type} {enc:TypeId × Value→H}
theorem Kl.open_arr {W:World} {base:Nat} {v:Value} {d:DataW H} {p:List MemPlace} (hok:Value.okWide Tryz.prog W .any base 67 v)
   (h:DataW.Trod enc Tryz.prog W 0 (fun _=>true) true 67 v d p) :
   ∃ a b c:Int,v = .agg #[.int .i8 a,.int .i8 b,.int .i8 c]∧d = .agg [.lit (.int .i8 a),.lit (.int .i8 b),.lit (.int .i8 c)]∧p=[]∧(Lit.int .i8 a).wf=true∧(Lit.int .i8 b).wf=true∧(Lit.int .i8 c).wf=true:=by
 have hu : Tryz.prog.underlying 67=some (.array 3 66):=Tryz.underlying67
 simp only [Value.okWide,hu] at hok
 obtain ⟨cs,rfl,hsz,_⟩:=hok
 have hC : Tryz.prog.cellsOf 67=3:=by kernel_rfl
 have hE : Tryz.prog.cellsOf 66=1:=by kernel_rfl
 obtain ⟨c0,c1,c2,rfl⟩:=Joins.array3 (hsz.trans hC)
 obtain ⟨fuel,hf⟩:=h
 obtain ⟨xs,m,_,hx,_,hlen,hi⟩:=DataW.trod_array hu hf
 match xs,hlen with
 | [y0,y1,y2],_ =>
   have e0:=hi 0 (by decide)
   have e1:=hi 1 (by decide)
   have e2:=hi 2 (by decide)
   rw [hE] at e0 e1 e2
   simp [Value.cells] at e0 e1 e2
   obtain ⟨a,ea,hy0,wa⟩:=DataW.trod_int Tryz.underlying66 e0
   obtain ⟨b,eb,hy1,wb⟩:=DataW.trod_int Tryz.underlying66 e1
   obtain ⟨c,ec,hy2,wc⟩:=DataW.trod_int Tryz.underlying66 e2
   subst hy0 hy1 hy2
   simp at ea eb ec
   subst ea eb ec
   simp at hx
   exact ⟨a,b,c,rfl,hx.1,hx.2,wa,wb,wc⟩
theorem Kl.shut_arr {W:World} {base:Nat} {spare:Nat→Bool} {held:Bool} {a b c:Int} (w:(Lit.int .i8 a).wf=true∧(Lit.int .i8 b).wf=true∧(Lit.int .i8 c).wf=true) :
   DataW.Trod enc Tryz.prog W base spare held 67 (.agg #[.int .i8 a,.int .i8 b,.int .i8 c]) (.agg [.lit (.int .i8 a),.lit (.int .i8 b),.lit (.int .i8 c)]) []:=by
 obtain ⟨ha,hb,hc⟩:=w
 refine ⟨2,?_⟩
 have hu : Tryz.prog.underlying 67=some (.array 3 66):=Tryz.underlying67
 have hC : Tryz.prog.cellsOf 67=3:=by kernel_rfl
 have hE : Tryz.prog.cellsOf 66=1:=by kernel_rfl
 have t0:DataW.trod enc Tryz.prog W base spare held 1 66 [.int .i8 a]=some (.lit (.int .i8 a),[]):=trod_int_mk 0 Tryz.underlying66 ha
 have t1:DataW.trod enc Tryz.prog W base spare held 1 66 [.int .i8 b]=some (.lit (.int .i8 b),[]):=trod_int_mk 0 Tryz.underlying66 hb
 have t2:DataW.trod enc Tryz.prog W base spare held 1 66 [.int .i8 c]=some (.lit (.int .i8 c),[]):=trod_int_mk 0 Tryz.underlying66 hc
 have r3:List.range 3=[0,1,2]:=rfl
 unfold DataW.trod
 rw [hu]
 simp [Value.cells,hC,hE,r3,t0,t1,t2]
end Go.Proofs.YtejfiegmdllfbaaGreatDoor
