/- klippelaw05.VectorLines returns true for every description of four points, whatever memory and schedule; the package-level variables that its row lists start as the program's text lays them. -/
import Derived.Test.YtpennccflalobaaGreatDoorCards
import Derived.Test.YtpennccflalobaaGreatDoorTie
import Derived.Test.YtpennccflalobaaGreatDoorKlVLinesArg5
import Derived.Test.YtpennccflalobaaGreatDoorKlBEnv5
import Derived.Test.YtpennccflalobaaGreatDoorKlVLinesLawVLines
namespace Go.Proofs.YtpennccflalobaaGreatDoor
open Go.ChangeShapes Go.WideShapes Go.ChangeAt Go.RowKit
open Go.ChangeMaps (open_string shut_string)
open Kl (own laidWorld)
open Go.Lib
set_option maxRecDepth 100000
set_option maxHeartbeats 8000000
theorem Kl.vlines_contract (H:Type) (enc:TypeId × Value→H) (W:World) (base:Nat) (args:Array Value) (ds gs:List (DataW H)) (before:List MemPlace)
   (hval:∀ (j:Nat) t v,Tryz.f8.params[j]? = some t→args[j]? = some v→Value.okWide Tryz.prog W .any base t v)
   (hW:DataW.Whole enc Tryz.prog Tryz.f8.params.toList Rows.vectorLinesSpec.vars false W args.toList ds gs before) (hL:laidMetH Tryz.prog Rows.vectorLinesRow.laid W) (hSh:W.ShapedOpen Tryz.prog) :
   Calls Tryz.prog 8 args W fun e W' => ∃ v,e = .returned v∧Rows.vectorLinesSpec.post enc Tryz.prog Tryz.f8 false true false false W args v W':=by
 have hW':=hW
 obtain ⟨p,q,hA0,hV,rfl,hfz,hnd⟩:=hW
 have hA:DataW.TrodAll enc Tryz.prog W 0 (fun _=>true) true Tryz.f8.params.toList args.toList ds p:=hA0
 rw [Tryz.params8] at hA hval
 obtain ⟨v0,v1,d0,d1,p0,p1,rfl,rfl,rfl,h0,h1⟩:=trodAll_two hA
 obtain ⟨rfl,rfl⟩:=trodVars_none hV
 have hlt:=hW'.lt
 rw [List.append_nil] at hlt
 obtain ⟨i0,g0,i1,g1,i2,g2,i3,g3,i4,g4,i5,g5,rfl,rfl,rfl,w0⟩:=Kl.open_pair (hval 0 54 v0 rfl rfl) h0
 obtain ⟨i6,g6,i7,g7,i8,g8,i9,g9,i10,g10,i11,g11,rfl,rfl,rfl,w1⟩:=Kl.open_pair (hval 1 54 v1 rfl rfl) h1
 have R:Kl.EnvV W:=Kl.envV_of hL hSh
 clear hA0
 refine (Kl.lawLines i0 g0 i1 g1 i2 g2 i3 g3 i4 g4 i5 g5 i6 g6 i7 g7 i8 g8 i9 g9 i10 g10 i11 g11 ⟨bounds_i16 w0.1,bounds_u8 w0.2.1⟩ ⟨bounds_i16 w0.2.2.1,bounds_u8 w0.2.2.2.1⟩ ⟨bounds_i16 w0.2.2.2.2.1,bounds_u8 w0.2.2.2.2.2.1⟩ ⟨bounds_i16 w0.2.2.2.2.2.2.1,bounds_u8 w0.2.2.2.2.2.2.2.1⟩ ⟨bounds_i16 w0.2.2.2.2.2.2.2.2.1,bounds_u8 w0.2.2.2.2.2.2.2.2.2.1⟩ ⟨bounds_i16 w0.2.2.2.2.2.2.2.2.2.2.1,bounds_u8 w0.2.2.2.2.2.2.2.2.2.2.2⟩ ⟨bounds_i16 w1.1,bounds_u8 w1.2.1⟩ ⟨bounds_i16 w1.2.2.1,bounds_u8 w1.2.2.2.1⟩ ⟨bounds_i16 w1.2.2.2.2.1,bounds_u8 w1.2.2.2.2.2.1⟩ ⟨bounds_i16 w1.2.2.2.2.2.2.1,bounds_u8 w1.2.2.2.2.2.2.2.1⟩ ⟨bounds_i16 w1.2.2.2.2.2.2.2.2.1,bounds_u8 w1.2.2.2.2.2.2.2.2.2.1⟩ ⟨bounds_i16 w1.2.2.2.2.2.2.2.2.2.2.1,bounds_u8 w1.2.2.2.2.2.2.2.2.2.2.2⟩ W R).mono fun e W' ⟨he,hb⟩=>?_
 subst he
 exact ⟨_,rfl,_,_,_,[],[] ++ [],[],hW',trodAll_mk1 (shut_bool Tryz.underlying4 true),trodAll_mk2 (Kl.shut_pair w0) (Kl.shut_pair w1),rfl,hb.frame _,fun h=>by cases h⟩
theorem Kl.vlines_reads (os:Os) {H:Type} (enc:TypeId × Value→H):∃ places,DataW.whole enc Tryz.prog ((laidWorld os).forCall (fun _ _=>0) ⟨#[],#[.agg #[.int .i16 0,.int .u8 0,.int .i16 0,.int .u8 0,.int .i16 0,.int .u8 0,.int .i16 0,.int .u8 0,.int .i16 0,.int .u8 0,.int .i16 0,.int .u8 0],.agg #[.int .i16 0,.int .u8 0,.int .i16 0,.int .u8 0,.int .i16 0,.int .u8 0,.int .i16 0,.int .u8 0,.int .i16 0,.int .u8 0,.int .i16 0,.int .u8 0]],[]⟩).memory Tryz.f8.params.toList Rows.vectorLinesSpec.vars false #[Value.agg #[.int .i16 0,.int .u8 0,.int .i16 0,.int .u8 0,.int .i16 0,.int .u8 0,.int .i16 0,.int .u8 0,.int .i16 0,.int .u8 0,.int .i16 0,.int .u8 0],Value.agg #[.int .i16 0,.int .u8 0,.int .i16 0,.int .u8 0,.int .i16 0,.int .u8 0,.int .i16 0,.int .u8 0,.int .i16 0,.int .u8 0,.int .i16 0,.int .u8 0]].toList 8=some ([.agg [.agg [.agg [.lit (.int .i16 0),.lit (.int .u8 0)],.agg [.lit (.int .i16 0),.lit (.int .u8 0)],.agg [.lit (.int .i16 0),.lit (.int .u8 0)]],.agg [.agg [.lit (.int .i16 0),.lit (.int .u8 0)],.agg [.lit (.int .i16 0),.lit (.int .u8 0)],.agg [.lit (.int .i16 0),.lit (.int .u8 0)]]],.agg [.agg [.agg [.lit (.int .i16 0),.lit (.int .u8 0)],.agg [.lit (.int .i16 0),.lit (.int .u8 0)],.agg [.lit (.int .i16 0),.lit (.int .u8 0)]],.agg [.agg [.lit (.int .i16 0),.lit (.int .u8 0)],.agg [.lit (.int .i16 0),.lit (.int .u8 0)],.agg [.lit (.int .i16 0),.lit (.int .u8 0)]]]],[],places):=
 ⟨[],by kernel_rfl⟩
theorem Kl.vlines_lifted (os:Os) (started:os.Started) (H:Type) (enc:TypeId × Value→H) (F:Stop.Interp) :
   ReturnsInHanded {} Tryz.checked os 8 .any ((OpenSpec.ofChange Rows.vectorLinesSpec).preRow enc Tryz.prog Tryz.f8 Rows.vectorLinesRow.domain false Rows.vectorLinesRow.laid) (((OpenSpec.ofChange Rows.vectorLinesSpec).at F).post enc Tryz.prog Tryz.f8 false true false false):=by
 obtain ⟨places,hx⟩:=Kl.vlines_reads os enc
 refine returnsInHanded_of_row (C:=Tryz.checked) (s:=OpenSpec.ofChange Rows.vectorLinesSpec) own started (by kernel_rfl) Tryz.func8
   (witness_row_atRef (enc:=enc) (C:=Tryz.checked) false (laidWorld os) #[.agg #[.int .i16 0,.int .u8 0,.int .i16 0,.int .u8 0,.int .i16 0,.int .u8 0,.int .i16 0,.int .u8 0,.int .i16 0,.int .u8 0,.int .i16 0,.int .u8 0],.agg #[.int .i16 0,.int .u8 0,.int .i16 0,.int .u8 0,.int .i16 0,.int .u8 0,.int .i16 0,.int .u8 0,.int .i16 0,.int .u8 0,.int .i16 0,.int .u8 0]] rfl (by kernel_rfl) (by kernel_rfl) (by kernel_rfl)
     (OpenSpec.preRow_of_cond 8 hx (by kernel_rfl) (fun k hk=>by cases hk) (by kernel_rfl) (Kl.laid_met5 os _))) ?_
 intro W base args ds gs before hval hW _ _ _ hL hSh _
 exact Kl.vlines_contract H enc W base args ds gs before hval hW hL hSh
theorem Kl.vlines_said : Rows.VectorLinesSaid:=
 OpenClaim.holds_of_cond 8 Tryz.f8 rfl rfl rfl rfl rfl rfl rfl ⟨rfl,rfl,rfl,rfl,rfl⟩ rfl rfl rfl rfl rfl (by kernel_rfl) Tryz.func8 (by kernel_rfl)
   (of_decide_eq_true (by kernel_rfl)) (by unfold Func.isWrapper;first | (rw [if_pos (by decide +kernel)];kernel_rfl) | (rw [if_neg (by decide +kernel)];exact ⟨rfl,rfl⟩))
   (fun os started H enc _ F=>by rw [OpenClaim.pre_eq_preRow];exact Kl.vlines_lifted os started H enc F)
theorem Kl.vlines_plain (f : FuncId) (fn : Func) (hf : Tryz.pinned.checked.prog.funcNamed "klippe/klippelaw05.VectorLines" = some f) (hfn : Tryz.pinned.checked.prog.funcs[f]? = some fn) :
   true = Tryz.pinned.checked.prog.looks []∧∀ (j:Nat) t,fn.params[j]? = some t → Tryz.pinned.checked.prog.wantsStandIn t=false:=by
 obtain rfl : f = 8 := Option.some.inj ((show Tryz.prog.funcNamed "klippe/klippelaw05.VectorLines" = some 8 by kernel_rfl).symm.trans hf) |>.symm
 obtain rfl:fn = Tryz.f8:=(Option.some.inj (Tryz.func8.symm.trans hfn)).symm
 refine ⟨by kernel_rfl,fun j t ht=>?_⟩
 rw [Tryz.params8] at ht
 have st0 : Tryz.prog.wantsStandIn 54=false:=by kernel_rfl
 have:=Array.mem_of_getElem? ht
 simp at this
 subst this
 exact st0
theorem vectorLines_card : Rows.VectorLinesCardSaid:=
 Claim7.holds_tied_plain_at .later [] _ _ _ _ Kl.vlines_said (fun _ h=>by cases h) (by kernel_rfl) (fun _ h=>by cases h) vectorLines_row_tie rfl ⟨rfl,rfl⟩ (by kernel_rfl) rfl Kl.vlines_plain (by kernel_rfl)
end Go.Proofs.YtpennccflalobaaGreatDoor
