/- klippelaw16.LineationPlanes returns true for every three descriptions of directions, whatever memory and schedule; the package-level variables that its row lists start as the program's text lays them. -/
import Derived.Test.YtpiiclmkbplkhaaGreatDoorCards
import Derived.Test.YtpiiclmkbplkhaaGreatDoorTie
import Derived.Test.YtpiiclmkbplkhaaGreatDoorKlLPlanesCArg16
import Derived.Test.YtpiiclmkbplkhaaGreatDoorKlBEnv16
import Derived.Test.YtpiiclmkbplkhaaGreatDoorKlLPlanesCLFPlanes
namespace Go.Proofs.YtpiiclmkbplkhaaGreatDoor
open Go.ChangeShapes Go.WideShapes Go.ChangeAt Go.RowKit
open Go.ChangeMaps (open_string shut_string)
open Kl (own laidWorld)
open Go.Lib
set_option maxRecDepth 100000
set_option maxHeartbeats 8000000
theorem Kl.lplanes_contract (H:Type) (enc:TypeId × Value→H) (W:World) (base:Nat) (args:Array Value) (ds gs:List (DataW H)) (before:List MemPlace)
   (hval:∀ (j:Nat) t v,Tryz.f8.params[j]? = some t→args[j]? = some v→Value.okWide Tryz.prog W .any base t v)
   (hW:DataW.Whole enc Tryz.prog Tryz.f8.params.toList Rows.lineationPlanesSpec.vars false W args.toList ds gs before) (hL:laidMetH Tryz.prog Rows.lineationPlanesRow.laid W) (hSh:W.ShapedOpen Tryz.prog) :
   Calls Tryz.prog 8 args W fun e W' => ∃ v,e = .returned v∧Rows.lineationPlanesSpec.post enc Tryz.prog Tryz.f8 false true false false W args v W':=by
 have hW':=hW
 obtain ⟨p,q,hA0,hV,rfl,hfz,hnd⟩:=hW
 have hA:DataW.TrodAll enc Tryz.prog W 0 (fun _=>true) true Tryz.f8.params.toList args.toList ds p:=hA0
 rw [Tryz.params8] at hA hval
 obtain ⟨v0,v1,v2,d0,d1,d2,p0,p1,p2,rfl,rfl,rfl,h0,h1,h2⟩:=trodAll_three hA
 obtain ⟨rfl,rfl⟩:=trodVars_none hV
 have hlt:=hW'.lt
 rw [List.append_nil] at hlt
 obtain ⟨i0,i1,i2,i3,rfl,rfl,rfl,w0⟩:=Kl.open_dir (hval 0 46 v0 rfl rfl) h0
 obtain ⟨i4,i5,i6,i7,rfl,rfl,rfl,w1⟩:=Kl.open_dir (hval 1 46 v1 rfl rfl) h1
 obtain ⟨i8,i9,i10,i11,rfl,rfl,rfl,w2⟩:=Kl.open_dir (hval 2 46 v2 rfl rfl) h2
 have R:Kl.EnvV W:=Kl.envV_of hL hSh
 clear hA0
 refine (Kl.lawPlanes i0 i1 i2 i3 i4 i5 i6 i7 i8 i9 i10 i11 (bounds_i8 w0.1) (bounds_i8 w0.2.1) (bounds_i8 w0.2.2.1) (bounds_u8 w0.2.2.2) (bounds_i8 w1.1) (bounds_i8 w1.2.1) (bounds_i8 w1.2.2.1) (bounds_u8 w1.2.2.2) (bounds_i8 w2.1) (bounds_i8 w2.2.1) (bounds_i8 w2.2.2.1) (bounds_u8 w2.2.2.2) W R).mono fun e W' ⟨he,hb⟩=>?_
 subst he
 exact ⟨_,rfl,_,_,_,[],[] ++ [] ++ [],[],hW',trodAll_mk1 (shut_bool Tryz.underlying4 true),by rw [List.append_assoc];exact trodAll_mk3 (Kl.shut_dir w0) (Kl.shut_dir w1) (Kl.shut_dir w2),rfl,hb.frame _,fun h=>by cases h⟩
theorem Kl.lplanes_reads (os:Os) {H:Type} (enc:TypeId × Value→H):∃ places,DataW.whole enc Tryz.prog ((laidWorld os).forCall (fun _ _=>0) ⟨#[],#[.agg #[.int .i8 0,.int .i8 0,.int .i8 0,.int .u8 0],.agg #[.int .i8 0,.int .i8 0,.int .i8 0,.int .u8 0],.agg #[.int .i8 0,.int .i8 0,.int .i8 0,.int .u8 0]],[]⟩).memory Tryz.f8.params.toList Rows.lineationPlanesSpec.vars false #[Value.agg #[.int .i8 0,.int .i8 0,.int .i8 0,.int .u8 0],Value.agg #[.int .i8 0,.int .i8 0,.int .i8 0,.int .u8 0],Value.agg #[.int .i8 0,.int .i8 0,.int .i8 0,.int .u8 0]].toList 8=some ([.agg [.lit (.int .i8 0),.lit (.int .i8 0),.lit (.int .i8 0),.lit (.int .u8 0)],.agg [.lit (.int .i8 0),.lit (.int .i8 0),.lit (.int .i8 0),.lit (.int .u8 0)],.agg [.lit (.int .i8 0),.lit (.int .i8 0),.lit (.int .i8 0),.lit (.int .u8 0)]],[],places):=
 ⟨[],by kernel_rfl⟩
theorem Kl.lplanes_lifted (os:Os) (started:os.Started) (H:Type) (enc:TypeId × Value→H) (F:Stop.Interp) :
   ReturnsInHanded {} Tryz.checked os 8 .any ((OpenSpec.ofChange Rows.lineationPlanesSpec).preRow enc Tryz.prog Tryz.f8 Rows.lineationPlanesRow.domain false Rows.lineationPlanesRow.laid) (((OpenSpec.ofChange Rows.lineationPlanesSpec).at F).post enc Tryz.prog Tryz.f8 false true false false):=by
 obtain ⟨places,hx⟩:=Kl.lplanes_reads os enc
 refine returnsInHanded_of_row (C:=Tryz.checked) (s:=OpenSpec.ofChange Rows.lineationPlanesSpec) own started (by kernel_rfl) Tryz.func8
   (witness_row_atRef (enc:=enc) (C:=Tryz.checked) false (laidWorld os) #[.agg #[.int .i8 0,.int .i8 0,.int .i8 0,.int .u8 0],.agg #[.int .i8 0,.int .i8 0,.int .i8 0,.int .u8 0],.agg #[.int .i8 0,.int .i8 0,.int .i8 0,.int .u8 0]] rfl (by kernel_rfl) (by kernel_rfl) (by kernel_rfl)
     (OpenSpec.preRow_of_cond 8 hx (by kernel_rfl) (fun k hk=>by cases hk) (by kernel_rfl) (Kl.laid_met16 os _))) ?_
 intro W base args ds gs before hval hW _ _ _ hL hSh _
 exact Kl.lplanes_contract H enc W base args ds gs before hval hW hL hSh
theorem Kl.lplanes_said : Rows.LineationPlanesSaid:=
 OpenClaim.holds_of_cond 8 Tryz.f8 rfl rfl rfl rfl rfl rfl rfl ⟨rfl,rfl,rfl,rfl,rfl⟩ rfl rfl rfl rfl rfl (by kernel_rfl) Tryz.func8 (by kernel_rfl)
   (of_decide_eq_true (by kernel_rfl)) (by unfold Func.isWrapper;first | (rw [if_pos (by decide +kernel)];kernel_rfl) | (rw [if_neg (by decide +kernel)];exact ⟨rfl,rfl⟩))
   (fun os started H enc _ F=>by rw [OpenClaim.pre_eq_preRow];exact Kl.lplanes_lifted os started H enc F)
theorem Kl.lplanes_plain (f : FuncId) (fn : Func) (hf : Tryz.pinned.checked.prog.funcNamed "klippe/klippelaw16.LineationPlanes" = some f) (hfn : Tryz.pinned.checked.prog.funcs[f]? = some fn) :
   true = Tryz.pinned.checked.prog.looks []∧∀ (j:Nat) t,fn.params[j]? = some t → Tryz.pinned.checked.prog.wantsStandIn t=false:=by
 obtain rfl : f = 8 := Option.some.inj ((show Tryz.prog.funcNamed "klippe/klippelaw16.LineationPlanes" = some 8 by kernel_rfl).symm.trans hf) |>.symm
 obtain rfl:fn = Tryz.f8:=(Option.some.inj (Tryz.func8.symm.trans hfn)).symm
 refine ⟨by kernel_rfl,fun j t ht=>?_⟩
 rw [Tryz.params8] at ht
 have st0 : Tryz.prog.wantsStandIn 46=false:=by kernel_rfl
 have:=Array.mem_of_getElem? ht
 simp at this
 subst this
 exact st0
theorem lineationPlanes_card : Rows.LineationPlanesCardSaid:=
 Claim7.holds_tied_plain_at .later [] _ _ _ _ Kl.lplanes_said (fun _ h=>by cases h) (by kernel_rfl) (fun _ h=>by cases h) lineationPlanes_row_tie rfl ⟨rfl,rfl⟩ (by kernel_rfl) rfl Kl.lplanes_plain (by kernel_rfl)
end Go.Proofs.YtpiiclmkbplkhaaGreatDoor
