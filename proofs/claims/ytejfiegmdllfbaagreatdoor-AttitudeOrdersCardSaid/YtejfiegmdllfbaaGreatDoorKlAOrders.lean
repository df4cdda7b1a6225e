/- klippelaw15.AttitudeOrders returns true for every two ints with texts, whatever memory and schedule; the package-level variables that its row lists start as the program's text lays them. -/
import Derived.Test.YtejfiegmdllfbaaGreatDoorCards
import Derived.Test.YtejfiegmdllfbaaGreatDoorTie
import Derived.Test.YtejfiegmdllfbaaGreatDoorKlAOrdersArg15
import Derived.Test.YtejfiegmdllfbaaGreatDoorKlBEnv15
import Derived.Test.YtejfiegmdllfbaaGreatDoorKlAOrdersLawAOrders
namespace Go.Proofs.YtejfiegmdllfbaaGreatDoor
open Go.ChangeShapes Go.WideShapes Go.ChangeAt Go.RowKit
open Go.ChangeMaps (open_string shut_string)
open Kl (own laidWorld)
open Go.Lib
set_option maxRecDepth 100000
set_option maxHeartbeats 8000000
theorem Kl.aorders_contract (H:Type) (enc:TypeId × Value→H) (W:World) (base:Nat) (args:Array Value) (ds gs:List (DataW H)) (before:List MemPlace)
   (hval:∀ (j:Nat) t v,Tryz.f6.params[j]? = some t→args[j]? = some v→Value.okWide Tryz.prog W .any base t v)
   (hW:DataW.Whole enc Tryz.prog Tryz.f6.params.toList Rows.attitudeOrdersSpec.vars false W args.toList ds gs before) (hL:laidMetH Tryz.prog Rows.attitudeOrdersRow.laid W) (hSh:W.ShapedOpen Tryz.prog) :
   Calls Tryz.prog 6 args W fun e W' => ∃ v,e = .returned v∧Rows.attitudeOrdersSpec.post enc Tryz.prog Tryz.f6 false true false false W args v W':=by
 have hW':=hW
 obtain ⟨p,q,hA0,hV,rfl,hfz,hnd⟩:=hW
 have hA:DataW.TrodAll enc Tryz.prog W 0 (fun _=>true) true Tryz.f6.params.toList args.toList ds p:=hA0
 rw [Tryz.params6] at hA hval
 obtain ⟨v0,v1,d0,d1,p0,p1,rfl,rfl,rfl,h0,h1⟩:=trodAll_two hA
 obtain ⟨rfl,rfl⟩:=trodVars_none hV
 have hlt:=hW'.lt
 rw [List.append_nil] at hlt
 obtain ⟨i0,s0,rfl,rfl,rfl,w0⟩:=Kl.open_comp (hval 0 40 v0 rfl rfl) h0
 obtain ⟨i1,s1,rfl,rfl,rfl,w1⟩:=Kl.open_comp (hval 1 40 v1 rfl rfl) h1
 have R:Kl.EnvV W:=Kl.envV_of hL hSh
 clear hA0
 refine (Kl.lawOrders i0 i1 s0 s1 w0.2 w1.2 W R).mono fun e W' ⟨he,hb⟩=>?_
 subst he
 exact ⟨_,rfl,_,_,_,[],[] ++ [],[],hW',trodAll_mk1 (shut_bool Tryz.underlying4 true),trodAll_mk2 (Kl.shut_comp w0) (Kl.shut_comp w1),rfl,hb.frame _,fun h=>by cases h⟩
theorem Kl.aorders_reads (os:Os) {H:Type} (enc:TypeId × Value→H):∃ places,DataW.whole enc Tryz.prog ((laidWorld os).forCall (fun _ _=>0) ⟨#[],#[.agg #[.int .i64 0,.string ⟨#[]⟩],.agg #[.int .i64 0,.string ⟨#[]⟩]],[]⟩).memory Tryz.f6.params.toList Rows.attitudeOrdersSpec.vars false #[Value.agg #[.int .i64 0,.string ⟨#[]⟩],Value.agg #[.int .i64 0,.string ⟨#[]⟩]].toList 8=some ([.agg [.lit (.int .i64 0),.lit (.string [])],.agg [.lit (.int .i64 0),.lit (.string [])]],[],places):=
 ⟨[],by kernel_rfl⟩
theorem Kl.aorders_lifted (os:Os) (started:os.Started) (H:Type) (enc:TypeId × Value→H) (F:Stop.Interp) :
   ReturnsInHanded {} Tryz.checked os 6 .any ((OpenSpec.ofChange Rows.attitudeOrdersSpec).preRow enc Tryz.prog Tryz.f6 Rows.attitudeOrdersRow.domain false Rows.attitudeOrdersRow.laid) (((OpenSpec.ofChange Rows.attitudeOrdersSpec).at F).post enc Tryz.prog Tryz.f6 false true false false):=by
 obtain ⟨places,hx⟩:=Kl.aorders_reads os enc
 refine returnsInHanded_of_row (C:=Tryz.checked) (s:=OpenSpec.ofChange Rows.attitudeOrdersSpec) own started (by kernel_rfl) Tryz.func6
   (witness_row_atRef (enc:=enc) (C:=Tryz.checked) false (laidWorld os) #[.agg #[.int .i64 0,.string ⟨#[]⟩],.agg #[.int .i64 0,.string ⟨#[]⟩]] rfl (by kernel_rfl) (by kernel_rfl) (by kernel_rfl)
     (OpenSpec.preRow_of_cond 8 hx (by kernel_rfl) (fun k hk=>by cases hk) (by kernel_rfl) (Kl.laid_met15 os _))) ?_
 intro W base args ds gs before hval hW _ _ _ hL hSh _
 exact Kl.aorders_contract H enc W base args ds gs before hval hW hL hSh
theorem Kl.aorders_said : Rows.AttitudeOrdersSaid:=
 OpenClaim.holds_of_cond 6 Tryz.f6 rfl rfl rfl rfl rfl rfl rfl ⟨rfl,rfl,rfl,rfl,rfl⟩ rfl rfl rfl rfl rfl (by kernel_rfl) Tryz.func6 (by kernel_rfl)
   (of_decide_eq_true (by kernel_rfl)) (by unfold Func.isWrapper;first | (rw [if_pos (by decide +kernel)];kernel_rfl) | (rw [if_neg (by decide +kernel)];exact ⟨rfl,rfl⟩))
   (fun os started H enc _ F=>by rw [OpenClaim.pre_eq_preRow];exact Kl.aorders_lifted os started H enc F)
theorem Kl.aorders_plain (f : FuncId) (fn : Func) (hf : Tryz.pinned.checked.prog.funcNamed "klippe/klippelaw15.AttitudeOrders" = some f) (hfn : Tryz.pinned.checked.prog.funcs[f]? = some fn) :
   true = Tryz.pinned.checked.prog.looks []∧∀ (j:Nat) t,fn.params[j]? = some t → Tryz.pinned.checked.prog.wantsStandIn t=false:=by
 obtain rfl : f = 6 := Option.some.inj ((show Tryz.prog.funcNamed "klippe/klippelaw15.AttitudeOrders" = some 6 by kernel_rfl).symm.trans hf) |>.symm
 obtain rfl:fn = Tryz.f6:=(Option.some.inj (Tryz.func6.symm.trans hfn)).symm
 refine ⟨by kernel_rfl,fun j t ht=>?_⟩
 rw [Tryz.params6] at ht
 have st0 : Tryz.prog.wantsStandIn 40=false:=by kernel_rfl
 have:=Array.mem_of_getElem? ht
 simp at this
 subst this
 exact st0
theorem attitudeOrders_card : Rows.AttitudeOrdersCardSaid:=
 Claim7.holds_tied_plain_at .later [] _ _ _ _ Kl.aorders_said (fun _ h=>by cases h) (by kernel_rfl) (fun _ h=>by cases h) attitudeOrders_row_tie rfl ⟨rfl,rfl⟩ (by kernel_rfl) rfl Kl.aorders_plain (by kernel_rfl)
end Go.Proofs.YtejfiegmdllfbaaGreatDoor
