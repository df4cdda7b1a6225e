/- klippelaw16.LineationChecks returns true for every six texts, whatever memory and schedule; the package-level variables that its row lists start as the program's text lays them. -/
import Derived.Test.YtpiiclmkbplkhaaGreatDoorCards
import Derived.Test.YtpiiclmkbplkhaaGreatDoorTie
import Derived.Test.YtpiiclmkbplkhaaGreatDoorKlLChecksCArg5
import Derived.Test.YtpiiclmkbplkhaaGreatDoorKlBEnv16
import Derived.Test.YtpiiclmkbplkhaaGreatDoorKlLChecksCLFChecks
namespace Go.Proofs.YtpiiclmkbplkhaaGreatDoor
open Go.ChangeShapes Go.WideShapes Go.ChangeAt Go.RowKit
open Go.ChangeMaps (open_string shut_string)
open Kl (own laidWorld)
open Go.Lib
set_option maxRecDepth 100000
set_option maxHeartbeats 8000000
theorem Kl.lchecks_contract (H:Type) (enc:TypeId × Value→H) (W:World) (base:Nat) (args:Array Value) (ds gs:List (DataW H)) (before:List MemPlace)
   (hval:∀ (j:Nat) t v,Tryz.f3.params[j]? = some t→args[j]? = some v→Value.okWide Tryz.prog W .any base t v)
   (hW:DataW.Whole enc Tryz.prog Tryz.f3.params.toList Rows.lineationChecksSpec.vars false W args.toList ds gs before) (hL:laidMetH Tryz.prog Rows.lineationChecksRow.laid W) (hSh:W.ShapedOpen Tryz.prog) :
   Calls Tryz.prog 3 args W fun e W' => ∃ v,e = .returned v∧Rows.lineationChecksSpec.post enc Tryz.prog Tryz.f3 false true false false W args v W':=by
 have hW':=hW
 obtain ⟨p,q,hA0,hV,rfl,hfz,hnd⟩:=hW
 have hA:DataW.TrodAll enc Tryz.prog W 0 (fun _=>true) true Tryz.f3.params.toList args.toList ds p:=hA0
 rw [Tryz.params3] at hA hval
 obtain ⟨v0,v1,d0,d1,p0,p1,rfl,rfl,rfl,h0,h1⟩:=trodAll_two hA
 obtain ⟨rfl,rfl⟩:=trodVars_none hV
 have hlt:=hW'.lt
 rw [List.append_nil] at hlt
 obtain ⟨s0,s1,s2,rfl,rfl,rfl,w0⟩:=Kl.open_vec (hval 0 24 v0 rfl rfl) h0
 obtain ⟨s3,s4,s5,rfl,rfl,rfl,w1⟩:=Kl.open_vec (hval 1 24 v1 rfl rfl) h1
 have R:Kl.EnvV W:=Kl.envV_of hL hSh
 clear hA0
 refine (Kl.lawChecks s0 s1 s2 s3 s4 s5 w0.1 w0.2.1 w0.2.2 w1.1 w1.2.1 w1.2.2 W R).mono fun e W' ⟨he,hb⟩=>?_
 subst he
 exact ⟨_,rfl,_,_,_,[],[] ++ [],[],hW',trodAll_mk1 (shut_bool Tryz.underlying4 true),trodAll_mk2 (Kl.shut_vec w0) (Kl.shut_vec w1),rfl,hb.frame _,fun h=>by cases h⟩
theorem Kl.lchecks_reads (os:Os) {H:Type} (enc:TypeId × Value→H):∃ places,DataW.whole enc Tryz.prog ((laidWorld os).forCall (fun _ _=>0) ⟨#[],#[.agg #[.string ⟨#[]⟩,.string ⟨#[]⟩,.string ⟨#[]⟩],.agg #[.string ⟨#[]⟩,.string ⟨#[]⟩,.string ⟨#[]⟩]],[]⟩).memory Tryz.f3.params.toList Rows.lineationChecksSpec.vars false #[Value.agg #[.string ⟨#[]⟩,.string ⟨#[]⟩,.string ⟨#[]⟩],Value.agg #[.string ⟨#[]⟩,.string ⟨#[]⟩,.string ⟨#[]⟩]].toList 8=some ([.agg [.lit (.string []),.lit (.string []),.lit (.string [])],.agg [.lit (.string []),.lit (.string []),.lit (.string [])]],[],places):=
 ⟨[],by kernel_rfl⟩
theorem Kl.lchecks_lifted (os:Os) (started:os.Started) (H:Type) (enc:TypeId × Value→H) (F:Stop.Interp) :
   ReturnsInHanded {} Tryz.checked os 3 .any ((OpenSpec.ofChange Rows.lineationChecksSpec).preRow enc Tryz.prog Tryz.f3 Rows.lineationChecksRow.domain false Rows.lineationChecksRow.laid) (((OpenSpec.ofChange Rows.lineationChecksSpec).at F).post enc Tryz.prog Tryz.f3 false true false false):=by
 obtain ⟨places,hx⟩:=Kl.lchecks_reads os enc
 refine returnsInHanded_of_row (C:=Tryz.checked) (s:=OpenSpec.ofChange Rows.lineationChecksSpec) own started (by kernel_rfl) Tryz.func3
   (witness_row_atRef (enc:=enc) (C:=Tryz.checked) false (laidWorld os) #[.agg #[.string ⟨#[]⟩,.string ⟨#[]⟩,.string ⟨#[]⟩],.agg #[.string ⟨#[]⟩,.string ⟨#[]⟩,.string ⟨#[]⟩]] rfl (by kernel_rfl) (by kernel_rfl) (by kernel_rfl)
     (OpenSpec.preRow_of_cond 8 hx (by kernel_rfl) (fun k hk=>by cases hk) (by kernel_rfl) (Kl.laid_met16 os _))) ?_
 intro W base args ds gs before hval hW _ _ _ hL hSh _
 exact Kl.lchecks_contract H enc W base args ds gs before hval hW hL hSh
theorem Kl.lchecks_said : Rows.LineationChecksSaid:=
 OpenClaim.holds_of_cond 3 Tryz.f3 rfl rfl rfl rfl rfl rfl rfl ⟨rfl,rfl,rfl,rfl,rfl⟩ rfl rfl rfl rfl rfl (by kernel_rfl) Tryz.func3 (by kernel_rfl)
   (of_decide_eq_true (by kernel_rfl)) (by unfold Func.isWrapper;first | (rw [if_pos (by decide +kernel)];kernel_rfl) | (rw [if_neg (by decide +kernel)];exact ⟨rfl,rfl⟩))
   (fun os started H enc _ F=>by rw [OpenClaim.pre_eq_preRow];exact Kl.lchecks_lifted os started H enc F)
theorem Kl.lchecks_plain (f : FuncId) (fn : Func) (hf : Tryz.pinned.checked.prog.funcNamed "klippe/klippelaw16.LineationChecks" = some f) (hfn : Tryz.pinned.checked.prog.funcs[f]? = some fn) :
   true = Tryz.pinned.checked.prog.looks []∧∀ (j:Nat) t,fn.params[j]? = some t → Tryz.pinned.checked.prog.wantsStandIn t=false:=by
 obtain rfl : f = 3 := Option.some.inj ((show Tryz.prog.funcNamed "klippe/klippelaw16.LineationChecks" = some 3 by kernel_rfl).symm.trans hf) |>.symm
 obtain rfl:fn = Tryz.f3:=(Option.some.inj (Tryz.func3.symm.trans hfn)).symm
 refine ⟨by kernel_rfl,fun j t ht=>?_⟩
 rw [Tryz.params3] at ht
 have st0 : Tryz.prog.wantsStandIn 24=false:=by kernel_rfl
 have:=Array.mem_of_getElem? ht
 simp at this
 subst this
 exact st0
theorem lineationChecks_card : Rows.LineationChecksCardSaid:=
 Claim7.holds_tied_plain_at .later [] _ _ _ _ Kl.lchecks_said (fun _ h=>by cases h) (by kernel_rfl) (fun _ h=>by cases h) lineationChecks_row_tie rfl ⟨rfl,rfl⟩ (by kernel_rfl) rfl Kl.lchecks_plain (by kernel_rfl)
end Go.Proofs.YtpiiclmkbplkhaaGreatDoor
