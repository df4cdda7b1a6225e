/- klippelaw15.AttitudeTurns returns true for every three small ints, whatever memory and schedule; the package-level variables that its row lists start as the program's text lays them. -/
import Derived.Test.YtejfiegmdllfbaaGreatDoorCards
import Derived.Test.YtejfiegmdllfbaaGreatDoorTie
import Derived.Test.YtejfiegmdllfbaaGreatDoorKlATurnsArg15
import Derived.Test.YtejfiegmdllfbaaGreatDoorKlBEnv15
import Derived.Test.YtejfiegmdllfbaaGreatDoorKlATurnsLawATurns
namespace Go.Proofs.YtejfiegmdllfbaaGreatDoor
open Go.ChangeShapes Go.WideShapes Go.ChangeAt Go.RowKit
open Go.ChangeMaps (open_string shut_string)
open Kl (own laidWorld)
open Go.Lib
set_option maxRecDepth 100000
set_option maxHeartbeats 8000000
theorem Kl.aturns_contract (H:Type) (enc:TypeId × Value→H) (W:World) (base:Nat) (args:Array Value) (ds gs:List (DataW H)) (before:List MemPlace)
   (hval:∀ (j:Nat) t v,Tryz.f10.params[j]? = some t→args[j]? = some v→Value.okWide Tryz.prog W .any base t v)
   (hW:DataW.Whole enc Tryz.prog Tryz.f10.params.toList Rows.attitudeTurnsSpec.vars false W args.toList ds gs before) (hL:laidMetH Tryz.prog Rows.attitudeTurnsRow.laid W) (hSh:W.ShapedOpen Tryz.prog) :
   Calls Tryz.prog 10 args W fun e W' => ∃ v,e = .returned v∧Rows.attitudeTurnsSpec.post enc Tryz.prog Tryz.f10 false true false false W args v W':=by
 have hW':=hW
 obtain ⟨p,q,hA0,hV,rfl,hfz,hnd⟩:=hW
 have hA:DataW.TrodAll enc Tryz.prog W 0 (fun _=>true) true Tryz.f10.params.toList args.toList ds p:=hA0
 rw [Tryz.params10] at hA hval
 obtain ⟨v0,d0,rfl,rfl,h0⟩:=trodAll_one hA
 obtain ⟨rfl,rfl⟩:=trodVars_none hV
 have hlt:=hW'.lt
 rw [List.append_nil] at hlt
 obtain ⟨i0,i1,i2,rfl,rfl,rfl,w0⟩:=Kl.open_arr (hval 0 67 v0 rfl rfl) h0
 have R:Kl.EnvV W:=Kl.envV_of hL hSh
 clear hA0
 simp only [List.append_nil] at hW'
 refine (Kl.lawTurns i0 i1 i2 (bounds_i8 w0.1) (bounds_i8 w0.2.1) (bounds_i8 w0.2.2) W R).mono fun e W' ⟨he,hb⟩=>?_
 subst he
 exact ⟨_,rfl,_,_,_,[],[],[],hW',trodAll_mk1 (shut_bool Tryz.underlying4 true),trodAll_mk1 (Kl.shut_arr w0),rfl,hb.frame _,fun h=>by cases h⟩
theorem Kl.aturns_reads (os:Os) {H:Type} (enc:TypeId × Value→H):∃ places,DataW.whole enc Tryz.prog ((laidWorld os).forCall (fun _ _=>0) ⟨#[],#[.agg #[.int .i8 0,.int .i8 0,.int .i8 0]],[]⟩).memory Tryz.f10.params.toList Rows.attitudeTurnsSpec.vars false #[Value.agg #[.int .i8 0,.int .i8 0,.int .i8 0]].toList 8=some ([.agg [.lit (.int .i8 0),.lit (.int .i8 0),.lit (.int .i8 0)]],[],places):=
 ⟨[],by kernel_rfl⟩
theorem Kl.aturns_lifted (os:Os) (started:os.Started) (H:Type) (enc:TypeId × Value→H) (F:Stop.Interp) :
   ReturnsInHanded {} Tryz.checked os 10 .any ((OpenSpec.ofChange Rows.attitudeTurnsSpec).preRow enc Tryz.prog Tryz.f10 Rows.attitudeTurnsRow.domain false Rows.attitudeTurnsRow.laid) (((OpenSpec.ofChange Rows.attitudeTurnsSpec).at F).post enc Tryz.prog Tryz.f10 false true false false):=by
 obtain ⟨places,hx⟩:=Kl.aturns_reads os enc
 refine returnsInHanded_of_row (C:=Tryz.checked) (s:=OpenSpec.ofChange Rows.attitudeTurnsSpec) own started (by kernel_rfl) Tryz.func10
   (witness_row_atRef (enc:=enc) (C:=Tryz.checked) false (laidWorld os) #[.agg #[.int .i8 0,.int .i8 0,.int .i8 0]] rfl (by kernel_rfl) (by kernel_rfl) (by kernel_rfl)
     (OpenSpec.preRow_of_cond 8 hx (by kernel_rfl) (fun k hk=>by cases hk) (by kernel_rfl) (Kl.laid_met15 os _))) ?_
 intro W base args ds gs before hval hW _ _ _ hL hSh _
 exact Kl.aturns_contract H enc W base args ds gs before hval hW hL hSh
theorem Kl.aturns_said : Rows.AttitudeTurnsSaid:=
 OpenClaim.holds_of_cond 10 Tryz.f10 rfl rfl rfl rfl rfl rfl rfl ⟨rfl,rfl,rfl,rfl,rfl⟩ rfl rfl rfl rfl rfl (by kernel_rfl) Tryz.func10 (by kernel_rfl)
   (of_decide_eq_true (by kernel_rfl)) (by unfold Func.isWrapper;first | (rw [if_pos (by decide +kernel)];kernel_rfl) | (rw [if_neg (by decide +kernel)];exact ⟨rfl,rfl⟩))
   (fun os started H enc _ F=>by rw [OpenClaim.pre_eq_preRow];exact Kl.aturns_lifted os started H enc F)
theorem Kl.aturns_plain (f : FuncId) (fn : Func) (hf : Tryz.pinned.checked.prog.funcNamed "klippe/klippelaw15.AttitudeTurns" = some f) (hfn : Tryz.pinned.checked.prog.funcs[f]? = some fn) :
   true = Tryz.pinned.checked.prog.looks []∧∀ (j:Nat) t,fn.params[j]? = some t → Tryz.pinned.checked.prog.wantsStandIn t=false:=by
 obtain rfl : f = 10 := Option.some.inj ((show Tryz.prog.funcNamed "klippe/klippelaw15.AttitudeTurns" = some 10 by kernel_rfl).symm.trans hf) |>.symm
 obtain rfl:fn = Tryz.f10:=(Option.some.inj (Tryz.func10.symm.trans hfn)).symm
 refine ⟨by kernel_rfl,fun j t ht=>?_⟩
 rw [Tryz.params10] at ht
 have st0 : Tryz.prog.wantsStandIn 67=false:=by kernel_rfl
 have:=Array.mem_of_getElem? ht
 simp at this
 subst this
 exact st0
theorem attitudeTurns_card : Rows.AttitudeTurnsCardSaid:=
 Claim7.holds_tied_plain_at .later [] _ _ _ _ Kl.aturns_said (fun _ h=>by cases h) (by kernel_rfl) (fun _ h=>by cases h) attitudeTurns_row_tie rfl ⟨rfl,rfl⟩ (by kernel_rfl) rfl Kl.aturns_plain (by kernel_rfl)
end Go.Proofs.YtejfiegmdllfbaaGreatDoor
