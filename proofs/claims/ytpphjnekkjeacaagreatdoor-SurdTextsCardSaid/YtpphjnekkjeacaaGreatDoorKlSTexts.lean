/- klippelaw03.SurdTexts returns true for every text, and leaves it as it was, whatever memory and schedule; the package-level variables of Go's library that its row lists start as the library's text lays them. -/
import Derived.Test.YtpphjnekkjeacaaGreatDoorCards
import Derived.Test.YtpphjnekkjeacaaGreatDoorTie
import Derived.OpenShut
import Derived.Test.YtpphjnekkjeacaaGreatDoorKlSRootsArg3
import Derived.Test.YtpphjnekkjeacaaGreatDoorKlSRootsEnv3
import Derived.Test.YtpphjnekkjeacaaGreatDoorKlSRootsTk
namespace Go.Proofs.YtpphjnekkjeacaaGreatDoor
open Go.ChangeShapes Go.WideShapes Go.ChangeAt Go.RowKit
open Go.ChangeMaps (open_string shut_string)
open Kl (own laidWorld)
open Go.Lib
set_option maxRecDepth 100000
set_option maxHeartbeats 8000000
theorem Kl.stexts_contract (H:Type) (enc:TypeId × Value→H) (W:World) (base:Nat) (args:Array Value) (ds gs:List (DataW H)) (before:List MemPlace)
   (hval:∀ (j:Nat) t v,Tryz.f10.params[j]? = some t→args[j]? = some v→Value.okWide Tryz.prog W .any base t v)
   (hW:DataW.Whole enc Tryz.prog Tryz.f10.params.toList Rows.surdTextsSpec.vars false W args.toList ds gs before) (hL:laidMetH Tryz.prog Rows.surdTextsRow.laid W) (hSh:W.ShapedOpen Tryz.prog) :
   Calls Tryz.prog 10 args W fun e W' => ∃ v,e = .returned v∧Rows.surdTextsSpec.post enc Tryz.prog Tryz.f10 false true false false W args v W':=by
 have hW':=hW
 obtain ⟨p,q,hA0,hV,rfl,hfz,hnd⟩:=hW
 have hA:DataW.TrodAll enc Tryz.prog W 0 (fun _=>true) true Tryz.f10.params.toList args.toList ds p:=hA0
 rw [Tryz.params10] at hA hval
 obtain ⟨v0,d0,rfl,rfl,h0⟩:=trodAll_one hA
 obtain ⟨rfl,rfl⟩:=trodVars_none hV
 have hlt:=hW'.lt
 rw [List.append_nil] at hlt
 obtain ⟨a0,n0,c0,qs,rfl,hn0,hp0,hag⟩:=Kl.open_parts (okWide_slice Tryz.underlying41 (hval 0 41 v0 rfl rfl)) h0 hlt
 have R:Kl.EnvS W:=Kl.envS_of (show laidMet Tryz.prog Rows.surdRootsRow.laid W from hL) hSh
 clear hA0
 simp only [List.append_nil] at hW'
 refine (Kl.lawSTexts a0 n0 c0 qs hn0 W R hp0).mono fun e W' ⟨he,hb⟩=>?_
 subst he
 exact ⟨_,rfl,_,_,_,[],_,[],hW',trodAll_mk1 (shut_bool Tryz.underlying4 true),trodAll_mk1 (hag W' hb),rfl,hb.frame _,fun h=>by cases h⟩
theorem Kl.stexts_reads (os:Os) {H:Type} (enc:TypeId × Value→H):∃ places,DataW.whole enc Tryz.prog ((laidWorld os).forCall (fun _ _=>0) ⟨#[],#[.slice none 0 0],[]⟩).memory Tryz.f10.params.toList Rows.surdTextsSpec.vars false #[Value.slice none 0 0].toList 8=some ([.nil],[],places):=
 ⟨[],by kernel_rfl⟩
theorem Kl.stexts_lifted (os:Os) (started:os.Started) (H:Type) (enc:TypeId × Value→H) (F:Stop.Interp) :
   ReturnsInHanded {} Tryz.checked os 10 .any ((OpenSpec.ofChange Rows.surdTextsSpec).preRow enc Tryz.prog Tryz.f10 Rows.surdTextsRow.domain false Rows.surdTextsRow.laid) (((OpenSpec.ofChange Rows.surdTextsSpec).at F).post enc Tryz.prog Tryz.f10 false true false false):=by
 obtain ⟨places,hx⟩:=Kl.stexts_reads os enc
 refine returnsInHanded_of_row (C:=Tryz.checked) (s:=OpenSpec.ofChange Rows.surdTextsSpec) own started (by kernel_rfl) Tryz.func10
   (witness_row_atRef (enc:=enc) (C:=Tryz.checked) false (laidWorld os) #[.slice none 0 0] rfl (by kernel_rfl) (by kernel_rfl) (by kernel_rfl)
     (OpenSpec.preRow_of_cond 8 hx (by kernel_rfl) (fun k hk=>by cases hk) (by kernel_rfl) (Kl.laid_met3 os _))) ?_
 intro W base args ds gs before hval hW _ _ _ hL hSh _
 exact Kl.stexts_contract H enc W base args ds gs before hval hW hL hSh
theorem Kl.stexts_said : Rows.SurdTextsSaid:=
 OpenClaim.holds_of_cond 10 Tryz.f10 rfl rfl rfl rfl rfl rfl rfl ⟨rfl,rfl,rfl,rfl,rfl⟩ rfl rfl rfl rfl rfl (by kernel_rfl) Tryz.func10 (by kernel_rfl)
   (of_decide_eq_true (by kernel_rfl)) (by unfold Func.isWrapper;first | (rw [if_pos (by decide +kernel)];kernel_rfl) | (rw [if_neg (by decide +kernel)];exact ⟨rfl,rfl⟩))
   (fun os started H enc _ F=>by rw [OpenClaim.pre_eq_preRow];exact Kl.stexts_lifted os started H enc F)
theorem Kl.stexts_plain (f : FuncId) (fn : Func) (hf : Tryz.pinned.checked.prog.funcNamed "klippe/klippelaw03.SurdTexts" = some f) (hfn : Tryz.pinned.checked.prog.funcs[f]? = some fn) :
   true = Tryz.pinned.checked.prog.looks []∧∀ (j:Nat) t,fn.params[j]? = some t → Tryz.pinned.checked.prog.wantsStandIn t=false:=by
 obtain rfl : f = 10 := Option.some.inj ((show Tryz.prog.funcNamed "klippe/klippelaw03.SurdTexts" = some 10 by kernel_rfl).symm.trans hf) |>.symm
 obtain rfl:fn = Tryz.f10:=(Option.some.inj (Tryz.func10.symm.trans hfn)).symm
 refine ⟨by kernel_rfl,fun j t ht=>?_⟩
 rw [Tryz.params10] at ht
 have st0 : Tryz.prog.wantsStandIn 41=false:=by kernel_rfl
 have:=Array.mem_of_getElem? ht
 simp at this
 subst this
 exact st0
theorem surdTexts_card : Rows.SurdTextsCardSaid:=
 Claim7.holds_tied_plain_at .later [] _ _ _ _ Kl.stexts_said (fun _ h=>by cases h) (by kernel_rfl) (fun _ h=>by cases h) surdTexts_row_tie rfl ⟨rfl,rfl⟩ (by kernel_rfl) rfl Kl.stexts_plain (by kernel_rfl)
end Go.Proofs.YtpphjnekkjeacaaGreatDoor
