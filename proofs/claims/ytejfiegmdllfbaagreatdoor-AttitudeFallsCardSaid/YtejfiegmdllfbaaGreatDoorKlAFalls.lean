/- klippelaw15.AttitudeFalls returns true for every nine texts, whatever memory and schedule; the package-level variables that its row lists start as the program's text lays them. -/
import Derived.Test.YtejfiegmdllfbaaGreatDoorCards
import Derived.Test.YtejfiegmdllfbaaGreatDoorTie
import Derived.Test.YtejfiegmdllfbaaGreatDoorKlAFallsArg15
import Derived.Test.YtejfiegmdllfbaaGreatDoorKlBEnv15
import Derived.Test.YtejfiegmdllfbaaGreatDoorKlAFallsLawAFalls
namespace Go.Proofs.YtejfiegmdllfbaaGreatDoor
open Go.ChangeShapes Go.WideShapes Go.ChangeAt Go.RowKit
open Go.ChangeMaps (open_string shut_string)
open Kl (own laidWorld)
open Go.Lib
set_option maxRecDepth 100000
set_option maxHeartbeats 8000000
theorem Kl.afalls_contract (H:Type) (enc:TypeId × Value→H) (W:World) (base:Nat) (args:Array Value) (ds gs:List (DataW H)) (before:List MemPlace)
   (hval:∀ (j:Nat) t v,Tryz.f9.params[j]? = some t→args[j]? = some v→Value.okWide Tryz.prog W .any base t v)
   (hW:DataW.Whole enc Tryz.prog Tryz.f9.params.toList Rows.attitudeFallsSpec.vars false W args.toList ds gs before) (hL:laidMetH Tryz.prog Rows.attitudeFallsRow.laid W) (hSh:W.ShapedOpen Tryz.prog) :
   Calls Tryz.prog 9 args W fun e W' => ∃ v,e = .returned v∧Rows.attitudeFallsSpec.post enc Tryz.prog Tryz.f9 false true false false W args v W':=by
 have hW':=hW
 obtain ⟨p,q,hA0,hV,rfl,hfz,hnd⟩:=hW
 have hA:DataW.TrodAll enc Tryz.prog W 0 (fun _=>true) true Tryz.f9.params.toList args.toList ds p:=hA0
 rw [Tryz.params9] at hA hval
 obtain ⟨v0,v1,v2,d0,d1,d2,p0,p1,p2,rfl,rfl,rfl,h0,h1,h2⟩:=trodAll_three hA
 obtain ⟨rfl,rfl⟩:=trodVars_none hV
 have hlt:=hW'.lt
 rw [List.append_nil] at hlt
 obtain ⟨s0,s1,s2,rfl,rfl,rfl,w0⟩:=Kl.open_vec (hval 0 24 v0 rfl rfl) h0
 obtain ⟨s3,s4,s5,rfl,rfl,rfl,w1⟩:=Kl.open_fall (hval 1 60 v1 rfl rfl) h1
 obtain ⟨s6,s7,s8,rfl,rfl,rfl,w2⟩:=Kl.open_fall (hval 2 60 v2 rfl rfl) h2
 have R:Kl.EnvV W:=Kl.envV_of hL hSh
 clear hA0
 refine (Kl.lawFalls s0 s1 s2 s3 s4 s5 s6 s7 s8 w0.1 w0.2.1 w0.2.2 w1.1 w1.2.1 w1.2.2 w2.1 w2.2.1 w2.2.2 W R).mono fun e W' ⟨he,hb⟩=>?_
 subst he
 exact ⟨_,rfl,_,_,_,[],[] ++ [] ++ [],[],hW',trodAll_mk1 (shut_bool Tryz.underlying4 true),by rw [List.append_assoc];exact trodAll_mk3 (Kl.shut_vec w0) (Kl.shut_fall w1) (Kl.shut_fall w2),rfl,hb.frame _,fun h=>by cases h⟩
theorem Kl.afalls_reads (os:Os) {H:Type} (enc:TypeId × Value→H):∃ places,DataW.whole enc Tryz.prog ((laidWorld os).forCall (fun _ _=>0) ⟨#[],#[.agg #[.string ⟨#[]⟩,.string ⟨#[]⟩,.string ⟨#[]⟩],.agg #[.string ⟨#[]⟩,.string ⟨#[]⟩,.string ⟨#[]⟩],.agg #[.string ⟨#[]⟩,.string ⟨#[]⟩,.string ⟨#[]⟩]],[]⟩).memory Tryz.f9.params.toList Rows.attitudeFallsSpec.vars false #[Value.agg #[.string ⟨#[]⟩,.string ⟨#[]⟩,.string ⟨#[]⟩],Value.agg #[.string ⟨#[]⟩,.string ⟨#[]⟩,.string ⟨#[]⟩],Value.agg #[.string ⟨#[]⟩,.string ⟨#[]⟩,.string ⟨#[]⟩]].toList 8=some ([.agg [.lit (.string []),.lit (.string []),.lit (.string [])],.agg [.agg [.lit (.string []),.lit (.string [])],.lit (.string [])],.agg [.agg [.lit (.string []),.lit (.string [])],.lit (.string [])]],[],places):=
 ⟨[],by kernel_rfl⟩
theorem Kl.afalls_lifted (os:Os) (started:os.Started) (H:Type) (enc:TypeId × Value→H) (F:Stop.Interp) :
   ReturnsInHanded {} Tryz.checked os 9 .any ((OpenSpec.ofChange Rows.attitudeFallsSpec).preRow enc Tryz.prog Tryz.f9 Rows.attitudeFallsRow.domain false Rows.attitudeFallsRow.laid) (((OpenSpec.ofChange Rows.attitudeFallsSpec).at F).post enc Tryz.prog Tryz.f9 false true false false):=by
 obtain ⟨places,hx⟩:=Kl.afalls_reads os enc
 refine returnsInHanded_of_row (C:=Tryz.checked) (s:=OpenSpec.ofChange Rows.attitudeFallsSpec) own started (by kernel_rfl) Tryz.func9
   (witness_row_atRef (enc:=enc) (C:=Tryz.checked) false (laidWorld os) #[.agg #[.string ⟨#[]⟩,.string ⟨#[]⟩,.string ⟨#[]⟩],.agg #[.string ⟨#[]⟩,.string ⟨#[]⟩,.string ⟨#[]⟩],.agg #[.string ⟨#[]⟩,.string ⟨#[]⟩,.string ⟨#[]⟩]] rfl (by kernel_rfl) (by kernel_rfl) (by kernel_rfl)
     (OpenSpec.preRow_of_cond 8 hx (by kernel_rfl) (fun k hk=>by cases hk) (by kernel_rfl) (Kl.laid_met15 os _))) ?_
 intro W base args ds gs before hval hW _ _ _ hL hSh _
 exact Kl.afalls_contract H enc W base args ds gs before hval hW hL hSh
theorem Kl.afalls_said : Rows.AttitudeFallsSaid:=
 OpenClaim.holds_of_cond 9 Tryz.f9 rfl rfl rfl rfl rfl rfl rfl ⟨rfl,rfl,rfl,rfl,rfl⟩ rfl rfl rfl rfl rfl (by kernel_rfl) Tryz.func9 (by kernel_rfl)
   (of_decide_eq_true (by kernel_rfl)) (by unfold Func.isWrapper;first | (rw [if_pos (by decide +kernel)];kernel_rfl) | (rw [if_neg (by decide +kernel)];exact ⟨rfl,rfl⟩))
   (fun os started H enc _ F=>by rw [OpenClaim.pre_eq_preRow];exact Kl.afalls_lifted os started H enc F)
theorem Kl.afalls_plain (f : FuncId) (fn : Func) (hf : Tryz.pinned.checked.prog.funcNamed "klippe/klippelaw15.AttitudeFalls" = some f) (hfn : Tryz.pinned.checked.prog.funcs[f]? = some fn) :
   true = Tryz.pinned.checked.prog.looks []∧∀ (j:Nat) t,fn.params[j]? = some t → Tryz.pinned.checked.prog.wantsStandIn t=false:=by
 obtain rfl : f = 9 := Option.some.inj ((show Tryz.prog.funcNamed "klippe/klippelaw15.AttitudeFalls" = some 9 by kernel_rfl).symm.trans hf) |>.symm
 obtain rfl:fn = Tryz.f9:=(Option.some.inj (Tryz.func9.symm.trans hfn)).symm
 refine ⟨by kernel_rfl,fun j t ht=>?_⟩
 rw [Tryz.params9] at ht
 have st0 : Tryz.prog.wantsStandIn 24=false:=by kernel_rfl
 have st1 : Tryz.prog.wantsStandIn 60=false:=by kernel_rfl
 have:=Array.mem_of_getElem? ht
 simp at this
 rcases this with rfl | rfl <;> (show Tryz.prog.wantsStandIn _=false;with_reducible assumption)
theorem attitudeFalls_card : Rows.AttitudeFallsCardSaid:=
 Claim7.holds_tied_plain_at .later [] _ _ _ _ Kl.afalls_said (fun _ h=>by cases h) (by kernel_rfl) (fun _ h=>by cases h) attitudeFalls_row_tie rfl ⟨rfl,rfl⟩ (by kernel_rfl) rfl Kl.afalls_plain (by kernel_rfl)
end Go.Proofs.YtejfiegmdllfbaaGreatDoor
