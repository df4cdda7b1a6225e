import Derived.Test.YtpennccflalobaaGreatDoorKlVLineErrorsVCut
namespace Go.Proofs.YtpennccflalobaaGreatDoor.Kl
open Go Go.RowKit
set_option maxRecDepth 100000
set_option maxHeartbeats 8000000
theorem linesLong  (ta0 ta1 ta2 tb0 tb1 tb2:ByteArray) (_mta0:ta0.size≤9223372036854775807) (_mta1:ta1.size≤9223372036854775807) (_mta2:ta2.size≤9223372036854775807) (_mtb0:tb0.size≤9223372036854775807) (_mtb1:tb1.size≤9223372036854775807) (_mtb2:tb2.size≤9223372036854775807) (hl:¬ (ta0.size≤40∧ta1.size≤40∧ta2.size≤40∧tb0.size≤40∧tb1.size≤40∧tb2.size≤40)) (w:World) (R:EnvV w) :
   Calls Tryz.prog 9 #[.agg #[.string ta0,.string ta1,.string ta2],.agg #[.string tb0,.string tb1,.string tb2]] w (Ret w (.bool true)):=by
 have hb:=Below.refl w.heap.size w
 go_enter Tryz.func9,Tryz.ntmps9
 go_upto_region 1 with fail
 refine wp_alloc2 (fun w1 a0 a1 hk=>?_)
 replace hb:=hb.trans (hk.mono hb.size)
 clear hk
 obtain ⟨Aa,Ab,Ac⟩:=ce3 a0
 obtain ⟨Ad,Ae,Af⟩:=ce3 a1
 go_wp2
 refine wp_alloc1 (fun w1 alp0 hk=>?_)
 replace hb:=hb.trans (hk.mono hb.size)
 clear hk
 have HAlp0:=Lib.hid alp0
 have HB:=Lib.hid hb
 have HL:=Lib.hid hl
 clear hb alp0 hl a0 a1 Aa Ab Ac Ad Ae Af
 go_loopw [28] (fun i wr=>((i = .int .i64 0)∨(i = .int .i64 1∧ta0.size≤40)∨(i = .int .i64 2∧ta0.size≤40∧ta1.size≤40)∨(i = .int .i64 3∧ta0.size≤40∧ta1.size≤40∧ta2.size≤40)∨(i = .int .i64 4∧ta0.size≤40∧ta1.size≤40∧ta2.size≤40∧tb0.size≤40)∨(i = .int .i64 5∧ta0.size≤40∧ta1.size≤40∧ta2.size≤40∧tb0.size≤40∧tb1.size≤40)∨(i = .int .i64 6∧ta0.size≤40∧ta1.size≤40∧ta2.size≤40∧tb0.size≤40∧tb1.size≤40∧tb2.size≤40))∧Below w1.heap.size w1 wr) (fun i _=>6 - (intOf i).toNat)
 case atStart=>exact ⟨Or.inl rfl,Below.refl _ _⟩
 case round =>
   obtain ⟨rfl | ⟨rfl,sta0⟩ | ⟨rfl,sta0,sta1⟩ | ⟨rfl,sta0,sta1,sta2⟩ | ⟨rfl,sta0,sta1,sta2,stb0⟩ | ⟨rfl,sta0,sta1,sta2,stb0,stb1⟩ | ⟨rfl,sta0,sta1,sta2,stb0,stb1,stb2⟩,hw⟩:=hrel
   · have alp0:=zB hw HAlp0.out
     have hb:=HB.out.trans (hw.mono HB.out.size)
     have xl0:wr.cell? ⟨_,0,none⟩=some (Value.string ta0):=zA alp0
     clear alp0
     by_cases sta0:ta0.size≤40
     case neg =>
       replace sta0:40 < ta0.size:=by omega
       clear hw
       go_wp2_with (go_at_call 13;((with_reducible refine (zK hb (known5_any _ (R.below hb))).mono ?_);clear hb;rintro e w9 ⟨rfl,hk,hb⟩;clear hk))
       go_ret
       exact ⟨rfl,hb⟩
     clear hb
     go_wp2
     go_roundw
     case rel =>
       refine ⟨Or.inr (Or.inl ⟨rfl,sta0⟩),?_⟩
       repeat' (first | exact hw | refine Below.alloc ?_ hw.size _ | refine Below.setCell ?_ hw.size _)
     case measure=>simp [intOf]
   · have alp0:=zB hw HAlp0.out
     have hb:=HB.out.trans (hw.mono HB.out.size)
     have xl0:wr.cell? ⟨_,1,none⟩=some (Value.string ta1):=zA alp0
     clear alp0
     by_cases sta1:ta1.size≤40
     case neg =>
       replace sta1:40 < ta1.size:=by omega
       clear hw
       go_wp2_with (go_at_call 13;((with_reducible refine (zK hb (known5_any _ (R.below hb))).mono ?_);clear hb;rintro e w9 ⟨rfl,hk,hb⟩;clear hk))
       go_ret
       exact ⟨rfl,hb⟩
     clear hb
     go_wp2
     go_roundw
     case rel =>
       refine ⟨Or.inr (Or.inr (Or.inl ⟨rfl,sta0,sta1⟩)),?_⟩
       repeat' (first | exact hw | refine Below.alloc ?_ hw.size _ | refine Below.setCell ?_ hw.size _)
     case measure=>simp [intOf]
   · have alp0:=zB hw HAlp0.out
     have hb:=HB.out.trans (hw.mono HB.out.size)
     have xl0:wr.cell? ⟨_,2,none⟩=some (Value.string ta2):=zA alp0
     clear alp0
     by_cases sta2:ta2.size≤40
     case neg =>
       replace sta2:40 < ta2.size:=by omega
       clear hw
       go_wp2_with (go_at_call 13;((with_reducible refine (zK hb (known5_any _ (R.below hb))).mono ?_);clear hb;rintro e w9 ⟨rfl,hk,hb⟩;clear hk))
       go_ret
       exact ⟨rfl,hb⟩
     clear hb
     go_wp2
     go_roundw
     case rel =>
       refine ⟨Or.inr (Or.inr (Or.inr (Or.inl ⟨rfl,sta0,sta1,sta2⟩))),?_⟩
       repeat' (first | exact hw | refine Below.alloc ?_ hw.size _ | refine Below.setCell ?_ hw.size _)
     case measure=>simp [intOf]
   · have alp0:=zB hw HAlp0.out
     have hb:=HB.out.trans (hw.mono HB.out.size)
     have xl0:wr.cell? ⟨_,3,none⟩=some (Value.string tb0):=zA alp0
     clear alp0
     by_cases stb0:tb0.size≤40
     case neg =>
       replace stb0:40 < tb0.size:=by omega
       clear hw
       go_wp2_with (go_at_call 13;((with_reducible refine (zK hb (known5_any _ (R.below hb))).mono ?_);clear hb;rintro e w9 ⟨rfl,hk,hb⟩;clear hk))
       go_ret
       exact ⟨rfl,hb⟩
     clear hb
     go_wp2
     go_roundw
     case rel =>
       refine ⟨Or.inr (Or.inr (Or.inr (Or.inr (Or.inl ⟨rfl,sta0,sta1,sta2,stb0⟩)))),?_⟩
       repeat' (first | exact hw | refine Below.alloc ?_ hw.size _ | refine Below.setCell ?_ hw.size _)
     case measure=>simp [intOf]
   · have alp0:=zB hw HAlp0.out
     have hb:=HB.out.trans (hw.mono HB.out.size)
     have xl0:wr.cell? ⟨_,4,none⟩=some (Value.string tb1):=zA alp0
     clear alp0
     by_cases stb1:tb1.size≤40
     case neg =>
       replace stb1:40 < tb1.size:=by omega
       clear hw
       go_wp2_with (go_at_call 13;((with_reducible refine (zK hb (known5_any _ (R.below hb))).mono ?_);clear hb;rintro e w9 ⟨rfl,hk,hb⟩;clear hk))
       go_ret
       exact ⟨rfl,hb⟩
     clear hb
     go_wp2
     go_roundw
     case rel =>
       refine ⟨Or.inr (Or.inr (Or.inr (Or.inr (Or.inr (Or.inl ⟨rfl,sta0,sta1,sta2,stb0,stb1⟩))))),?_⟩
       repeat' (first | exact hw | refine Below.alloc ?_ hw.size _ | refine Below.setCell ?_ hw.size _)
     case measure=>simp [intOf]
   · have alp0:=zB hw HAlp0.out
     have hb:=HB.out.trans (hw.mono HB.out.size)
     have xl0:wr.cell? ⟨_,5,none⟩=some (Value.string tb2):=zA alp0
     clear alp0
     by_cases stb2:tb2.size≤40
     case neg =>
       replace stb2:40 < tb2.size:=by omega
       clear hw
       go_wp2_with (go_at_call 13;((with_reducible refine (zK hb (known5_any _ (R.below hb))).mono ?_);clear hb;rintro e w9 ⟨rfl,hk,hb⟩;clear hk))
       go_ret
       exact ⟨rfl,hb⟩
     clear hb
     go_wp2
     go_roundw
     case rel =>
       refine ⟨Or.inr (Or.inr (Or.inr (Or.inr (Or.inr (Or.inr (⟨rfl,sta0,sta1,sta2,stb0,stb1,stb2⟩)))))),?_⟩
       repeat' (first | exact hw | refine Below.alloc ?_ hw.size _ | refine Below.setCell ?_ hw.size _)
     case measure=>simp [intOf]
   · exact absurd ⟨sta0,sta1,sta2,stb0,stb1,stb2⟩ HL.out
theorem lns_1  (ta0 ta1 ta2 tb0 tb1 tb2:ByteArray) (el em w2 w1:Int) (_sta0:ta0.size≤40) (_sta1:ta1.size≤40) (_sta2:ta2.size≤40) (_stb0:tb0.size≤40) (_stb1:tb1.size≤40) (_stb2:tb2.size≤40) (cL:CV 106 #[.agg #[.string ta0,.string ta1,.string ta2]] (.int .i64 el)) (cM:CV 106 #[.agg #[.string tb0,.string tb1,.string tb2]] (.int .i64 em)) (oL:CV 60 #[.agg #[.string ta0,.string ta1,.string ta2]] (.int .i64 el)) (oM:CV 60 #[.agg #[.string tb0,.string tb1,.string tb2]] (.int .i64 em)) (cC:CV 59 #[.agg #[.string ta0,.string ta1,.string ta2],.agg #[.string ⟨#[49]⟩,.string ⟨#[]⟩],.agg #[.string ⟨#[48]⟩,.string ⟨#[48]⟩]] (.tuple #[.string ⟨#[]⟩,.bool false,.int .i64 w2])) (h1:firstNZ [el,em]=w1) (h2:firstNZ [el,2]=w2) (n1:w1≠0) (w:World) (R:EnvV w) :
   Calls Tryz.prog 9 #[.agg #[.string ta0,.string ta1,.string ta2],.agg #[.string tb0,.string tb1,.string tb2]] w (Ret w (.bool true)):=by
 have c1:=known5_any
 have c2:=oL
 have c3:=oM
 have c4:=fun (w:World) (R:EnvV w)=>firstErr2 el em w1 h1 w R.toEnvR
 have c5:=meet_err ta0 ta1 ta2 tb0 tb1 tb2 el em w1 cL cM h1 n1
 have c7:=fun (w:World) (R:EnvV w)=>firstErr2 el 2 w2 h2 w R.toEnvR
 have c8:=refAt_0_0
 have c9:=cC
 have tw1:(w1 == 0)=false:=beq_eq_false_iff_ne.2 n1
 have C1:=Lib.hid c1
 have C2:=Lib.hid c2
 have C3:=Lib.hid c3
 have C4:=Lib.hid c4
 have C5:=Lib.hid c5
 have C7:=Lib.hid c7
 have C8:=Lib.hid c8
 have C9:=Lib.hid c9
 clear c1 c2 c3 c4 c5 c7 c8 c9 cL cM oL oM cC h1 h2
 have hb:=Below.refl w.heap.size w
 go_enter Tryz.func9,Tryz.ntmps9
 go_upto_region 1 with fail
 refine wp_alloc2 (fun w1 a0 a1 hk=>?_)
 replace hb:=hb.trans (hk.mono hb.size)
 clear hk
 obtain ⟨Aa,Ab,Ac⟩:=ce3 a0
 obtain ⟨Aj,Ak,Al⟩:=ce3 a1
 go_wp2
 refine wp_alloc1 (fun w1 alp0 hk=>?_)
 clear Aa Ab Ac Aj Ak Al
 replace a0:=zB hk a0
 replace a1:=zB hk a1
 obtain ⟨Aa,Ab,Ac⟩:=ce3 a0
 obtain ⟨Aj,Ak,Al⟩:=ce3 a1
 replace hb:=hb.trans (hk.mono hb.size)
 clear hk
 obtain ⟨Ad,Ae,Af,Ag,Ah,Ai⟩:=ce6 alp0
 have HA0:=Lib.hid a0
 have HA1:=Lib.hid a1
 have HAlp0:=Lib.hid alp0
 have HB:=Lib.hid hb
 clear hb Aa Ab Ac Aj Ak Al Ad Ae Af Ag Ah Ai a0 a1 alp0
 go_loopw [28] (fun i wr=>(i = .int .i64 0∨i = .int .i64 1∨i = .int .i64 2∨i = .int .i64 3∨i = .int .i64 4∨i = .int .i64 5∨i = .int .i64 6)∧Below w1.heap.size w1 wr) (fun i _=>6 - (intOf i).toNat)
 case atStart=>exact ⟨Or.inl rfl,Below.refl _ _⟩
 case round =>
   obtain ⟨rfl | rfl | rfl | rfl | rfl | rfl | rfl,hw⟩:=hrel
   · have alp0:=zB hw HAlp0.out
     have xl0:wr.cell? ⟨_,0,none⟩=some (Value.string ta0):=zA alp0
     clear alp0
     go_wp2
     go_roundw
     case rel =>
       refine ⟨Or.inr (Or.inl rfl),?_⟩
       repeat' (first | exact hw | refine Below.alloc ?_ hw.size _ | refine Below.setCell ?_ hw.size _)
     case measure=>simp [intOf]
   · have alp0:=zB hw HAlp0.out
     have xl0:wr.cell? ⟨_,1,none⟩=some (Value.string ta1):=zA alp0
     clear alp0
     go_wp2
     go_roundw
     case rel =>
       refine ⟨Or.inr (Or.inr (Or.inl rfl)),?_⟩
       repeat' (first | exact hw | refine Below.alloc ?_ hw.size _ | refine Below.setCell ?_ hw.size _)
     case measure=>simp [intOf]
   · have alp0:=zB hw HAlp0.out
     have xl0:wr.cell? ⟨_,2,none⟩=some (Value.string ta2):=zA alp0
     clear alp0
     go_wp2
     go_roundw
     case rel =>
       refine ⟨Or.inr (Or.inr (Or.inr (Or.inl rfl))),?_⟩
       repeat' (first | exact hw | refine Below.alloc ?_ hw.size _ | refine Below.setCell ?_ hw.size _)
     case measure=>simp [intOf]
   · have alp0:=zB hw HAlp0.out
     have xl0:wr.cell? ⟨_,3,none⟩=some (Value.string tb0):=zA alp0
     clear alp0
     go_wp2
     go_roundw
     case rel =>
       refine ⟨Or.inr (Or.inr (Or.inr (Or.inr (Or.inl rfl)))),?_⟩
       repeat' (first | exact hw | refine Below.alloc ?_ hw.size _ | refine Below.setCell ?_ hw.size _)
     case measure=>simp [intOf]
   · have alp0:=zB hw HAlp0.out
     have xl0:wr.cell? ⟨_,4,none⟩=some (Value.string tb1):=zA alp0
     clear alp0
     go_wp2
     go_roundw
     case rel =>
       refine ⟨Or.inr (Or.inr (Or.inr (Or.inr (Or.inr (Or.inl rfl))))),?_⟩
       repeat' (first | exact hw | refine Below.alloc ?_ hw.size _ | refine Below.setCell ?_ hw.size _)
     case measure=>simp [intOf]
   · have alp0:=zB hw HAlp0.out
     have xl0:wr.cell? ⟨_,5,none⟩=some (Value.string tb2):=zA alp0
     clear alp0
     go_wp2
     go_roundw
     case rel =>
       refine ⟨Or.inr (Or.inr (Or.inr (Or.inr (Or.inr (Or.inr (rfl)))))),?_⟩
       repeat' (first | exact hw | refine Below.alloc ?_ hw.size _ | refine Below.setCell ?_ hw.size _)
     case measure=>simp [intOf]
   · obtain ⟨w1,ew⟩:∃ w1,w1=wr:=⟨_,rfl⟩
     subst ew
     have hb:=HB.out.trans (hw.mono HB.out.size)
     have a0:=zB hw HA0.out
     obtain ⟨Aa,Ab,Ac⟩:=ce3 a0
     have a1:=zB hw HA1.out
     obtain ⟨Aj,Ak,Al⟩:=ce3 a1
     have alp0:=zB hw HAlp0.out
     obtain ⟨Ad,Ae,Af,Ag,Ah,Ai⟩:=ce6 alp0
     clear hw
     go_upto_region 9 with (go_at_call 13;with_reducible refine (chVB hb R C1).mono ?_;clear hb;rintro e w1 ⟨rfl,hk,hb⟩;clear Aa Ab Ac Aj Ak Al Ad Ae Af Ag Ah Ai;replace a0:=zB hk a0;replace a1:=zB hk a1;replace alp0:=zB hk alp0;obtain ⟨Aa,Ab,Ac⟩:=ce3 a0;obtain ⟨Aj,Ak,Al⟩:=ce3 a1;obtain ⟨Ad,Ae,Af,Ag,Ah,Ai⟩:=ce6 alp0;clear hk)
     obtain ⟨Ap,Aq,Ar⟩:=cy3 a0
     obtain ⟨A2,A3,A4⟩:=cy3 a1
     obtain ⟨As,At,Au,Av,Aw,Ax⟩:=cy6 alp0
     have Ay:=rrV C2 R hb
     have Az:=rrV C3 R hb
     refine wp_region_tail_below 4 (by first | assumption | kernel_rfl) (by kernel_rfl) ?_
     simp only [List.take_succ_cons,List.take_zero,List.drop_succ_cons,List.drop_zero]
     repeat (quiet_step (first | (with_reducible exact Ay.out _ _) | (with_reducible exact Az.out _ _)))
     refine wpQuiet_nil ?_
     intro w1 hw'
     obtain ⟨hk,hb⟩:=zQ hb hw'
     clear Aa Ab Ac Aj Ak Al Ad Ae Af Ag Ah Ai
     replace a0:=zB hk a0
     replace a1:=zB hk a1
     replace alp0:=zB hk alp0
     obtain ⟨Aa,Ab,Ac⟩:=ce3 a0
     obtain ⟨Aj,Ak,Al⟩:=ce3 a1
     obtain ⟨Ad,Ae,Af,Ag,Ah,Ai⟩:=ce6 alp0
     clear Ay Az Ap Aq Ar A2 A3 A4 As At Au Av Aw Ax
     clear hk hw'
     go_upto_region 12 with ((first | (go_at_call 21;with_reducible refine (zL hb (C4.out _ (R.below hb))).mono ?_) | (go_at_call 57;with_reducible refine (chVB hb R C5).mono ?_));clear hb;rintro e w1 ⟨rfl,hk,hb⟩;clear Aa Ab Ac Aj Ak Al Ad Ae Af Ag Ah Ai;replace a0:=zB hk a0;replace a1:=zB hk a1;replace alp0:=zB hk alp0;obtain ⟨Aa,Ab,Ac⟩:=ce3 a0;obtain ⟨Aj,Ak,Al⟩:=ce3 a1;obtain ⟨Ad,Ae,Af,Ag,Ah,Ai⟩:=ce6 alp0;clear hk)
     clear Aj Ak Al a1
     refine wp_alloc1 (fun w1 Am hk=>?_)
     clear Aa Ab Ac Ad Ae Af Ag Ah Ai
     replace a0:=zB hk a0
     replace alp0:=zB hk alp0
     obtain ⟨Aa,Ab,Ac⟩:=ce3 a0
     obtain ⟨Ad,Ae,Af,Ag,Ah,Ai⟩:=ce6 alp0
     replace hb:=hb.trans (hk.mono hb.size)
     clear hk
     obtain ⟨An,Ao⟩:=ce2 Am
     go_upto_region 15 with ((first | (go_at_call 60;with_reducible refine (chVB hb R C2).mono ?_) | (go_at_call 21;with_reducible refine (zL hb (C7.out _ (R.below hb))).mono ?_));clear hb;rintro e w1 ⟨rfl,hk,hb⟩;clear Aa Ab Ac An Ao Ad Ae Af Ag Ah Ai;replace a0:=zB hk a0;replace Am:=zB hk Am;replace alp0:=zB hk alp0;obtain ⟨Aa,Ab,Ac⟩:=ce3 a0;obtain ⟨An,Ao⟩:=ce2 Am;obtain ⟨Ad,Ae,Af,Ag,Ah,Ai⟩:=ce6 alp0;clear hk)
     obtain ⟨Ap,Aq,Ar⟩:=cy3 a0
     obtain ⟨A5,A6⟩:=cy2 Am
     obtain ⟨As,At,Au,Av,Aw,Ax⟩:=cy6 alp0
     have A0:=rrV C8 R hb
     have A1:=rrV C9 R hb
     refine wp_region_quiet_below (by first | assumption | kernel_rfl) (by kernel_rfl) ?_
     repeat (quiet_step (first | (with_reducible exact A0.out _ _) | (with_reducible exact A1.out _ _)))
     refine wpQuiet_nil ?_
     intro w1 hw'
     obtain ⟨hk,hb⟩:=zQ hb hw'
     clear Aa Ab Ac An Ao Ad Ae Af Ag Ah Ai
     replace a0:=zB hk a0
     replace Am:=zB hk Am
     replace alp0:=zB hk alp0
     obtain ⟨Aa,Ab,Ac⟩:=ce3 a0
     obtain ⟨An,Ao⟩:=ce2 Am
     obtain ⟨Ad,Ae,Af,Ag,Ah,Ai⟩:=ce6 alp0
     clear A0 A1 Ap Aq Ar A5 A6 As At Au Av Aw Ax
     clear hk hw'
     go_wp2
     first | go_ret | go_ret2 | go_ret3
     exact ⟨rfl,hb⟩
theorem lns_2  (ta0 ta1 ta2 tb0 tb1 tb2:ByteArray) (el em w2:Int) (_sta0:ta0.size≤40) (_sta1:ta1.size≤40) (_sta2:ta2.size≤40) (_stb0:tb0.size≤40) (_stb1:tb1.size≤40) (_stb2:tb2.size≤40) (_cL:CV 106 #[.agg #[.string ta0,.string ta1,.string ta2]] (.int .i64 el)) (_cM:CV 106 #[.agg #[.string tb0,.string tb1,.string tb2]] (.int .i64 em)) (oL:CV 60 #[.agg #[.string ta0,.string ta1,.string ta2]] (.int .i64 el)) (oM:CV 60 #[.agg #[.string tb0,.string tb1,.string tb2]] (.int .i64 em)) (cC:CV 59 #[.agg #[.string ta0,.string ta1,.string ta2],.agg #[.string ⟨#[49]⟩,.string ⟨#[]⟩],.agg #[.string ⟨#[48]⟩,.string ⟨#[48]⟩]] (.tuple #[.string ⟨#[]⟩,.bool false,.int .i64 w2])) (h1:firstNZ [el,em]=0) (h2:firstNZ [el,2]=w2) (w:World) (R:EnvV w) :
   Calls Tryz.prog 9 #[.agg #[.string ta0,.string ta1,.string ta2],.agg #[.string tb0,.string tb1,.string tb2]] w (Ret w (.bool true)):=by
 have c1:=known5_any
 have c2:=oL
 have c3:=oM
 have c4:=fun (w:World) (R:EnvV w)=>firstErr2 el em 0 h1 w R.toEnvR
 have c6:=fun (w:World) (R:EnvV w)=>firstErr2 el 2 w2 h2 w R.toEnvR
 have c7:=refAt_0_0
 have c8:=cC
 have C1:=Lib.hid c1
 have C2:=Lib.hid c2
 have C3:=Lib.hid c3
 have C4:=Lib.hid c4
 have C6:=Lib.hid c6
 have C7:=Lib.hid c7
 have C8:=Lib.hid c8
 clear c1 c2 c3 c4 c6 c7 c8 _cL _cM oL oM cC h1 h2
 have hb:=Below.refl w.heap.size w
 go_enter Tryz.func9,Tryz.ntmps9
 go_upto_region 1 with fail
 refine wp_alloc2 (fun w1 a0 a1 hk=>?_)
 replace hb:=hb.trans (hk.mono hb.size)
 clear hk
 obtain ⟨Aa,Ab,Ac⟩:=ce3 a0
 obtain ⟨Aj,Ak,Al⟩:=ce3 a1
 go_wp2
 refine wp_alloc1 (fun w1 alp0 hk=>?_)
 clear Aa Ab Ac Aj Ak Al
 replace a0:=zB hk a0
 replace a1:=zB hk a1
 obtain ⟨Aa,Ab,Ac⟩:=ce3 a0
 obtain ⟨Aj,Ak,Al⟩:=ce3 a1
 replace hb:=hb.trans (hk.mono hb.size)
 clear hk
 obtain ⟨Ad,Ae,Af,Ag,Ah,Ai⟩:=ce6 alp0
 have HA0:=Lib.hid a0
 have HA1:=Lib.hid a1
 have HAlp0:=Lib.hid alp0
 have HB:=Lib.hid hb
 clear hb Aa Ab Ac Aj Ak Al Ad Ae Af Ag Ah Ai a0 a1 alp0
 go_loopw [28] (fun i wr=>(i = .int .i64 0∨i = .int .i64 1∨i = .int .i64 2∨i = .int .i64 3∨i = .int .i64 4∨i = .int .i64 5∨i = .int .i64 6)∧Below w1.heap.size w1 wr) (fun i _=>6 - (intOf i).toNat)
 case atStart=>exact ⟨Or.inl rfl,Below.refl _ _⟩
 case round =>
   obtain ⟨rfl | rfl | rfl | rfl | rfl | rfl | rfl,hw⟩:=hrel
   · have alp0:=zB hw HAlp0.out
     have xl0:wr.cell? ⟨_,0,none⟩=some (Value.string ta0):=zA alp0
     clear alp0
     go_wp2
     go_roundw
     case rel =>
       refine ⟨Or.inr (Or.inl rfl),?_⟩
       repeat' (first | exact hw | refine Below.alloc ?_ hw.size _ | refine Below.setCell ?_ hw.size _)
     case measure=>simp [intOf]
   · have alp0:=zB hw HAlp0.out
     have xl0:wr.cell? ⟨_,1,none⟩=some (Value.string ta1):=zA alp0
     clear alp0
     go_wp2
     go_roundw
     case rel =>
       refine ⟨Or.inr (Or.inr (Or.inl rfl)),?_⟩
       repeat' (first | exact hw | refine Below.alloc ?_ hw.size _ | refine Below.setCell ?_ hw.size _)
     case measure=>simp [intOf]
   · have alp0:=zB hw HAlp0.out
     have xl0:wr.cell? ⟨_,2,none⟩=some (Value.string ta2):=zA alp0
     clear alp0
     go_wp2
     go_roundw
     case rel =>
       refine ⟨Or.inr (Or.inr (Or.inr (Or.inl rfl))),?_⟩
       repeat' (first | exact hw | refine Below.alloc ?_ hw.size _ | refine Below.setCell ?_ hw.size _)
     case measure=>simp [intOf]
   · have alp0:=zB hw HAlp0.out
     have xl0:wr.cell? ⟨_,3,none⟩=some (Value.string tb0):=zA alp0
     clear alp0
     go_wp2
     go_roundw
     case rel =>
       refine ⟨Or.inr (Or.inr (Or.inr (Or.inr (Or.inl rfl)))),?_⟩
       repeat' (first | exact hw | refine Below.alloc ?_ hw.size _ | refine Below.setCell ?_ hw.size _)
     case measure=>simp [intOf]
   · have alp0:=zB hw HAlp0.out
     have xl0:wr.cell? ⟨_,4,none⟩=some (Value.string tb1):=zA alp0
     clear alp0
     go_wp2
     go_roundw
     case rel =>
       refine ⟨Or.inr (Or.inr (Or.inr (Or.inr (Or.inr (Or.inl rfl))))),?_⟩
       repeat' (first | exact hw | refine Below.alloc ?_ hw.size _ | refine Below.setCell ?_ hw.size _)
     case measure=>simp [intOf]
   · have alp0:=zB hw HAlp0.out
     have xl0:wr.cell? ⟨_,5,none⟩=some (Value.string tb2):=zA alp0
     clear alp0
     go_wp2
     go_roundw
     case rel =>
       refine ⟨Or.inr (Or.inr (Or.inr (Or.inr (Or.inr (Or.inr (rfl)))))),?_⟩
       repeat' (first | exact hw | refine Below.alloc ?_ hw.size _ | refine Below.setCell ?_ hw.size _)
     case measure=>simp [intOf]
   · obtain ⟨w1,ew⟩:∃ w1,w1=wr:=⟨_,rfl⟩
     subst ew
     have hb:=HB.out.trans (hw.mono HB.out.size)
     have a0:=zB hw HA0.out
     obtain ⟨Aa,Ab,Ac⟩:=ce3 a0
     have a1:=zB hw HA1.out
     obtain ⟨Aj,Ak,Al⟩:=ce3 a1
     have alp0:=zB hw HAlp0.out
     obtain ⟨Ad,Ae,Af,Ag,Ah,Ai⟩:=ce6 alp0
     clear hw
     go_upto_region 9 with (go_at_call 13;with_reducible refine (chVB hb R C1).mono ?_;clear hb;rintro e w1 ⟨rfl,hk,hb⟩;clear Aa Ab Ac Aj Ak Al Ad Ae Af Ag Ah Ai;replace a0:=zB hk a0;replace a1:=zB hk a1;replace alp0:=zB hk alp0;obtain ⟨Aa,Ab,Ac⟩:=ce3 a0;obtain ⟨Aj,Ak,Al⟩:=ce3 a1;obtain ⟨Ad,Ae,Af,Ag,Ah,Ai⟩:=ce6 alp0;clear hk)
     obtain ⟨Am,An,Ao⟩:=cy3 a0
     obtain ⟨Az,A0,A1⟩:=cy3 a1
     obtain ⟨Ap,Aq,Ar,As,At,Au⟩:=cy6 alp0
     have Av:=rrV C2 R hb
     have Aw:=rrV C3 R hb
     refine wp_region_tail_below 4 (by first | assumption | kernel_rfl) (by kernel_rfl) ?_
     simp only [List.take_succ_cons,List.take_zero,List.drop_succ_cons,List.drop_zero]
     repeat (quiet_step (first | (with_reducible exact Av.out _ _) | (with_reducible exact Aw.out _ _)))
     refine wpQuiet_nil ?_
     intro w1 hw'
     obtain ⟨hk,hb⟩:=zQ hb hw'
     clear Aa Ab Ac Aj Ak Al Ad Ae Af Ag Ah Ai
     replace a0:=zB hk a0
     replace a1:=zB hk a1
     replace alp0:=zB hk alp0
     obtain ⟨Aa,Ab,Ac⟩:=ce3 a0
     obtain ⟨Aj,Ak,Al⟩:=ce3 a1
     obtain ⟨Ad,Ae,Af,Ag,Ah,Ai⟩:=ce6 alp0
     clear Av Aw Am An Ao Az A0 A1 Ap Aq Ar As At Au
     clear hk hw'
     go_upto_region 15 with (first | (go_at_call 21;with_reducible refine (zL hb (C4.out _ (R.below hb))).mono ?_;clear hb;rintro e w1 ⟨rfl,hk,hb⟩;clear Aa Ab Ac Aj Ak Al Ad Ae Af Ag Ah Ai;replace a0:=zB hk a0;replace a1:=zB hk a1;replace alp0:=zB hk alp0;obtain ⟨Aa,Ab,Ac⟩:=ce3 a0;obtain ⟨Aj,Ak,Al⟩:=ce3 a1;obtain ⟨Ad,Ae,Af,Ag,Ah,Ai⟩:=ce6 alp0;clear hk) | ((first | (go_at_call 21;with_reducible refine (zL hb (C6.out _ (R.below hb))).mono ?_) | (go_at_call 60;with_reducible refine (chVB hb R C2).mono ?_));clear hb;rintro e w1 ⟨rfl,hk,hb⟩;clear Aa Ab Ac Ad Ae Af Ag Ah Ai;replace a0:=zB hk a0;replace alp0:=zB hk alp0;obtain ⟨Aa,Ab,Ac⟩:=ce3 a0;obtain ⟨Ad,Ae,Af,Ag,Ah,Ai⟩:=ce6 alp0;clear hk))
     clear Aj Ak Al a1
     obtain ⟨Am,An,Ao⟩:=cy3 a0
     obtain ⟨Ap,Aq,Ar,As,At,Au⟩:=cy6 alp0
     have Ax:=rrV C7 R hb
     have Ay:=rrV C8 R hb
     refine wp_region_quiet_below (by first | assumption | kernel_rfl) (by kernel_rfl) ?_
     repeat (quiet_step (first | (with_reducible exact Ax.out _ _) | (with_reducible exact Ay.out _ _)))
     refine wpQuiet_nil ?_
     intro w1 hw'
     obtain ⟨hk,hb⟩:=zQ hb hw'
     clear Aa Ab Ac Ad Ae Af Ag Ah Ai
     replace a0:=zB hk a0
     replace alp0:=zB hk alp0
     obtain ⟨Aa,Ab,Ac⟩:=ce3 a0
     obtain ⟨Ad,Ae,Af,Ag,Ah,Ai⟩:=ce6 alp0
     clear Ax Ay Am An Ao Ap Aq Ar As At Au
     clear hk hw'
     go_wp2
     first | go_ret | go_ret2 | go_ret3
     exact ⟨rfl,hb⟩
theorem line_code (a b c:ByteArray) (za:a.size≤100000) (zb:b.size≤100000) (zc:c.size≤100000):∃ e:Int,
   (∀ w,EnvV w→Calls Tryz.prog 106 #[.agg #[.string a,.string b,.string c]] w fun e' w' => e' = .returned (.int .i64 e)∧Below w.heap.size w w') ∧
   (∀ w,EnvV w→Calls Tryz.prog 60 #[.agg #[.string a,.string b,.string c]] w fun e' w' => e' = .returned (.int .i64 e)∧Below w.heap.size w w'):=by
 by_cases h:IsRat a.data.toList∧IsRat b.data.toList∧IsRat c.data.toList
 · obtain ⟨h0,h1,h2⟩:=h
   obtain ⟨p,rfl,r0⟩:=rat_of h0
   obtain ⟨q,rfl,r1⟩:=rat_of h1
   obtain ⟨s,rfl,r2⟩:=rat_of h2
   by_cases i:p=0
   · by_cases j:q=0
     · exact ⟨17,fun w R=>checkLine_2 p q s i j r0 r1 r2 w R,fun w R=>ofLine_2 p q s i j r0 r1 r2 w R⟩
     · exact ⟨0,fun w R=>checkLine_1 p q s i j r0 r1 r2 w R,fun w R=>ofLine_1 p q s i j r0 r1 r2 w R⟩
   · exact ⟨0,fun w R=>checkLine_0 p q s i r0 r1 r2 w R,fun w R=>ofLine_0 p q s i r0 r1 r2 w R⟩
 · exact ⟨2,fun w R=>checkLine_bad a b c h za zb zc w R,fun w R=>ofLine_bad a b c h za zb zc w R⟩
theorem lawLineErrors (ta0 ta1 ta2 tb0 tb1 tb2:ByteArray) (mta0:ta0.size≤9223372036854775807) (mta1:ta1.size≤9223372036854775807) (mta2:ta2.size≤9223372036854775807) (mtb0:tb0.size≤9223372036854775807) (mtb1:tb1.size≤9223372036854775807) (mtb2:tb2.size≤9223372036854775807) (w:World) (R:EnvV w) :
   Calls Tryz.prog 9 #[.agg #[.string ta0,.string ta1,.string ta2],.agg #[.string tb0,.string tb1,.string tb2]] w (Ret w (.bool true)):=by
 by_cases hl:ta0.size≤40∧ta1.size≤40∧ta2.size≤40∧tb0.size≤40∧tb1.size≤40∧tb2.size≤40
 case neg=>exact linesLong ta0 ta1 ta2 tb0 tb1 tb2 mta0 mta1 mta2 mtb0 mtb1 mtb2 hl w R
 obtain ⟨sta0,sta1,sta2,stb0,stb1,stb2⟩:=hl
 have zta0:ta0.size≤100000:=by omega
 have zta1:ta1.size≤100000:=by omega
 have zta2:ta2.size≤100000:=by omega
 have ztb0:tb0.size≤100000:=by omega
 have ztb1:tb1.size≤100000:=by omega
 have ztb2:tb2.size≤100000:=by omega
 obtain ⟨el,cL,oL⟩:=line_code ta0 ta1 ta2 zta0 zta1 zta2
 obtain ⟨em,cM,oM⟩:=line_code tb0 tb1 tb2 ztb0 ztb1 ztb2
 have cb:=fun (w:World) (R:EnvV w)=>check2_raw ⟨#[49]⟩ ⟨#[]⟩ 2 (fun h=>absurd h.2 not_rat_empty) (fun _=>rfl) (by decide) (by decide) w R
 have cc:=fun (w:World) (R:EnvV w)=>check2_raw ⟨#[48]⟩ ⟨#[48]⟩ 0 (fun _=>rfl) (fun h=>absurd ⟨isRat_0,isRat_0⟩ h) (by decide) (by decide) w R
 obtain ⟨w2,h2⟩:∃ w2,firstNZ [el,2]=w2:=⟨_,rfl⟩
 have n2:w2≠0:=by
   rw [← h2];unfold firstNZ;split
   · decide
   · assumption
 have cC:=fun (w:World) (R:EnvV w)=>cut_err ta0 ta1 ta2 ⟨#[49]⟩ ⟨#[]⟩ ⟨#[48]⟩ ⟨#[48]⟩ el 2 0 2 w2 cL cb cc rfl h2 n2 w R
 obtain ⟨w1,h1⟩:∃ w1,firstNZ [el,em]=w1:=⟨_,rfl⟩
 by_cases n1:w1=0
 · subst n1
   exact lns_2 ta0 ta1 ta2 tb0 tb1 tb2 el em w2 sta0 sta1 sta2 stb0 stb1 stb2 cL cM oL oM cC h1 h2 w R
 · exact lns_1 ta0 ta1 ta2 tb0 tb1 tb2 el em w2 w1 sta0 sta1 sta2 stb0 stb1 stb2 cL cM oL oM cC h1 h2 n1 w R
end Go.Proofs.YtpennccflalobaaGreatDoor.Kl
