import Derived.Test.YtpennccflalobaaGreatDoorKlVPointsVRaw
namespace Go.Proofs.YtpennccflalobaaGreatDoor.Kl
open Go Go.RowKit
set_option maxRecDepth 100000
set_option maxHeartbeats 8000000
theorem firstNZ_or {a b:Int} (h:a≠0):firstNZ [a,b]=a:=by unfold firstNZ;rw [if_neg h]
theorem pointsLong  (ta0 ta1 tb0 tb1 tc0 tc1:ByteArray) (_mta0:ta0.size≤9223372036854775807) (_mta1:ta1.size≤9223372036854775807) (_mtb0:tb0.size≤9223372036854775807) (_mtb1:tb1.size≤9223372036854775807) (_mtc0:tc0.size≤9223372036854775807) (_mtc1:tc1.size≤9223372036854775807) (hl:¬ (ta0.size≤40∧ta1.size≤40∧tb0.size≤40∧tb1.size≤40∧tc0.size≤40∧tc1.size≤40)) (w:World) (R:EnvV w) :
   Calls Tryz.prog 7 #[.agg #[.string ta0,.string ta1],.agg #[.string tb0,.string tb1],.agg #[.string tc0,.string tc1]] w (Ret w (.bool true)):=by
 have hb:=Below.refl w.heap.size w
 go_enter Tryz.func7,Tryz.ntmps7
 go_upto_region 1 with fail
 refine wp_alloc3 (fun w1 a0 a1 a2 hk=>?_)
 replace hb:=hb.trans (hk.mono hb.size)
 clear hk
 obtain ⟨Aa,Ab⟩:=ce2 a0
 obtain ⟨Ac,Ad⟩:=ce2 a1
 obtain ⟨Ae,Af⟩:=ce2 a2
 go_wp2
 refine wp_alloc1 (fun w1 alp0 hk=>?_)
 replace hb:=hb.trans (hk.mono hb.size)
 clear hk
 have HAlp0:=Lib.hid alp0
 have HB:=Lib.hid hb
 have HL:=Lib.hid hl
 clear hb alp0 hl a0 a1 a2 Aa Ab Ac Ad Ae Af
 go_loopw [25] (fun i wr=>((i = .int .i64 0)∨(i = .int .i64 1∧ta0.size≤40∧ta1.size≤40)∨(i = .int .i64 2∧ta0.size≤40∧ta1.size≤40∧tb0.size≤40∧tb1.size≤40)∨(i = .int .i64 3∧ta0.size≤40∧ta1.size≤40∧tb0.size≤40∧tb1.size≤40∧tc0.size≤40∧tc1.size≤40))∧Below w1.heap.size w1 wr) (fun i _=>3 - (intOf i).toNat)
 case atStart=>exact ⟨Or.inl rfl,Below.refl _ _⟩
 case round =>
   obtain ⟨rfl | ⟨rfl,sta0,sta1⟩ | ⟨rfl,sta0,sta1,stb0,stb1⟩ | ⟨rfl,sta0,sta1,stb0,stb1,stc0,stc1⟩,hw⟩:=hrel
   · have alp0:=zB hw HAlp0.out
     have hb:=HB.out.trans (hw.mono HB.out.size)
     have xl0:wr.cell? ⟨_,0,none⟩=some (Value.string ta0):=zA alp0
     have xl1:wr.cell? ⟨_,1,none⟩=some (Value.string ta1):=zA alp0
     clear alp0
     by_cases sta0:ta0.size≤40
     case neg =>
       replace sta0:40 < ta0.size:=by omega
       clear hw
       go_wp2_with (go_at_call 13;(refine calls_alloc1 (fun w8 a9 hk=>?_));replace hb:=hb.trans (hk.mono hb.size);clear hk a9;((with_reducible refine (zK hb (known5_any _ (R.below hb))).mono ?_);clear hb;rintro e w9 ⟨rfl,hk,hb⟩;clear hk))
       go_ret
       exact ⟨rfl,hb⟩
     by_cases sta1:ta1.size≤40
     case neg =>
       replace sta1:40 < ta1.size:=by omega
       clear hw
       go_wp2_with (go_at_call 13;(refine calls_alloc1 (fun w8 a9 hk=>?_));replace hb:=hb.trans (hk.mono hb.size);clear hk a9;((with_reducible refine (zK hb (known5_any _ (R.below hb))).mono ?_);clear hb;rintro e w9 ⟨rfl,hk,hb⟩;clear hk))
       go_ret
       exact ⟨rfl,hb⟩
     clear hb
     go_wp2
     go_roundw
     case rel =>
       refine ⟨Or.inr (Or.inl ⟨rfl,sta0,sta1⟩),?_⟩
       repeat' (first | exact hw | refine Below.alloc ?_ hw.size _ | refine Below.setCell ?_ hw.size _)
     case measure=>simp [intOf]
   · have alp0:=zB hw HAlp0.out
     have hb:=HB.out.trans (hw.mono HB.out.size)
     have xl0:wr.cell? ⟨_,2,none⟩=some (Value.string tb0):=zA alp0
     have xl1:wr.cell? ⟨_,3,none⟩=some (Value.string tb1):=zA alp0
     clear alp0
     by_cases stb0:tb0.size≤40
     case neg =>
       replace stb0:40 < tb0.size:=by omega
       clear hw
       go_wp2_with (go_at_call 13;(refine calls_alloc1 (fun w8 a9 hk=>?_));replace hb:=hb.trans (hk.mono hb.size);clear hk a9;((with_reducible refine (zK hb (known5_any _ (R.below hb))).mono ?_);clear hb;rintro e w9 ⟨rfl,hk,hb⟩;clear hk))
       go_ret
       exact ⟨rfl,hb⟩
     by_cases stb1:tb1.size≤40
     case neg =>
       replace stb1:40 < tb1.size:=by omega
       clear hw
       go_wp2_with (go_at_call 13;(refine calls_alloc1 (fun w8 a9 hk=>?_));replace hb:=hb.trans (hk.mono hb.size);clear hk a9;((with_reducible refine (zK hb (known5_any _ (R.below hb))).mono ?_);clear hb;rintro e w9 ⟨rfl,hk,hb⟩;clear hk))
       go_ret
       exact ⟨rfl,hb⟩
     clear hb
     go_wp2
     go_roundw
     case rel =>
       refine ⟨Or.inr (Or.inr (Or.inl ⟨rfl,sta0,sta1,stb0,stb1⟩)),?_⟩
       repeat' (first | exact hw | refine Below.alloc ?_ hw.size _ | refine Below.setCell ?_ hw.size _)
     case measure=>simp [intOf]
   · have alp0:=zB hw HAlp0.out
     have hb:=HB.out.trans (hw.mono HB.out.size)
     have xl0:wr.cell? ⟨_,4,none⟩=some (Value.string tc0):=zA alp0
     have xl1:wr.cell? ⟨_,5,none⟩=some (Value.string tc1):=zA alp0
     clear alp0
     by_cases stc0:tc0.size≤40
     case neg =>
       replace stc0:40 < tc0.size:=by omega
       clear hw
       go_wp2_with (go_at_call 13;(refine calls_alloc1 (fun w8 a9 hk=>?_));replace hb:=hb.trans (hk.mono hb.size);clear hk a9;((with_reducible refine (zK hb (known5_any _ (R.below hb))).mono ?_);clear hb;rintro e w9 ⟨rfl,hk,hb⟩;clear hk))
       go_ret
       exact ⟨rfl,hb⟩
     by_cases stc1:tc1.size≤40
     case neg =>
       replace stc1:40 < tc1.size:=by omega
       clear hw
       go_wp2_with (go_at_call 13;(refine calls_alloc1 (fun w8 a9 hk=>?_));replace hb:=hb.trans (hk.mono hb.size);clear hk a9;((with_reducible refine (zK hb (known5_any _ (R.below hb))).mono ?_);clear hb;rintro e w9 ⟨rfl,hk,hb⟩;clear hk))
       go_ret
       exact ⟨rfl,hb⟩
     clear hb
     go_wp2
     go_roundw
     case rel =>
       refine ⟨Or.inr (Or.inr (Or.inr (⟨rfl,sta0,sta1,stb0,stb1,stc0,stc1⟩))),?_⟩
       repeat' (first | exact hw | refine Below.alloc ?_ hw.size _ | refine Below.setCell ?_ hw.size _)
     case measure=>simp [intOf]
   · exact absurd ⟨sta0,sta1,stb0,stb1,stc0,stc1⟩ HL.out
theorem pts_1  (ta0 ta1 tb0 tb1 tc0 tc1:ByteArray) (ea eb ec w1 w2:Int) (_sta0:ta0.size≤40) (_sta1:ta1.size≤40) (_stb0:tb0.size≤40) (_stb1:tb1.size≤40) (_stc0:tc0.size≤40) (_stc1:tc1.size≤40) (cA:CV 17 #[.agg #[.string ta0,.string ta1]] (.int .i64 ea)) (oA:CV 18 #[.agg #[.string ta0,.string ta1]] (.int .i64 ea)) (cB:CV 17 #[.agg #[.string tb0,.string tb1]] (.int .i64 eb)) (oB:CV 18 #[.agg #[.string tb0,.string tb1]] (.int .i64 eb)) (cC:CV 17 #[.agg #[.string tc0,.string tc1]] (.int .i64 ec)) (oC:CV 18 #[.agg #[.string tc0,.string tc1]] (.int .i64 ec)) (h1:firstNZ [ea,eb,ec]=w1) (h2:firstNZ [ea,eb]=w2) (cT:CV 54 #[.agg #[.string ta0,.string ta1],.agg #[.string tb0,.string tb1]] (.tuple #[.agg #[.string ⟨#[]⟩,.string ⟨#[]⟩,.string ⟨#[]⟩],.int .i64 w2])) (cW:CV 48 #[.agg #[.string ta0,.string ta1],.agg #[.string tb0,.string tb1],.string ⟨#[120]⟩] (.tuple #[.agg #[.string ⟨#[]⟩,.string ⟨#[]⟩],.int .i64 w2])) (n1:w1≠0) (n2:w2≠0) (w:World) (R:EnvV w) :
   Calls Tryz.prog 7 #[.agg #[.string ta0,.string ta1],.agg #[.string tb0,.string tb1],.agg #[.string tc0,.string tc1]] w (Ret w (.bool true)):=by
 have c1:=known5_any
 have c2:=oA
 have c3:=oB
 have c4:=oC
 have c5:=fun (w:World) (R:EnvV w)=>firstErr3 ea eb ec w1 h1 w R.toEnvR
 have c6:=turn_err ta0 ta1 tb0 tb1 tc0 tc1 ea eb ec w1 cA cB cC h1 n1
 have c7:=area_err ta0 ta1 tb0 tb1 tc0 tc1 ea eb ec w1 cA cB cC h1 n1
 have c8:=between_err ta0 ta1 tb0 tb1 tc0 tc1 ea eb ec w1 cA cB cC h1 n1
 have c11:=fun (w:World) (R:EnvV w)=>firstErr2 ea eb w2 h2 w R.toEnvR
 have c12:=cT
 have c13:=cW
 have tw1:(w1 == 0)=false:=beq_eq_false_iff_ne.2 n1
 have tw2:(w2 == 0)=false:=beq_eq_false_iff_ne.2 n2
 have C1:=Lib.hid c1
 have C2:=Lib.hid c2
 have C3:=Lib.hid c3
 have C4:=Lib.hid c4
 have C5:=Lib.hid c5
 have C6:=Lib.hid c6
 have C7:=Lib.hid c7
 have C8:=Lib.hid c8
 have C11:=Lib.hid c11
 have C12:=Lib.hid c12
 have C13:=Lib.hid c13
 clear c1 c2 c3 c4 c5 c6 c7 c8 c11 c12 c13 cA oA cB oB cC oC h1 h2 cT cW
 have hb:=Below.refl w.heap.size w
 go_enter Tryz.func7,Tryz.ntmps7
 go_upto_region 1 with fail
 refine wp_alloc3 (fun w1 a0 a1 a2 hk=>?_)
 replace hb:=hb.trans (hk.mono hb.size)
 clear hk
 obtain ⟨Aa,Ab⟩:=ce2 a0
 obtain ⟨Ac,Ad⟩:=ce2 a1
 obtain ⟨Ak,Al⟩:=ce2 a2
 go_wp2
 refine wp_alloc1 (fun w1 alp0 hk=>?_)
 clear Aa Ab Ac Ad Ak Al
 replace a0:=zB hk a0
 replace a1:=zB hk a1
 replace a2:=zB hk a2
 obtain ⟨Aa,Ab⟩:=ce2 a0
 obtain ⟨Ac,Ad⟩:=ce2 a1
 obtain ⟨Ak,Al⟩:=ce2 a2
 replace hb:=hb.trans (hk.mono hb.size)
 clear hk
 obtain ⟨Ae,Af,Ag,Ah,Ai,Aj⟩:=ce6 alp0
 have HA0:=Lib.hid a0
 have HA1:=Lib.hid a1
 have HA2:=Lib.hid a2
 have HAlp0:=Lib.hid alp0
 have HB:=Lib.hid hb
 clear hb Aa Ab Ac Ad Ak Al Ae Af Ag Ah Ai Aj a0 a1 a2 alp0
 go_loopw [25] (fun i wr=>(i = .int .i64 0∨i = .int .i64 1∨i = .int .i64 2∨i = .int .i64 3)∧Below w1.heap.size w1 wr) (fun i _=>3 - (intOf i).toNat)
 case atStart=>exact ⟨Or.inl rfl,Below.refl _ _⟩
 case round =>
   obtain ⟨rfl | rfl | rfl | rfl,hw⟩:=hrel
   · have alp0:=zB hw HAlp0.out
     have xl0:wr.cell? ⟨_,0,none⟩=some (Value.string ta0):=zA alp0
     have xl1:wr.cell? ⟨_,1,none⟩=some (Value.string ta1):=zA alp0
     clear alp0
     go_wp2
     go_roundw
     case rel =>
       refine ⟨Or.inr (Or.inl rfl),?_⟩
       repeat' (first | exact hw | refine Below.alloc ?_ hw.size _ | refine Below.setCell ?_ hw.size _)
     case measure=>simp [intOf]
   · have alp0:=zB hw HAlp0.out
     have xl0:wr.cell? ⟨_,2,none⟩=some (Value.string tb0):=zA alp0
     have xl1:wr.cell? ⟨_,3,none⟩=some (Value.string tb1):=zA alp0
     clear alp0
     go_wp2
     go_roundw
     case rel =>
       refine ⟨Or.inr (Or.inr (Or.inl rfl)),?_⟩
       repeat' (first | exact hw | refine Below.alloc ?_ hw.size _ | refine Below.setCell ?_ hw.size _)
     case measure=>simp [intOf]
   · have alp0:=zB hw HAlp0.out
     have xl0:wr.cell? ⟨_,4,none⟩=some (Value.string tc0):=zA alp0
     have xl1:wr.cell? ⟨_,5,none⟩=some (Value.string tc1):=zA alp0
     clear alp0
     go_wp2
     go_roundw
     case rel =>
       refine ⟨Or.inr (Or.inr (Or.inr (rfl))),?_⟩
       repeat' (first | exact hw | refine Below.alloc ?_ hw.size _ | refine Below.setCell ?_ hw.size _)
     case measure=>simp [intOf]
   · obtain ⟨w1,ew⟩:∃ w1,w1=wr:=⟨_,rfl⟩
     subst ew
     have hb:=HB.out.trans (hw.mono HB.out.size)
     have a0:=zB hw HA0.out
     obtain ⟨Aa,Ab⟩:=ce2 a0
     have a1:=zB hw HA1.out
     obtain ⟨Ac,Ad⟩:=ce2 a1
     have a2:=zB hw HA2.out
     obtain ⟨Ak,Al⟩:=ce2 a2
     have alp0:=zB hw HAlp0.out
     obtain ⟨Ae,Af,Ag,Ah,Ai,Aj⟩:=ce6 alp0
     clear hw
     go_upto_region 9 with (go_at_call 13;with_reducible refine (chVB hb R C1).mono ?_;clear hb;rintro e w1 ⟨rfl,hk,hb⟩;clear Aa Ab Ac Ad Ak Al Ae Af Ag Ah Ai Aj;replace a0:=zB hk a0;replace a1:=zB hk a1;replace a2:=zB hk a2;replace alp0:=zB hk alp0;obtain ⟨Aa,Ab⟩:=ce2 a0;obtain ⟨Ac,Ad⟩:=ce2 a1;obtain ⟨Ak,Al⟩:=ce2 a2;obtain ⟨Ae,Af,Ag,Ah,Ai,Aj⟩:=ce6 alp0;clear hk)
     obtain ⟨Aq,Ar⟩:=cy2 a0
     obtain ⟨As,At⟩:=cy2 a1
     obtain ⟨A5,A6⟩:=cy2 a2
     obtain ⟨Au,Av,Aw,Ax,Ay,Az⟩:=cy6 alp0
     have A0:=rrV C2 R hb
     have A1:=rrV C3 R hb
     have A2:=rrV C4 R hb
     refine wp_region_tail_below 6 (by first | assumption | kernel_rfl) (by kernel_rfl) ?_
     simp only [List.take_succ_cons,List.take_zero,List.drop_succ_cons,List.drop_zero]
     repeat (quiet_step (first | (with_reducible exact A0.out _ _) | (with_reducible exact A1.out _ _) | (with_reducible exact A2.out _ _)))
     refine wpQuiet_nil ?_
     intro w1 hw'
     obtain ⟨hk,hb⟩:=zQ hb hw'
     clear Aa Ab Ac Ad Ak Al Ae Af Ag Ah Ai Aj
     replace a0:=zB hk a0
     replace a1:=zB hk a1
     replace a2:=zB hk a2
     replace alp0:=zB hk alp0
     obtain ⟨Aa,Ab⟩:=ce2 a0
     obtain ⟨Ac,Ad⟩:=ce2 a1
     obtain ⟨Ak,Al⟩:=ce2 a2
     obtain ⟨Ae,Af,Ag,Ah,Ai,Aj⟩:=ce6 alp0
     clear A0 A1 A2 Aq Ar As At A5 A6 Au Av Aw Ax Ay Az
     clear hk hw'
     go_upto_region 16 with ((first | (go_at_call 21;with_reducible refine (zL hb (C5.out _ (R.below hb))).mono ?_) | (go_at_call 45;with_reducible refine (chVB hb R C6).mono ?_) | (go_at_call 46;with_reducible refine (chVB hb R C7).mono ?_) | (go_at_call 47;with_reducible refine (chVB hb R C8).mono ?_));clear hb;rintro e w1 ⟨rfl,hk,hb⟩;clear Aa Ab Ac Ad Ak Al Ae Af Ag Ah Ai Aj;replace a0:=zB hk a0;replace a1:=zB hk a1;replace a2:=zB hk a2;replace alp0:=zB hk alp0;obtain ⟨Aa,Ab⟩:=ce2 a0;obtain ⟨Ac,Ad⟩:=ce2 a1;obtain ⟨Ak,Al⟩:=ce2 a2;obtain ⟨Ae,Af,Ag,Ah,Ai,Aj⟩:=ce6 alp0;clear hk)
     clear Ak Al a2
     obtain ⟨Aq,Ar⟩:=cy2 a0
     obtain ⟨As,At⟩:=cy2 a1
     obtain ⟨Au,Av,Aw,Ax,Ay,Az⟩:=cy6 alp0
     have A3:=rrV C2 R hb
     have A4:=rrV C3 R hb
     refine wp_region_tail_below 4 (by first | assumption | kernel_rfl) (by kernel_rfl) ?_
     simp only [List.take_succ_cons,List.take_zero,List.drop_succ_cons,List.drop_zero]
     repeat (quiet_step (first | (with_reducible exact A3.out _ _) | (with_reducible exact A4.out _ _)))
     refine wpQuiet_nil ?_
     intro w1 hw'
     obtain ⟨hk,hb⟩:=zQ hb hw'
     clear Aa Ab Ac Ad Ae Af Ag Ah Ai Aj
     replace a0:=zB hk a0
     replace a1:=zB hk a1
     replace alp0:=zB hk alp0
     obtain ⟨Aa,Ab⟩:=ce2 a0
     obtain ⟨Ac,Ad⟩:=ce2 a1
     obtain ⟨Ae,Af,Ag,Ah,Ai,Aj⟩:=ce6 alp0
     clear A3 A4 Aq Ar As At Au Av Aw Ax Ay Az
     clear hk hw'
     go_upto_region 18 with ((first | (go_at_call 21;with_reducible refine (zL hb (C11.out _ (R.below hb))).mono ?_) | (go_at_call 54;with_reducible refine (chVB hb R C12).mono ?_));clear hb;rintro e w1 ⟨rfl,hk,hb⟩;clear Aa Ab Ac Ad Ae Af Ag Ah Ai Aj;replace a0:=zB hk a0;replace a1:=zB hk a1;replace alp0:=zB hk alp0;obtain ⟨Aa,Ab⟩:=ce2 a0;obtain ⟨Ac,Ad⟩:=ce2 a1;obtain ⟨Ae,Af,Ag,Ah,Ai,Aj⟩:=ce6 alp0;clear hk)
     refine wp_alloc1 (fun w1 Am hk=>?_)
     clear Aa Ab Ac Ad Ae Af Ag Ah Ai Aj
     replace a0:=zB hk a0
     replace a1:=zB hk a1
     replace alp0:=zB hk alp0
     obtain ⟨Aa,Ab⟩:=ce2 a0
     obtain ⟨Ac,Ad⟩:=ce2 a1
     obtain ⟨Ae,Af,Ag,Ah,Ai,Aj⟩:=ce6 alp0
     replace hb:=hb.trans (hk.mono hb.size)
     clear hk
     obtain ⟨An,Ao,Ap⟩:=ce3 Am
     go_upto_region 19 with (go_at_call 48;with_reducible refine (chVB hb R C13).mono ?_;clear hb;rintro e w1 ⟨rfl,hk,hb⟩;clear Aa Ab Ac Ad An Ao Ap Ae Af Ag Ah Ai Aj;replace a0:=zB hk a0;replace a1:=zB hk a1;replace Am:=zB hk Am;replace alp0:=zB hk alp0;obtain ⟨Aa,Ab⟩:=ce2 a0;obtain ⟨Ac,Ad⟩:=ce2 a1;obtain ⟨An,Ao,Ap⟩:=ce3 Am;obtain ⟨Ae,Af,Ag,Ah,Ai,Aj⟩:=ce6 alp0;clear hk)
     refine wp_alloc1 (fun w1 A7 hk=>?_)
     clear Aa Ab Ac Ad An Ao Ap Ae Af Ag Ah Ai Aj
     replace a0:=zB hk a0
     replace a1:=zB hk a1
     replace Am:=zB hk Am
     replace alp0:=zB hk alp0
     obtain ⟨Aa,Ab⟩:=ce2 a0
     obtain ⟨Ac,Ad⟩:=ce2 a1
     obtain ⟨An,Ao,Ap⟩:=ce3 Am
     obtain ⟨Ae,Af,Ag,Ah,Ai,Aj⟩:=ce6 alp0
     replace hb:=hb.trans (hk.mono hb.size)
     clear hk
     obtain ⟨A8,A9⟩:=ce2 A7
     go_wp2
     first | go_ret | go_ret2 | go_ret3
     exact ⟨rfl,hb⟩
theorem pts_2e  (ta0 ta1 tc0 tc1:ByteArray) (ea ec w1:Int) (_sta0:ta0.size≤40) (_sta1:ta1.size≤40) (_stc0:tc0.size≤40) (_stc1:tc1.size≤40) (cA:CV 17 #[.agg #[.string ta0,.string ta1]] (.int .i64 ea)) (oA:CV 18 #[.agg #[.string ta0,.string ta1]] (.int .i64 ea)) (cC:CV 17 #[.agg #[.string tc0,.string tc1]] (.int .i64 ec)) (oC:CV 18 #[.agg #[.string tc0,.string tc1]] (.int .i64 ec)) (h1:firstNZ [ea,ea,ec]=w1) (h2:firstNZ [ea,ea]=0) (cT:CV 54 #[.agg #[.string ta0,.string ta1],.agg #[.string ta0,.string ta1]] (.tuple #[.agg #[.string ⟨#[]⟩,.string ⟨#[]⟩,.string ⟨#[]⟩],.int .i64 17])) (cW:CV 48 #[.agg #[.string ta0,.string ta1],.agg #[.string ta0,.string ta1],.string ⟨#[120]⟩] (.tuple #[.agg #[.string ⟨#[]⟩,.string ⟨#[]⟩],.int .i64 2])) (n1:w1≠0) (w:World) (R:EnvV w) :
   Calls Tryz.prog 7 #[.agg #[.string ta0,.string ta1],.agg #[.string ta0,.string ta1],.agg #[.string tc0,.string tc1]] w (Ret w (.bool true)):=by
 have c1:=known5_any
 have c2:=oA
 have c4:=oC
 have c5:=fun (w:World) (R:EnvV w)=>firstErr3 ea ea ec w1 h1 w R.toEnvR
 have c6:=turn_err ta0 ta1 ta0 ta1 tc0 tc1 ea ea ec w1 cA cA cC h1 n1
 have c7:=area_err ta0 ta1 ta0 ta1 tc0 tc1 ea ea ec w1 cA cA cC h1 n1
 have c8:=between_err ta0 ta1 ta0 ta1 tc0 tc1 ea ea ec w1 cA cA cC h1 n1
 have c11:=fun (w:World) (R:EnvV w)=>firstErr2 ea ea 0 h2 w R.toEnvR
 have c12:=cT
 have c13:=cW
 have tw1:(w1 == 0)=false:=beq_eq_false_iff_ne.2 n1
 have q0:(ta0.toList == ta0.toList)=true:=beq_self_eq_true _
 have q1:(ta1.toList == ta1.toList)=true:=beq_self_eq_true _
 have C1:=Lib.hid c1
 have C2:=Lib.hid c2
 have C4:=Lib.hid c4
 have C5:=Lib.hid c5
 have C6:=Lib.hid c6
 have C7:=Lib.hid c7
 have C8:=Lib.hid c8
 have C11:=Lib.hid c11
 have C12:=Lib.hid c12
 have C13:=Lib.hid c13
 clear c1 c2 c4 c5 c6 c7 c8 c11 c12 c13 cA oA cC oC h1 h2 cT cW
 have hb:=Below.refl w.heap.size w
 go_enter Tryz.func7,Tryz.ntmps7
 go_upto_region 1 with fail
 refine wp_alloc3 (fun w1 a0 a1 a2 hk=>?_)
 replace hb:=hb.trans (hk.mono hb.size)
 clear hk
 obtain ⟨Aa,Ab⟩:=ce2 a0
 obtain ⟨Ac,Ad⟩:=ce2 a1
 obtain ⟨Ak,Al⟩:=ce2 a2
 go_wp2
 refine wp_alloc1 (fun w1 alp0 hk=>?_)
 clear Aa Ab Ac Ad Ak Al
 replace a0:=zB hk a0
 replace a1:=zB hk a1
 replace a2:=zB hk a2
 obtain ⟨Aa,Ab⟩:=ce2 a0
 obtain ⟨Ac,Ad⟩:=ce2 a1
 obtain ⟨Ak,Al⟩:=ce2 a2
 replace hb:=hb.trans (hk.mono hb.size)
 clear hk
 obtain ⟨Ae,Af,Ag,Ah,Ai,Aj⟩:=ce6 alp0
 have HA0:=Lib.hid a0
 have HA1:=Lib.hid a1
 have HA2:=Lib.hid a2
 have HAlp0:=Lib.hid alp0
 have HB:=Lib.hid hb
 clear hb Aa Ab Ac Ad Ak Al Ae Af Ag Ah Ai Aj a0 a1 a2 alp0
 go_loopw [25] (fun i wr=>(i = .int .i64 0∨i = .int .i64 1∨i = .int .i64 2∨i = .int .i64 3)∧Below w1.heap.size w1 wr) (fun i _=>3 - (intOf i).toNat)
 case atStart=>exact ⟨Or.inl rfl,Below.refl _ _⟩
 case round =>
   obtain ⟨rfl | rfl | rfl | rfl,hw⟩:=hrel
   · have alp0:=zB hw HAlp0.out
     have xl0:wr.cell? ⟨_,0,none⟩=some (Value.string ta0):=zA alp0
     have xl1:wr.cell? ⟨_,1,none⟩=some (Value.string ta1):=zA alp0
     clear alp0
     go_wp2
     go_roundw
     case rel =>
       refine ⟨Or.inr (Or.inl rfl),?_⟩
       repeat' (first | exact hw | refine Below.alloc ?_ hw.size _ | refine Below.setCell ?_ hw.size _)
     case measure=>simp [intOf]
   · have alp0:=zB hw HAlp0.out
     have xl0:wr.cell? ⟨_,2,none⟩=some (Value.string ta0):=zA alp0
     have xl1:wr.cell? ⟨_,3,none⟩=some (Value.string ta1):=zA alp0
     clear alp0
     go_wp2
     go_roundw
     case rel =>
       refine ⟨Or.inr (Or.inr (Or.inl rfl)),?_⟩
       repeat' (first | exact hw | refine Below.alloc ?_ hw.size _ | refine Below.setCell ?_ hw.size _)
     case measure=>simp [intOf]
   · have alp0:=zB hw HAlp0.out
     have xl0:wr.cell? ⟨_,4,none⟩=some (Value.string tc0):=zA alp0
     have xl1:wr.cell? ⟨_,5,none⟩=some (Value.string tc1):=zA alp0
     clear alp0
     go_wp2
     go_roundw
     case rel =>
       refine ⟨Or.inr (Or.inr (Or.inr (rfl))),?_⟩
       repeat' (first | exact hw | refine Below.alloc ?_ hw.size _ | refine Below.setCell ?_ hw.size _)
     case measure=>simp [intOf]
   · obtain ⟨w1,ew⟩:∃ w1,w1=wr:=⟨_,rfl⟩
     subst ew
     have hb:=HB.out.trans (hw.mono HB.out.size)
     have a0:=zB hw HA0.out
     obtain ⟨Aa,Ab⟩:=ce2 a0
     have a1:=zB hw HA1.out
     obtain ⟨Ac,Ad⟩:=ce2 a1
     have a2:=zB hw HA2.out
     obtain ⟨Ak,Al⟩:=ce2 a2
     have alp0:=zB hw HAlp0.out
     obtain ⟨Ae,Af,Ag,Ah,Ai,Aj⟩:=ce6 alp0
     clear hw
     go_upto_region 9 with (go_at_call 13;with_reducible refine (chVB hb R C1).mono ?_;clear hb;rintro e w1 ⟨rfl,hk,hb⟩;clear Aa Ab Ac Ad Ak Al Ae Af Ag Ah Ai Aj;replace a0:=zB hk a0;replace a1:=zB hk a1;replace a2:=zB hk a2;replace alp0:=zB hk alp0;obtain ⟨Aa,Ab⟩:=ce2 a0;obtain ⟨Ac,Ad⟩:=ce2 a1;obtain ⟨Ak,Al⟩:=ce2 a2;obtain ⟨Ae,Af,Ag,Ah,Ai,Aj⟩:=ce6 alp0;clear hk)
     obtain ⟨Aq,Ar⟩:=cy2 a0
     obtain ⟨As,At⟩:=cy2 a1
     obtain ⟨A5,A6⟩:=cy2 a2
     obtain ⟨Au,Av,Aw,Ax,Ay,Az⟩:=cy6 alp0
     have A0:=rrV C2 R hb
     have A1:=rrV C2 R hb
     have A2:=rrV C4 R hb
     refine wp_region_tail_below 6 (by first | assumption | kernel_rfl) (by kernel_rfl) ?_
     simp only [List.take_succ_cons,List.take_zero,List.drop_succ_cons,List.drop_zero]
     repeat (quiet_step (first | (with_reducible exact A0.out _ _) | (with_reducible exact A1.out _ _) | (with_reducible exact A2.out _ _)))
     refine wpQuiet_nil ?_
     intro w1 hw'
     obtain ⟨hk,hb⟩:=zQ hb hw'
     clear Aa Ab Ac Ad Ak Al Ae Af Ag Ah Ai Aj
     replace a0:=zB hk a0
     replace a1:=zB hk a1
     replace a2:=zB hk a2
     replace alp0:=zB hk alp0
     obtain ⟨Aa,Ab⟩:=ce2 a0
     obtain ⟨Ac,Ad⟩:=ce2 a1
     obtain ⟨Ak,Al⟩:=ce2 a2
     obtain ⟨Ae,Af,Ag,Ah,Ai,Aj⟩:=ce6 alp0
     clear A0 A1 A2 Aq Ar As At A5 A6 Au Av Aw Ax Ay Az
     clear hk hw'
     go_upto_region 16 with ((first | (go_at_call 21;with_reducible refine (zL hb (C5.out _ (R.below hb))).mono ?_) | (go_at_call 45;with_reducible refine (chVB hb R C6).mono ?_) | (go_at_call 46;with_reducible refine (chVB hb R C7).mono ?_) | (go_at_call 47;with_reducible refine (chVB hb R C8).mono ?_));clear hb;rintro e w1 ⟨rfl,hk,hb⟩;clear Aa Ab Ac Ad Ak Al Ae Af Ag Ah Ai Aj;replace a0:=zB hk a0;replace a1:=zB hk a1;replace a2:=zB hk a2;replace alp0:=zB hk alp0;obtain ⟨Aa,Ab⟩:=ce2 a0;obtain ⟨Ac,Ad⟩:=ce2 a1;obtain ⟨Ak,Al⟩:=ce2 a2;obtain ⟨Ae,Af,Ag,Ah,Ai,Aj⟩:=ce6 alp0;clear hk)
     clear Ak Al a2
     obtain ⟨Aq,Ar⟩:=cy2 a0
     obtain ⟨As,At⟩:=cy2 a1
     obtain ⟨Au,Av,Aw,Ax,Ay,Az⟩:=cy6 alp0
     have A3:=rrV C2 R hb
     have A4:=rrV C2 R hb
     refine wp_region_tail_below 4 (by first | assumption | kernel_rfl) (by kernel_rfl) ?_
     simp only [List.take_succ_cons,List.take_zero,List.drop_succ_cons,List.drop_zero]
     repeat (quiet_step (first | (with_reducible exact A3.out _ _) | (with_reducible exact A4.out _ _)))
     refine wpQuiet_nil ?_
     intro w1 hw'
     obtain ⟨hk,hb⟩:=zQ hb hw'
     clear Aa Ab Ac Ad Ae Af Ag Ah Ai Aj
     replace a0:=zB hk a0
     replace a1:=zB hk a1
     replace alp0:=zB hk alp0
     obtain ⟨Aa,Ab⟩:=ce2 a0
     obtain ⟨Ac,Ad⟩:=ce2 a1
     obtain ⟨Ae,Af,Ag,Ah,Ai,Aj⟩:=ce6 alp0
     clear A3 A4 Aq Ar As At Au Av Aw Ax Ay Az
     clear hk hw'
     go_upto_region 18 with ((first | (go_at_call 21;with_reducible refine (zL hb (C11.out _ (R.below hb))).mono ?_) | (go_at_call 54;with_reducible refine (chVB hb R C12).mono ?_));clear hb;rintro e w1 ⟨rfl,hk,hb⟩;clear Aa Ab Ac Ad Ae Af Ag Ah Ai Aj;replace a0:=zB hk a0;replace a1:=zB hk a1;replace alp0:=zB hk alp0;obtain ⟨Aa,Ab⟩:=ce2 a0;obtain ⟨Ac,Ad⟩:=ce2 a1;obtain ⟨Ae,Af,Ag,Ah,Ai,Aj⟩:=ce6 alp0;clear hk)
     refine wp_alloc1 (fun w1 Am hk=>?_)
     clear Aa Ab Ac Ad Ae Af Ag Ah Ai Aj
     replace a0:=zB hk a0
     replace a1:=zB hk a1
     replace alp0:=zB hk alp0
     obtain ⟨Aa,Ab⟩:=ce2 a0
     obtain ⟨Ac,Ad⟩:=ce2 a1
     obtain ⟨Ae,Af,Ag,Ah,Ai,Aj⟩:=ce6 alp0
     replace hb:=hb.trans (hk.mono hb.size)
     clear hk
     obtain ⟨An,Ao,Ap⟩:=ce3 Am
     go_upto_region 19 with (go_at_call 48;with_reducible refine (chVB hb R C13).mono ?_;clear hb;rintro e w1 ⟨rfl,hk,hb⟩;clear Aa Ab Ac Ad An Ao Ap Ae Af Ag Ah Ai Aj;replace a0:=zB hk a0;replace a1:=zB hk a1;replace Am:=zB hk Am;replace alp0:=zB hk alp0;obtain ⟨Aa,Ab⟩:=ce2 a0;obtain ⟨Ac,Ad⟩:=ce2 a1;obtain ⟨An,Ao,Ap⟩:=ce3 Am;obtain ⟨Ae,Af,Ag,Ah,Ai,Aj⟩:=ce6 alp0;clear hk)
     refine wp_alloc1 (fun w1 A7 hk=>?_)
     clear Aa Ab Ac Ad An Ao Ap Ae Af Ag Ah Ai Aj
     replace a0:=zB hk a0
     replace a1:=zB hk a1
     replace Am:=zB hk Am
     replace alp0:=zB hk alp0
     obtain ⟨Aa,Ab⟩:=ce2 a0
     obtain ⟨Ac,Ad⟩:=ce2 a1
     obtain ⟨An,Ao,Ap⟩:=ce3 Am
     obtain ⟨Ae,Af,Ag,Ah,Ai,Aj⟩:=ce6 alp0
     replace hb:=hb.trans (hk.mono hb.size)
     clear hk
     obtain ⟨A8,A9⟩:=ce2 A7
     go_wp2
     first | go_ret | go_ret2 | go_ret3
     exact ⟨rfl,hb⟩
theorem pts_20  (ta0 ta1 tb0 tb1 tc0 tc1 l0 l1 l2:ByteArray) (ea eb ec w1:Int) (_sta0:ta0.size≤40) (_sta1:ta1.size≤40) (_stb0:tb0.size≤40) (_stb1:tb1.size≤40) (_stc0:tc0.size≤40) (_stc1:tc1.size≤40) (cA:CV 17 #[.agg #[.string ta0,.string ta1]] (.int .i64 ea)) (oA:CV 18 #[.agg #[.string ta0,.string ta1]] (.int .i64 ea)) (cB:CV 17 #[.agg #[.string tb0,.string tb1]] (.int .i64 eb)) (oB:CV 18 #[.agg #[.string tb0,.string tb1]] (.int .i64 eb)) (cC:CV 17 #[.agg #[.string tc0,.string tc1]] (.int .i64 ec)) (oC:CV 18 #[.agg #[.string tc0,.string tc1]] (.int .i64 ec)) (h1:firstNZ [ea,eb,ec]=w1) (h2:firstNZ [ea,eb]=0) (cT:CV 54 #[.agg #[.string ta0,.string ta1],.agg #[.string tb0,.string tb1]] (.tuple #[.agg #[.string l0,.string l1,.string l2],.int .i64 0])) (cW:CV 48 #[.agg #[.string ta0,.string ta1],.agg #[.string tb0,.string tb1],.string ⟨#[120]⟩] (.tuple #[.agg #[.string ⟨#[]⟩,.string ⟨#[]⟩],.int .i64 2])) (n1:w1≠0) (nq:ta0≠tb0) (w:World) (R:EnvV w) :
   Calls Tryz.prog 7 #[.agg #[.string ta0,.string ta1],.agg #[.string tb0,.string tb1],.agg #[.string tc0,.string tc1]] w (Ret w (.bool true)):=by
 have c1:=known5_any
 have c2:=oA
 have c3:=oB
 have c4:=oC
 have c5:=fun (w:World) (R:EnvV w)=>firstErr3 ea eb ec w1 h1 w R.toEnvR
 have c6:=turn_err ta0 ta1 tb0 tb1 tc0 tc1 ea eb ec w1 cA cB cC h1 n1
 have c7:=area_err ta0 ta1 tb0 tb1 tc0 tc1 ea eb ec w1 cA cB cC h1 n1
 have c8:=between_err ta0 ta1 tb0 tb1 tc0 tc1 ea eb ec w1 cA cB cC h1 n1
 have c11:=fun (w:World) (R:EnvV w)=>firstErr2 ea eb 0 h2 w R.toEnvR
 have c12:=cT
 have c13:=cW
 have tw1:(w1 == 0)=false:=beq_eq_false_iff_ne.2 n1
 have q0:(ta0.toList == tb0.toList)=false:=li_ne nq
 have p0:¬ ta0.toList=tb0.toList:=li_ne2 nq
 have C1:=Lib.hid c1
 have C2:=Lib.hid c2
 have C3:=Lib.hid c3
 have C4:=Lib.hid c4
 have C5:=Lib.hid c5
 have C6:=Lib.hid c6
 have C7:=Lib.hid c7
 have C8:=Lib.hid c8
 have C11:=Lib.hid c11
 have C12:=Lib.hid c12
 have C13:=Lib.hid c13
 clear c1 c2 c3 c4 c5 c6 c7 c8 c11 c12 c13 cA oA cB oB cC oC h1 h2 cT cW nq
 have hb:=Below.refl w.heap.size w
 go_enter Tryz.func7,Tryz.ntmps7
 go_upto_region 1 with fail
 refine wp_alloc3 (fun w1 a0 a1 a2 hk=>?_)
 replace hb:=hb.trans (hk.mono hb.size)
 clear hk
 obtain ⟨Aa,Ab⟩:=ce2 a0
 obtain ⟨Ac,Ad⟩:=ce2 a1
 obtain ⟨Ak,Al⟩:=ce2 a2
 go_wp2
 refine wp_alloc1 (fun w1 alp0 hk=>?_)
 clear Aa Ab Ac Ad Ak Al
 replace a0:=zB hk a0
 replace a1:=zB hk a1
 replace a2:=zB hk a2
 obtain ⟨Aa,Ab⟩:=ce2 a0
 obtain ⟨Ac,Ad⟩:=ce2 a1
 obtain ⟨Ak,Al⟩:=ce2 a2
 replace hb:=hb.trans (hk.mono hb.size)
 clear hk
 obtain ⟨Ae,Af,Ag,Ah,Ai,Aj⟩:=ce6 alp0
 have HA0:=Lib.hid a0
 have HA1:=Lib.hid a1
 have HA2:=Lib.hid a2
 have HAlp0:=Lib.hid alp0
 have HB:=Lib.hid hb
 clear hb Aa Ab Ac Ad Ak Al Ae Af Ag Ah Ai Aj a0 a1 a2 alp0
 go_loopw [25] (fun i wr=>(i = .int .i64 0∨i = .int .i64 1∨i = .int .i64 2∨i = .int .i64 3)∧Below w1.heap.size w1 wr) (fun i _=>3 - (intOf i).toNat)
 case atStart=>exact ⟨Or.inl rfl,Below.refl _ _⟩
 case round =>
   obtain ⟨rfl | rfl | rfl | rfl,hw⟩:=hrel
   · have alp0:=zB hw HAlp0.out
     have xl0:wr.cell? ⟨_,0,none⟩=some (Value.string ta0):=zA alp0
     have xl1:wr.cell? ⟨_,1,none⟩=some (Value.string ta1):=zA alp0
     clear alp0
     go_wp2
     go_roundw
     case rel =>
       refine ⟨Or.inr (Or.inl rfl),?_⟩
       repeat' (first | exact hw | refine Below.alloc ?_ hw.size _ | refine Below.setCell ?_ hw.size _)
     case measure=>simp [intOf]
   · have alp0:=zB hw HAlp0.out
     have xl0:wr.cell? ⟨_,2,none⟩=some (Value.string tb0):=zA alp0
     have xl1:wr.cell? ⟨_,3,none⟩=some (Value.string tb1):=zA alp0
     clear alp0
     go_wp2
     go_roundw
     case rel =>
       refine ⟨Or.inr (Or.inr (Or.inl rfl)),?_⟩
       repeat' (first | exact hw | refine Below.alloc ?_ hw.size _ | refine Below.setCell ?_ hw.size _)
     case measure=>simp [intOf]
   · have alp0:=zB hw HAlp0.out
     have xl0:wr.cell? ⟨_,4,none⟩=some (Value.string tc0):=zA alp0
     have xl1:wr.cell? ⟨_,5,none⟩=some (Value.string tc1):=zA alp0
     clear alp0
     go_wp2
     go_roundw
     case rel =>
       refine ⟨Or.inr (Or.inr (Or.inr (rfl))),?_⟩
       repeat' (first | exact hw | refine Below.alloc ?_ hw.size _ | refine Below.setCell ?_ hw.size _)
     case measure=>simp [intOf]
   · obtain ⟨w1,ew⟩:∃ w1,w1=wr:=⟨_,rfl⟩
     subst ew
     have hb:=HB.out.trans (hw.mono HB.out.size)
     have a0:=zB hw HA0.out
     obtain ⟨Aa,Ab⟩:=ce2 a0
     have a1:=zB hw HA1.out
     obtain ⟨Ac,Ad⟩:=ce2 a1
     have a2:=zB hw HA2.out
     obtain ⟨Ak,Al⟩:=ce2 a2
     have alp0:=zB hw HAlp0.out
     obtain ⟨Ae,Af,Ag,Ah,Ai,Aj⟩:=ce6 alp0
     clear hw
     go_upto_region 9 with (go_at_call 13;with_reducible refine (chVB hb R C1).mono ?_;clear hb;rintro e w1 ⟨rfl,hk,hb⟩;clear Aa Ab Ac Ad Ak Al Ae Af Ag Ah Ai Aj;replace a0:=zB hk a0;replace a1:=zB hk a1;replace a2:=zB hk a2;replace alp0:=zB hk alp0;obtain ⟨Aa,Ab⟩:=ce2 a0;obtain ⟨Ac,Ad⟩:=ce2 a1;obtain ⟨Ak,Al⟩:=ce2 a2;obtain ⟨Ae,Af,Ag,Ah,Ai,Aj⟩:=ce6 alp0;clear hk)
     obtain ⟨Aq,Ar⟩:=cy2 a0
     obtain ⟨As,At⟩:=cy2 a1
     obtain ⟨A5,A6⟩:=cy2 a2
     obtain ⟨Au,Av,Aw,Ax,Ay,Az⟩:=cy6 alp0
     have A0:=rrV C2 R hb
     have A1:=rrV C3 R hb
     have A2:=rrV C4 R hb
     refine wp_region_tail_below 6 (by first | assumption | kernel_rfl) (by kernel_rfl) ?_
     simp only [List.take_succ_cons,List.take_zero,List.drop_succ_cons,List.drop_zero]
     repeat (quiet_step (first | (with_reducible exact A0.out _ _) | (with_reducible exact A1.out _ _) | (with_reducible exact A2.out _ _)))
     refine wpQuiet_nil ?_
     intro w1 hw'
     obtain ⟨hk,hb⟩:=zQ hb hw'
     clear Aa Ab Ac Ad Ak Al Ae Af Ag Ah Ai Aj
     replace a0:=zB hk a0
     replace a1:=zB hk a1
     replace a2:=zB hk a2
     replace alp0:=zB hk alp0
     obtain ⟨Aa,Ab⟩:=ce2 a0
     obtain ⟨Ac,Ad⟩:=ce2 a1
     obtain ⟨Ak,Al⟩:=ce2 a2
     obtain ⟨Ae,Af,Ag,Ah,Ai,Aj⟩:=ce6 alp0
     clear A0 A1 A2 Aq Ar As At A5 A6 Au Av Aw Ax Ay Az
     clear hk hw'
     go_upto_region 16 with ((first | (go_at_call 21;with_reducible refine (zL hb (C5.out _ (R.below hb))).mono ?_) | (go_at_call 45;with_reducible refine (chVB hb R C6).mono ?_) | (go_at_call 46;with_reducible refine (chVB hb R C7).mono ?_) | (go_at_call 47;with_reducible refine (chVB hb R C8).mono ?_));clear hb;rintro e w1 ⟨rfl,hk,hb⟩;clear Aa Ab Ac Ad Ak Al Ae Af Ag Ah Ai Aj;replace a0:=zB hk a0;replace a1:=zB hk a1;replace a2:=zB hk a2;replace alp0:=zB hk alp0;obtain ⟨Aa,Ab⟩:=ce2 a0;obtain ⟨Ac,Ad⟩:=ce2 a1;obtain ⟨Ak,Al⟩:=ce2 a2;obtain ⟨Ae,Af,Ag,Ah,Ai,Aj⟩:=ce6 alp0;clear hk)
     clear Ak Al a2
     obtain ⟨Aq,Ar⟩:=cy2 a0
     obtain ⟨As,At⟩:=cy2 a1
     obtain ⟨Au,Av,Aw,Ax,Ay,Az⟩:=cy6 alp0
     have A3:=rrV C2 R hb
     have A4:=rrV C3 R hb
     refine wp_region_tail_below 4 (by first | assumption | kernel_rfl) (by kernel_rfl) ?_
     simp only [List.take_succ_cons,List.take_zero,List.drop_succ_cons,List.drop_zero]
     repeat (quiet_step (first | (with_reducible exact A3.out _ _) | (with_reducible exact A4.out _ _)))
     refine wpQuiet_nil ?_
     intro w1 hw'
     obtain ⟨hk,hb⟩:=zQ hb hw'
     clear Aa Ab Ac Ad Ae Af Ag Ah Ai Aj
     replace a0:=zB hk a0
     replace a1:=zB hk a1
     replace alp0:=zB hk alp0
     obtain ⟨Aa,Ab⟩:=ce2 a0
     obtain ⟨Ac,Ad⟩:=ce2 a1
     obtain ⟨Ae,Af,Ag,Ah,Ai,Aj⟩:=ce6 alp0
     clear A3 A4 Aq Ar As At Au Av Aw Ax Ay Az
     clear hk hw'
     go_upto_region 18 with ((first | (go_at_call 21;with_reducible refine (zL hb (C11.out _ (R.below hb))).mono ?_) | (go_at_call 54;with_reducible refine (chVB hb R C12).mono ?_));clear hb;rintro e w1 ⟨rfl,hk,hb⟩;clear Aa Ab Ac Ad Ae Af Ag Ah Ai Aj;replace a0:=zB hk a0;replace a1:=zB hk a1;replace alp0:=zB hk alp0;obtain ⟨Aa,Ab⟩:=ce2 a0;obtain ⟨Ac,Ad⟩:=ce2 a1;obtain ⟨Ae,Af,Ag,Ah,Ai,Aj⟩:=ce6 alp0;clear hk)
     refine wp_alloc1 (fun w1 Am hk=>?_)
     clear Aa Ab Ac Ad Ae Af Ag Ah Ai Aj
     replace a0:=zB hk a0
     replace a1:=zB hk a1
     replace alp0:=zB hk alp0
     obtain ⟨Aa,Ab⟩:=ce2 a0
     obtain ⟨Ac,Ad⟩:=ce2 a1
     obtain ⟨Ae,Af,Ag,Ah,Ai,Aj⟩:=ce6 alp0
     replace hb:=hb.trans (hk.mono hb.size)
     clear hk
     obtain ⟨An,Ao,Ap⟩:=ce3 Am
     go_upto_region 19 with (go_at_call 48;with_reducible refine (chVB hb R C13).mono ?_;clear hb;rintro e w1 ⟨rfl,hk,hb⟩;clear Aa Ab Ac Ad An Ao Ap Ae Af Ag Ah Ai Aj;replace a0:=zB hk a0;replace a1:=zB hk a1;replace Am:=zB hk Am;replace alp0:=zB hk alp0;obtain ⟨Aa,Ab⟩:=ce2 a0;obtain ⟨Ac,Ad⟩:=ce2 a1;obtain ⟨An,Ao,Ap⟩:=ce3 Am;obtain ⟨Ae,Af,Ag,Ah,Ai,Aj⟩:=ce6 alp0;clear hk)
     refine wp_alloc1 (fun w1 A7 hk=>?_)
     clear Aa Ab Ac Ad An Ao Ap Ae Af Ag Ah Ai Aj
     replace a0:=zB hk a0
     replace a1:=zB hk a1
     replace Am:=zB hk Am
     replace alp0:=zB hk alp0
     obtain ⟨Aa,Ab⟩:=ce2 a0
     obtain ⟨Ac,Ad⟩:=ce2 a1
     obtain ⟨An,Ao,Ap⟩:=ce3 Am
     obtain ⟨Ae,Af,Ag,Ah,Ai,Aj⟩:=ce6 alp0
     replace hb:=hb.trans (hk.mono hb.size)
     clear hk
     obtain ⟨A8,A9⟩:=ce2 A7
     go_wp2
     first | go_ret | go_ret2 | go_ret3
     exact ⟨rfl,hb⟩
theorem pts_21  (ta0 ta1 tb1 tc0 tc1 l0 l1 l2:ByteArray) (ea eb ec w1:Int) (_sta0:ta0.size≤40) (_sta1:ta1.size≤40) (_stb1:tb1.size≤40) (_stc0:tc0.size≤40) (_stc1:tc1.size≤40) (cA:CV 17 #[.agg #[.string ta0,.string ta1]] (.int .i64 ea)) (oA:CV 18 #[.agg #[.string ta0,.string ta1]] (.int .i64 ea)) (cB:CV 17 #[.agg #[.string ta0,.string tb1]] (.int .i64 eb)) (oB:CV 18 #[.agg #[.string ta0,.string tb1]] (.int .i64 eb)) (cC:CV 17 #[.agg #[.string tc0,.string tc1]] (.int .i64 ec)) (oC:CV 18 #[.agg #[.string tc0,.string tc1]] (.int .i64 ec)) (h1:firstNZ [ea,eb,ec]=w1) (h2:firstNZ [ea,eb]=0) (cT:CV 54 #[.agg #[.string ta0,.string ta1],.agg #[.string ta0,.string tb1]] (.tuple #[.agg #[.string l0,.string l1,.string l2],.int .i64 0])) (cW:CV 48 #[.agg #[.string ta0,.string ta1],.agg #[.string ta0,.string tb1],.string ⟨#[120]⟩] (.tuple #[.agg #[.string ⟨#[]⟩,.string ⟨#[]⟩],.int .i64 2])) (n1:w1≠0) (nq:ta1≠tb1) (w:World) (R:EnvV w) :
   Calls Tryz.prog 7 #[.agg #[.string ta0,.string ta1],.agg #[.string ta0,.string tb1],.agg #[.string tc0,.string tc1]] w (Ret w (.bool true)):=by
 have c1:=known5_any
 have c2:=oA
 have c3:=oB
 have c4:=oC
 have c5:=fun (w:World) (R:EnvV w)=>firstErr3 ea eb ec w1 h1 w R.toEnvR
 have c6:=turn_err ta0 ta1 ta0 tb1 tc0 tc1 ea eb ec w1 cA cB cC h1 n1
 have c7:=area_err ta0 ta1 ta0 tb1 tc0 tc1 ea eb ec w1 cA cB cC h1 n1
 have c8:=between_err ta0 ta1 ta0 tb1 tc0 tc1 ea eb ec w1 cA cB cC h1 n1
 have c11:=fun (w:World) (R:EnvV w)=>firstErr2 ea eb 0 h2 w R.toEnvR
 have c12:=cT
 have c13:=cW
 have tw1:(w1 == 0)=false:=beq_eq_false_iff_ne.2 n1
 have q0:(ta0.toList == ta0.toList)=true:=beq_self_eq_true _
 have q1:(ta1.toList == tb1.toList)=false:=li_ne nq
 have p1:¬ ta1.toList=tb1.toList:=li_ne2 nq
 have C1:=Lib.hid c1
 have C2:=Lib.hid c2
 have C3:=Lib.hid c3
 have C4:=Lib.hid c4
 have C5:=Lib.hid c5
 have C6:=Lib.hid c6
 have C7:=Lib.hid c7
 have C8:=Lib.hid c8
 have C11:=Lib.hid c11
 have C12:=Lib.hid c12
 have C13:=Lib.hid c13
 clear c1 c2 c3 c4 c5 c6 c7 c8 c11 c12 c13 cA oA cB oB cC oC h1 h2 cT cW nq
 have hb:=Below.refl w.heap.size w
 go_enter Tryz.func7,Tryz.ntmps7
 go_upto_region 1 with fail
 refine wp_alloc3 (fun w1 a0 a1 a2 hk=>?_)
 replace hb:=hb.trans (hk.mono hb.size)
 clear hk
 obtain ⟨Aa,Ab⟩:=ce2 a0
 obtain ⟨Ac,Ad⟩:=ce2 a1
 obtain ⟨Ak,Al⟩:=ce2 a2
 go_wp2
 refine wp_alloc1 (fun w1 alp0 hk=>?_)
 clear Aa Ab Ac Ad Ak Al
 replace a0:=zB hk a0
 replace a1:=zB hk a1
 replace a2:=zB hk a2
 obtain ⟨Aa,Ab⟩:=ce2 a0
 obtain ⟨Ac,Ad⟩:=ce2 a1
 obtain ⟨Ak,Al⟩:=ce2 a2
 replace hb:=hb.trans (hk.mono hb.size)
 clear hk
 obtain ⟨Ae,Af,Ag,Ah,Ai,Aj⟩:=ce6 alp0
 have HA0:=Lib.hid a0
 have HA1:=Lib.hid a1
 have HA2:=Lib.hid a2
 have HAlp0:=Lib.hid alp0
 have HB:=Lib.hid hb
 clear hb Aa Ab Ac Ad Ak Al Ae Af Ag Ah Ai Aj a0 a1 a2 alp0
 go_loopw [25] (fun i wr=>(i = .int .i64 0∨i = .int .i64 1∨i = .int .i64 2∨i = .int .i64 3)∧Below w1.heap.size w1 wr) (fun i _=>3 - (intOf i).toNat)
 case atStart=>exact ⟨Or.inl rfl,Below.refl _ _⟩
 case round =>
   obtain ⟨rfl | rfl | rfl | rfl,hw⟩:=hrel
   · have alp0:=zB hw HAlp0.out
     have xl0:wr.cell? ⟨_,0,none⟩=some (Value.string ta0):=zA alp0
     have xl1:wr.cell? ⟨_,1,none⟩=some (Value.string ta1):=zA alp0
     clear alp0
     go_wp2
     go_roundw
     case rel =>
       refine ⟨Or.inr (Or.inl rfl),?_⟩
       repeat' (first | exact hw | refine Below.alloc ?_ hw.size _ | refine Below.setCell ?_ hw.size _)
     case measure=>simp [intOf]
   · have alp0:=zB hw HAlp0.out
     have xl0:wr.cell? ⟨_,2,none⟩=some (Value.string ta0):=zA alp0
     have xl1:wr.cell? ⟨_,3,none⟩=some (Value.string tb1):=zA alp0
     clear alp0
     go_wp2
     go_roundw
     case rel =>
       refine ⟨Or.inr (Or.inr (Or.inl rfl)),?_⟩
       repeat' (first | exact hw | refine Below.alloc ?_ hw.size _ | refine Below.setCell ?_ hw.size _)
     case measure=>simp [intOf]
   · have alp0:=zB hw HAlp0.out
     have xl0:wr.cell? ⟨_,4,none⟩=some (Value.string tc0):=zA alp0
     have xl1:wr.cell? ⟨_,5,none⟩=some (Value.string tc1):=zA alp0
     clear alp0
     go_wp2
     go_roundw
     case rel =>
       refine ⟨Or.inr (Or.inr (Or.inr (rfl))),?_⟩
       repeat' (first | exact hw | refine Below.alloc ?_ hw.size _ | refine Below.setCell ?_ hw.size _)
     case measure=>simp [intOf]
   · obtain ⟨w1,ew⟩:∃ w1,w1=wr:=⟨_,rfl⟩
     subst ew
     have hb:=HB.out.trans (hw.mono HB.out.size)
     have a0:=zB hw HA0.out
     obtain ⟨Aa,Ab⟩:=ce2 a0
     have a1:=zB hw HA1.out
     obtain ⟨Ac,Ad⟩:=ce2 a1
     have a2:=zB hw HA2.out
     obtain ⟨Ak,Al⟩:=ce2 a2
     have alp0:=zB hw HAlp0.out
     obtain ⟨Ae,Af,Ag,Ah,Ai,Aj⟩:=ce6 alp0
     clear hw
     go_upto_region 9 with (go_at_call 13;with_reducible refine (chVB hb R C1).mono ?_;clear hb;rintro e w1 ⟨rfl,hk,hb⟩;clear Aa Ab Ac Ad Ak Al Ae Af Ag Ah Ai Aj;replace a0:=zB hk a0;replace a1:=zB hk a1;replace a2:=zB hk a2;replace alp0:=zB hk alp0;obtain ⟨Aa,Ab⟩:=ce2 a0;obtain ⟨Ac,Ad⟩:=ce2 a1;obtain ⟨Ak,Al⟩:=ce2 a2;obtain ⟨Ae,Af,Ag,Ah,Ai,Aj⟩:=ce6 alp0;clear hk)
     obtain ⟨Aq,Ar⟩:=cy2 a0
     obtain ⟨As,At⟩:=cy2 a1
     obtain ⟨A5,A6⟩:=cy2 a2
     obtain ⟨Au,Av,Aw,Ax,Ay,Az⟩:=cy6 alp0
     have A0:=rrV C2 R hb
     have A1:=rrV C3 R hb
     have A2:=rrV C4 R hb
     refine wp_region_tail_below 6 (by first | assumption | kernel_rfl) (by kernel_rfl) ?_
     simp only [List.take_succ_cons,List.take_zero,List.drop_succ_cons,List.drop_zero]
     repeat (quiet_step (first | (with_reducible exact A0.out _ _) | (with_reducible exact A1.out _ _) | (with_reducible exact A2.out _ _)))
     refine wpQuiet_nil ?_
     intro w1 hw'
     obtain ⟨hk,hb⟩:=zQ hb hw'
     clear Aa Ab Ac Ad Ak Al Ae Af Ag Ah Ai Aj
     replace a0:=zB hk a0
     replace a1:=zB hk a1
     replace a2:=zB hk a2
     replace alp0:=zB hk alp0
     obtain ⟨Aa,Ab⟩:=ce2 a0
     obtain ⟨Ac,Ad⟩:=ce2 a1
     obtain ⟨Ak,Al⟩:=ce2 a2
     obtain ⟨Ae,Af,Ag,Ah,Ai,Aj⟩:=ce6 alp0
     clear A0 A1 A2 Aq Ar As At A5 A6 Au Av Aw Ax Ay Az
     clear hk hw'
     go_upto_region 16 with ((first | (go_at_call 21;with_reducible refine (zL hb (C5.out _ (R.below hb))).mono ?_) | (go_at_call 45;with_reducible refine (chVB hb R C6).mono ?_) | (go_at_call 46;with_reducible refine (chVB hb R C7).mono ?_) | (go_at_call 47;with_reducible refine (chVB hb R C8).mono ?_));clear hb;rintro e w1 ⟨rfl,hk,hb⟩;clear Aa Ab Ac Ad Ak Al Ae Af Ag Ah Ai Aj;replace a0:=zB hk a0;replace a1:=zB hk a1;replace a2:=zB hk a2;replace alp0:=zB hk alp0;obtain ⟨Aa,Ab⟩:=ce2 a0;obtain ⟨Ac,Ad⟩:=ce2 a1;obtain ⟨Ak,Al⟩:=ce2 a2;obtain ⟨Ae,Af,Ag,Ah,Ai,Aj⟩:=ce6 alp0;clear hk)
     clear Ak Al a2
     obtain ⟨Aq,Ar⟩:=cy2 a0
     obtain ⟨As,At⟩:=cy2 a1
     obtain ⟨Au,Av,Aw,Ax,Ay,Az⟩:=cy6 alp0
     have A3:=rrV C2 R hb
     have A4:=rrV C3 R hb
     refine wp_region_tail_below 4 (by first | assumption | kernel_rfl) (by kernel_rfl) ?_
     simp only [List.take_succ_cons,List.take_zero,List.drop_succ_cons,List.drop_zero]
     repeat (quiet_step (first | (with_reducible exact A3.out _ _) | (with_reducible exact A4.out _ _)))
     refine wpQuiet_nil ?_
     intro w1 hw'
     obtain ⟨hk,hb⟩:=zQ hb hw'
     clear Aa Ab Ac Ad Ae Af Ag Ah Ai Aj
     replace a0:=zB hk a0
     replace a1:=zB hk a1
     replace alp0:=zB hk alp0
     obtain ⟨Aa,Ab⟩:=ce2 a0
     obtain ⟨Ac,Ad⟩:=ce2 a1
     obtain ⟨Ae,Af,Ag,Ah,Ai,Aj⟩:=ce6 alp0
     clear A3 A4 Aq Ar As At Au Av Aw Ax Ay Az
     clear hk hw'
     go_upto_region 18 with ((first | (go_at_call 21;with_reducible refine (zL hb (C11.out _ (R.below hb))).mono ?_) | (go_at_call 54;with_reducible refine (chVB hb R C12).mono ?_));clear hb;rintro e w1 ⟨rfl,hk,hb⟩;clear Aa Ab Ac Ad Ae Af Ag Ah Ai Aj;replace a0:=zB hk a0;replace a1:=zB hk a1;replace alp0:=zB hk alp0;obtain ⟨Aa,Ab⟩:=ce2 a0;obtain ⟨Ac,Ad⟩:=ce2 a1;obtain ⟨Ae,Af,Ag,Ah,Ai,Aj⟩:=ce6 alp0;clear hk)
     refine wp_alloc1 (fun w1 Am hk=>?_)
     clear Aa Ab Ac Ad Ae Af Ag Ah Ai Aj
     replace a0:=zB hk a0
     replace a1:=zB hk a1
     replace alp0:=zB hk alp0
     obtain ⟨Aa,Ab⟩:=ce2 a0
     obtain ⟨Ac,Ad⟩:=ce2 a1
     obtain ⟨Ae,Af,Ag,Ah,Ai,Aj⟩:=ce6 alp0
     replace hb:=hb.trans (hk.mono hb.size)
     clear hk
     obtain ⟨An,Ao,Ap⟩:=ce3 Am
     go_upto_region 19 with (go_at_call 48;with_reducible refine (chVB hb R C13).mono ?_;clear hb;rintro e w1 ⟨rfl,hk,hb⟩;clear Aa Ab Ac Ad An Ao Ap Ae Af Ag Ah Ai Aj;replace a0:=zB hk a0;replace a1:=zB hk a1;replace Am:=zB hk Am;replace alp0:=zB hk alp0;obtain ⟨Aa,Ab⟩:=ce2 a0;obtain ⟨Ac,Ad⟩:=ce2 a1;obtain ⟨An,Ao,Ap⟩:=ce3 Am;obtain ⟨Ae,Af,Ag,Ah,Ai,Aj⟩:=ce6 alp0;clear hk)
     refine wp_alloc1 (fun w1 A7 hk=>?_)
     clear Aa Ab Ac Ad An Ao Ap Ae Af Ag Ah Ai Aj
     replace a0:=zB hk a0
     replace a1:=zB hk a1
     replace Am:=zB hk Am
     replace alp0:=zB hk alp0
     obtain ⟨Aa,Ab⟩:=ce2 a0
     obtain ⟨Ac,Ad⟩:=ce2 a1
     obtain ⟨An,Ao,Ap⟩:=ce3 Am
     obtain ⟨Ae,Af,Ag,Ah,Ai,Aj⟩:=ce6 alp0
     replace hb:=hb.trans (hk.mono hb.size)
     clear hk
     obtain ⟨A8,A9⟩:=ce2 A7
     go_wp2
     first | go_ret | go_ret2 | go_ret3
     exact ⟨rfl,hb⟩
theorem pts_3e  (ta0 ta1 tc0 tc1:ByteArray) (ea ec:Int) (_sta0:ta0.size≤40) (_sta1:ta1.size≤40) (_stc0:tc0.size≤40) (_stc1:tc1.size≤40) (_cA:CV 17 #[.agg #[.string ta0,.string ta1]] (.int .i64 ea)) (oA:CV 18 #[.agg #[.string ta0,.string ta1]] (.int .i64 ea)) (_cC:CV 17 #[.agg #[.string tc0,.string tc1]] (.int .i64 ec)) (oC:CV 18 #[.agg #[.string tc0,.string tc1]] (.int .i64 ec)) (h1:firstNZ [ea,ea,ec]=0) (h2:firstNZ [ea,ea]=0) (cT:CV 54 #[.agg #[.string ta0,.string ta1],.agg #[.string ta0,.string ta1]] (.tuple #[.agg #[.string ⟨#[]⟩,.string ⟨#[]⟩,.string ⟨#[]⟩],.int .i64 17])) (cW:CV 48 #[.agg #[.string ta0,.string ta1],.agg #[.string ta0,.string ta1],.string ⟨#[120]⟩] (.tuple #[.agg #[.string ⟨#[]⟩,.string ⟨#[]⟩],.int .i64 2])) (w:World) (R:EnvV w) :
   Calls Tryz.prog 7 #[.agg #[.string ta0,.string ta1],.agg #[.string ta0,.string ta1],.agg #[.string tc0,.string tc1]] w (Ret w (.bool true)):=by
 have c1:=known5_any
 have c2:=oA
 have c4:=oC
 have c5:=fun (w:World) (R:EnvV w)=>firstErr3 ea ea ec 0 h1 w R.toEnvR
 have c8:=fun (w:World) (R:EnvV w)=>firstErr2 ea ea 0 h2 w R.toEnvR
 have c9:=cT
 have c10:=cW
 have q0:(ta0.toList == ta0.toList)=true:=beq_self_eq_true _
 have q1:(ta1.toList == ta1.toList)=true:=beq_self_eq_true _
 have C1:=Lib.hid c1
 have C2:=Lib.hid c2
 have C4:=Lib.hid c4
 have C5:=Lib.hid c5
 have C8:=Lib.hid c8
 have C9:=Lib.hid c9
 have C10:=Lib.hid c10
 clear c1 c2 c4 c5 c8 c9 c10 _cA oA _cC oC h1 h2 cT cW
 have hb:=Below.refl w.heap.size w
 go_enter Tryz.func7,Tryz.ntmps7
 go_upto_region 1 with fail
 refine wp_alloc3 (fun w1 a0 a1 a2 hk=>?_)
 replace hb:=hb.trans (hk.mono hb.size)
 clear hk
 obtain ⟨Aa,Ab⟩:=ce2 a0
 obtain ⟨Ac,Ad⟩:=ce2 a1
 obtain ⟨Ak,Al⟩:=ce2 a2
 go_wp2
 refine wp_alloc1 (fun w1 alp0 hk=>?_)
 clear Aa Ab Ac Ad Ak Al
 replace a0:=zB hk a0
 replace a1:=zB hk a1
 replace a2:=zB hk a2
 obtain ⟨Aa,Ab⟩:=ce2 a0
 obtain ⟨Ac,Ad⟩:=ce2 a1
 obtain ⟨Ak,Al⟩:=ce2 a2
 replace hb:=hb.trans (hk.mono hb.size)
 clear hk
 obtain ⟨Ae,Af,Ag,Ah,Ai,Aj⟩:=ce6 alp0
 have HA0:=Lib.hid a0
 have HA1:=Lib.hid a1
 have HA2:=Lib.hid a2
 have HAlp0:=Lib.hid alp0
 have HB:=Lib.hid hb
 clear hb Aa Ab Ac Ad Ak Al Ae Af Ag Ah Ai Aj a0 a1 a2 alp0
 go_loopw [25] (fun i wr=>(i = .int .i64 0∨i = .int .i64 1∨i = .int .i64 2∨i = .int .i64 3)∧Below w1.heap.size w1 wr) (fun i _=>3 - (intOf i).toNat)
 case atStart=>exact ⟨Or.inl rfl,Below.refl _ _⟩
 case round =>
   obtain ⟨rfl | rfl | rfl | rfl,hw⟩:=hrel
   · have alp0:=zB hw HAlp0.out
     have xl0:wr.cell? ⟨_,0,none⟩=some (Value.string ta0):=zA alp0
     have xl1:wr.cell? ⟨_,1,none⟩=some (Value.string ta1):=zA alp0
     clear alp0
     go_wp2
     go_roundw
     case rel =>
       refine ⟨Or.inr (Or.inl rfl),?_⟩
       repeat' (first | exact hw | refine Below.alloc ?_ hw.size _ | refine Below.setCell ?_ hw.size _)
     case measure=>simp [intOf]
   · have alp0:=zB hw HAlp0.out
     have xl0:wr.cell? ⟨_,2,none⟩=some (Value.string ta0):=zA alp0
     have xl1:wr.cell? ⟨_,3,none⟩=some (Value.string ta1):=zA alp0
     clear alp0
     go_wp2
     go_roundw
     case rel =>
       refine ⟨Or.inr (Or.inr (Or.inl rfl)),?_⟩
       repeat' (first | exact hw | refine Below.alloc ?_ hw.size _ | refine Below.setCell ?_ hw.size _)
     case measure=>simp [intOf]
   · have alp0:=zB hw HAlp0.out
     have xl0:wr.cell? ⟨_,4,none⟩=some (Value.string tc0):=zA alp0
     have xl1:wr.cell? ⟨_,5,none⟩=some (Value.string tc1):=zA alp0
     clear alp0
     go_wp2
     go_roundw
     case rel =>
       refine ⟨Or.inr (Or.inr (Or.inr (rfl))),?_⟩
       repeat' (first | exact hw | refine Below.alloc ?_ hw.size _ | refine Below.setCell ?_ hw.size _)
     case measure=>simp [intOf]
   · obtain ⟨w1,ew⟩:∃ w1,w1=wr:=⟨_,rfl⟩
     subst ew
     have hb:=HB.out.trans (hw.mono HB.out.size)
     have a0:=zB hw HA0.out
     obtain ⟨Aa,Ab⟩:=ce2 a0
     have a1:=zB hw HA1.out
     obtain ⟨Ac,Ad⟩:=ce2 a1
     have a2:=zB hw HA2.out
     obtain ⟨Ak,Al⟩:=ce2 a2
     have alp0:=zB hw HAlp0.out
     obtain ⟨Ae,Af,Ag,Ah,Ai,Aj⟩:=ce6 alp0
     clear hw
     go_upto_region 9 with (go_at_call 13;with_reducible refine (chVB hb R C1).mono ?_;clear hb;rintro e w1 ⟨rfl,hk,hb⟩;clear Aa Ab Ac Ad Ak Al Ae Af Ag Ah Ai Aj;replace a0:=zB hk a0;replace a1:=zB hk a1;replace a2:=zB hk a2;replace alp0:=zB hk alp0;obtain ⟨Aa,Ab⟩:=ce2 a0;obtain ⟨Ac,Ad⟩:=ce2 a1;obtain ⟨Ak,Al⟩:=ce2 a2;obtain ⟨Ae,Af,Ag,Ah,Ai,Aj⟩:=ce6 alp0;clear hk)
     obtain ⟨Aq,Ar⟩:=cy2 a0
     obtain ⟨As,At⟩:=cy2 a1
     obtain ⟨A5,A6⟩:=cy2 a2
     obtain ⟨Au,Av,Aw,Ax,Ay,Az⟩:=cy6 alp0
     have A0:=rrV C2 R hb
     have A1:=rrV C2 R hb
     have A2:=rrV C4 R hb
     refine wp_region_tail_below 6 (by first | assumption | kernel_rfl) (by kernel_rfl) ?_
     simp only [List.take_succ_cons,List.take_zero,List.drop_succ_cons,List.drop_zero]
     repeat (quiet_step (first | (with_reducible exact A0.out _ _) | (with_reducible exact A1.out _ _) | (with_reducible exact A2.out _ _)))
     refine wpQuiet_nil ?_
     intro w1 hw'
     obtain ⟨hk,hb⟩:=zQ hb hw'
     clear Aa Ab Ac Ad Ak Al Ae Af Ag Ah Ai Aj
     replace a0:=zB hk a0
     replace a1:=zB hk a1
     replace a2:=zB hk a2
     replace alp0:=zB hk alp0
     obtain ⟨Aa,Ab⟩:=ce2 a0
     obtain ⟨Ac,Ad⟩:=ce2 a1
     obtain ⟨Ak,Al⟩:=ce2 a2
     obtain ⟨Ae,Af,Ag,Ah,Ai,Aj⟩:=ce6 alp0
     clear A0 A1 A2 Aq Ar As At A5 A6 Au Av Aw Ax Ay Az
     clear hk hw'
     go_upto_region 16 with (go_at_call 21;with_reducible refine (zL hb (C5.out _ (R.below hb))).mono ?_;clear hb;rintro e w1 ⟨rfl,hk,hb⟩;clear Aa Ab Ac Ad Ak Al Ae Af Ag Ah Ai Aj;replace a0:=zB hk a0;replace a1:=zB hk a1;replace a2:=zB hk a2;replace alp0:=zB hk alp0;obtain ⟨Aa,Ab⟩:=ce2 a0;obtain ⟨Ac,Ad⟩:=ce2 a1;obtain ⟨Ak,Al⟩:=ce2 a2;obtain ⟨Ae,Af,Ag,Ah,Ai,Aj⟩:=ce6 alp0;clear hk)
     clear Ak Al a2
     obtain ⟨Aq,Ar⟩:=cy2 a0
     obtain ⟨As,At⟩:=cy2 a1
     obtain ⟨Au,Av,Aw,Ax,Ay,Az⟩:=cy6 alp0
     have A3:=rrV C2 R hb
     have A4:=rrV C2 R hb
     refine wp_region_tail_below 4 (by first | assumption | kernel_rfl) (by kernel_rfl) ?_
     simp only [List.take_succ_cons,List.take_zero,List.drop_succ_cons,List.drop_zero]
     repeat (quiet_step (first | (with_reducible exact A3.out _ _) | (with_reducible exact A4.out _ _)))
     refine wpQuiet_nil ?_
     intro w1 hw'
     obtain ⟨hk,hb⟩:=zQ hb hw'
     clear Aa Ab Ac Ad Ae Af Ag Ah Ai Aj
     replace a0:=zB hk a0
     replace a1:=zB hk a1
     replace alp0:=zB hk alp0
     obtain ⟨Aa,Ab⟩:=ce2 a0
     obtain ⟨Ac,Ad⟩:=ce2 a1
     obtain ⟨Ae,Af,Ag,Ah,Ai,Aj⟩:=ce6 alp0
     clear A3 A4 Aq Ar As At Au Av Aw Ax Ay Az
     clear hk hw'
     go_upto_region 18 with ((first | (go_at_call 21;with_reducible refine (zL hb (C8.out _ (R.below hb))).mono ?_) | (go_at_call 54;with_reducible refine (chVB hb R C9).mono ?_));clear hb;rintro e w1 ⟨rfl,hk,hb⟩;clear Aa Ab Ac Ad Ae Af Ag Ah Ai Aj;replace a0:=zB hk a0;replace a1:=zB hk a1;replace alp0:=zB hk alp0;obtain ⟨Aa,Ab⟩:=ce2 a0;obtain ⟨Ac,Ad⟩:=ce2 a1;obtain ⟨Ae,Af,Ag,Ah,Ai,Aj⟩:=ce6 alp0;clear hk)
     refine wp_alloc1 (fun w1 Am hk=>?_)
     clear Aa Ab Ac Ad Ae Af Ag Ah Ai Aj
     replace a0:=zB hk a0
     replace a1:=zB hk a1
     replace alp0:=zB hk alp0
     obtain ⟨Aa,Ab⟩:=ce2 a0
     obtain ⟨Ac,Ad⟩:=ce2 a1
     obtain ⟨Ae,Af,Ag,Ah,Ai,Aj⟩:=ce6 alp0
     replace hb:=hb.trans (hk.mono hb.size)
     clear hk
     obtain ⟨An,Ao,Ap⟩:=ce3 Am
     go_upto_region 19 with (go_at_call 48;with_reducible refine (chVB hb R C10).mono ?_;clear hb;rintro e w1 ⟨rfl,hk,hb⟩;clear Aa Ab Ac Ad An Ao Ap Ae Af Ag Ah Ai Aj;replace a0:=zB hk a0;replace a1:=zB hk a1;replace Am:=zB hk Am;replace alp0:=zB hk alp0;obtain ⟨Aa,Ab⟩:=ce2 a0;obtain ⟨Ac,Ad⟩:=ce2 a1;obtain ⟨An,Ao,Ap⟩:=ce3 Am;obtain ⟨Ae,Af,Ag,Ah,Ai,Aj⟩:=ce6 alp0;clear hk)
     refine wp_alloc1 (fun w1 A7 hk=>?_)
     clear Aa Ab Ac Ad An Ao Ap Ae Af Ag Ah Ai Aj
     replace a0:=zB hk a0
     replace a1:=zB hk a1
     replace Am:=zB hk Am
     replace alp0:=zB hk alp0
     obtain ⟨Aa,Ab⟩:=ce2 a0
     obtain ⟨Ac,Ad⟩:=ce2 a1
     obtain ⟨An,Ao,Ap⟩:=ce3 Am
     obtain ⟨Ae,Af,Ag,Ah,Ai,Aj⟩:=ce6 alp0
     replace hb:=hb.trans (hk.mono hb.size)
     clear hk
     obtain ⟨A8,A9⟩:=ce2 A7
     go_wp2
     first | go_ret | go_ret2 | go_ret3
     exact ⟨rfl,hb⟩
theorem pts_30  (ta0 ta1 tb0 tb1 tc0 tc1 l0 l1 l2:ByteArray) (ea eb ec:Int) (_sta0:ta0.size≤40) (_sta1:ta1.size≤40) (_stb0:tb0.size≤40) (_stb1:tb1.size≤40) (_stc0:tc0.size≤40) (_stc1:tc1.size≤40) (_cA:CV 17 #[.agg #[.string ta0,.string ta1]] (.int .i64 ea)) (oA:CV 18 #[.agg #[.string ta0,.string ta1]] (.int .i64 ea)) (_cB:CV 17 #[.agg #[.string tb0,.string tb1]] (.int .i64 eb)) (oB:CV 18 #[.agg #[.string tb0,.string tb1]] (.int .i64 eb)) (_cC:CV 17 #[.agg #[.string tc0,.string tc1]] (.int .i64 ec)) (oC:CV 18 #[.agg #[.string tc0,.string tc1]] (.int .i64 ec)) (h1:firstNZ [ea,eb,ec]=0) (h2:firstNZ [ea,eb]=0) (cT:CV 54 #[.agg #[.string ta0,.string ta1],.agg #[.string tb0,.string tb1]] (.tuple #[.agg #[.string l0,.string l1,.string l2],.int .i64 0])) (cW:CV 48 #[.agg #[.string ta0,.string ta1],.agg #[.string tb0,.string tb1],.string ⟨#[120]⟩] (.tuple #[.agg #[.string ⟨#[]⟩,.string ⟨#[]⟩],.int .i64 2])) (nq:ta0≠tb0) (w:World) (R:EnvV w) :
   Calls Tryz.prog 7 #[.agg #[.string ta0,.string ta1],.agg #[.string tb0,.string tb1],.agg #[.string tc0,.string tc1]] w (Ret w (.bool true)):=by
 have c1:=known5_any
 have c2:=oA
 have c3:=oB
 have c4:=oC
 have c5:=fun (w:World) (R:EnvV w)=>firstErr3 ea eb ec 0 h1 w R.toEnvR
 have c8:=fun (w:World) (R:EnvV w)=>firstErr2 ea eb 0 h2 w R.toEnvR
 have c9:=cT
 have c10:=cW
 have q0:(ta0.toList == tb0.toList)=false:=li_ne nq
 have p0:¬ ta0.toList=tb0.toList:=li_ne2 nq
 have C1:=Lib.hid c1
 have C2:=Lib.hid c2
 have C3:=Lib.hid c3
 have C4:=Lib.hid c4
 have C5:=Lib.hid c5
 have C8:=Lib.hid c8
 have C9:=Lib.hid c9
 have C10:=Lib.hid c10
 clear c1 c2 c3 c4 c5 c8 c9 c10 _cA oA _cB oB _cC oC h1 h2 cT cW nq
 have hb:=Below.refl w.heap.size w
 go_enter Tryz.func7,Tryz.ntmps7
 go_upto_region 1 with fail
 refine wp_alloc3 (fun w1 a0 a1 a2 hk=>?_)
 replace hb:=hb.trans (hk.mono hb.size)
 clear hk
 obtain ⟨Aa,Ab⟩:=ce2 a0
 obtain ⟨Ac,Ad⟩:=ce2 a1
 obtain ⟨Ak,Al⟩:=ce2 a2
 go_wp2
 refine wp_alloc1 (fun w1 alp0 hk=>?_)
 clear Aa Ab Ac Ad Ak Al
 replace a0:=zB hk a0
 replace a1:=zB hk a1
 replace a2:=zB hk a2
 obtain ⟨Aa,Ab⟩:=ce2 a0
 obtain ⟨Ac,Ad⟩:=ce2 a1
 obtain ⟨Ak,Al⟩:=ce2 a2
 replace hb:=hb.trans (hk.mono hb.size)
 clear hk
 obtain ⟨Ae,Af,Ag,Ah,Ai,Aj⟩:=ce6 alp0
 have HA0:=Lib.hid a0
 have HA1:=Lib.hid a1
 have HA2:=Lib.hid a2
 have HAlp0:=Lib.hid alp0
 have HB:=Lib.hid hb
 clear hb Aa Ab Ac Ad Ak Al Ae Af Ag Ah Ai Aj a0 a1 a2 alp0
 go_loopw [25] (fun i wr=>(i = .int .i64 0∨i = .int .i64 1∨i = .int .i64 2∨i = .int .i64 3)∧Below w1.heap.size w1 wr) (fun i _=>3 - (intOf i).toNat)
 case atStart=>exact ⟨Or.inl rfl,Below.refl _ _⟩
 case round =>
   obtain ⟨rfl | rfl | rfl | rfl,hw⟩:=hrel
   · have alp0:=zB hw HAlp0.out
     have xl0:wr.cell? ⟨_,0,none⟩=some (Value.string ta0):=zA alp0
     have xl1:wr.cell? ⟨_,1,none⟩=some (Value.string ta1):=zA alp0
     clear alp0
     go_wp2
     go_roundw
     case rel =>
       refine ⟨Or.inr (Or.inl rfl),?_⟩
       repeat' (first | exact hw | refine Below.alloc ?_ hw.size _ | refine Below.setCell ?_ hw.size _)
     case measure=>simp [intOf]
   · have alp0:=zB hw HAlp0.out
     have xl0:wr.cell? ⟨_,2,none⟩=some (Value.string tb0):=zA alp0
     have xl1:wr.cell? ⟨_,3,none⟩=some (Value.string tb1):=zA alp0
     clear alp0
     go_wp2
     go_roundw
     case rel =>
       refine ⟨Or.inr (Or.inr (Or.inl rfl)),?_⟩
       repeat' (first | exact hw | refine Below.alloc ?_ hw.size _ | refine Below.setCell ?_ hw.size _)
     case measure=>simp [intOf]
   · have alp0:=zB hw HAlp0.out
     have xl0:wr.cell? ⟨_,4,none⟩=some (Value.string tc0):=zA alp0
     have xl1:wr.cell? ⟨_,5,none⟩=some (Value.string tc1):=zA alp0
     clear alp0
     go_wp2
     go_roundw
     case rel =>
       refine ⟨Or.inr (Or.inr (Or.inr (rfl))),?_⟩
       repeat' (first | exact hw | refine Below.alloc ?_ hw.size _ | refine Below.setCell ?_ hw.size _)
     case measure=>simp [intOf]
   · obtain ⟨w1,ew⟩:∃ w1,w1=wr:=⟨_,rfl⟩
     subst ew
     have hb:=HB.out.trans (hw.mono HB.out.size)
     have a0:=zB hw HA0.out
     obtain ⟨Aa,Ab⟩:=ce2 a0
     have a1:=zB hw HA1.out
     obtain ⟨Ac,Ad⟩:=ce2 a1
     have a2:=zB hw HA2.out
     obtain ⟨Ak,Al⟩:=ce2 a2
     have alp0:=zB hw HAlp0.out
     obtain ⟨Ae,Af,Ag,Ah,Ai,Aj⟩:=ce6 alp0
     clear hw
     go_upto_region 9 with (go_at_call 13;with_reducible refine (chVB hb R C1).mono ?_;clear hb;rintro e w1 ⟨rfl,hk,hb⟩;clear Aa Ab Ac Ad Ak Al Ae Af Ag Ah Ai Aj;replace a0:=zB hk a0;replace a1:=zB hk a1;replace a2:=zB hk a2;replace alp0:=zB hk alp0;obtain ⟨Aa,Ab⟩:=ce2 a0;obtain ⟨Ac,Ad⟩:=ce2 a1;obtain ⟨Ak,Al⟩:=ce2 a2;obtain ⟨Ae,Af,Ag,Ah,Ai,Aj⟩:=ce6 alp0;clear hk)
     obtain ⟨Aq,Ar⟩:=cy2 a0
     obtain ⟨As,At⟩:=cy2 a1
     obtain ⟨A5,A6⟩:=cy2 a2
     obtain ⟨Au,Av,Aw,Ax,Ay,Az⟩:=cy6 alp0
     have A0:=rrV C2 R hb
     have A1:=rrV C3 R hb
     have A2:=rrV C4 R hb
     refine wp_region_tail_below 6 (by first | assumption | kernel_rfl) (by kernel_rfl) ?_
     simp only [List.take_succ_cons,List.take_zero,List.drop_succ_cons,List.drop_zero]
     repeat (quiet_step (first | (with_reducible exact A0.out _ _) | (with_reducible exact A1.out _ _) | (with_reducible exact A2.out _ _)))
     refine wpQuiet_nil ?_
     intro w1 hw'
     obtain ⟨hk,hb⟩:=zQ hb hw'
     clear Aa Ab Ac Ad Ak Al Ae Af Ag Ah Ai Aj
     replace a0:=zB hk a0
     replace a1:=zB hk a1
     replace a2:=zB hk a2
     replace alp0:=zB hk alp0
     obtain ⟨Aa,Ab⟩:=ce2 a0
     obtain ⟨Ac,Ad⟩:=ce2 a1
     obtain ⟨Ak,Al⟩:=ce2 a2
     obtain ⟨Ae,Af,Ag,Ah,Ai,Aj⟩:=ce6 alp0
     clear A0 A1 A2 Aq Ar As At A5 A6 Au Av Aw Ax Ay Az
     clear hk hw'
     go_upto_region 16 with (go_at_call 21;with_reducible refine (zL hb (C5.out _ (R.below hb))).mono ?_;clear hb;rintro e w1 ⟨rfl,hk,hb⟩;clear Aa Ab Ac Ad Ak Al Ae Af Ag Ah Ai Aj;replace a0:=zB hk a0;replace a1:=zB hk a1;replace a2:=zB hk a2;replace alp0:=zB hk alp0;obtain ⟨Aa,Ab⟩:=ce2 a0;obtain ⟨Ac,Ad⟩:=ce2 a1;obtain ⟨Ak,Al⟩:=ce2 a2;obtain ⟨Ae,Af,Ag,Ah,Ai,Aj⟩:=ce6 alp0;clear hk)
     clear Ak Al a2
     obtain ⟨Aq,Ar⟩:=cy2 a0
     obtain ⟨As,At⟩:=cy2 a1
     obtain ⟨Au,Av,Aw,Ax,Ay,Az⟩:=cy6 alp0
     have A3:=rrV C2 R hb
     have A4:=rrV C3 R hb
     refine wp_region_tail_below 4 (by first | assumption | kernel_rfl) (by kernel_rfl) ?_
     simp only [List.take_succ_cons,List.take_zero,List.drop_succ_cons,List.drop_zero]
     repeat (quiet_step (first | (with_reducible exact A3.out _ _) | (with_reducible exact A4.out _ _)))
     refine wpQuiet_nil ?_
     intro w1 hw'
     obtain ⟨hk,hb⟩:=zQ hb hw'
     clear Aa Ab Ac Ad Ae Af Ag Ah Ai Aj
     replace a0:=zB hk a0
     replace a1:=zB hk a1
     replace alp0:=zB hk alp0
     obtain ⟨Aa,Ab⟩:=ce2 a0
     obtain ⟨Ac,Ad⟩:=ce2 a1
     obtain ⟨Ae,Af,Ag,Ah,Ai,Aj⟩:=ce6 alp0
     clear A3 A4 Aq Ar As At Au Av Aw Ax Ay Az
     clear hk hw'
     go_upto_region 18 with ((first | (go_at_call 21;with_reducible refine (zL hb (C8.out _ (R.below hb))).mono ?_) | (go_at_call 54;with_reducible refine (chVB hb R C9).mono ?_));clear hb;rintro e w1 ⟨rfl,hk,hb⟩;clear Aa Ab Ac Ad Ae Af Ag Ah Ai Aj;replace a0:=zB hk a0;replace a1:=zB hk a1;replace alp0:=zB hk alp0;obtain ⟨Aa,Ab⟩:=ce2 a0;obtain ⟨Ac,Ad⟩:=ce2 a1;obtain ⟨Ae,Af,Ag,Ah,Ai,Aj⟩:=ce6 alp0;clear hk)
     refine wp_alloc1 (fun w1 Am hk=>?_)
     clear Aa Ab Ac Ad Ae Af Ag Ah Ai Aj
     replace a0:=zB hk a0
     replace a1:=zB hk a1
     replace alp0:=zB hk alp0
     obtain ⟨Aa,Ab⟩:=ce2 a0
     obtain ⟨Ac,Ad⟩:=ce2 a1
     obtain ⟨Ae,Af,Ag,Ah,Ai,Aj⟩:=ce6 alp0
     replace hb:=hb.trans (hk.mono hb.size)
     clear hk
     obtain ⟨An,Ao,Ap⟩:=ce3 Am
     go_upto_region 19 with (go_at_call 48;with_reducible refine (chVB hb R C10).mono ?_;clear hb;rintro e w1 ⟨rfl,hk,hb⟩;clear Aa Ab Ac Ad An Ao Ap Ae Af Ag Ah Ai Aj;replace a0:=zB hk a0;replace a1:=zB hk a1;replace Am:=zB hk Am;replace alp0:=zB hk alp0;obtain ⟨Aa,Ab⟩:=ce2 a0;obtain ⟨Ac,Ad⟩:=ce2 a1;obtain ⟨An,Ao,Ap⟩:=ce3 Am;obtain ⟨Ae,Af,Ag,Ah,Ai,Aj⟩:=ce6 alp0;clear hk)
     refine wp_alloc1 (fun w1 A7 hk=>?_)
     clear Aa Ab Ac Ad An Ao Ap Ae Af Ag Ah Ai Aj
     replace a0:=zB hk a0
     replace a1:=zB hk a1
     replace Am:=zB hk Am
     replace alp0:=zB hk alp0
     obtain ⟨Aa,Ab⟩:=ce2 a0
     obtain ⟨Ac,Ad⟩:=ce2 a1
     obtain ⟨An,Ao,Ap⟩:=ce3 Am
     obtain ⟨Ae,Af,Ag,Ah,Ai,Aj⟩:=ce6 alp0
     replace hb:=hb.trans (hk.mono hb.size)
     clear hk
     obtain ⟨A8,A9⟩:=ce2 A7
     go_wp2
     first | go_ret | go_ret2 | go_ret3
     exact ⟨rfl,hb⟩
theorem pts_31  (ta0 ta1 tb1 tc0 tc1 l0 l1 l2:ByteArray) (ea eb ec:Int) (_sta0:ta0.size≤40) (_sta1:ta1.size≤40) (_stb1:tb1.size≤40) (_stc0:tc0.size≤40) (_stc1:tc1.size≤40) (_cA:CV 17 #[.agg #[.string ta0,.string ta1]] (.int .i64 ea)) (oA:CV 18 #[.agg #[.string ta0,.string ta1]] (.int .i64 ea)) (_cB:CV 17 #[.agg #[.string ta0,.string tb1]] (.int .i64 eb)) (oB:CV 18 #[.agg #[.string ta0,.string tb1]] (.int .i64 eb)) (_cC:CV 17 #[.agg #[.string tc0,.string tc1]] (.int .i64 ec)) (oC:CV 18 #[.agg #[.string tc0,.string tc1]] (.int .i64 ec)) (h1:firstNZ [ea,eb,ec]=0) (h2:firstNZ [ea,eb]=0) (cT:CV 54 #[.agg #[.string ta0,.string ta1],.agg #[.string ta0,.string tb1]] (.tuple #[.agg #[.string l0,.string l1,.string l2],.int .i64 0])) (cW:CV 48 #[.agg #[.string ta0,.string ta1],.agg #[.string ta0,.string tb1],.string ⟨#[120]⟩] (.tuple #[.agg #[.string ⟨#[]⟩,.string ⟨#[]⟩],.int .i64 2])) (nq:ta1≠tb1) (w:World) (R:EnvV w) :
   Calls Tryz.prog 7 #[.agg #[.string ta0,.string ta1],.agg #[.string ta0,.string tb1],.agg #[.string tc0,.string tc1]] w (Ret w (.bool true)):=by
 have c1:=known5_any
 have c2:=oA
 have c3:=oB
 have c4:=oC
 have c5:=fun (w:World) (R:EnvV w)=>firstErr3 ea eb ec 0 h1 w R.toEnvR
 have c8:=fun (w:World) (R:EnvV w)=>firstErr2 ea eb 0 h2 w R.toEnvR
 have c9:=cT
 have c10:=cW
 have q0:(ta0.toList == ta0.toList)=true:=beq_self_eq_true _
 have q1:(ta1.toList == tb1.toList)=false:=li_ne nq
 have p1:¬ ta1.toList=tb1.toList:=li_ne2 nq
 have C1:=Lib.hid c1
 have C2:=Lib.hid c2
 have C3:=Lib.hid c3
 have C4:=Lib.hid c4
 have C5:=Lib.hid c5
 have C8:=Lib.hid c8
 have C9:=Lib.hid c9
 have C10:=Lib.hid c10
 clear c1 c2 c3 c4 c5 c8 c9 c10 _cA oA _cB oB _cC oC h1 h2 cT cW nq
 have hb:=Below.refl w.heap.size w
 go_enter Tryz.func7,Tryz.ntmps7
 go_upto_region 1 with fail
 refine wp_alloc3 (fun w1 a0 a1 a2 hk=>?_)
 replace hb:=hb.trans (hk.mono hb.size)
 clear hk
 obtain ⟨Aa,Ab⟩:=ce2 a0
 obtain ⟨Ac,Ad⟩:=ce2 a1
 obtain ⟨Ak,Al⟩:=ce2 a2
 go_wp2
 refine wp_alloc1 (fun w1 alp0 hk=>?_)
 clear Aa Ab Ac Ad Ak Al
 replace a0:=zB hk a0
 replace a1:=zB hk a1
 replace a2:=zB hk a2
 obtain ⟨Aa,Ab⟩:=ce2 a0
 obtain ⟨Ac,Ad⟩:=ce2 a1
 obtain ⟨Ak,Al⟩:=ce2 a2
 replace hb:=hb.trans (hk.mono hb.size)
 clear hk
 obtain ⟨Ae,Af,Ag,Ah,Ai,Aj⟩:=ce6 alp0
 have HA0:=Lib.hid a0
 have HA1:=Lib.hid a1
 have HA2:=Lib.hid a2
 have HAlp0:=Lib.hid alp0
 have HB:=Lib.hid hb
 clear hb Aa Ab Ac Ad Ak Al Ae Af Ag Ah Ai Aj a0 a1 a2 alp0
 go_loopw [25] (fun i wr=>(i = .int .i64 0∨i = .int .i64 1∨i = .int .i64 2∨i = .int .i64 3)∧Below w1.heap.size w1 wr) (fun i _=>3 - (intOf i).toNat)
 case atStart=>exact ⟨Or.inl rfl,Below.refl _ _⟩
 case round =>
   obtain ⟨rfl | rfl | rfl | rfl,hw⟩:=hrel
   · have alp0:=zB hw HAlp0.out
     have xl0:wr.cell? ⟨_,0,none⟩=some (Value.string ta0):=zA alp0
     have xl1:wr.cell? ⟨_,1,none⟩=some (Value.string ta1):=zA alp0
     clear alp0
     go_wp2
     go_roundw
     case rel =>
       refine ⟨Or.inr (Or.inl rfl),?_⟩
       repeat' (first | exact hw | refine Below.alloc ?_ hw.size _ | refine Below.setCell ?_ hw.size _)
     case measure=>simp [intOf]
   · have alp0:=zB hw HAlp0.out
     have xl0:wr.cell? ⟨_,2,none⟩=some (Value.string ta0):=zA alp0
     have xl1:wr.cell? ⟨_,3,none⟩=some (Value.string tb1):=zA alp0
     clear alp0
     go_wp2
     go_roundw
     case rel =>
       refine ⟨Or.inr (Or.inr (Or.inl rfl)),?_⟩
       repeat' (first | exact hw | refine Below.alloc ?_ hw.size _ | refine Below.setCell ?_ hw.size _)
     case measure=>simp [intOf]
   · have alp0:=zB hw HAlp0.out
     have xl0:wr.cell? ⟨_,4,none⟩=some (Value.string tc0):=zA alp0
     have xl1:wr.cell? ⟨_,5,none⟩=some (Value.string tc1):=zA alp0
     clear alp0
     go_wp2
     go_roundw
     case rel =>
       refine ⟨Or.inr (Or.inr (Or.inr (rfl))),?_⟩
       repeat' (first | exact hw | refine Below.alloc ?_ hw.size _ | refine Below.setCell ?_ hw.size _)
     case measure=>simp [intOf]
   · obtain ⟨w1,ew⟩:∃ w1,w1=wr:=⟨_,rfl⟩
     subst ew
     have hb:=HB.out.trans (hw.mono HB.out.size)
     have a0:=zB hw HA0.out
     obtain ⟨Aa,Ab⟩:=ce2 a0
     have a1:=zB hw HA1.out
     obtain ⟨Ac,Ad⟩:=ce2 a1
     have a2:=zB hw HA2.out
     obtain ⟨Ak,Al⟩:=ce2 a2
     have alp0:=zB hw HAlp0.out
     obtain ⟨Ae,Af,Ag,Ah,Ai,Aj⟩:=ce6 alp0
     clear hw
     go_upto_region 9 with (go_at_call 13;with_reducible refine (chVB hb R C1).mono ?_;clear hb;rintro e w1 ⟨rfl,hk,hb⟩;clear Aa Ab Ac Ad Ak Al Ae Af Ag Ah Ai Aj;replace a0:=zB hk a0;replace a1:=zB hk a1;replace a2:=zB hk a2;replace alp0:=zB hk alp0;obtain ⟨Aa,Ab⟩:=ce2 a0;obtain ⟨Ac,Ad⟩:=ce2 a1;obtain ⟨Ak,Al⟩:=ce2 a2;obtain ⟨Ae,Af,Ag,Ah,Ai,Aj⟩:=ce6 alp0;clear hk)
     obtain ⟨Aq,Ar⟩:=cy2 a0
     obtain ⟨As,At⟩:=cy2 a1
     obtain ⟨A5,A6⟩:=cy2 a2
     obtain ⟨Au,Av,Aw,Ax,Ay,Az⟩:=cy6 alp0
     have A0:=rrV C2 R hb
     have A1:=rrV C3 R hb
     have A2:=rrV C4 R hb
     refine wp_region_tail_below 6 (by first | assumption | kernel_rfl) (by kernel_rfl) ?_
     simp only [List.take_succ_cons,List.take_zero,List.drop_succ_cons,List.drop_zero]
     repeat (quiet_step (first | (with_reducible exact A0.out _ _) | (with_reducible exact A1.out _ _) | (with_reducible exact A2.out _ _)))
     refine wpQuiet_nil ?_
     intro w1 hw'
     obtain ⟨hk,hb⟩:=zQ hb hw'
     clear Aa Ab Ac Ad Ak Al Ae Af Ag Ah Ai Aj
     replace a0:=zB hk a0
     replace a1:=zB hk a1
     replace a2:=zB hk a2
     replace alp0:=zB hk alp0
     obtain ⟨Aa,Ab⟩:=ce2 a0
     obtain ⟨Ac,Ad⟩:=ce2 a1
     obtain ⟨Ak,Al⟩:=ce2 a2
     obtain ⟨Ae,Af,Ag,Ah,Ai,Aj⟩:=ce6 alp0
     clear A0 A1 A2 Aq Ar As At A5 A6 Au Av Aw Ax Ay Az
     clear hk hw'
     go_upto_region 16 with (go_at_call 21;with_reducible refine (zL hb (C5.out _ (R.below hb))).mono ?_;clear hb;rintro e w1 ⟨rfl,hk,hb⟩;clear Aa Ab Ac Ad Ak Al Ae Af Ag Ah Ai Aj;replace a0:=zB hk a0;replace a1:=zB hk a1;replace a2:=zB hk a2;replace alp0:=zB hk alp0;obtain ⟨Aa,Ab⟩:=ce2 a0;obtain ⟨Ac,Ad⟩:=ce2 a1;obtain ⟨Ak,Al⟩:=ce2 a2;obtain ⟨Ae,Af,Ag,Ah,Ai,Aj⟩:=ce6 alp0;clear hk)
     clear Ak Al a2
     obtain ⟨Aq,Ar⟩:=cy2 a0
     obtain ⟨As,At⟩:=cy2 a1
     obtain ⟨Au,Av,Aw,Ax,Ay,Az⟩:=cy6 alp0
     have A3:=rrV C2 R hb
     have A4:=rrV C3 R hb
     refine wp_region_tail_below 4 (by first | assumption | kernel_rfl) (by kernel_rfl) ?_
     simp only [List.take_succ_cons,List.take_zero,List.drop_succ_cons,List.drop_zero]
     repeat (quiet_step (first | (with_reducible exact A3.out _ _) | (with_reducible exact A4.out _ _)))
     refine wpQuiet_nil ?_
     intro w1 hw'
     obtain ⟨hk,hb⟩:=zQ hb hw'
     clear Aa Ab Ac Ad Ae Af Ag Ah Ai Aj
     replace a0:=zB hk a0
     replace a1:=zB hk a1
     replace alp0:=zB hk alp0
     obtain ⟨Aa,Ab⟩:=ce2 a0
     obtain ⟨Ac,Ad⟩:=ce2 a1
     obtain ⟨Ae,Af,Ag,Ah,Ai,Aj⟩:=ce6 alp0
     clear A3 A4 Aq Ar As At Au Av Aw Ax Ay Az
     clear hk hw'
     go_upto_region 18 with ((first | (go_at_call 21;with_reducible refine (zL hb (C8.out _ (R.below hb))).mono ?_) | (go_at_call 54;with_reducible refine (chVB hb R C9).mono ?_));clear hb;rintro e w1 ⟨rfl,hk,hb⟩;clear Aa Ab Ac Ad Ae Af Ag Ah Ai Aj;replace a0:=zB hk a0;replace a1:=zB hk a1;replace alp0:=zB hk alp0;obtain ⟨Aa,Ab⟩:=ce2 a0;obtain ⟨Ac,Ad⟩:=ce2 a1;obtain ⟨Ae,Af,Ag,Ah,Ai,Aj⟩:=ce6 alp0;clear hk)
     refine wp_alloc1 (fun w1 Am hk=>?_)
     clear Aa Ab Ac Ad Ae Af Ag Ah Ai Aj
     replace a0:=zB hk a0
     replace a1:=zB hk a1
     replace alp0:=zB hk alp0
     obtain ⟨Aa,Ab⟩:=ce2 a0
     obtain ⟨Ac,Ad⟩:=ce2 a1
     obtain ⟨Ae,Af,Ag,Ah,Ai,Aj⟩:=ce6 alp0
     replace hb:=hb.trans (hk.mono hb.size)
     clear hk
     obtain ⟨An,Ao,Ap⟩:=ce3 Am
     go_upto_region 19 with (go_at_call 48;with_reducible refine (chVB hb R C10).mono ?_;clear hb;rintro e w1 ⟨rfl,hk,hb⟩;clear Aa Ab Ac Ad An Ao Ap Ae Af Ag Ah Ai Aj;replace a0:=zB hk a0;replace a1:=zB hk a1;replace Am:=zB hk Am;replace alp0:=zB hk alp0;obtain ⟨Aa,Ab⟩:=ce2 a0;obtain ⟨Ac,Ad⟩:=ce2 a1;obtain ⟨An,Ao,Ap⟩:=ce3 Am;obtain ⟨Ae,Af,Ag,Ah,Ai,Aj⟩:=ce6 alp0;clear hk)
     refine wp_alloc1 (fun w1 A7 hk=>?_)
     clear Aa Ab Ac Ad An Ao Ap Ae Af Ag Ah Ai Aj
     replace a0:=zB hk a0
     replace a1:=zB hk a1
     replace Am:=zB hk Am
     replace alp0:=zB hk alp0
     obtain ⟨Aa,Ab⟩:=ce2 a0
     obtain ⟨Ac,Ad⟩:=ce2 a1
     obtain ⟨An,Ao,Ap⟩:=ce3 Am
     obtain ⟨Ae,Af,Ag,Ah,Ai,Aj⟩:=ce6 alp0
     replace hb:=hb.trans (hk.mono hb.size)
     clear hk
     obtain ⟨A8,A9⟩:=ce2 A7
     go_wp2
     first | go_ret | go_ret2 | go_ret3
     exact ⟨rfl,hb⟩
theorem thr_code (a b x y:Rat) (ra:RL a 40) (rb:RL b 40) (rx:RL x 40) (ry:RL y 40) (h:a≠x∨b≠y):∃ s0 s1 s2:ByteArray,∀ w,EnvV w →
   Calls Tryz.prog 54 #[.agg #[.string (ratB a),.string (ratB b)],.agg #[.string (ratB x),.string (ratB y)]] w (Ret w (.tuple #[.agg #[.string s0,.string s1,.string s2],.int .i64 0])):=by
 have na:RN a 40 40:=ra
 have nb:RN b 40 40:=rb
 have nx:RN x 40 40:=rx
 have ny:RN y 40 40:=ry
 have hC:RL ((((b - y)*a)+((-(a - x))*b)) - (0:Rat)) 200:=by
   rw [show (((b - y)*a)+((-(a - x))*b)) - (0:Rat)=x*b - y*a by grind]
   exact RN.rl (RN_sub (N:=160) (RN_mul nx nb) (RN_mul ny na)) (by decide) (by decide)
 by_cases q:a=x
 · exact ⟨_,_,_,fun w R=>through_1 a b x y q (h.resolve_left (fun k=>k q)) (RN.rl (K:=200) na) (RN.rl (K:=200) nb) (RN.rl (K:=200) nx) (RN.rl (K:=200) ny) (RN.rl (K:=10000) na) (RN.rl (K:=10000) nx) (RN.rl (K:=10000) nb) (RN.rl (K:=10000) ny) (RN.rl (K:=40000) (RN_sub (N:=80) na nx) (by decide) (by decide)) (RN.rl (K:=10000) (RN_sub (N:=80) nb ny) (by decide) (by decide)) (RN.rl (K:=10000) (RN_mul (RN_sub (N:=80) nb ny) na) (by decide) (by decide)) (RN.rl (K:=10000) (RN_neg (RN_sub (N:=80) na nx)) (by decide) (by decide)) (RN.rl (K:=10000) (RN_add (N:=122) rn_0 (RN_mul (RN_sub (N:=80) nb ny) na)) (by decide) (by decide)) (RN.rl (K:=10000) (RN_mul (RN_neg (RN_sub (N:=80) na nx)) nb) (by decide) (by decide)) (RN.rl (K:=10000) (RN_add (N:=243) (RN_add (N:=122) rn_0 (RN_mul (RN_sub (N:=80) nb ny) na)) (RN_mul (RN_neg (RN_sub (N:=80) na nx)) nb)) (by decide) (by decide)) (RN.rl (K:=10000) (RN_mul rn_m1 rn_0) (by decide) (by decide)) (RN.rl (K:=200) (RN_sub (N:=80) nb ny) (by decide) (by decide)) (RN.rl (K:=200) (RN_neg (RN_sub (N:=80) na nx)) (by decide) (by decide)) hC w R⟩
 · exact ⟨_,_,_,fun w R=>through_0 a b x y q (RN.rl (K:=200) na) (RN.rl (K:=200) nb) (RN.rl (K:=200) nx) (RN.rl (K:=200) ny) (RN.rl (K:=10000) na) (RN.rl (K:=10000) nx) (RN.rl (K:=10000) nb) (RN.rl (K:=10000) ny) (RN.rl (K:=40000) (RN_sub (N:=80) na nx) (by decide) (by decide)) (RN.rl (K:=10000) (RN_sub (N:=80) nb ny) (by decide) (by decide)) (RN.rl (K:=10000) (RN_mul (RN_sub (N:=80) nb ny) na) (by decide) (by decide)) (RN.rl (K:=10000) (RN_neg (RN_sub (N:=80) na nx)) (by decide) (by decide)) (RN.rl (K:=10000) (RN_add (N:=122) rn_0 (RN_mul (RN_sub (N:=80) nb ny) na)) (by decide) (by decide)) (RN.rl (K:=10000) (RN_mul (RN_neg (RN_sub (N:=80) na nx)) nb) (by decide) (by decide)) (RN.rl (K:=10000) (RN_add (N:=243) (RN_add (N:=122) rn_0 (RN_mul (RN_sub (N:=80) nb ny) na)) (RN_mul (RN_neg (RN_sub (N:=80) na nx)) nb)) (by decide) (by decide)) (RN.rl (K:=10000) (RN_mul rn_m1 rn_0) (by decide) (by decide)) (RN.rl (K:=200) (RN_sub (N:=80) nb ny) (by decide) (by decide)) (RN.rl (K:=200) (RN_neg (RN_sub (N:=80) na nx)) (by decide) (by decide)) hC w R⟩
theorem point_code (a b:ByteArray) (za:a.size≤100000) (zb:b.size≤100000):∃ e:Int,((IsRat a.data.toList∧IsRat b.data.toList)∨e≠0) ∧
   (∀ w,EnvV w→Calls Tryz.prog 17 #[.agg #[.string a,.string b]] w fun e' w' => e' = .returned (.int .i64 e)∧Below w.heap.size w w') ∧
   (∀ w,EnvV w→Calls Tryz.prog 18 #[.agg #[.string a,.string b]] w fun e' w' => e' = .returned (.int .i64 e)∧Below w.heap.size w w'):=by
 by_cases h:IsRat a.data.toList∧IsRat b.data.toList
 · exact ⟨0,Or.inl h,fun w R=>check2_raw a b 0 (fun _=>rfl) (fun k=>absurd h k) za zb w R,fun w R=>of2_raw a b 0 (fun _=>rfl) (fun k=>absurd h k) za zb w R⟩
 · exact ⟨2,Or.inr ne2,fun w R=>check2_raw a b 2 (fun k=>absurd k h) (fun _=>rfl) za zb w R,fun w R=>of2_raw a b 2 (fun k=>absurd k h) (fun _=>rfl) za zb w R⟩
theorem lawPoints (ta0 ta1 tb0 tb1 tc0 tc1:ByteArray) (mta0:ta0.size≤9223372036854775807) (mta1:ta1.size≤9223372036854775807) (mtb0:tb0.size≤9223372036854775807) (mtb1:tb1.size≤9223372036854775807) (mtc0:tc0.size≤9223372036854775807) (mtc1:tc1.size≤9223372036854775807) (w:World) (R:EnvV w) :
   Calls Tryz.prog 7 #[.agg #[.string ta0,.string ta1],.agg #[.string tb0,.string tb1],.agg #[.string tc0,.string tc1]] w (Ret w (.bool true)):=by
 by_cases hl:ta0.size≤40∧ta1.size≤40∧tb0.size≤40∧tb1.size≤40∧tc0.size≤40∧tc1.size≤40
 case neg=>exact pointsLong ta0 ta1 tb0 tb1 tc0 tc1 mta0 mta1 mtb0 mtb1 mtc0 mtc1 hl w R
 obtain ⟨sta0,sta1,stb0,stb1,stc0,stc1⟩:=hl
 have zta0:ta0.size≤100000:=by omega
 have zta1:ta1.size≤100000:=by omega
 have ztb0:tb0.size≤100000:=by omega
 have ztb1:tb1.size≤100000:=by omega
 have ztc0:tc0.size≤100000:=by omega
 have ztc1:tc1.size≤100000:=by omega
 obtain ⟨ea,iA,cA,oA⟩:=point_code ta0 ta1 zta0 zta1
 obtain ⟨eb,iB,cB,oB⟩:=point_code tb0 tb1 ztb0 ztb1
 obtain ⟨ec,iC,cC,oC⟩:=point_code tc0 tc1 ztc0 ztc1
 obtain ⟨w2,h2⟩:∃ w2,firstNZ [ea,eb]=w2:=⟨_,rfl⟩
 obtain ⟨w1,h1⟩:∃ w1,firstNZ [ea,eb,ec]=w1:=⟨_,rfl⟩
 have cX:=fun (w:World) (R:EnvV w)=>rcheck_any ⟨#[120]⟩ 2 (.inr ⟨not_rat_x,rfl⟩) (by decide) w R.toEnvR
 by_cases n2:w2=0
 case neg =>
   have n1:w1≠0:=by
     rw [← h1];rw [← h2] at n2
     unfold firstNZ at n2 ⊢
     split at n2
     · rename_i q;rw [if_pos q];unfold firstNZ at n2 ⊢
       split at n2
       · exact absurd rfl n2
       · rename_i q;rw [if_neg q];exact n2
     · rename_i q;rw [if_neg q];exact n2
   have cT:=fun (w:World) (R:EnvV w)=>through_err ta0 ta1 tb0 tb1 ea eb w2 cA cB h2 n2 w R
   have cW:=fun (w:World) (R:EnvV w)=>toward_err ta0 ta1 tb0 tb1 ⟨#[120]⟩ ea eb 2 w2 w2 cA cB cX h2 (firstNZ_or n2) n2 w R
   exact pts_1 ta0 ta1 tb0 tb1 tc0 tc1 ea eb ec w1 w2 sta0 sta1 stb0 stb1 stc0 stc1 cA oA cB oB cC oC h1 h2 cT cW n1 n2 w R
 subst n2
 have ea0:ea=0:=by
   by_cases q:ea=0
   · exact q
   · unfold firstNZ at h2;rw [if_neg q] at h2;exact h2
 subst ea0
 have eb0:eb=0:=by
   by_cases q:eb=0
   · exact q
   · unfold firstNZ at h2;rw [if_pos rfl] at h2;unfold firstNZ at h2;rw [if_neg q] at h2;exact h2
 subst eb0
 have cW:=fun (w:World) (R:EnvV w)=>toward_err ta0 ta1 tb0 tb1 ⟨#[120]⟩ 0 0 2 0 2 cA cB cX rfl rfl ne2 w R
 replace iA:=iA.resolve_right (fun k=>k rfl)
 replace iB:=iB.resolve_right (fun k=>k rfl)
 obtain ⟨p0,rfl,_⟩:=rat_of iA.1
 obtain ⟨p1,rfl,_⟩:=rat_of iA.2
 obtain ⟨q0,rfl,_⟩:=rat_of iB.1
 obtain ⟨q1,rfl,_⟩:=rat_of iB.2
 have r0:RL p0 40:=RL_of_size sta0
 have r1:RL p1 40:=RL_of_size sta1
 have r2:RL q0 40:=RL_of_size stb0
 have r3:RL q1 40:=RL_of_size stb1
 have inj:∀ p q:Rat,p≠q→ratB p≠ratB q:=fun p q h k=>h (ratB_li (by rw [k]))
 by_cases e0:p0=q0
 · subst e0
   by_cases e1:p1=q1
   · subst e1
     have cT:=fun (w:World) (R:EnvV w)=>through_2 p0 p1 p0 p1 rfl rfl (r0.mono (by decide)) (r1.mono (by decide)) (r0.mono (by decide)) (r1.mono (by decide)) w R
     by_cases n1:w1=0
     · subst n1
       exact pts_3e (ratB p0) (ratB p1) tc0 tc1 0 ec sta0 sta1 stc0 stc1 cA oA cC oC h1 h2 cT cW w R
     · exact pts_2e (ratB p0) (ratB p1) tc0 tc1 0 ec w1 sta0 sta1 stc0 stc1 cA oA cC oC h1 h2 cT cW n1 w R
   · obtain ⟨s0,s1,s2,cT⟩:=thr_code p0 p1 p0 q1 r0 r1 r2 r3 (Or.inr e1)
     by_cases n1:w1=0
     · subst n1
       exact pts_31 (ratB p0) (ratB p1) (ratB q1) tc0 tc1 s0 s1 s2 0 0 ec sta0 sta1 stb1 stc0 stc1 cA oA cB oB cC oC h1 h2 cT cW (inj _ _ e1) w R
     · exact pts_21 (ratB p0) (ratB p1) (ratB q1) tc0 tc1 s0 s1 s2 0 0 ec w1 sta0 sta1 stb1 stc0 stc1 cA oA cB oB cC oC h1 h2 cT cW n1 (inj _ _ e1) w R
 · obtain ⟨s0,s1,s2,cT⟩:=thr_code p0 p1 q0 q1 r0 r1 r2 r3 (Or.inl e0)
   by_cases n1:w1=0
   · subst n1
     exact pts_30 (ratB p0) (ratB p1) (ratB q0) (ratB q1) tc0 tc1 s0 s1 s2 0 0 ec sta0 sta1 stb0 stb1 stc0 stc1 cA oA cB oB cC oC h1 h2 cT cW (inj _ _ e0) w R
   · exact pts_20 (ratB p0) (ratB p1) (ratB q0) (ratB q1) tc0 tc1 s0 s1 s2 0 0 ec w1 sta0 sta1 stb0 stb1 stc0 stc1 cA oA cB oB cC oC h1 h2 cT cW n1 (inj _ _ e0) w R
end Go.Proofs.YtpennccflalobaaGreatDoor.Kl
