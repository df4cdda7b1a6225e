import Derived.Test.YtpiiclmkbplkhaaGreatDoorKlBVKZ
import Derived.BigRegion
namespace Go.Proofs.YtpiiclmkbplkhaaGreatDoor.Kl
open Go Go.RowKit
set_option maxRecDepth 100000
set_option maxHeartbeats 8000000
theorem isSmall_k  (k:Int) (w:World) (_R:EnvV w) :
   Calls Tryz.prog 145 #[.agg #[.int .i64 k,.bool false,.slice none 0 0]] w (Ret w (.bool true)):=by
 have hb:=Below.refl w.heap.size w
 go_enter Tryz.func145,Tryz.ntmps145
 go_upto_region 1 with fail
 refine wp_alloc1 (fun w1 a0 hk=>?_)
 replace hb:=hb.trans (hk.mono hb.size)
 clear hk
 obtain ⟨Aa,Ab,Ac⟩:=ce3 a0
 go_wp2
 first | go_ret | go_ret2 | go_ret3
 exact ⟨rfl,hb⟩
theorem wtext_k  (k:Int) (hk : -9223372036854775808 < k∧k≤9223372036854775807) (w:World) (R:EnvV w) :
   Calls Tryz.prog 120 #[.agg #[.int .i64 k,.bool false,.slice none 0 0]] w (Ret w (.string (itoaB k))):=by
 have c1:=isSmall_k k
 have c2:=fun (w:World) (R:EnvV w)=>of_any k (Int.le_of_lt hk.1) hk.2 w R.toEnvR.env
 have C1:=Lib.hid c1
 have C2:=Lib.hid c2
 clear c1 c2 hk
 have hb:=Below.refl w.heap.size w
 go_enter Tryz.func120,Tryz.ntmps120
 go_upto_region 1 with fail
 refine wp_alloc1 (fun w1 a0 hk=>?_)
 replace hb:=hb.trans (hk.mono hb.size)
 clear hk
 obtain ⟨Aa,Ab,Ac⟩:=ce3 a0
 go_wp2_with ((first | (go_at_call 145;with_reducible refine (chVB hb R C1).mono ?_) | (go_at_call 89;with_reducible refine (chVB hb R C2).mono ?_));clear hb;rintro e w1 ⟨rfl,hk,hb⟩;clear Aa Ab Ac;replace a0:=zB hk a0;obtain ⟨Aa,Ab,Ac⟩:=ce3 a0;clear hk)
 first | go_ret | go_ret2 | go_ret3
 exact ⟨rfl,hb⟩
theorem wfrom_k  (k:Int) (hk : -9223372036854775808 < k∧k≤9223372036854775807) (w:World) (_R:EnvV w) :
   Calls Tryz.prog 167 #[.int .i64 k] w (Ret w (.agg #[.int .i64 k,.bool false,.slice none 0 0])):=by
 have gm:(k == -9223372036854775808)=false:=beq_eq_false_iff_ne.2 (by omega)
 have gm2:¬ k = -9223372036854775808:=by omega
 clear hk
 have hb:=Below.refl w.heap.size w
 go_enter Tryz.func167,Tryz.ntmps167
 go_upto_region 1 with fail
 refine wp_alloc1 (fun w1 a0 hk=>?_)
 replace hb:=hb.trans (hk.mono hb.size)
 clear hk
 obtain ⟨Aa,Ad,Ab,Ae,Ac,Af⟩:=cf3 a0
 go_wp2
 refine bodyPost_ret (v:=.agg #[.int .i64 k,.bool false,.slice none 0 0]) (by simp [results,Tryz.results167,go_sem,Aa,Ab,Ac]) rfl ⟨rfl,?_⟩
 repeat' (first | exact hb | refine Below.setCell ?_ (by first | exact Nat.le_refl _ | (dsimp only;omega)) _)
theorem wof_k  (k:Int) (hk : -9223372036854775808 < k∧k≤9223372036854775807) (w:World) (R:EnvV w) :
   Calls Tryz.prog 144 #[.string (itoaB k)] w (Ret w (.agg #[.int .i64 k,.bool false,.slice none 0 0])):=by
 have c1:=fun (w:World) (R:EnvV w)=>ismall_in k (Int.le_of_lt hk.1) hk.2 w R.toEnvR
 have c2:=wfrom_k k hk
 have C1:=Lib.hid c1
 have C2:=Lib.hid c2
 clear c1 c2 hk
 have hb:=Below.refl w.heap.size w
 go_enter Tryz.func144,Tryz.ntmps144
 go_upto_region 1 with fail
 refine wp_alloc1 (fun w1 a0 hk=>?_)
 replace hb:=hb.trans (hk.mono hb.size)
 clear hk
 obtain ⟨Aa,Ad,Ab,Ae,Ac,Af⟩:=cf3 a0
 go_wp2_with ((first | (go_at_call 122;with_reducible refine (chVB hb R C1).mono ?_) | (go_at_call 167;with_reducible refine (chVB hb R C2).mono ?_));clear hb;rintro e w1 ⟨rfl,hk,hb⟩;clear Aa Ab Ac Ad Ae Af;replace a0:=zB hk a0;obtain ⟨Aa,Ad,Ab,Ae,Ac,Af⟩:=cf3 a0;clear hk)
 refine bodyPost_ret (v:=.agg #[.int .i64 k,.bool false,.slice none 0 0]) (by simp [results,Tryz.results144,go_sem,Aa,Ab,Ac]) rfl ⟨rfl,?_⟩
 repeat' (first | exact hb | refine Below.setCell ?_ (by first | exact Nat.le_refl _ | (dsimp only;omega)) _)
def PrimG (p q r:Int) (F:ByteArray) (w:World):Ending→World→Prop:=fun e w' => ∃ B,w.heap.size≤B∧e = .returned (.tuple #[.slice (some ⟨B,0,none⟩) 3 3,.string F])∧w'.heap[B]? = some (Obj.cells #[Value.int .i64 p,Value.bool false,Value.slice none 0 0,Value.int .i64 q,Value.bool false,Value.slice none 0 0,Value.int .i64 r,Value.bool false,Value.slice none 0 0] 152)∧Below w.heap.size w w'
theorem wprim_w (blk:Nat) (s0 s1 s2 n0 n1 n2 d0 d1 d2 M1 M2 M3 D1 D2 D3 E1 E2 E3 Q1 Q2 Q3 Z1 Z2 Z3 F m0 m1 m2:ByteArray) (p q r:Int) (hHP0:CV 68 #[.string s0] (.tuple #[.string n0,.string d0])) (hHG0:CV 75 #[.string ⟨#[48]⟩,.string n0] (.string D1)) (hHH0:CV 75 #[.string ⟨#[49]⟩,.string d0] (.string E1)) (hHD0:CV 126 #[.string d0,.string E1] (.tuple #[.string Q1,.string Z1,.int .i64 0])) (hHU0:CV 97 #[.string ⟨#[49]⟩,.string Q1] (.string M1)) (hHM0:CV 38 #[.string s0,.string F] (.string m0)) (hHO0:CV 144 #[.string m0] (.agg #[.int .i64 p,.bool false,.slice none 0 0])) (hHP1:CV 68 #[.string s1] (.tuple #[.string n1,.string d1])) (hHG1:CV 75 #[.string D1,.string n1] (.string D2)) (hHH1:CV 75 #[.string M1,.string d1] (.string E2)) (hHD1:CV 126 #[.string d1,.string E2] (.tuple #[.string Q2,.string Z2,.int .i64 0])) (hHU1:CV 97 #[.string M1,.string Q2] (.string M2)) (hHM1:CV 38 #[.string s1,.string F] (.string m1)) (hHO1:CV 144 #[.string m1] (.agg #[.int .i64 q,.bool false,.slice none 0 0])) (hHP2:CV 68 #[.string s2] (.tuple #[.string n2,.string d2])) (hHG2:CV 75 #[.string D2,.string n2] (.string D3)) (hHH2:CV 75 #[.string M2,.string d2] (.string E3)) (hHD2:CV 126 #[.string d2,.string E3] (.tuple #[.string Q3,.string Z3,.int .i64 0])) (hHU2:CV 97 #[.string M2,.string Q3] (.string M3)) (hHM2:CV 38 #[.string s2,.string F] (.string m2)) (hHO2:CV 144 #[.string m2] (.agg #[.int .i64 r,.bool false,.slice none 0 0])) (hHN:CV 88 #[.string M3,.string D3] (.tuple #[.string F,.int .i64 0])) (w:World) (R:EnvV w) (x0:w.cell? ⟨blk,0,none⟩=some (.string s0)) (x1:w.cell? ⟨blk,1,none⟩=some (.string s1)) (x2:w.cell? ⟨blk,2,none⟩=some (.string s2)) :
   Calls Tryz.prog 118 #[.slice (some ⟨blk,0,none⟩) 3 3] w (PrimG p q r F w):=by
 have X:=Lib.hid (And.intro x0 (And.intro x1 x2))
 clear x0 x1 x2
 have HP0:=Lib.hid hHP0
 clear hHP0
 have HG0:=Lib.hid hHG0
 clear hHG0
 have HH0:=Lib.hid hHH0
 clear hHH0
 have HD0:=Lib.hid hHD0
 clear hHD0
 have HU0:=Lib.hid hHU0
 clear hHU0
 have HM0:=Lib.hid hHM0
 clear hHM0
 have HO0:=Lib.hid hHO0
 clear hHO0
 have HP1:=Lib.hid hHP1
 clear hHP1
 have HG1:=Lib.hid hHG1
 clear hHG1
 have HH1:=Lib.hid hHH1
 clear hHH1
 have HD1:=Lib.hid hHD1
 clear hHD1
 have HU1:=Lib.hid hHU1
 clear hHU1
 have HM1:=Lib.hid hHM1
 clear hHM1
 have HO1:=Lib.hid hHO1
 clear hHO1
 have HP2:=Lib.hid hHP2
 clear hHP2
 have HG2:=Lib.hid hHG2
 clear hHG2
 have HH2:=Lib.hid hHH2
 clear hHH2
 have HD2:=Lib.hid hHD2
 clear hHD2
 have HU2:=Lib.hid hHU2
 clear hHU2
 have HM2:=Lib.hid hHM2
 clear hHM2
 have HO2:=Lib.hid hHO2
 clear hHO2
 have HN:=Lib.hid hHN
 clear hHN
 have hmk:∀ w:World,(Instr.makeSlice 146 (.int .i64 3) (.int .i64 3)).run Tryz.prog w = .ok (.slice (some ⟨w.heap.size,0,none⟩) 3 3) (w.alloc (Obj.cells #[Value.int .i64 0,Value.bool false,Value.slice none 0 0,Value.int .i64 0,Value.bool false,Value.slice none 0 0,Value.int .i64 0,Value.bool false,Value.slice none 0 0] 152)):=fun w=>by kernel_rfl
 go_enter Tryz.func118,Tryz.ntmps118
 go_wp2
 go_loopw [18,4,5] (fun i m d wr=>((i = .int .i64 0∧m = .string ⟨#[49]⟩∧d = .string ⟨#[48]⟩)∨(i = .int .i64 1∧m = .string M1∧d = .string D1)∨(i = .int .i64 2∧m = .string M2∧d = .string D2)∨(i = .int .i64 3∧m = .string M3∧d = .string D3))∧Below w.heap.size w wr) (fun i _ _ _=>3 - (intOf i).toNat)
 case atStart=>exact ⟨Or.inl ⟨rfl,rfl,rfl⟩,Below.refl _ _⟩
 case round =>
   obtain ⟨⟨rfl,rfl,rfl⟩ | ⟨rfl,rfl,rfl⟩ | ⟨rfl,rfl,rfl⟩ | ⟨rfl,rfl,rfl⟩,hb⟩:=hrel
   all_goals have x0:=zC hb X.out.1
   all_goals have x1:=zC hb X.out.2.1
   all_goals have x2:=zC hb X.out.2.2
   · go_wp2_with (first | (go_at_call 68;((with_reducible refine (zK hb (HP0.out _ (R.below hb))).mono ?_);clear hb;rintro e w1 ⟨rfl,hk,hb⟩;clear hk)) | (go_at_call 75;first | ((with_reducible refine (zK hb (HG0.out _ (R.below hb))).mono ?_);clear hb;rintro e w1 ⟨rfl,hk,hb⟩;clear hk) | ((with_reducible refine (zK hb (HH0.out _ (R.below hb))).mono ?_);clear hb;rintro e w1 ⟨rfl,hk,hb⟩;clear hk)) | (go_at_call 126;((with_reducible refine (zK hb (HD0.out _ (R.below hb))).mono ?_);clear hb;rintro e w1 ⟨rfl,hk,hb⟩;clear hk)) | (go_at_call 97;((with_reducible refine (zK hb (HU0.out _ (R.below hb))).mono ?_);clear hb;rintro e w1 ⟨rfl,hk,hb⟩;clear hk)))
     go_roundw
     case rel=>exact ⟨Or.inr (Or.inl ⟨rfl,rfl,rfl⟩),hb⟩
     case measure=>simp [intOf]
   · go_wp2_with (first | (go_at_call 68;((with_reducible refine (zK hb (HP1.out _ (R.below hb))).mono ?_);clear hb;rintro e w1 ⟨rfl,hk,hb⟩;clear hk)) | (go_at_call 75;first | ((with_reducible refine (zK hb (HG1.out _ (R.below hb))).mono ?_);clear hb;rintro e w1 ⟨rfl,hk,hb⟩;clear hk) | ((with_reducible refine (zK hb (HH1.out _ (R.below hb))).mono ?_);clear hb;rintro e w1 ⟨rfl,hk,hb⟩;clear hk)) | (go_at_call 126;((with_reducible refine (zK hb (HD1.out _ (R.below hb))).mono ?_);clear hb;rintro e w1 ⟨rfl,hk,hb⟩;clear hk)) | (go_at_call 97;((with_reducible refine (zK hb (HU1.out _ (R.below hb))).mono ?_);clear hb;rintro e w1 ⟨rfl,hk,hb⟩;clear hk)))
     go_roundw
     case rel=>exact ⟨Or.inr (Or.inr (Or.inl ⟨rfl,rfl,rfl⟩)),hb⟩
     case measure=>simp [intOf]
   · go_wp2_with (first | (go_at_call 68;((with_reducible refine (zK hb (HP2.out _ (R.below hb))).mono ?_);clear hb;rintro e w1 ⟨rfl,hk,hb⟩;clear hk)) | (go_at_call 75;first | ((with_reducible refine (zK hb (HG2.out _ (R.below hb))).mono ?_);clear hb;rintro e w1 ⟨rfl,hk,hb⟩;clear hk) | ((with_reducible refine (zK hb (HH2.out _ (R.below hb))).mono ?_);clear hb;rintro e w1 ⟨rfl,hk,hb⟩;clear hk)) | (go_at_call 126;((with_reducible refine (zK hb (HD2.out _ (R.below hb))).mono ?_);clear hb;rintro e w1 ⟨rfl,hk,hb⟩;clear hk)) | (go_at_call 97;((with_reducible refine (zK hb (HU2.out _ (R.below hb))).mono ?_);clear hb;rintro e w1 ⟨rfl,hk,hb⟩;clear hk)))
     go_roundw
     case rel=>exact ⟨Or.inr (Or.inr (Or.inr (⟨rfl,rfl,rfl⟩))),hb⟩
     case measure=>simp [intOf]
   · clear x0 x1 x2
     go_upto_region 14 with (first | (go_at_call 88;((with_reducible refine (zK hb (HN.out _ (R.below hb))).mono ?_);clear hb;rintro e w1 ⟨rfl,hk,hb⟩;clear hk)))
     obtain ⟨B,eB⟩:∃ B,w1.heap.size=B:=⟨_,rfl⟩
     have hB:w.heap.size≤B:=by rw [← eB];exact hb.size
     refine wp_alloc1 (fun w1 aB hk=>?_)
     rw [eB] at aB ⊢
     clear eB
     replace hb:=hb.trans (hk.mono hb.size)
     clear hk
     have HA:=Lib.hid aB
     have HB:=Lib.hid hb
     clear aB hb
     go_wp2
     go_loopw [56] (fun i wr=>((i = .int .i64 0∧wr.heap[B]? = some (Obj.cells #[Value.int .i64 0,Value.bool false,Value.slice none 0 0,Value.int .i64 0,Value.bool false,Value.slice none 0 0,Value.int .i64 0,Value.bool false,Value.slice none 0 0] 152))∨(i = .int .i64 1∧wr.heap[B]? = some (Obj.cells #[Value.int .i64 p,Value.bool false,Value.slice none 0 0,Value.int .i64 0,Value.bool false,Value.slice none 0 0,Value.int .i64 0,Value.bool false,Value.slice none 0 0] 152))∨(i = .int .i64 2∧wr.heap[B]? = some (Obj.cells #[Value.int .i64 p,Value.bool false,Value.slice none 0 0,Value.int .i64 q,Value.bool false,Value.slice none 0 0,Value.int .i64 0,Value.bool false,Value.slice none 0 0] 152))∨(i = .int .i64 3∧wr.heap[B]? = some (Obj.cells #[Value.int .i64 p,Value.bool false,Value.slice none 0 0,Value.int .i64 q,Value.bool false,Value.slice none 0 0,Value.int .i64 r,Value.bool false,Value.slice none 0 0] 152)))∧Below w.heap.size w wr) (fun i _=>3 - (intOf i).toNat)
     case atStart=>exact ⟨Or.inl ⟨rfl,HA.out⟩,HB.out⟩
     case round =>
       obtain ⟨⟨rfl,aB⟩ | ⟨rfl,aB⟩ | ⟨rfl,aB⟩ | ⟨rfl,aB⟩,hb⟩:=hrel
       all_goals have x0:=zC hb X.out.1
       all_goals have x1:=zC hb X.out.2.1
       all_goals have x2:=zC hb X.out.2.2
       · obtain ⟨w1,ew⟩:∃ w1,w1=wr:=⟨_,rfl⟩
         subst ew
         go_upto_region 17 with fail
         have f0:w1.frozen? ⟨B,0,none⟩=false:=zD aB
         have y0:w1.cell? ⟨B,0,none⟩=some (Value.int .i64 0):=zA aB
         have f1:w1.frozen? ⟨B,1,none⟩=false:=zD aB
         have y1:w1.cell? ⟨B,1,none⟩=some (Value.bool false):=zA aB
         have f2:w1.frozen? ⟨B,2,none⟩=false:=zD aB
         have y2:w1.cell? ⟨B,2,none⟩=some (Value.slice none 0 0):=zA aB
         go_wp2_with (first | (go_at_call 38;((with_reducible refine (zK hb (HM0.out _ (R.below hb))).mono ?_);clear hb;rintro e w1 ⟨rfl,hk,hb⟩;replace f0:=zF hk aB f0;replace y0:=zC hk y0;replace f1:=zF hk aB f1;replace y1:=zC hk y1;replace f2:=zF hk aB f2;replace y2:=zC hk y2;replace x0:=zC hk x0;replace x1:=zC hk x1;replace x2:=zC hk x2;replace aB:=zB hk aB;clear hk)) | (go_at_call 144;((with_reducible refine (zK hb (HO0.out _ (R.below hb))).mono ?_);clear hb;rintro e w1 ⟨rfl,hk,hb⟩;replace f0:=zF hk aB f0;replace y0:=zC hk y0;replace f1:=zF hk aB f1;replace y1:=zC hk y1;replace f2:=zF hk aB f2;replace y2:=zC hk y2;replace x0:=zC hk x0;replace x1:=zC hk x1;replace x2:=zC hk x2;replace aB:=zB hk aB;clear hk)))
         go_roundw
         case rel =>
           refine ⟨Or.inr (Or.inl ⟨rfl,?_⟩),?_⟩
           · exact setCell_here (setCell_here (setCell_here aB _) _) _
           · exact Below.setCell (Below.setCell (Below.setCell hb hB _) hB _) hB _
         case measure=>simp [intOf]
       · obtain ⟨w1,ew⟩:∃ w1,w1=wr:=⟨_,rfl⟩
         subst ew
         go_upto_region 17 with fail
         have f0:w1.frozen? ⟨B,3,none⟩=false:=zD aB
         have y0:w1.cell? ⟨B,3,none⟩=some (Value.int .i64 0):=zA aB
         have f1:w1.frozen? ⟨B,4,none⟩=false:=zD aB
         have y1:w1.cell? ⟨B,4,none⟩=some (Value.bool false):=zA aB
         have f2:w1.frozen? ⟨B,5,none⟩=false:=zD aB
         have y2:w1.cell? ⟨B,5,none⟩=some (Value.slice none 0 0):=zA aB
         go_wp2_with (first | (go_at_call 38;((with_reducible refine (zK hb (HM1.out _ (R.below hb))).mono ?_);clear hb;rintro e w1 ⟨rfl,hk,hb⟩;replace f0:=zF hk aB f0;replace y0:=zC hk y0;replace f1:=zF hk aB f1;replace y1:=zC hk y1;replace f2:=zF hk aB f2;replace y2:=zC hk y2;replace x0:=zC hk x0;replace x1:=zC hk x1;replace x2:=zC hk x2;replace aB:=zB hk aB;clear hk)) | (go_at_call 144;((with_reducible refine (zK hb (HO1.out _ (R.below hb))).mono ?_);clear hb;rintro e w1 ⟨rfl,hk,hb⟩;replace f0:=zF hk aB f0;replace y0:=zC hk y0;replace f1:=zF hk aB f1;replace y1:=zC hk y1;replace f2:=zF hk aB f2;replace y2:=zC hk y2;replace x0:=zC hk x0;replace x1:=zC hk x1;replace x2:=zC hk x2;replace aB:=zB hk aB;clear hk)))
         go_roundw
         case rel =>
           refine ⟨Or.inr (Or.inr (Or.inl ⟨rfl,?_⟩)),?_⟩
           · exact setCell_here (setCell_here (setCell_here aB _) _) _
           · exact Below.setCell (Below.setCell (Below.setCell hb hB _) hB _) hB _
         case measure=>simp [intOf]
       · obtain ⟨w1,ew⟩:∃ w1,w1=wr:=⟨_,rfl⟩
         subst ew
         go_upto_region 17 with fail
         have f0:w1.frozen? ⟨B,6,none⟩=false:=zD aB
         have y0:w1.cell? ⟨B,6,none⟩=some (Value.int .i64 0):=zA aB
         have f1:w1.frozen? ⟨B,7,none⟩=false:=zD aB
         have y1:w1.cell? ⟨B,7,none⟩=some (Value.bool false):=zA aB
         have f2:w1.frozen? ⟨B,8,none⟩=false:=zD aB
         have y2:w1.cell? ⟨B,8,none⟩=some (Value.slice none 0 0):=zA aB
         go_wp2_with (first | (go_at_call 38;((with_reducible refine (zK hb (HM2.out _ (R.below hb))).mono ?_);clear hb;rintro e w1 ⟨rfl,hk,hb⟩;replace f0:=zF hk aB f0;replace y0:=zC hk y0;replace f1:=zF hk aB f1;replace y1:=zC hk y1;replace f2:=zF hk aB f2;replace y2:=zC hk y2;replace x0:=zC hk x0;replace x1:=zC hk x1;replace x2:=zC hk x2;replace aB:=zB hk aB;clear hk)) | (go_at_call 144;((with_reducible refine (zK hb (HO2.out _ (R.below hb))).mono ?_);clear hb;rintro e w1 ⟨rfl,hk,hb⟩;replace f0:=zF hk aB f0;replace y0:=zC hk y0;replace f1:=zF hk aB f1;replace y1:=zC hk y1;replace f2:=zF hk aB f2;replace y2:=zC hk y2;replace x0:=zC hk x0;replace x1:=zC hk x1;replace x2:=zC hk x2;replace aB:=zB hk aB;clear hk)))
         go_roundw
         case rel =>
           refine ⟨Or.inr (Or.inr (Or.inr (⟨rfl,?_⟩))),?_⟩
           · exact setCell_here (setCell_here (setCell_here aB _) _) _
           · exact Below.setCell (Below.setCell (Below.setCell hb hB _) hB _) hB _
         case measure=>simp [intOf]
       · go_wp2
         first | go_ret | go_ret2 | go_ret3
         exact ⟨B,hB,rfl,aB,hb⟩
theorem wprim_any (blk:Nat) (a b c:Rat) (p q r:Int) (nz:a≠0∨b≠0∨c≠0) (ra:RL a 200) (rb:RL b 200) (rc:RL c 200) (hp:a*primF a b c=(p:Rat)) (hq:b*primF a b c=(q:Rat)) (hr:c*primF a b c=(r:Rat)) (bp:p.natAbs≤1000000000000) (bq:q.natAbs≤1000000000000) (br:r.natAbs≤1000000000000) (w:World) (R:EnvV w) (x0:w.cell? ⟨blk,0,none⟩=some (.string (ratB a))) (x1:w.cell? ⟨blk,1,none⟩=some (.string (ratB b))) (x2:w.cell? ⟨blk,2,none⟩=some (.string (ratB c))) :
   Calls Tryz.prog 118 #[.slice (some ⟨blk,0,none⟩) 3 3] w (PrimG p q r (ratB (primF a b c)) w):=by
 have nF:RN (primF a b c) 600 200:=RN_prim nz (by decide) (by decide) ra rb rc
 have rF:RL (primF a b c) 10000:=nF.rl
 have kd:∀ n:Nat,dlen (n:Int)≤200→dlen (n:Int)≤40000:=fun n h=>Nat.le_trans h (by decide)
 have ga:dlen ((Nat.gcd 0 a.num.natAbs:Nat):Int)≤200:=dlen_gcd2 _ _ _ (by decide) (by decide +kernel) (by rw [dlen_abs];exact ra.1)
 have gb:dlen ((Nat.gcd (Nat.gcd 0 a.num.natAbs) b.num.natAbs:Nat):Int)≤200:=dlen_gcd2 _ _ _ (by decide) ga (by rw [dlen_abs];exact rb.1)
 have l1:dlen ((Nat.lcm 1 a.den:Nat):Int)≤1+200:=dlen_lcm _ _ _ _ (by decide) (by decide) a.den_pos (by decide +kernel) ra.2
 have p1:0 < Nat.lcm 1 a.den:=Nat.lcm_pos (by decide) a.den_pos
 have l2:dlen ((Nat.lcm (Nat.lcm 1 a.den) b.den:Nat):Int)≤1+200+200:=dlen_lcm _ _ _ _ (by decide) p1 b.den_pos l1 rb.2
 have p2:0 < Nat.lcm (Nat.lcm 1 a.den) b.den:=Nat.lcm_pos p1 b.den_pos
 have l3:dlen ((Nat.lcm (Nat.lcm (Nat.lcm 1 a.den) b.den) c.den:Nat):Int)≤1+200+200+200:=dlen_lcm _ _ _ _ (by decide) p2 c.den_pos l2 rc.2
 have gp:∀ m d:Nat,0 < d→0 < Nat.gcd m d:=fun m d h=>Nat.gcd_pos_of_pos_right _ h
 have gl:∀ m d:Nat,0 < d→dlen (d:Int)≤200→dlen ((Nat.gcd m d:Nat):Int)≤40000:=fun m d h0 h=>by
   have h2:=dlen_lt _ _ h
   rw [Int.natAbs_natCast] at h2
   exact Nat.le_trans (dlen_le _ 200 (by decide) (by rw [Int.natAbs_natCast];exact Nat.lt_of_le_of_lt (Nat.gcd_le_right _ h0) h2)) (by decide)
 have ql:∀ m d:Nat,dlen (d:Int)≤200→dlen ((d / Nat.gcd m d:Nat):Int)≤40000:=fun m d h=>Nat.le_trans (dlen_quot d _ 200 (by decide) h) (by decide)
 have eD:Nat.gcd (Nat.gcd (Nat.gcd 0 a.num.natAbs) b.num.natAbs) c.num.natAbs=primD a b c:=by rw [Nat.gcd_zero_left];rfl
 have eM:Nat.lcm (Nat.lcm (Nat.lcm 1 a.den) b.den) c.den=primM a b c:=by rw [Nat.lcm_one_left];rfl
 have hG0:CV 75 #[.string ⟨#[48]⟩,.string (itoaB a.num)] (.string (itoaB ((Nat.gcd 0 a.num.natAbs:Nat):Int))):=fun w R=>by
   have h:=i_gcdn 0 a.num (by decide +kernel) (Nat.le_trans ra.1 (by decide)) w R.env
   rwa [it_0] at h
 have hH0:CV 75 #[.string ⟨#[49]⟩,.string (itoaB (a.den:Int))] (.string (itoaB ((Nat.gcd 1 a.den:Nat):Int))):=fun w R=>by
   have h:=i_gcd 1 a.den (by decide +kernel) (kd _ ra.2) w R.env
   rwa [it_1] at h
 have hM0:CV 97 #[.string ⟨#[49]⟩,.string (itoaB ((a.den / Nat.gcd 1 a.den:Nat):Int))] (.string (itoaB ((Nat.lcm 1 a.den:Nat):Int))):=fun w R=>by
   have h:=i_mul 1 a.den (by decide +kernel) (ql _ _ ra.2) w R.env
   rwa [it_1] at h
 have hN:CV 88 #[.string (itoaB ((Nat.lcm (Nat.lcm (Nat.lcm 1 a.den) b.den) c.den:Nat):Int)),.string (itoaB ((Nat.gcd (Nat.gcd (Nat.gcd 0 a.num.natAbs) b.num.natAbs) c.num.natAbs:Nat):Int))] (.tuple #[.string (ratB (primF a b c)),.int .i64 0]):=fun w R=>by
   have h:=rnew_any (primM a b c:Int) (primD a b c:Int) w R.toEnvR (by rw [← eM];exact Nat.le_trans l3 (by decide)) (Nat.le_trans (dlen_gcd2 _ _ 200 (by decide) (dlen_gcd2 _ _ 200 (by decide) (by rw [dlen_abs];exact ra.1) (by rw [dlen_abs];exact rb.1)) (by rw [dlen_abs];exact rc.1)) (by decide)) (by have:=primD_pos a b c nz;omega)
   rw [eM,eD];exact h
 exact wprim_w blk _ _ _ _ _ _ _ _ _ _ _ _ _ _ _ _ _ _ _ _ _ _ _ _ _ _ _ _ p q r (fun w R=>rparts_any a w R.toEnvR (ra.mono (by decide))) hG0 hH0 (fun w R=>i_div a.den _ (gp _ _ a.den_pos) (kd _ ra.2) (gl _ _ a.den_pos ra.2) w R.env) hM0 (fun w R=>by have h:=rmul_any a (primF a b c) (RN.rl (K:=10000) ra) rF w R.toEnvR;rw [hp,ratB_int (q:=(p:Rat)) rfl] at h;exact h) (fun w R=>wof_k p (by omega) w R) (fun w R=>rparts_any b w R.toEnvR (rb.mono (by decide))) (fun w R=>i_gcdn _ b.num (kd _ ga) (Nat.le_trans rb.1 (by decide)) w R.env) (fun w R=>i_gcd _ b.den (Nat.le_trans l1 (by decide)) (kd _ rb.2) w R.env) (fun w R=>i_div b.den _ (gp _ _ b.den_pos) (kd _ rb.2) (gl _ _ b.den_pos rb.2) w R.env) (fun w R=>i_mul _ b.den (Nat.le_trans l1 (by decide)) (ql _ _ rb.2) w R.env) (fun w R=>by have h:=rmul_any b (primF a b c) (RN.rl (K:=10000) rb) rF w R.toEnvR;rw [hq,ratB_int (q:=(q:Rat)) rfl] at h;exact h) (fun w R=>wof_k q (by omega) w R) (fun w R=>rparts_any c w R.toEnvR (rc.mono (by decide))) (fun w R=>i_gcdn _ c.num (kd _ gb) (Nat.le_trans rc.1 (by decide)) w R.env) (fun w R=>i_gcd _ c.den (Nat.le_trans l2 (by decide)) (kd _ rc.2) w R.env) (fun w R=>i_div c.den _ (gp _ _ c.den_pos) (kd _ rc.2) (gl _ _ c.den_pos rc.2) w R.env) (fun w R=>i_mul _ c.den (Nat.le_trans l2 (by decide)) (ql _ _ rc.2) w R.env) (fun w R=>by have h:=rmul_any c (primF a b c) (RN.rl (K:=10000) rc) rF w R.toEnvR;rw [hr,ratB_int (q:=(r:Rat)) rfl] at h;exact h) (fun w R=>wof_k r (by omega) w R) hN w R x0 x1 x2
theorem ptext_0 (k:Int) (hk : -9223372036854775808 < k∧k≤9223372036854775807) (A B:Nat) (w:World) (R:EnvV w) (xA:w.cell? ⟨A,0,none⟩=some (.slice (some ⟨B,0,none⟩) 3 3)) (c0:w.cell? ⟨B,0,none⟩=some (.int .i64 k)) (c1:w.cell? ⟨B,1,none⟩=some (.bool false)) (c2:w.cell? ⟨B,2,none⟩=some (.slice none 0 0)) :
   Calls Tryz.prog 119 #[.int .i64 0,.pointer (some ⟨A,0,none⟩)] w (Ret w (.string (itoaB k))):=by
 have HT:=Lib.hid (show CV 120 #[.agg #[.int .i64 k,.bool false,.slice none 0 0]] (.string (itoaB k)) from fun w R=>wtext_k k hk w R)
 clear hk
 have hb:=Below.refl w.heap.size w
 go_enter Tryz.func119,Tryz.ntmps119
 go_wp2_with (go_at_call 120;((with_reducible refine (zK hb (HT.out _ (R.below hb))).mono ?_);clear hb;rintro e w1 ⟨rfl,hk,hb⟩;clear hk))
 first | go_ret | go_ret2 | go_ret3
 exact ⟨rfl,hb⟩
theorem ptext_1 (k:Int) (hk : -9223372036854775808 < k∧k≤9223372036854775807) (A B:Nat) (w:World) (R:EnvV w) (xA:w.cell? ⟨A,0,none⟩=some (.slice (some ⟨B,0,none⟩) 3 3)) (c0:w.cell? ⟨B,3,none⟩=some (.int .i64 k)) (c1:w.cell? ⟨B,4,none⟩=some (.bool false)) (c2:w.cell? ⟨B,5,none⟩=some (.slice none 0 0)) :
   Calls Tryz.prog 119 #[.int .i64 1,.pointer (some ⟨A,0,none⟩)] w (Ret w (.string (itoaB k))):=by
 have HT:=Lib.hid (show CV 120 #[.agg #[.int .i64 k,.bool false,.slice none 0 0]] (.string (itoaB k)) from fun w R=>wtext_k k hk w R)
 clear hk
 have hb:=Below.refl w.heap.size w
 go_enter Tryz.func119,Tryz.ntmps119
 go_wp2_with (go_at_call 120;((with_reducible refine (zK hb (HT.out _ (R.below hb))).mono ?_);clear hb;rintro e w1 ⟨rfl,hk,hb⟩;clear hk))
 first | go_ret | go_ret2 | go_ret3
 exact ⟨rfl,hb⟩
theorem ptext_2 (k:Int) (hk : -9223372036854775808 < k∧k≤9223372036854775807) (A B:Nat) (w:World) (R:EnvV w) (xA:w.cell? ⟨A,0,none⟩=some (.slice (some ⟨B,0,none⟩) 3 3)) (c0:w.cell? ⟨B,6,none⟩=some (.int .i64 k)) (c1:w.cell? ⟨B,7,none⟩=some (.bool false)) (c2:w.cell? ⟨B,8,none⟩=some (.slice none 0 0)) :
   Calls Tryz.prog 119 #[.int .i64 2,.pointer (some ⟨A,0,none⟩)] w (Ret w (.string (itoaB k))):=by
 have HT:=Lib.hid (show CV 120 #[.agg #[.int .i64 k,.bool false,.slice none 0 0]] (.string (itoaB k)) from fun w R=>wtext_k k hk w R)
 clear hk
 have hb:=Below.refl w.heap.size w
 go_enter Tryz.func119,Tryz.ntmps119
 go_wp2_with (go_at_call 120;((with_reducible refine (zK hb (HT.out _ (R.below hb))).mono ?_);clear hb;rintro e w1 ⟨rfl,hk,hb⟩;clear hk))
 first | go_ret | go_ret2 | go_ret3
 exact ⟨rfl,hb⟩
theorem xprim_w (s0 s1 s2 F:ByteArray) (p q r:Int) (u0 u1 u2:ByteArray) (e0:itoaB p=u0) (e1:itoaB q=u1) (e2:itoaB r=u2) (bp:p.natAbs≤1000000000000) (bq:q.natAbs≤1000000000000) (br:r.natAbs≤1000000000000)
   (hw:∀ (blk:Nat) (w:World),EnvV w→w.cell? ⟨blk,0,none⟩=some (.string s0)→w.cell? ⟨blk,1,none⟩=some (.string s1)→w.cell? ⟨blk,2,none⟩=some (.string s2)→Calls Tryz.prog 118 #[.slice (some ⟨blk,0,none⟩) 3 3] w (PrimG p q r F w)) (w:World) (R:EnvV w) :
   Calls Tryz.prog 84 #[.agg #[.string s0,.string s1,.string s2]] w (Ret w (.tuple #[.agg #[.string u0,.string u1,.string u2],.string F])):=by
 have HW:=Lib.hid hw
 have P0:=ptext_0 p (by omega)
 have P1:=ptext_1 q (by omega)
 have P2:=ptext_2 r (by omega)
 rw [e0] at P0
 rw [e1] at P1
 rw [e2] at P2
 replace P0:=Lib.hid P0
 replace P1:=Lib.hid P1
 replace P2:=Lib.hid P2
 clear hw e0 e1 e2 bp bq br
 have hb:=Below.refl w.heap.size w
 go_enter Tryz.func84,Tryz.ntmps84
 go_upto_region 1 with fail
 refine wp_alloc2 (fun w1 a0 a1 hk=>?_)
 replace hb:=hb.trans (hk.mono hb.size)
 clear hk
 obtain ⟨Ag,Ah,Ai⟩:=ce3 a0
 obtain ⟨Aa,Ad,Ab,Ae,Ac,Af⟩:=cf3 a1
 go_upto_region 2 with (go_at_call 118;(refine calls_alloc1 (fun w1 aS hk=>?_));clear Aa Ab Ac Ad Ae Af;replace a1:=zB hk a1;obtain ⟨Aa,Ad,Ab,Ae,Ac,Af⟩:=cf3 a1;replace hb:=hb.trans (hk.mono hb.size);clear hk;(refine (HW.out _ _ (R.below hb) (zA aS) (zA aS) (zA aS)).mono ?_);clear aS;rintro e w1 ⟨B,hB,rfl,aB,hk⟩;clear Aa Ab Ac Ad Ae Af;replace a1:=zB hk a1;obtain ⟨Aa,Ad,Ab,Ae,Ac,Af⟩:=cf3 a1;replace hb:=hb.trans (hk.mono hb.size);clear hk hB)
 refine wp_alloc1 (fun w1 aA hk=>?_)
 clear Aa Ab Ac Ad Ae Af
 replace a1:=zB hk a1
 replace aB:=zB hk aB
 obtain ⟨Aa,Ad,Ab,Ae,Ac,Af⟩:=cf3 a1
 replace hb:=hb.trans (hk.mono hb.size)
 clear hk
 have xA:w1.cell? ⟨_,0,none⟩=some (Value.slice (some ⟨B,0,none⟩) 3 3):=zA aA
 go_wp2_with (go_at_call 119;first | ((with_reducible refine (zK hb (P0.out _ _ _ (R.below hb) xA (zA aB) (zA aB) (zA aB))).mono ?_);clear hb;rintro e w1 ⟨rfl,hk,hb⟩;replace xA:=zC hk xA;clear Aa Ab Ac Ad Ae Af;replace a1:=zB hk a1;replace aB:=zB hk aB;replace aA:=zB hk aA;obtain ⟨Aa,Ad,Ab,Ae,Ac,Af⟩:=cf3 a1;clear hk) | ((with_reducible refine (zK hb (P1.out _ _ _ (R.below hb) xA (zA aB) (zA aB) (zA aB))).mono ?_);clear hb;rintro e w1 ⟨rfl,hk,hb⟩;replace xA:=zC hk xA;clear Aa Ab Ac Ad Ae Af;replace a1:=zB hk a1;replace aB:=zB hk aB;replace aA:=zB hk aA;obtain ⟨Aa,Ad,Ab,Ae,Ac,Af⟩:=cf3 a1;clear hk) | ((with_reducible refine (zK hb (P2.out _ _ _ (R.below hb) xA (zA aB) (zA aB) (zA aB))).mono ?_);clear hb;rintro e w1 ⟨rfl,hk,hb⟩;replace xA:=zC hk xA;clear Aa Ab Ac Ad Ae Af;replace a1:=zB hk a1;replace aB:=zB hk aB;replace aA:=zB hk aA;obtain ⟨Aa,Ad,Ab,Ae,Ac,Af⟩:=cf3 a1;clear hk))
 refine bodyPost_ret (v:=.tuple #[.agg #[.string u0,.string u1,.string u2],.string F]) (by simp [results,Tryz.results84,go_sem,Aa,Ab,Ac]) rfl ⟨rfl,?_⟩
 repeat' (first | exact hb | refine Below.setCell ?_ (by first | exact Nat.le_refl _ | (dsimp only;omega)) _)
theorem xprim_any (a b c:Rat) (p q r:Int) (nz:a≠0∨b≠0∨c≠0) (ra:RL a 200) (rb:RL b 200) (rc:RL c 200) (hp:a*primF a b c=(p:Rat)) (hq:b*primF a b c=(q:Rat)) (hr:c*primF a b c=(r:Rat)) (bp:p.natAbs≤1000000000000) (bq:q.natAbs≤1000000000000) (br:r.natAbs≤1000000000000) (w:World) (R:EnvV w) :
   Calls Tryz.prog 84 #[.agg #[.string (ratB a),.string (ratB b),.string (ratB c)]] w (Ret w (.tuple #[.agg #[.string (itoaB p),.string (itoaB q),.string (itoaB r)],.string (ratB (primF a b c))])):=
 xprim_w _ _ _ _ p q r _ _ _ rfl rfl rfl bp bq br (fun blk w R x0 x1 x2=>wprim_any blk a b c p q r nz ra rb rc hp hq hr bp bq br w R x0 x1 x2) w R
theorem nz3L {a b c:Rat} (h:a≠0∨b≠0∨c≠0):¬ (a=0∧b=0∧c=0):=fun ⟨x,y,z⟩=>h.elim (fun k=>k x) (fun k=>k.elim (fun k=>k y) (fun k=>k z))
theorem q_m1L (a:Rat):a * -1 = -a:=by grind
theorem rbI (p:Int):ratB (p:Rat)=itoaB p:=ratB_int rfl
theorem RL_intL (p:Int) (h:p.natAbs≤1000000000000):RL (p:Rat) 200:=RL_int p 200 (by decide) (dlen_le _ 200 (by decide) (Nat.lt_of_le_of_lt h (by decide +kernel)))
def LErr (a b c:ByteArray) (v:Int):Prop:=(¬ (IsRat a.data.toList∧IsRat b.data.toList∧IsRat c.data.toList)∧v=2)∨((a=⟨#[48]⟩∧b=⟨#[48]⟩∧c=⟨#[48]⟩)∧v=17)
theorem LErr.ne {a b c:ByteArray} {v:Int} (h:LErr a b c v):v≠0:=by rcases h with ⟨_,rfl⟩ | ⟨_,rfl⟩ <;> decide
theorem lcheck_ok (a b c:Rat) (h:a≠0∨b≠0∨c≠0) (ra:RL a 200) (rb:RL b 200) (rc:RL c 200) (w:World) (R:EnvV w) :
   Calls Tryz.prog 15 #[.agg #[.string (ratB a),.string (ratB b),.string (ratB c)]] w (Ret w (.int .i64 0)):=by
 have c1:CV 42 #[.agg #[.string (ratB a),.string (ratB b),.string (ratB c)]] (.tuple #[.bool false,.int .i64 0]):=fun w R=>(by have h':=isZero_any a b c ra rb rc w R;rw [decide_eq_false (nz3L h)] at h';exact h')
 obtain ⟨Ag,Aa⟩:∃ vq,ratB a=vq:=⟨_,rfl⟩
 obtain ⟨Ah,Ab⟩:∃ vq,ratB b=vq:=⟨_,rfl⟩
 obtain ⟨Ai,Ac⟩:∃ vq,ratB c=vq:=⟨_,rfl⟩
 try simp only [Aa,Ab,Ac] at c1 ⊢
 have C1:=Lib.hid c1
 clear c1 Aa Ab Ac h ra rb rc
 have hb:=Below.refl w.heap.size w
 go_enter Tryz.func15,Tryz.ntmps15
 go_upto_region 1 with fail
 refine wp_alloc1 (fun w1 a0 hk=>?_)
 replace hb:=hb.trans (hk.mono hb.size)
 clear hk
 obtain ⟨Ad,Ae,Af⟩:=ce3 a0
 go_wp2_with (go_at_call 42;with_reducible refine (chVB hb R C1).mono ?_;clear hb;rintro e w1 ⟨rfl,hk,hb⟩;clear Ad Ae Af;replace a0:=zB hk a0;obtain ⟨Ad,Ae,Af⟩:=ce3 a0;clear hk)
 first | go_ret | go_ret2 | go_ret3
 exact ⟨rfl,hb⟩
theorem lver_0 (a b c:Rat) (q0:a≠0) (w:World) (_R:EnvV w) :
   Calls Tryz.prog 45 #[.agg #[.string (ratB a),.string (ratB b),.string (ratB c)]] w (Ret w (.bool false)):=by
 have eq0:((ratB a).toList == [48])=false:=by rw [ratB_eq_zero];exact decide_eq_false q0
 have pq0:¬ (ratB a).toList=[48]:=fun h=>q0 ((zero_iff _).1 h)
 clear q0
 have hb:=Below.refl w.heap.size w
 go_enter Tryz.func45,Tryz.ntmps45
 go_upto_region 1 with fail
 refine wp_alloc1 (fun w1 a0 hk=>?_)
 replace hb:=hb.trans (hk.mono hb.size)
 clear hk
 obtain ⟨Aa,Ab,Ac⟩:=ce3 a0
 go_wp2
 first | go_ret | go_ret2 | go_ret3
 exact ⟨rfl,hb⟩
theorem lver_1 (a b c:Rat) (q0:a=0) (q1:b≠0) (w:World) (_R:EnvV w) :
   Calls Tryz.prog 45 #[.agg #[.string (ratB a),.string (ratB b),.string (ratB c)]] w (Ret w (.bool false)):=by
 have eq0:((ratB a).toList == [48])=true:=by rw [ratB_eq_zero];exact decide_eq_true q0
 have pq0:(ratB a).toList=[48]:=(zero_iff _).2 q0
 have eq1:((ratB b).toList == [48])=false:=by rw [ratB_eq_zero];exact decide_eq_false q1
 have pq1:¬ (ratB b).toList=[48]:=fun h=>q1 ((zero_iff _).1 h)
 clear q0 q1
 have hb:=Below.refl w.heap.size w
 go_enter Tryz.func45,Tryz.ntmps45
 go_upto_region 1 with fail
 refine wp_alloc1 (fun w1 a0 hk=>?_)
 replace hb:=hb.trans (hk.mono hb.size)
 clear hk
 obtain ⟨Aa,Ab,Ac⟩:=ce3 a0
 go_wp2
 first | go_ret | go_ret2 | go_ret3
 exact ⟨rfl,hb⟩
theorem lver_f (a b c:Rat) (h:a≠0∨b≠0) (w:World) (R:EnvV w) :
   Calls Tryz.prog 45 #[.agg #[.string (ratB a),.string (ratB b),.string (ratB c)]] w (Ret w (.bool false)):=by
 by_cases q0:a=0
 · exact lver_1 a b c q0 (h.resolve_left (fun k=>k q0)) w R
 · exact lver_0 a b c q0 w R
theorem orInt_w (blk n c:Nat) (ts:List Int) (hn:ts.length=n) (hnb:n≤20) (v:Int) (hv:firstNZ ts=v) (w:World) (hc:∀ (j:Nat) (t:Int),ts[j]? = some t→w.cell? ⟨blk,j,none⟩=some (.int .i64 t)) :
   Calls Tryz.prog 95 #[.slice (some ⟨blk,0,none⟩) n c] w (Ret w (.int .i64 v)):=by
 have HC:=Lib.hid hc
 have HV:=Lib.hid hv
 have HN:=Lib.hid hn
 clear hc hv hn
 go_enter Tryz.func95,Tryz.ntmps95
 go_wp2
 go_loopw [8] (fun i wr=>∃ k:Nat,k≤n∧i = .int .i64 k∧(∀ t,t ∈ ts.take k→t=0)∧Below w.heap.size w wr) (fun i _=>n - (intOf i).toNat)
 case atStart=>exact ⟨0,Nat.zero_le _,rfl,by simp,Below.refl _ _⟩
 case round =>
   obtain ⟨k,hk,rfl,hall,hb⟩:=hrel
   have HA:=Lib.hid hall
   clear hall
   by_cases hlt:k < n
   · obtain ⟨t,ht⟩:∃ t,ts[k]? = some t:=⟨_,List.getElem?_eq_getElem (by rw [HN.out];exact hlt)⟩
     have x0:wr.cell? ⟨blk,k,none⟩=some (.int .i64 t):=zC hb (HC.out k t ht)
     have HT:=Lib.hid ht
     clear ht
     by_cases hz:t=0
     · have HF:=Lib.hid hz
       go_wp2
       go_roundw
       case rel =>
         refine ⟨k+1,by omega,by go_num,fun u hu=>?_,hb⟩
         rw [List.take_add_one,HT.out] at hu
         rcases List.mem_append.1 hu with h | h
         · exact HA.out u h
         · have:u=t:=by simpa using h
           rw [this];exact HF.out
       case measure=>simp [intOf];omega
     · have HF2:t=v:=(firstNZ_at ts k t HA.out HT.out hz).symm.trans HV.out
       have HG:=Lib.hid HF2
       clear HF2
       go_wp2
       go_ret
       exact ⟨retI HG.out,hb⟩
   · have ek:k=n:=by omega
     have HG:Hid (0=v):=Lib.hid (by rw [← HV.out];symm;exact firstNZ_zero ts (fun t ht=>HA.out t (by rw [List.take_of_length_le (by rw [HN.out];omega)];exact ht)))
     go_wp2
     go_ret
     exact ⟨retI HG.out,hb⟩
set_option maxRecDepth 512 in
theorem orInt3 (a0 a1 a2:Int) (v:Int) (hv:firstNZ [a0,a1,a2]=v) (w:World) :
   Calls Tryz.prog 95 #[.slice (some ⟨w.heap.size,0,none⟩) 3 3] (w.alloc (Obj.cells #[Value.int .i64 a0,Value.int .i64 a1,Value.int .i64 a2] 3)) (Ret w (.int .i64 v)):=by
 have hba:Below w.heap.size w (w.alloc (Obj.cells #[Value.int .i64 a0,Value.int .i64 a1,Value.int .i64 a2] 3)):=(Below.refl _ _).alloc (Nat.le_refl _) _
 refine (orInt_w w.heap.size 3 3 [a0,a1,a2] rfl (by decide) v hv _ ?_).mono fun e w' h=>⟨h.1,hba.trans (h.2.mono hba.size)⟩
 intro j t h
 match j,h with
 | 0,h=>injection h with h;subst h;simp [go_sem]
 | 1,h=>injection h with h;subst h;simp [go_sem]
 | 2,h=>injection h with h;subst h;simp [go_sem]
 | j+3,h=>simp at h
theorem xeachM (a b c x y z:Rat) (r1:RL a 10000) (r2:RL x 10000) (r3:RL b 10000) (r4:RL y 10000) (r5:RL c 10000) (r6:RL z 10000) (w:World) (R:EnvV w) :
   Calls Tryz.prog 141 #[.agg #[.string (ratB a),.string (ratB b),.string (ratB c)],.agg #[.string (ratB x),.string (ratB y),.string (ratB z)],.func (Fn.func 38) #[] #[]] w (Ret w (.agg #[.string (ratB (a*x)),.string (ratB (b*y)),.string (ratB (c*z))])):=by
 have c1:=fun (w:World) (R:EnvV w)=>rmul_any a x r1 r2 w R.toEnvR
 have c2:=fun (w:World) (R:EnvV w)=>rmul_any b y r3 r4 w R.toEnvR
 have c3:=fun (w:World) (R:EnvV w)=>rmul_any c z r5 r6 w R.toEnvR
 have C1:=Lib.hid c1
 have C2:=Lib.hid c2
 have C3:=Lib.hid c3
 clear c1 c2 c3 r1 r2 r3 r4 r5 r6
 have hb:=Below.refl w.heap.size w
 go_enter Tryz.func141,Tryz.ntmps141
 go_upto_region 1 with fail
 refine wp_alloc3 (fun w1 a0 a1 a2 hk=>?_)
 replace hb:=hb.trans (hk.mono hb.size)
 clear hk
 obtain ⟨Ad,Ae,Af⟩:=ce3 a0
 obtain ⟨Ag,Ah,Ai⟩:=ce3 a1
 obtain ⟨Aa,Aj,Ab,Ak,Ac,Al⟩:=cf3 a2
 go_upto_region 1 with fail
 obtain ⟨Ap,Aq,Ar⟩:=cy3 a0
 obtain ⟨As,At,Au⟩:=cy3 a1
 obtain ⟨Av,Aw,Ax⟩:=cy3 a2
 have Am:=rrV C1 R hb
 have An:=rrV C2 R hb
 have Ao:=rrV C3 R hb
 refine wp_region_tail_below 19 (by first | assumption | kernel_rfl) (by kernel_rfl) ?_
 simp only [List.take_succ_cons,List.take_zero,List.drop_succ_cons,List.drop_zero]
 repeat (quiet_step (first | (with_reducible exact Am.out _ _) | (with_reducible exact An.out _ _) | (with_reducible exact Ao.out _ _)))
 refine wpQuiet_nil ?_
 intro w1 hw'
 obtain ⟨hk,hb⟩:=zQ hb hw'
 clear Ad Ae Af Ag Ah Ai Aa Ab Ac Aj Ak Al
 replace a0:=zB hk a0
 replace a1:=zB hk a1
 replace a2:=zB hk a2
 obtain ⟨Ad,Ae,Af⟩:=ce3 a0
 obtain ⟨Ag,Ah,Ai⟩:=ce3 a1
 obtain ⟨Aa,Aj,Ab,Ak,Ac,Al⟩:=cf3 a2
 clear Am An Ao Ap Aq Ar As At Au Av Aw Ax
 clear hk hw'
 go_wp2
 refine bodyPost_ret (v:=.agg #[.string (ratB (a*x)),.string (ratB (b*y)),.string (ratB (c*z))]) (by simp [results,Tryz.results141,go_sem,Aa,Ab,Ac]) rfl ⟨rfl,?_⟩
 repeat' (first | exact hb | refine Below.setCell ?_ (by first | exact Nat.le_refl _ | (dsimp only;omega)) _)
theorem xopp (a b c:Rat) (r1:RL a 10000) (r2:RL b 10000) (r3:RL c 10000) (w:World) (R:EnvV w) :
   Calls Tryz.prog 113 #[.string ⟨#[45,49]⟩,.agg #[.string (ratB a),.string (ratB b),.string (ratB c)]] w (Ret w (.agg #[.string (ratB (-a)),.string (ratB (-b)),.string (ratB (-c))])):=by
 have c1:CV 141 #[.agg #[.string (ratB a),.string (ratB b),.string (ratB c)],.agg #[.string ⟨#[45,49]⟩,.string ⟨#[45,49]⟩,.string ⟨#[45,49]⟩],.func (Fn.func 38) #[] #[]] (.agg #[.string (ratB (-a)),.string (ratB (-b)),.string (ratB (-c))]):=fun w R=>(by have h:=(by have h:=xeachM a b c (-1:Rat) (-1:Rat) (-1:Rat) r1 (RN.rl (K:=10000) rn_m1) r2 (RN.rl (K:=10000) rn_m1) r3 (RN.rl (K:=10000) rn_m1) w R;simp only [rb_m1] at h;exact h);rwa [q_m1L,q_m1L,q_m1L] at h)
 have C1:=Lib.hid c1
 clear c1 r1 r2 r3
 have hb:=Below.refl w.heap.size w
 go_enter Tryz.func113,Tryz.ntmps113
 go_upto_region 1 with fail
 refine wp_alloc2 (fun w1 a0 a1 hk=>?_)
 replace hb:=hb.trans (hk.mono hb.size)
 clear hk
 obtain ⟨Ad,Ae,Af⟩:=ce3 a0
 obtain ⟨Aa,Ag,Ab,Ah,Ac,Ai⟩:=cf3 a1
 go_wp2_with (go_at_call 141;with_reducible refine (chVB hb R C1).mono ?_;clear hb;rintro e w1 ⟨rfl,hk,hb⟩;clear Ad Ae Af Aa Ab Ac Ag Ah Ai;replace a0:=zB hk a0;replace a1:=zB hk a1;obtain ⟨Ad,Ae,Af⟩:=ce3 a0;obtain ⟨Aa,Ag,Ab,Ah,Ac,Ai⟩:=cf3 a1;clear hk)
 refine bodyPost_ret (v:=.agg #[.string (ratB (-a)),.string (ratB (-b)),.string (ratB (-c))]) (by simp [results,Tryz.results113,go_sem,Aa,Ab,Ac]) rfl ⟨rfl,?_⟩
 repeat' (first | exact hb | refine Below.setCell ?_ (by first | exact Nat.le_refl _ | (dsimp only;omega)) _)
theorem ldn_t  (s0 s1 s2 t0 t1 t2:ByteArray) (A B C D V:Int) (kC:CV 54 #[.string s2] (.int .i64 C)) (kB:CV 54 #[.string s1] (.int .i64 B)) (kA:CV 54 #[.string s0] (.int .i64 A)) (tm:CV 113 #[.string ⟨#[45,49]⟩,.agg #[.string s0,.string s1,.string s2]] (.agg #[.string t0,.string t1,.string t2])) (WM0:IntKind.i64.wrap (-C)=D) (WC0:decide (V < 0)=true) (hv:firstNZ [D,B,A]=V) (w:World) (R:EnvV w) :
   Calls Tryz.prog 80 #[.agg #[.string s0,.string s1,.string s2]] w (Ret w (.agg #[.string t0,.string t1,.string t2])):=by
 have c1:=kC
 have c2:=kB
 have c3:=kA
 have c4:=fun (w:World) (R:EnvV w)=>orInt3 D B A V hv w
 have c5:=tm
 have gm0:IntKind.i64.wrap (-C)=D:=WM0
 have gc0:decide (V < 0)=true:=WC0
 have C1:=Lib.hid c1
 have C2:=Lib.hid c2
 have C3:=Lib.hid c3
 have C4:=Lib.hid c4
 have C5:=Lib.hid c5
 clear c1 c2 c3 c4 c5 kC kB kA tm WM0 WC0 hv
 have hb:=Below.refl w.heap.size w
 go_enter Tryz.func80,Tryz.ntmps80
 go_upto_region 1 with fail
 refine wp_alloc2 (fun w1 a0 a1 hk=>?_)
 replace hb:=hb.trans (hk.mono hb.size)
 clear hk
 obtain ⟨Ad,Ae,Af⟩:=ce3 a0
 obtain ⟨Aa,Ag,Ab,Ah,Ac,Ai⟩:=cf3 a1
 go_upto_region 1 with fail
 obtain ⟨Am,An,Ao⟩:=cy3 a0
 obtain ⟨Ap,Aq,Ar⟩:=cy3 a1
 have Aj:=rrV C1 R hb
 have Ak:=rrV C2 R hb
 have Al:=rrV C3 R hb
 refine wp_region_tail_below 10 (by first | assumption | kernel_rfl) (by kernel_rfl) ?_
 simp only [List.take_succ_cons,List.take_zero,List.drop_succ_cons,List.drop_zero]
 repeat (quiet_step (first | (with_reducible exact Aj.out _ _) | (with_reducible exact Ak.out _ _) | (with_reducible exact Al.out _ _)))
 refine wpQuiet_nil ?_
 intro w1 hw'
 obtain ⟨hk,hb⟩:=zQ hb hw'
 clear Ad Ae Af Aa Ab Ac Ag Ah Ai
 replace a0:=zB hk a0
 replace a1:=zB hk a1
 obtain ⟨Ad,Ae,Af⟩:=ce3 a0
 obtain ⟨Aa,Ag,Ab,Ah,Ac,Ai⟩:=cf3 a1
 clear Aj Ak Al Am An Ao Ap Aq Ar
 clear hk hw'
 go_wp2_with ((first | (go_at_call 95;with_reducible refine (zL hb (C4.out _ (R.below hb))).mono ?_) | (go_at_call 113;with_reducible refine (chVB hb R C5).mono ?_));clear hb;rintro e w1 ⟨rfl,hk,hb⟩;clear Ad Ae Af Aa Ab Ac Ag Ah Ai;replace a0:=zB hk a0;replace a1:=zB hk a1;obtain ⟨Ad,Ae,Af⟩:=ce3 a0;obtain ⟨Aa,Ag,Ab,Ah,Ac,Ai⟩:=cf3 a1;clear hk)
 refine bodyPost_ret (v:=.agg #[.string t0,.string t1,.string t2]) (by simp [results,Tryz.results80,go_sem,Aa,Ab,Ac]) rfl ⟨rfl,?_⟩
 repeat' (first | exact hb | refine Below.setCell ?_ (by first | exact Nat.le_refl _ | (dsimp only;omega)) _)
theorem ldn_f  (s0 s1 s2:ByteArray) (A B C D V:Int) (kC:CV 54 #[.string s2] (.int .i64 C)) (kB:CV 54 #[.string s1] (.int .i64 B)) (kA:CV 54 #[.string s0] (.int .i64 A)) (WM0:IntKind.i64.wrap (-C)=D) (WC0:decide (V < 0)=false) (hv:firstNZ [D,B,A]=V) (w:World) (R:EnvV w) :
   Calls Tryz.prog 80 #[.agg #[.string s0,.string s1,.string s2]] w (Ret w (.agg #[.string s0,.string s1,.string s2])):=by
 have c1:=kC
 have c2:=kB
 have c3:=kA
 have c4:=fun (w:World) (R:EnvV w)=>orInt3 D B A V hv w
 have gm0:IntKind.i64.wrap (-C)=D:=WM0
 have gc0:decide (V < 0)=false:=WC0
 have C1:=Lib.hid c1
 have C2:=Lib.hid c2
 have C3:=Lib.hid c3
 have C4:=Lib.hid c4
 clear c1 c2 c3 c4 kC kB kA WM0 WC0 hv
 have hb:=Below.refl w.heap.size w
 go_enter Tryz.func80,Tryz.ntmps80
 go_upto_region 1 with fail
 refine wp_alloc2 (fun w1 a0 a1 hk=>?_)
 replace hb:=hb.trans (hk.mono hb.size)
 clear hk
 obtain ⟨Ad,Ae,Af⟩:=ce3 a0
 obtain ⟨Aa,Ag,Ab,Ah,Ac,Ai⟩:=cf3 a1
 go_upto_region 1 with fail
 obtain ⟨Am,An,Ao⟩:=cy3 a0
 obtain ⟨Ap,Aq,Ar⟩:=cy3 a1
 have Aj:=rrV C1 R hb
 have Ak:=rrV C2 R hb
 have Al:=rrV C3 R hb
 refine wp_region_tail_below 10 (by first | assumption | kernel_rfl) (by kernel_rfl) ?_
 simp only [List.take_succ_cons,List.take_zero,List.drop_succ_cons,List.drop_zero]
 repeat (quiet_step (first | (with_reducible exact Aj.out _ _) | (with_reducible exact Ak.out _ _) | (with_reducible exact Al.out _ _)))
 refine wpQuiet_nil ?_
 intro w1 hw'
 obtain ⟨hk,hb⟩:=zQ hb hw'
 clear Ad Ae Af Aa Ab Ac Ag Ah Ai
 replace a0:=zB hk a0
 replace a1:=zB hk a1
 obtain ⟨Ad,Ae,Af⟩:=ce3 a0
 obtain ⟨Aa,Ag,Ab,Ah,Ac,Ai⟩:=cf3 a1
 clear Aj Ak Al Am An Ao Ap Aq Ar
 clear hk hw'
 go_wp2_with (go_at_call 95;with_reducible refine (zL hb (C4.out _ (R.below hb))).mono ?_;clear hb;rintro e w1 ⟨rfl,hk,hb⟩;clear Ad Ae Af Aa Ab Ac Ag Ah Ai;replace a0:=zB hk a0;replace a1:=zB hk a1;obtain ⟨Ad,Ae,Af⟩:=ce3 a0;obtain ⟨Aa,Ag,Ab,Ah,Ac,Ai⟩:=cf3 a1;clear hk)
 refine bodyPost_ret (v:=.agg #[.string s0,.string s1,.string s2]) (by simp [results,Tryz.results80,go_sem,Aa,Ab,Ac]) rfl ⟨rfl,?_⟩
 repeat' (first | exact hb | refine Below.setCell ?_ (by first | exact Nat.le_refl _ | (dsimp only;omega)) _)
theorem sgn3 (q:Rat):q.num.sign=1∨q.num.sign = -1∨q.num.sign=0:=by
 rcases Int.lt_trichotomy q.num 0 with h | h | h
 · exact Or.inr (Or.inl (Int.sign_eq_neg_one_of_neg h))
 · exact Or.inr (Or.inr (by rw [h];rfl))
 · exact Or.inl (Int.sign_eq_one_of_pos h)
theorem sgn_iff (q:Rat):(q.num.sign=1↔0 < q)∧(q.num.sign = -1↔q < 0)∧(q.num.sign=0↔q=0):=by
 refine ⟨?_,?_,?_⟩
 · rw [Int.sign_eq_one_iff_pos]
   constructor
   · intro h
     have h1:=Rat.num_nonneg.1 (Int.le_of_lt h)
     have h2:q≠0:=fun e=>by rw [e] at h;exact absurd h (by decide)
     grind
   · intro h
     have h1:=Rat.num_nonneg.2 (show 0≤q by grind)
     have h2:q.num≠0:=fun e=>by rw [Rat.num_eq_zero.1 e] at h;exact absurd h (by decide)
     omega
 · rw [Int.sign_eq_neg_one_iff_neg];exact ⟨fun h=>Rat.not_le.1 (fun g=>absurd (Rat.num_nonneg.2 g) (by omega)),fun h=>Int.not_le.1 (fun g=>absurd (Rat.num_nonneg.1 g) (Rat.not_le.2 h))⟩
 · rw [Int.sign_eq_zero_iff_zero,Rat.num_eq_zero]
theorem ldown (a b c:Rat) (h:a≠0∨b≠0∨c≠0) (ra:RL a 200) (rb:RL b 200) (rc:RL c 200) (w:World) (R:EnvV w) (x y z:Rat) (hx:x=if upQ a b c then -a else a) (hy:y=if upQ a b c then -b else b) (hz:z=if upQ a b c then -c else c) :
   Calls Tryz.prog 80 #[.agg #[.string (ratB a),.string (ratB b),.string (ratB c)]] w (Ret w (.agg #[.string (ratB x),.string (ratB y),.string (ratB z)])):=by
 obtain ⟨a1,a2,a3⟩:=sgn_iff a
 obtain ⟨b1,b2,b3⟩:=sgn_iff b
 obtain ⟨c1,c2,c3⟩:=sgn_iff c
 have hu:upQ a b c↔(c.num.sign=1∨c.num.sign=0∧(b.num.sign = -1∨b.num.sign=0∧a.num.sign = -1)):=by unfold upQ;rw [a2,b2,b3,c1,c3]
 have hn:¬ (a.num.sign=0∧b.num.sign=0∧c.num.sign=0):=fun g=>nz3L h ⟨a3.1 g.1,b3.1 g.2.1,c3.1 g.2.2⟩
 have sg:∀ q:Rat,q.num.sign=1∨q.num.sign = -1∨q.num.sign=0:=sgn3
 have hv:firstNZ [-c.num.sign,b.num.sign,a.num.sign] < 0↔upQ a b c:=by
   rw [hu]
   rcases sg c with sc | sc | sc <;> rcases sg b with sb | sb | sb <;> rcases sg a with sa | sa | sa <;> rw [sc,sb,sa] <;> decide
 have hw:IntKind.i64.wrap (-c.num.sign) = -c.num.sign:=by rcases sg c with sc | sc | sc <;> rw [sc] <;> decide
 have ks:∀ (q:Rat),RL q 200→CV 54 #[.string (ratB q)] (.int .i64 q.num.sign):=fun q rq w R=>rsign_any q (rq.mono (by decide)) w R.toEnvR
 by_cases u:upQ a b c
 · rw [hx,hy,hz,if_pos u,if_pos u,if_pos u]
   exact ldn_t _ _ _ _ _ _ _ _ _ _ _ (ks c rc) (ks b rb) (ks a ra) (fun w R=>xopp a b c (ra.mono (by decide)) (rb.mono (by decide)) (rc.mono (by decide)) w R) hw (decide_eq_true (hv.2 u)) rfl w R
 · rw [hx,hy,hz,if_neg u,if_neg u,if_neg u]
   exact ldn_f _ _ _ _ _ _ _ _ (ks c rc) (ks b rb) (ks a ra) hw (decide_eq_false (fun k=>u (hv.1 k))) rfl w R
theorem lform_w (a b c:Rat) (sx sy sz sp sq sr sF:ByteArray) (hd:CV 80 #[.agg #[.string (ratB a),.string (ratB b),.string (ratB c)]] (.agg #[.string sx,.string sy,.string sz])) (hpr:CV 84 #[.agg #[.string sx,.string sy,.string sz]] (.tuple #[.agg #[.string sp,.string sq,.string sr],.string sF])) (gp:∃ q:Rat,sp=ratB q∧RL q 200) (gq:∃ q:Rat,sq=ratB q∧RL q 200) (gr:∃ q:Rat,sr=ratB q∧RL q 200) (w:World) (R:EnvV w) :
   Calls Tryz.prog 52 #[.agg #[.string (ratB a),.string (ratB b),.string (ratB c)]] w (Ret w (.tuple #[.agg #[.string sp,.string sq,.string sr],.int .i64 0])):=by
 have c1:=hd
 have c2:=hpr
 have c3:=fun (w:World) (R:EnvV w)=>resV sp sq sr sp sq sr (by intro t ht;simp only [List.mem_cons,List.not_mem_nil,or_false] at ht;rcases ht with rfl | rfl | rfl <;> assumption) w R.toEnvR
 obtain ⟨Aq,Ak⟩:∃ vq,ratB a=vq:=⟨_,rfl⟩
 obtain ⟨Ar,Al⟩:∃ vq,ratB b=vq:=⟨_,rfl⟩
 obtain ⟨As,Am⟩:∃ vq,ratB c=vq:=⟨_,rfl⟩
 try simp only [Ak,Al,Am] at c1 c2 c3 ⊢
 have C1:=Lib.hid c1
 have C2:=Lib.hid c2
 have C3:=Lib.hid c3
 clear c1 c2 c3 Ak Al Am hd hpr gp gq gr
 have hb:=Below.refl w.heap.size w
 go_enter Tryz.func52,Tryz.ntmps52
 go_upto_region 1 with fail
 refine wp_alloc2 (fun w1 a0 a1 hk=>?_)
 replace hb:=hb.trans (hk.mono hb.size)
 clear hk
 obtain ⟨Ah,Ai,Aj⟩:=ce3 a0
 obtain ⟨Aa,Ad,Ab,Ae,Ac,Af⟩:=cf3 a1
 go_upto_region 2 with ((first | (go_at_call 80;with_reducible refine (chVB hb R C1).mono ?_) | (go_at_call 84;with_reducible refine (chVB hb R C2).mono ?_));clear hb;rintro e w1 ⟨rfl,hk,hb⟩;clear Ah Ai Aj Aa Ab Ac Ad Ae Af;replace a0:=zB hk a0;replace a1:=zB hk a1;obtain ⟨Ah,Ai,Aj⟩:=ce3 a0;obtain ⟨Aa,Ad,Ab,Ae,Ac,Af⟩:=cf3 a1;clear hk)
 clear Ah Ai Aj a0
 refine wp_alloc1 (fun w1 Ag hk=>?_)
 clear Aa Ab Ac Ad Ae Af
 replace a1:=zB hk a1
 obtain ⟨Aa,Ad,Ab,Ae,Ac,Af⟩:=cf3 a1
 replace hb:=hb.trans (hk.mono hb.size)
 clear hk
 obtain ⟨An,Ao,Ap⟩:=ce3 Ag
 go_wp2_with (go_at_call 85;with_reducible refine (zL hb (C3.out _ (R.below hb))).mono ?_;clear hb;rintro e w1 ⟨rfl,hk,hb⟩;clear Aa Ab Ac Ad Ae Af An Ao Ap;replace a1:=zB hk a1;replace Ag:=zB hk Ag;obtain ⟨Aa,Ad,Ab,Ae,Ac,Af⟩:=cf3 a1;obtain ⟨An,Ao,Ap⟩:=ce3 Ag;clear hk)
 refine bodyPost_ret (v:=.tuple #[.agg #[.string sp,.string sq,.string sr],.int .i64 0]) (by simp [results,Tryz.results52,go_sem,Aa,Ab,Ac]) rfl ⟨rfl,?_⟩
 repeat' (first | exact hb | refine Below.setCell ?_ (by first | exact Nat.le_refl _ | (dsimp only;omega)) _)
theorem lform_any (a b c:Rat) (p q r:Int) (h:a≠0∨b≠0∨c≠0) (ra:RL a 200) (rb:RL b 200) (rc:RL c 200) (hp:a*dnF a b c=(p:Rat)) (hq:b*dnF a b c=(q:Rat)) (hr:c*dnF a b c=(r:Rat)) (bp:p.natAbs≤1000000000000) (bq:q.natAbs≤1000000000000) (br:r.natAbs≤1000000000000) (w:World) (R:EnvV w) :
   Calls Tryz.prog 52 #[.agg #[.string (ratB a),.string (ratB b),.string (ratB c)]] w (Ret w (.tuple #[.agg #[.string (itoaB p),.string (itoaB q),.string (itoaB r)],.int .i64 0])):=by
 have gi:∀ n:Int,n.natAbs≤1000000000000→∃ q:Rat,itoaB n=ratB q∧RL q 200:=fun n hn=>⟨(n:Rat),(rbI n).symm,RL_intL n hn⟩
 unfold dnF at hp hq hr
 by_cases u:upQ a b c
 · rw [if_pos u] at hp hq hr
   have hn : -a≠0 ∨ -b≠0 ∨ -c≠0:=h.elim (fun k=>Or.inl (fun g=>k (by grind))) (fun k=>k.elim (fun k=>Or.inr (Or.inl (fun g=>k (by grind)))) (fun k=>Or.inr (Or.inr (fun g=>k (by grind)))))
   exact lform_w a b c _ _ _ _ _ _ _ (fun w R=>ldown a b c h ra rb rc w R (-a) (-b) (-c) (if_pos u).symm (if_pos u).symm (if_pos u).symm) (fun w R=>xprim_any (-a) (-b) (-c) p q r hn (RL_neg ra) (RL_neg rb) (RL_neg rc) (by rw [primF_neg,← hp];grind) (by rw [primF_neg,← hq];grind) (by rw [primF_neg,← hr];grind) bp bq br w R) (gi p bp) (gi q bq) (gi r br) w R
 · rw [if_neg u] at hp hq hr
   exact lform_w a b c _ _ _ _ _ _ _ (fun w R=>ldown a b c h ra rb rc w R a b c (if_neg u).symm (if_neg u).symm (if_neg u).symm) (fun w R=>xprim_any a b c p q r h ra rb rc hp hq hr bp bq br w R) (gi p bp) (gi q bq) (gi r br) w R
theorem lOf (a b c:Rat) (p q r:Int) (h:a≠0∨b≠0∨c≠0) (ra:RL a 200) (rb:RL b 200) (rc:RL c 200) (hp:a*dnF a b c=(p:Rat)) (hq:b*dnF a b c=(q:Rat)) (hr:c*dnF a b c=(r:Rat)) (bp:p.natAbs≤1000000000000) (bq:q.natAbs≤1000000000000) (br:r.natAbs≤1000000000000) (w:World) (R:EnvV w) :
   Calls Tryz.prog 25 #[.agg #[.string (ratB a),.string (ratB b),.string (ratB c)]] w (Ret w (.tuple #[.agg #[.string (itoaB p),.string (itoaB q),.string (itoaB r)],.int .i64 0])):=by
 have c1:=lcheck_ok a b c h ra rb rc
 have c2:=lform_any a b c p q r h ra rb rc hp hq hr bp bq br
 have C1:=Lib.hid c1
 have C2:=Lib.hid c2
 clear c1 c2 h ra rb rc hp hq hr bp bq br
 have hb:=Below.refl w.heap.size w
 go_enter Tryz.func25,Tryz.ntmps25
 go_upto_region 1 with fail
 refine wp_alloc2 (fun w1 a0 a1 hk=>?_)
 replace hb:=hb.trans (hk.mono hb.size)
 clear hk
 obtain ⟨Ad,Ae,Af⟩:=ce3 a0
 obtain ⟨Aa,Ag,Ab,Ah,Ac,Ai⟩:=cf3 a1
 go_wp2_with ((first | (go_at_call 15;with_reducible refine (chVB hb R C1).mono ?_) | (go_at_call 52;with_reducible refine (chVB hb R C2).mono ?_));clear hb;rintro e w1 ⟨rfl,hk,hb⟩;clear Ad Ae Af Aa Ab Ac Ag Ah Ai;replace a0:=zB hk a0;replace a1:=zB hk a1;obtain ⟨Ad,Ae,Af⟩:=ce3 a0;obtain ⟨Aa,Ag,Ab,Ah,Ac,Ai⟩:=cf3 a1;clear hk)
 refine bodyPost_ret (v:=.tuple #[.agg #[.string (itoaB p),.string (itoaB q),.string (itoaB r)],.int .i64 0]) (by simp [results,Tryz.results25,go_sem,Aa,Ab,Ac]) rfl ⟨rfl,?_⟩
 repeat' (first | exact hb | refine Below.setCell ?_ (by first | exact Nat.le_refl _ | (dsimp only;omega)) _)
end Go.Proofs.YtpiiclmkbplkhaaGreatDoor.Kl
