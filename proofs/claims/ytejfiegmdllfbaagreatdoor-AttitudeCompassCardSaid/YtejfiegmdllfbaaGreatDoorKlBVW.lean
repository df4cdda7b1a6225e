import Derived.Test.YtejfiegmdllfbaaGreatDoorKlBVKZ
namespace Go.Proofs.YtejfiegmdllfbaaGreatDoor.Kl
open Go Go.RowKit
set_option maxRecDepth 100000
set_option maxHeartbeats 8000000
def primD (x y z:Rat):Nat:=Nat.gcd (Nat.gcd x.num.natAbs y.num.natAbs) z.num.natAbs
def primM (x y z:Rat):Nat:=Nat.lcm (Nat.lcm x.den y.den) z.den
def primF (x y z:Rat):Rat:=Rat.divInt (primM x y z:Int) (primD x y z:Int)
theorem primD_pos (x y z:Rat) (h:x≠0∨y≠0∨z≠0):0 < primD x y z:=by
 have hx:∀ q:Rat,q≠0→0 < q.num.natAbs:=fun q hq=>Int.natAbs_pos.2 (mt Rat.num_eq_zero.1 hq)
 unfold primD
 rcases h with h | h | h
 · exact Nat.gcd_pos_of_pos_left _ (Nat.gcd_pos_of_pos_left _ (hx x h))
 · exact Nat.gcd_pos_of_pos_left _ (Nat.gcd_pos_of_pos_right _ (hx y h))
 · exact Nat.gcd_pos_of_pos_right _ (hx z h)
theorem prim_w0 (a b c nu0 de0 gc0 qu0 re0 dv0 mu0 nu1 de1 gc1 qu1 re1 dv1 mu1 nu2 de2 gc2 qu2 re2 dv2 mu2 fa p0 p1 p2:ByteArray) (_za:(a.toList == [48])=false) (_ya:¬ a.toList=[48]) (hC:CV 86 #[.agg #[.string a,.string b,.string c]] (.int .i64 0)) (hP0:CV 48 #[.string a] (.tuple #[.string nu0,.string de0])) (hG0:CV 100 #[.string ⟨#[48]⟩,.string nu0] (.string dv0)) (hH0:CV 100 #[.string ⟨#[49]⟩,.string de0] (.string gc0)) (hD0:CV 125 #[.string de0,.string gc0] (.tuple #[.string qu0,.string re0,.int .i64 0])) (hM0:CV 101 #[.string ⟨#[49]⟩,.string qu0] (.string mu0)) (hP1:CV 48 #[.string b] (.tuple #[.string nu1,.string de1])) (hG1:CV 100 #[.string dv0,.string nu1] (.string dv1)) (hH1:CV 100 #[.string mu0,.string de1] (.string gc1)) (hD1:CV 125 #[.string de1,.string gc1] (.tuple #[.string qu1,.string re1,.int .i64 0])) (hM1:CV 101 #[.string mu0,.string qu1] (.string mu1)) (hP2:CV 48 #[.string c] (.tuple #[.string nu2,.string de2])) (hG2:CV 100 #[.string dv1,.string nu2] (.string dv2)) (hH2:CV 100 #[.string mu1,.string de2] (.string gc2)) (hD2:CV 125 #[.string de2,.string gc2] (.tuple #[.string qu2,.string re2,.int .i64 0])) (hM2:CV 101 #[.string mu1,.string qu2] (.string mu2)) (hN:CV 126 #[.string mu2,.string dv2] (.tuple #[.string fa,.int .i64 0])) (hE:CV 128 #[.agg #[.string a,.string b,.string c],.agg #[.string fa,.string fa,.string fa],.func (Fn.func 23) #[] #[]] (.agg #[.string p0,.string p1,.string p2])) (hR:CV 127 #[.agg #[.string p0,.string p1,.string p2]] (.tuple #[.agg #[.string p0,.string p1,.string p2],.int .i64 0])) (w:World) (R:EnvV w) :
   Calls Tryz.prog 95 #[.agg #[.string a,.string b,.string c]] w (Ret w (.tuple #[.agg #[.string p0,.string p1,.string p2],.int .i64 0])):=by
 have HC_:=Lib.hid hC
 have HP0_:=Lib.hid hP0
 have HG0_:=Lib.hid hG0
 have HH0_:=Lib.hid hH0
 have HD0_:=Lib.hid hD0
 have HM0_:=Lib.hid hM0
 have HP1_:=Lib.hid hP1
 have HG1_:=Lib.hid hG1
 have HH1_:=Lib.hid hH1
 have HD1_:=Lib.hid hD1
 have HM1_:=Lib.hid hM1
 have HP2_:=Lib.hid hP2
 have HG2_:=Lib.hid hG2
 have HH2_:=Lib.hid hH2
 have HD2_:=Lib.hid hD2
 have HM2_:=Lib.hid hM2
 have HN_:=Lib.hid hN
 have HE_:=Lib.hid hE
 have HR_:=Lib.hid hR
 have hix0:∀ w:World,(Instr.index 153 (.agg #[.string a,.string b,.string c]) (.int .i64 0)).run Tryz.prog w = .ok (.string a) w:=fun w=>by kernel_rfl
 have hix1:∀ w:World,(Instr.index 153 (.agg #[.string a,.string b,.string c]) (.int .i64 1)).run Tryz.prog w = .ok (.string b) w:=fun w=>by kernel_rfl
 have hix2:∀ w:World,(Instr.index 153 (.agg #[.string a,.string b,.string c]) (.int .i64 2)).run Tryz.prog w = .ok (.string c) w:=fun w=>by kernel_rfl
 clear hC hP0 hG0 hH0 hD0 hM0 hP1 hG1 hH1 hD1 hM1 hP2 hG2 hH2 hD2 hM2 hN hE hR
 have hb:=Below.refl w.heap.size w
 have Aj:=R.z0
 have Ak:=R.z1
 have Al:=R.z2
 go_enter Tryz.func95,Tryz.ntmps95
 go_upto_region 1 with fail
 refine wp_alloc2 (fun w1 a0 a1 hk=>?_)
 replace Aj:=zC hk Aj
 replace Ak:=zC hk Ak
 replace Al:=zC hk Al
 replace hb:=hb.trans (hk.mono hb.size)
 clear hk
 obtain ⟨Ad,Ae,Af⟩:=ce3 a0
 obtain ⟨Aa,Ag,Ab,Ah,Ac,Ai⟩:=cf3 a1
 clear a0
 go_upto_region 6 with (go_at_call 86;((with_reducible refine (zK hb (HC_.out _ (R.below hb))).mono ?_);clear hb;rintro e w1 ⟨rfl,hk,hb⟩;replace Ad:=zC hk Ad;replace Ae:=zC hk Ae;replace Af:=zC hk Af;replace Aj:=zC hk Aj;replace Ak:=zC hk Ak;replace Al:=zC hk Al;clear Aa Ab Ac Ag Ah Ai;replace a1:=zB hk a1;obtain ⟨Aa,Ag,Ab,Ah,Ac,Ai⟩:=cf3 a1;clear hk))
 clear Aj Ak Al
 go_upto_region 8 with fail
 have HB:=Lib.hid hb
 have HX:=Lib.hid (And.intro Ad (And.intro Ae Af))
 have HF:=Lib.hid (And.intro Ag (And.intro Ah Ai))
 have HZ:=Lib.hid (And.intro Aa (And.intro Ab Ac))
 have HA:=Lib.hid a1
 have hz:w.heap.size+1 < w1.heap.size:=(Array.getElem?_eq_some_iff.1 a1).1
 clear hb Ad Ae Af Aa Ab Ac Ag Ah Ai a1
 go_loopw [33,5,6] (fun i m d wr=>((i = .int .i64 0∧m = .string ⟨#[49]⟩∧d = .string ⟨#[48]⟩)∨(i = .int .i64 1∧m = .string mu0∧d = .string dv0)∨(i = .int .i64 2∧m = .string mu1∧d = .string dv1)∨(i = .int .i64 3∧m = .string mu2∧d = .string dv2))∧Below w1.heap.size w1 wr) (fun i _ _ _=>3 - (intOf i).toNat)
 case atStart=>exact ⟨Or.inl ⟨rfl,rfl,rfl⟩,Below.refl _ _⟩
 case round =>
   obtain ⟨⟨rfl,rfl,rfl⟩ | ⟨rfl,rfl,rfl⟩ | ⟨rfl,rfl,rfl⟩ | ⟨rfl,rfl,rfl⟩,hw⟩:=hrel
   · have hb:Below w.heap.size w wr:=HB.out.trans (hw.mono HB.out.size)
     go_wp2_with (first | (go_at_call 48;((with_reducible refine (zK hb (HP0_.out _ (R.below hb))).mono ?_);rintro e w2 ⟨rfl,hk,hb2⟩;replace hw:=hw.trans (hk.mono hw.size);replace hb:=hb2;clear hk hb2)) | (go_at_call 100;first | (((with_reducible refine (zK hb (HG0_.out _ (R.below hb))).mono ?_);rintro e w2 ⟨rfl,hk,hb2⟩;replace hw:=hw.trans (hk.mono hw.size);replace hb:=hb2;clear hk hb2)) | (((with_reducible refine (zK hb (HH0_.out _ (R.below hb))).mono ?_);rintro e w2 ⟨rfl,hk,hb2⟩;replace hw:=hw.trans (hk.mono hw.size);replace hb:=hb2;clear hk hb2))) | (go_at_call 125;((with_reducible refine (zK hb (HD0_.out _ (R.below hb))).mono ?_);rintro e w2 ⟨rfl,hk,hb2⟩;replace hw:=hw.trans (hk.mono hw.size);replace hb:=hb2;clear hk hb2)) | (go_at_call 101;((with_reducible refine (zK hb (HM0_.out _ (R.below hb))).mono ?_);rintro e w2 ⟨rfl,hk,hb2⟩;replace hw:=hw.trans (hk.mono hw.size);replace hb:=hb2;clear hk hb2)))
     go_roundw
     case rel=>exact ⟨Or.inr (Or.inl ⟨rfl,rfl,rfl⟩),hw⟩
     case measure=>simp [intOf]
   · have hb:Below w.heap.size w wr:=HB.out.trans (hw.mono HB.out.size)
     go_wp2_with (first | (go_at_call 48;((with_reducible refine (zK hb (HP1_.out _ (R.below hb))).mono ?_);rintro e w2 ⟨rfl,hk,hb2⟩;replace hw:=hw.trans (hk.mono hw.size);replace hb:=hb2;clear hk hb2)) | (go_at_call 100;first | (((with_reducible refine (zK hb (HG1_.out _ (R.below hb))).mono ?_);rintro e w2 ⟨rfl,hk,hb2⟩;replace hw:=hw.trans (hk.mono hw.size);replace hb:=hb2;clear hk hb2)) | (((with_reducible refine (zK hb (HH1_.out _ (R.below hb))).mono ?_);rintro e w2 ⟨rfl,hk,hb2⟩;replace hw:=hw.trans (hk.mono hw.size);replace hb:=hb2;clear hk hb2))) | (go_at_call 125;((with_reducible refine (zK hb (HD1_.out _ (R.below hb))).mono ?_);rintro e w2 ⟨rfl,hk,hb2⟩;replace hw:=hw.trans (hk.mono hw.size);replace hb:=hb2;clear hk hb2)) | (go_at_call 101;((with_reducible refine (zK hb (HM1_.out _ (R.below hb))).mono ?_);rintro e w2 ⟨rfl,hk,hb2⟩;replace hw:=hw.trans (hk.mono hw.size);replace hb:=hb2;clear hk hb2)))
     go_roundw
     case rel=>exact ⟨Or.inr (Or.inr (Or.inl ⟨rfl,rfl,rfl⟩)),hw⟩
     case measure=>simp [intOf]
   · have hb:Below w.heap.size w wr:=HB.out.trans (hw.mono HB.out.size)
     go_wp2_with (first | (go_at_call 48;((with_reducible refine (zK hb (HP2_.out _ (R.below hb))).mono ?_);rintro e w2 ⟨rfl,hk,hb2⟩;replace hw:=hw.trans (hk.mono hw.size);replace hb:=hb2;clear hk hb2)) | (go_at_call 100;first | (((with_reducible refine (zK hb (HG2_.out _ (R.below hb))).mono ?_);rintro e w2 ⟨rfl,hk,hb2⟩;replace hw:=hw.trans (hk.mono hw.size);replace hb:=hb2;clear hk hb2)) | (((with_reducible refine (zK hb (HH2_.out _ (R.below hb))).mono ?_);rintro e w2 ⟨rfl,hk,hb2⟩;replace hw:=hw.trans (hk.mono hw.size);replace hb:=hb2;clear hk hb2))) | (go_at_call 125;((with_reducible refine (zK hb (HD2_.out _ (R.below hb))).mono ?_);rintro e w2 ⟨rfl,hk,hb2⟩;replace hw:=hw.trans (hk.mono hw.size);replace hb:=hb2;clear hk hb2)) | (go_at_call 101;((with_reducible refine (zK hb (HM2_.out _ (R.below hb))).mono ?_);rintro e w2 ⟨rfl,hk,hb2⟩;replace hw:=hw.trans (hk.mono hw.size);replace hb:=hb2;clear hk hb2)))
     go_roundw
     case rel=>exact ⟨Or.inr (Or.inr (Or.inr (⟨rfl,rfl,rfl⟩))),hw⟩
     case measure=>simp [intOf]
   · have hb:Below w.heap.size w wr:=HB.out.trans (hw.mono HB.out.size)
     have Ad:=zC hw HX.out.1
     have Ae:=zC hw HX.out.2.1
     have Af:=zC hw HX.out.2.2
     have a1:=zB hw HA.out
     have Aa:=zC hw HZ.out.1
     have Ab:=zC hw HZ.out.2.1
     have Ac:=zC hw HZ.out.2.2
     have Ag:=zF hw HA.out HF.out.1
     have Ah:=zF hw HA.out HF.out.2.1
     have Ai:=zF hw HA.out HF.out.2.2
     clear hw
     go_wp2_with (first | (go_at_call 126;((with_reducible refine (zK hb (HN_.out _ (R.below hb))).mono ?_);clear hb;rintro e w1 ⟨rfl,hk,hb⟩;replace Ad:=zC hk Ad;replace Ae:=zC hk Ae;replace Af:=zC hk Af;clear Aa Ab Ac Ag Ah Ai;replace a1:=zB hk a1;obtain ⟨Aa,Ag,Ab,Ah,Ac,Ai⟩:=cf3 a1;clear hk)) | (go_at_call 128;((with_reducible refine (zK hb (HE_.out _ (R.below hb))).mono ?_);clear hb;rintro e w1 ⟨rfl,hk,hb⟩;replace Ad:=zC hk Ad;replace Ae:=zC hk Ae;replace Af:=zC hk Af;clear Aa Ab Ac Ag Ah Ai;replace a1:=zB hk a1;obtain ⟨Aa,Ag,Ab,Ah,Ac,Ai⟩:=cf3 a1;clear hk)) | (go_at_call 127;((with_reducible refine (zK hb (HR_.out _ (R.below hb))).mono ?_);clear hb;rintro e w1 ⟨rfl,hk,hb⟩;replace Ad:=zC hk Ad;replace Ae:=zC hk Ae;replace Af:=zC hk Af;clear Aa Ab Ac Ag Ah Ai;replace a1:=zB hk a1;obtain ⟨Aa,Ag,Ab,Ah,Ac,Ai⟩:=cf3 a1;clear hk)))
     refine bodyPost_ret (v:=.tuple #[.agg #[.string p0,.string p1,.string p2],.int .i64 0]) (by simp [results,Tryz.results95,go_sem,Aa,Ab,Ac]) rfl ⟨rfl,?_⟩
     repeat' (first | exact hb | refine Below.setCell ?_ (by first | exact Nat.le_refl _ | (dsimp only;omega)) _)
theorem prim_w1 (a b c nu0 de0 gc0 qu0 re0 dv0 mu0 nu1 de1 gc1 qu1 re1 dv1 mu1 nu2 de2 gc2 qu2 re2 dv2 mu2 fa p0 p1 p2:ByteArray) (_za:(a.toList == [48])=true) (_ya:a.toList=[48]) (_zb:(b.toList == [48])=false) (_yb:¬ b.toList=[48]) (hC:CV 86 #[.agg #[.string a,.string b,.string c]] (.int .i64 0)) (hP0:CV 48 #[.string a] (.tuple #[.string nu0,.string de0])) (hG0:CV 100 #[.string ⟨#[48]⟩,.string nu0] (.string dv0)) (hH0:CV 100 #[.string ⟨#[49]⟩,.string de0] (.string gc0)) (hD0:CV 125 #[.string de0,.string gc0] (.tuple #[.string qu0,.string re0,.int .i64 0])) (hM0:CV 101 #[.string ⟨#[49]⟩,.string qu0] (.string mu0)) (hP1:CV 48 #[.string b] (.tuple #[.string nu1,.string de1])) (hG1:CV 100 #[.string dv0,.string nu1] (.string dv1)) (hH1:CV 100 #[.string mu0,.string de1] (.string gc1)) (hD1:CV 125 #[.string de1,.string gc1] (.tuple #[.string qu1,.string re1,.int .i64 0])) (hM1:CV 101 #[.string mu0,.string qu1] (.string mu1)) (hP2:CV 48 #[.string c] (.tuple #[.string nu2,.string de2])) (hG2:CV 100 #[.string dv1,.string nu2] (.string dv2)) (hH2:CV 100 #[.string mu1,.string de2] (.string gc2)) (hD2:CV 125 #[.string de2,.string gc2] (.tuple #[.string qu2,.string re2,.int .i64 0])) (hM2:CV 101 #[.string mu1,.string qu2] (.string mu2)) (hN:CV 126 #[.string mu2,.string dv2] (.tuple #[.string fa,.int .i64 0])) (hE:CV 128 #[.agg #[.string a,.string b,.string c],.agg #[.string fa,.string fa,.string fa],.func (Fn.func 23) #[] #[]] (.agg #[.string p0,.string p1,.string p2])) (hR:CV 127 #[.agg #[.string p0,.string p1,.string p2]] (.tuple #[.agg #[.string p0,.string p1,.string p2],.int .i64 0])) (w:World) (R:EnvV w) :
   Calls Tryz.prog 95 #[.agg #[.string a,.string b,.string c]] w (Ret w (.tuple #[.agg #[.string p0,.string p1,.string p2],.int .i64 0])):=by
 have HC_:=Lib.hid hC
 have HP0_:=Lib.hid hP0
 have HG0_:=Lib.hid hG0
 have HH0_:=Lib.hid hH0
 have HD0_:=Lib.hid hD0
 have HM0_:=Lib.hid hM0
 have HP1_:=Lib.hid hP1
 have HG1_:=Lib.hid hG1
 have HH1_:=Lib.hid hH1
 have HD1_:=Lib.hid hD1
 have HM1_:=Lib.hid hM1
 have HP2_:=Lib.hid hP2
 have HG2_:=Lib.hid hG2
 have HH2_:=Lib.hid hH2
 have HD2_:=Lib.hid hD2
 have HM2_:=Lib.hid hM2
 have HN_:=Lib.hid hN
 have HE_:=Lib.hid hE
 have HR_:=Lib.hid hR
 have hix0:∀ w:World,(Instr.index 153 (.agg #[.string a,.string b,.string c]) (.int .i64 0)).run Tryz.prog w = .ok (.string a) w:=fun w=>by kernel_rfl
 have hix1:∀ w:World,(Instr.index 153 (.agg #[.string a,.string b,.string c]) (.int .i64 1)).run Tryz.prog w = .ok (.string b) w:=fun w=>by kernel_rfl
 have hix2:∀ w:World,(Instr.index 153 (.agg #[.string a,.string b,.string c]) (.int .i64 2)).run Tryz.prog w = .ok (.string c) w:=fun w=>by kernel_rfl
 clear hC hP0 hG0 hH0 hD0 hM0 hP1 hG1 hH1 hD1 hM1 hP2 hG2 hH2 hD2 hM2 hN hE hR
 have hb:=Below.refl w.heap.size w
 have Aj:=R.z0
 have Ak:=R.z1
 have Al:=R.z2
 go_enter Tryz.func95,Tryz.ntmps95
 go_upto_region 1 with fail
 refine wp_alloc2 (fun w1 a0 a1 hk=>?_)
 replace Aj:=zC hk Aj
 replace Ak:=zC hk Ak
 replace Al:=zC hk Al
 replace hb:=hb.trans (hk.mono hb.size)
 clear hk
 obtain ⟨Ad,Ae,Af⟩:=ce3 a0
 obtain ⟨Aa,Ag,Ab,Ah,Ac,Ai⟩:=cf3 a1
 clear a0
 go_upto_region 6 with (go_at_call 86;((with_reducible refine (zK hb (HC_.out _ (R.below hb))).mono ?_);clear hb;rintro e w1 ⟨rfl,hk,hb⟩;replace Ad:=zC hk Ad;replace Ae:=zC hk Ae;replace Af:=zC hk Af;replace Aj:=zC hk Aj;replace Ak:=zC hk Ak;replace Al:=zC hk Al;clear Aa Ab Ac Ag Ah Ai;replace a1:=zB hk a1;obtain ⟨Aa,Ag,Ab,Ah,Ac,Ai⟩:=cf3 a1;clear hk))
 clear Aj Ak Al
 go_upto_region 8 with fail
 have HB:=Lib.hid hb
 have HX:=Lib.hid (And.intro Ad (And.intro Ae Af))
 have HF:=Lib.hid (And.intro Ag (And.intro Ah Ai))
 have HZ:=Lib.hid (And.intro Aa (And.intro Ab Ac))
 have HA:=Lib.hid a1
 have hz:w.heap.size+1 < w1.heap.size:=(Array.getElem?_eq_some_iff.1 a1).1
 clear hb Ad Ae Af Aa Ab Ac Ag Ah Ai a1
 go_loopw [33,5,6] (fun i m d wr=>((i = .int .i64 0∧m = .string ⟨#[49]⟩∧d = .string ⟨#[48]⟩)∨(i = .int .i64 1∧m = .string mu0∧d = .string dv0)∨(i = .int .i64 2∧m = .string mu1∧d = .string dv1)∨(i = .int .i64 3∧m = .string mu2∧d = .string dv2))∧Below w1.heap.size w1 wr) (fun i _ _ _=>3 - (intOf i).toNat)
 case atStart=>exact ⟨Or.inl ⟨rfl,rfl,rfl⟩,Below.refl _ _⟩
 case round =>
   obtain ⟨⟨rfl,rfl,rfl⟩ | ⟨rfl,rfl,rfl⟩ | ⟨rfl,rfl,rfl⟩ | ⟨rfl,rfl,rfl⟩,hw⟩:=hrel
   · have hb:Below w.heap.size w wr:=HB.out.trans (hw.mono HB.out.size)
     go_wp2_with (first | (go_at_call 48;((with_reducible refine (zK hb (HP0_.out _ (R.below hb))).mono ?_);rintro e w2 ⟨rfl,hk,hb2⟩;replace hw:=hw.trans (hk.mono hw.size);replace hb:=hb2;clear hk hb2)) | (go_at_call 100;first | (((with_reducible refine (zK hb (HG0_.out _ (R.below hb))).mono ?_);rintro e w2 ⟨rfl,hk,hb2⟩;replace hw:=hw.trans (hk.mono hw.size);replace hb:=hb2;clear hk hb2)) | (((with_reducible refine (zK hb (HH0_.out _ (R.below hb))).mono ?_);rintro e w2 ⟨rfl,hk,hb2⟩;replace hw:=hw.trans (hk.mono hw.size);replace hb:=hb2;clear hk hb2))) | (go_at_call 125;((with_reducible refine (zK hb (HD0_.out _ (R.below hb))).mono ?_);rintro e w2 ⟨rfl,hk,hb2⟩;replace hw:=hw.trans (hk.mono hw.size);replace hb:=hb2;clear hk hb2)) | (go_at_call 101;((with_reducible refine (zK hb (HM0_.out _ (R.below hb))).mono ?_);rintro e w2 ⟨rfl,hk,hb2⟩;replace hw:=hw.trans (hk.mono hw.size);replace hb:=hb2;clear hk hb2)))
     go_roundw
     case rel=>exact ⟨Or.inr (Or.inl ⟨rfl,rfl,rfl⟩),hw⟩
     case measure=>simp [intOf]
   · have hb:Below w.heap.size w wr:=HB.out.trans (hw.mono HB.out.size)
     go_wp2_with (first | (go_at_call 48;((with_reducible refine (zK hb (HP1_.out _ (R.below hb))).mono ?_);rintro e w2 ⟨rfl,hk,hb2⟩;replace hw:=hw.trans (hk.mono hw.size);replace hb:=hb2;clear hk hb2)) | (go_at_call 100;first | (((with_reducible refine (zK hb (HG1_.out _ (R.below hb))).mono ?_);rintro e w2 ⟨rfl,hk,hb2⟩;replace hw:=hw.trans (hk.mono hw.size);replace hb:=hb2;clear hk hb2)) | (((with_reducible refine (zK hb (HH1_.out _ (R.below hb))).mono ?_);rintro e w2 ⟨rfl,hk,hb2⟩;replace hw:=hw.trans (hk.mono hw.size);replace hb:=hb2;clear hk hb2))) | (go_at_call 125;((with_reducible refine (zK hb (HD1_.out _ (R.below hb))).mono ?_);rintro e w2 ⟨rfl,hk,hb2⟩;replace hw:=hw.trans (hk.mono hw.size);replace hb:=hb2;clear hk hb2)) | (go_at_call 101;((with_reducible refine (zK hb (HM1_.out _ (R.below hb))).mono ?_);rintro e w2 ⟨rfl,hk,hb2⟩;replace hw:=hw.trans (hk.mono hw.size);replace hb:=hb2;clear hk hb2)))
     go_roundw
     case rel=>exact ⟨Or.inr (Or.inr (Or.inl ⟨rfl,rfl,rfl⟩)),hw⟩
     case measure=>simp [intOf]
   · have hb:Below w.heap.size w wr:=HB.out.trans (hw.mono HB.out.size)
     go_wp2_with (first | (go_at_call 48;((with_reducible refine (zK hb (HP2_.out _ (R.below hb))).mono ?_);rintro e w2 ⟨rfl,hk,hb2⟩;replace hw:=hw.trans (hk.mono hw.size);replace hb:=hb2;clear hk hb2)) | (go_at_call 100;first | (((with_reducible refine (zK hb (HG2_.out _ (R.below hb))).mono ?_);rintro e w2 ⟨rfl,hk,hb2⟩;replace hw:=hw.trans (hk.mono hw.size);replace hb:=hb2;clear hk hb2)) | (((with_reducible refine (zK hb (HH2_.out _ (R.below hb))).mono ?_);rintro e w2 ⟨rfl,hk,hb2⟩;replace hw:=hw.trans (hk.mono hw.size);replace hb:=hb2;clear hk hb2))) | (go_at_call 125;((with_reducible refine (zK hb (HD2_.out _ (R.below hb))).mono ?_);rintro e w2 ⟨rfl,hk,hb2⟩;replace hw:=hw.trans (hk.mono hw.size);replace hb:=hb2;clear hk hb2)) | (go_at_call 101;((with_reducible refine (zK hb (HM2_.out _ (R.below hb))).mono ?_);rintro e w2 ⟨rfl,hk,hb2⟩;replace hw:=hw.trans (hk.mono hw.size);replace hb:=hb2;clear hk hb2)))
     go_roundw
     case rel=>exact ⟨Or.inr (Or.inr (Or.inr (⟨rfl,rfl,rfl⟩))),hw⟩
     case measure=>simp [intOf]
   · have hb:Below w.heap.size w wr:=HB.out.trans (hw.mono HB.out.size)
     have Ad:=zC hw HX.out.1
     have Ae:=zC hw HX.out.2.1
     have Af:=zC hw HX.out.2.2
     have a1:=zB hw HA.out
     have Aa:=zC hw HZ.out.1
     have Ab:=zC hw HZ.out.2.1
     have Ac:=zC hw HZ.out.2.2
     have Ag:=zF hw HA.out HF.out.1
     have Ah:=zF hw HA.out HF.out.2.1
     have Ai:=zF hw HA.out HF.out.2.2
     clear hw
     go_wp2_with (first | (go_at_call 126;((with_reducible refine (zK hb (HN_.out _ (R.below hb))).mono ?_);clear hb;rintro e w1 ⟨rfl,hk,hb⟩;replace Ad:=zC hk Ad;replace Ae:=zC hk Ae;replace Af:=zC hk Af;clear Aa Ab Ac Ag Ah Ai;replace a1:=zB hk a1;obtain ⟨Aa,Ag,Ab,Ah,Ac,Ai⟩:=cf3 a1;clear hk)) | (go_at_call 128;((with_reducible refine (zK hb (HE_.out _ (R.below hb))).mono ?_);clear hb;rintro e w1 ⟨rfl,hk,hb⟩;replace Ad:=zC hk Ad;replace Ae:=zC hk Ae;replace Af:=zC hk Af;clear Aa Ab Ac Ag Ah Ai;replace a1:=zB hk a1;obtain ⟨Aa,Ag,Ab,Ah,Ac,Ai⟩:=cf3 a1;clear hk)) | (go_at_call 127;((with_reducible refine (zK hb (HR_.out _ (R.below hb))).mono ?_);clear hb;rintro e w1 ⟨rfl,hk,hb⟩;replace Ad:=zC hk Ad;replace Ae:=zC hk Ae;replace Af:=zC hk Af;clear Aa Ab Ac Ag Ah Ai;replace a1:=zB hk a1;obtain ⟨Aa,Ag,Ab,Ah,Ac,Ai⟩:=cf3 a1;clear hk)))
     refine bodyPost_ret (v:=.tuple #[.agg #[.string p0,.string p1,.string p2],.int .i64 0]) (by simp [results,Tryz.results95,go_sem,Aa,Ab,Ac]) rfl ⟨rfl,?_⟩
     repeat' (first | exact hb | refine Below.setCell ?_ (by first | exact Nat.le_refl _ | (dsimp only;omega)) _)
theorem prim_w2 (a b c nu0 de0 gc0 qu0 re0 dv0 mu0 nu1 de1 gc1 qu1 re1 dv1 mu1 nu2 de2 gc2 qu2 re2 dv2 mu2 fa p0 p1 p2:ByteArray) (_za:(a.toList == [48])=true) (_ya:a.toList=[48]) (_zb:(b.toList == [48])=true) (_yb:b.toList=[48]) (_zc:(c.toList == [48])=false) (_yc:¬ c.toList=[48]) (hC:CV 86 #[.agg #[.string a,.string b,.string c]] (.int .i64 0)) (hP0:CV 48 #[.string a] (.tuple #[.string nu0,.string de0])) (hG0:CV 100 #[.string ⟨#[48]⟩,.string nu0] (.string dv0)) (hH0:CV 100 #[.string ⟨#[49]⟩,.string de0] (.string gc0)) (hD0:CV 125 #[.string de0,.string gc0] (.tuple #[.string qu0,.string re0,.int .i64 0])) (hM0:CV 101 #[.string ⟨#[49]⟩,.string qu0] (.string mu0)) (hP1:CV 48 #[.string b] (.tuple #[.string nu1,.string de1])) (hG1:CV 100 #[.string dv0,.string nu1] (.string dv1)) (hH1:CV 100 #[.string mu0,.string de1] (.string gc1)) (hD1:CV 125 #[.string de1,.string gc1] (.tuple #[.string qu1,.string re1,.int .i64 0])) (hM1:CV 101 #[.string mu0,.string qu1] (.string mu1)) (hP2:CV 48 #[.string c] (.tuple #[.string nu2,.string de2])) (hG2:CV 100 #[.string dv1,.string nu2] (.string dv2)) (hH2:CV 100 #[.string mu1,.string de2] (.string gc2)) (hD2:CV 125 #[.string de2,.string gc2] (.tuple #[.string qu2,.string re2,.int .i64 0])) (hM2:CV 101 #[.string mu1,.string qu2] (.string mu2)) (hN:CV 126 #[.string mu2,.string dv2] (.tuple #[.string fa,.int .i64 0])) (hE:CV 128 #[.agg #[.string a,.string b,.string c],.agg #[.string fa,.string fa,.string fa],.func (Fn.func 23) #[] #[]] (.agg #[.string p0,.string p1,.string p2])) (hR:CV 127 #[.agg #[.string p0,.string p1,.string p2]] (.tuple #[.agg #[.string p0,.string p1,.string p2],.int .i64 0])) (w:World) (R:EnvV w) :
   Calls Tryz.prog 95 #[.agg #[.string a,.string b,.string c]] w (Ret w (.tuple #[.agg #[.string p0,.string p1,.string p2],.int .i64 0])):=by
 have HC_:=Lib.hid hC
 have HP0_:=Lib.hid hP0
 have HG0_:=Lib.hid hG0
 have HH0_:=Lib.hid hH0
 have HD0_:=Lib.hid hD0
 have HM0_:=Lib.hid hM0
 have HP1_:=Lib.hid hP1
 have HG1_:=Lib.hid hG1
 have HH1_:=Lib.hid hH1
 have HD1_:=Lib.hid hD1
 have HM1_:=Lib.hid hM1
 have HP2_:=Lib.hid hP2
 have HG2_:=Lib.hid hG2
 have HH2_:=Lib.hid hH2
 have HD2_:=Lib.hid hD2
 have HM2_:=Lib.hid hM2
 have HN_:=Lib.hid hN
 have HE_:=Lib.hid hE
 have HR_:=Lib.hid hR
 have hix0:∀ w:World,(Instr.index 153 (.agg #[.string a,.string b,.string c]) (.int .i64 0)).run Tryz.prog w = .ok (.string a) w:=fun w=>by kernel_rfl
 have hix1:∀ w:World,(Instr.index 153 (.agg #[.string a,.string b,.string c]) (.int .i64 1)).run Tryz.prog w = .ok (.string b) w:=fun w=>by kernel_rfl
 have hix2:∀ w:World,(Instr.index 153 (.agg #[.string a,.string b,.string c]) (.int .i64 2)).run Tryz.prog w = .ok (.string c) w:=fun w=>by kernel_rfl
 clear hC hP0 hG0 hH0 hD0 hM0 hP1 hG1 hH1 hD1 hM1 hP2 hG2 hH2 hD2 hM2 hN hE hR
 have hb:=Below.refl w.heap.size w
 have Aj:=R.z0
 have Ak:=R.z1
 have Al:=R.z2
 go_enter Tryz.func95,Tryz.ntmps95
 go_upto_region 1 with fail
 refine wp_alloc2 (fun w1 a0 a1 hk=>?_)
 replace Aj:=zC hk Aj
 replace Ak:=zC hk Ak
 replace Al:=zC hk Al
 replace hb:=hb.trans (hk.mono hb.size)
 clear hk
 obtain ⟨Ad,Ae,Af⟩:=ce3 a0
 obtain ⟨Aa,Ag,Ab,Ah,Ac,Ai⟩:=cf3 a1
 clear a0
 go_upto_region 6 with (go_at_call 86;((with_reducible refine (zK hb (HC_.out _ (R.below hb))).mono ?_);clear hb;rintro e w1 ⟨rfl,hk,hb⟩;replace Ad:=zC hk Ad;replace Ae:=zC hk Ae;replace Af:=zC hk Af;replace Aj:=zC hk Aj;replace Ak:=zC hk Ak;replace Al:=zC hk Al;clear Aa Ab Ac Ag Ah Ai;replace a1:=zB hk a1;obtain ⟨Aa,Ag,Ab,Ah,Ac,Ai⟩:=cf3 a1;clear hk))
 clear Aj Ak Al
 go_upto_region 8 with fail
 have HB:=Lib.hid hb
 have HX:=Lib.hid (And.intro Ad (And.intro Ae Af))
 have HF:=Lib.hid (And.intro Ag (And.intro Ah Ai))
 have HZ:=Lib.hid (And.intro Aa (And.intro Ab Ac))
 have HA:=Lib.hid a1
 have hz:w.heap.size+1 < w1.heap.size:=(Array.getElem?_eq_some_iff.1 a1).1
 clear hb Ad Ae Af Aa Ab Ac Ag Ah Ai a1
 go_loopw [33,5,6] (fun i m d wr=>((i = .int .i64 0∧m = .string ⟨#[49]⟩∧d = .string ⟨#[48]⟩)∨(i = .int .i64 1∧m = .string mu0∧d = .string dv0)∨(i = .int .i64 2∧m = .string mu1∧d = .string dv1)∨(i = .int .i64 3∧m = .string mu2∧d = .string dv2))∧Below w1.heap.size w1 wr) (fun i _ _ _=>3 - (intOf i).toNat)
 case atStart=>exact ⟨Or.inl ⟨rfl,rfl,rfl⟩,Below.refl _ _⟩
 case round =>
   obtain ⟨⟨rfl,rfl,rfl⟩ | ⟨rfl,rfl,rfl⟩ | ⟨rfl,rfl,rfl⟩ | ⟨rfl,rfl,rfl⟩,hw⟩:=hrel
   · have hb:Below w.heap.size w wr:=HB.out.trans (hw.mono HB.out.size)
     go_wp2_with (first | (go_at_call 48;((with_reducible refine (zK hb (HP0_.out _ (R.below hb))).mono ?_);rintro e w2 ⟨rfl,hk,hb2⟩;replace hw:=hw.trans (hk.mono hw.size);replace hb:=hb2;clear hk hb2)) | (go_at_call 100;first | (((with_reducible refine (zK hb (HG0_.out _ (R.below hb))).mono ?_);rintro e w2 ⟨rfl,hk,hb2⟩;replace hw:=hw.trans (hk.mono hw.size);replace hb:=hb2;clear hk hb2)) | (((with_reducible refine (zK hb (HH0_.out _ (R.below hb))).mono ?_);rintro e w2 ⟨rfl,hk,hb2⟩;replace hw:=hw.trans (hk.mono hw.size);replace hb:=hb2;clear hk hb2))) | (go_at_call 125;((with_reducible refine (zK hb (HD0_.out _ (R.below hb))).mono ?_);rintro e w2 ⟨rfl,hk,hb2⟩;replace hw:=hw.trans (hk.mono hw.size);replace hb:=hb2;clear hk hb2)) | (go_at_call 101;((with_reducible refine (zK hb (HM0_.out _ (R.below hb))).mono ?_);rintro e w2 ⟨rfl,hk,hb2⟩;replace hw:=hw.trans (hk.mono hw.size);replace hb:=hb2;clear hk hb2)))
     go_roundw
     case rel=>exact ⟨Or.inr (Or.inl ⟨rfl,rfl,rfl⟩),hw⟩
     case measure=>simp [intOf]
   · have hb:Below w.heap.size w wr:=HB.out.trans (hw.mono HB.out.size)
     go_wp2_with (first | (go_at_call 48;((with_reducible refine (zK hb (HP1_.out _ (R.below hb))).mono ?_);rintro e w2 ⟨rfl,hk,hb2⟩;replace hw:=hw.trans (hk.mono hw.size);replace hb:=hb2;clear hk hb2)) | (go_at_call 100;first | (((with_reducible refine (zK hb (HG1_.out _ (R.below hb))).mono ?_);rintro e w2 ⟨rfl,hk,hb2⟩;replace hw:=hw.trans (hk.mono hw.size);replace hb:=hb2;clear hk hb2)) | (((with_reducible refine (zK hb (HH1_.out _ (R.below hb))).mono ?_);rintro e w2 ⟨rfl,hk,hb2⟩;replace hw:=hw.trans (hk.mono hw.size);replace hb:=hb2;clear hk hb2))) | (go_at_call 125;((with_reducible refine (zK hb (HD1_.out _ (R.below hb))).mono ?_);rintro e w2 ⟨rfl,hk,hb2⟩;replace hw:=hw.trans (hk.mono hw.size);replace hb:=hb2;clear hk hb2)) | (go_at_call 101;((with_reducible refine (zK hb (HM1_.out _ (R.below hb))).mono ?_);rintro e w2 ⟨rfl,hk,hb2⟩;replace hw:=hw.trans (hk.mono hw.size);replace hb:=hb2;clear hk hb2)))
     go_roundw
     case rel=>exact ⟨Or.inr (Or.inr (Or.inl ⟨rfl,rfl,rfl⟩)),hw⟩
     case measure=>simp [intOf]
   · have hb:Below w.heap.size w wr:=HB.out.trans (hw.mono HB.out.size)
     go_wp2_with (first | (go_at_call 48;((with_reducible refine (zK hb (HP2_.out _ (R.below hb))).mono ?_);rintro e w2 ⟨rfl,hk,hb2⟩;replace hw:=hw.trans (hk.mono hw.size);replace hb:=hb2;clear hk hb2)) | (go_at_call 100;first | (((with_reducible refine (zK hb (HG2_.out _ (R.below hb))).mono ?_);rintro e w2 ⟨rfl,hk,hb2⟩;replace hw:=hw.trans (hk.mono hw.size);replace hb:=hb2;clear hk hb2)) | (((with_reducible refine (zK hb (HH2_.out _ (R.below hb))).mono ?_);rintro e w2 ⟨rfl,hk,hb2⟩;replace hw:=hw.trans (hk.mono hw.size);replace hb:=hb2;clear hk hb2))) | (go_at_call 125;((with_reducible refine (zK hb (HD2_.out _ (R.below hb))).mono ?_);rintro e w2 ⟨rfl,hk,hb2⟩;replace hw:=hw.trans (hk.mono hw.size);replace hb:=hb2;clear hk hb2)) | (go_at_call 101;((with_reducible refine (zK hb (HM2_.out _ (R.below hb))).mono ?_);rintro e w2 ⟨rfl,hk,hb2⟩;replace hw:=hw.trans (hk.mono hw.size);replace hb:=hb2;clear hk hb2)))
     go_roundw
     case rel=>exact ⟨Or.inr (Or.inr (Or.inr (⟨rfl,rfl,rfl⟩))),hw⟩
     case measure=>simp [intOf]
   · have hb:Below w.heap.size w wr:=HB.out.trans (hw.mono HB.out.size)
     have Ad:=zC hw HX.out.1
     have Ae:=zC hw HX.out.2.1
     have Af:=zC hw HX.out.2.2
     have a1:=zB hw HA.out
     have Aa:=zC hw HZ.out.1
     have Ab:=zC hw HZ.out.2.1
     have Ac:=zC hw HZ.out.2.2
     have Ag:=zF hw HA.out HF.out.1
     have Ah:=zF hw HA.out HF.out.2.1
     have Ai:=zF hw HA.out HF.out.2.2
     clear hw
     go_wp2_with (first | (go_at_call 126;((with_reducible refine (zK hb (HN_.out _ (R.below hb))).mono ?_);clear hb;rintro e w1 ⟨rfl,hk,hb⟩;replace Ad:=zC hk Ad;replace Ae:=zC hk Ae;replace Af:=zC hk Af;clear Aa Ab Ac Ag Ah Ai;replace a1:=zB hk a1;obtain ⟨Aa,Ag,Ab,Ah,Ac,Ai⟩:=cf3 a1;clear hk)) | (go_at_call 128;((with_reducible refine (zK hb (HE_.out _ (R.below hb))).mono ?_);clear hb;rintro e w1 ⟨rfl,hk,hb⟩;replace Ad:=zC hk Ad;replace Ae:=zC hk Ae;replace Af:=zC hk Af;clear Aa Ab Ac Ag Ah Ai;replace a1:=zB hk a1;obtain ⟨Aa,Ag,Ab,Ah,Ac,Ai⟩:=cf3 a1;clear hk)) | (go_at_call 127;((with_reducible refine (zK hb (HR_.out _ (R.below hb))).mono ?_);clear hb;rintro e w1 ⟨rfl,hk,hb⟩;replace Ad:=zC hk Ad;replace Ae:=zC hk Ae;replace Af:=zC hk Af;clear Aa Ab Ac Ag Ah Ai;replace a1:=zB hk a1;obtain ⟨Aa,Ag,Ab,Ah,Ac,Ai⟩:=cf3 a1;clear hk)))
     refine bodyPost_ret (v:=.tuple #[.agg #[.string p0,.string p1,.string p2],.int .i64 0]) (by simp [results,Tryz.results95,go_sem,Aa,Ab,Ac]) rfl ⟨rfl,?_⟩
     repeat' (first | exact hb | refine Below.setCell ?_ (by first | exact Nat.le_refl _ | (dsimp only;omega)) _)
theorem RN.up {q:Rat} {n d N D:Nat} (h:RN q n d) (h1:n≤N) (h2:d≤D):RN q N D:=⟨Nat.le_trans h.1 h1,Nat.le_trans h.2 h2⟩
theorem gcd_small (a b N:Nat) (ha:a < N) (hb:b < N):Nat.gcd a b < N:=by
 by_cases h:a=0
 · subst h;rw [Nat.gcd_zero_left];exact hb
 · exact Nat.lt_of_le_of_lt (Nat.gcd_le_left _ (by omega)) ha
theorem dlen_gcd2 (a b K:Nat) (hK:0 < K) (ha:dlen (a:Int)≤K) (hb:dlen (b:Int)≤K):dlen ((Nat.gcd a b:Nat):Int)≤K:=
 dlen_le _ K hK (gcd_small a b _ (by have:=dlen_lt _ K ha;rwa [Int.natAbs_natCast] at this) (by have:=dlen_lt _ K hb;rwa [Int.natAbs_natCast] at this))
theorem dlen_lcm (a b K M:Nat) (_hK:0 < K) (ha0:0 < a) (hb0:0 < b) (ha:dlen (a:Int)≤K) (hb:dlen (b:Int)≤M):dlen ((Nat.lcm a b:Nat):Int)≤K+M:=by
 have h1:=dlen_mul (a:Int) (b:Int) K M (by omega) ha hb
 have h2:Nat.lcm a b≤a*b:=Nat.le_of_dvd (Nat.mul_pos ha0 hb0) (Nat.lcm_dvd (Nat.dvd_mul_right ..) (Nat.dvd_mul_left ..))
 have h3:=dlen_lt _ _ h1
 rw [← Int.natCast_mul,Int.natAbs_natCast] at h3
 exact dlen_le _ _ (by omega) (by rw [Int.natAbs_natCast];omega)
theorem dlen_abs (n:Int):dlen (n.natAbs:Int)=dlen n:=by unfold dlen;rw [Int.natAbs_natCast]
theorem RN_prim {a b c:Rat} {n d:Nat} (nz:a≠0∨b≠0∨c≠0) (hn:0 < n) (hd:0 < d) (ha:RN a n d) (hb:RN b n d) (hc:RN c n d):RN (primF a b c) (d+d+d) n:=by
 have h1:=primD_pos a b c nz
 refine RN_mk _ _ _ _ (by omega) hn (by omega) ?_ ?_
 · exact dlen_lcm _ _ _ _ (by omega) (Nat.lcm_pos a.den_pos b.den_pos) c.den_pos (dlen_lcm _ _ _ _ hd a.den_pos b.den_pos ha.2 hb.2) hc.2
 · exact dlen_gcd2 _ _ _ hn (dlen_gcd2 _ _ _ hn (by rw [dlen_abs];exact ha.1) (by rw [dlen_abs];exact hb.1)) (by rw [dlen_abs];exact hc.1)
theorem lcm_step (m d:Nat):(m:Int)*((d / Nat.gcd m d:Nat):Int)=((Nat.lcm m d:Nat):Int):=by
 rw [← Int.natCast_mul]
 congr 1
 unfold Nat.lcm
 exact (Nat.mul_div_assoc _ (Nat.gcd_dvd_right ..)).symm
theorem i_gcd (x y:Nat) (hx:dlen (x:Int)≤40000) (hy:dlen (y:Int)≤40000) (w:World) (E:Env w) :
   Calls Tryz.prog 100 #[.string (itoaB (x:Int)),.string (itoaB (y:Int))] w (Ret w (.string (itoaB ((Nat.gcd x y:Nat):Int)))):=by
 have:=gcd_any (x:Int) (y:Int) w E hx hy
 rwa [Int.natAbs_natCast,Int.natAbs_natCast] at this
theorem i_gcdn (x:Nat) (y:Int) (hx:dlen (x:Int)≤40000) (hy:dlen y≤40000) (w:World) (E:Env w) :
   Calls Tryz.prog 100 #[.string (itoaB (x:Int)),.string (itoaB y)] w (Ret w (.string (itoaB ((Nat.gcd x y.natAbs:Nat):Int)))):=by
 have:=gcd_any (x:Int) y w E hx hy
 rwa [Int.natAbs_natCast] at this
theorem i_div (d g:Nat) (_hg:0 < g) (hd:dlen (d:Int)≤40000) (hgl:dlen (g:Int)≤40000) (w:World) (E:Env w) :
   Calls Tryz.prog 125 #[.string (itoaB (d:Int)),.string (itoaB (g:Int))] w (Ret w (.tuple #[.string (itoaB ((d / g:Nat):Int)),.string (itoaB ((d:Int) % (g:Int))),.int .i64 0])):=by
 have:=divMod_any (d:Int) (g:Int) w E hd hgl (by omega)
 rwa [← Int.natCast_ediv] at this
theorem i_mul (m d:Nat) (hm:dlen (m:Int)≤40000) (hd:dlen ((d / Nat.gcd m d:Nat):Int)≤40000) (w:World) (E:Env w) :
   Calls Tryz.prog 101 #[.string (itoaB (m:Int)),.string (itoaB ((d / Nat.gcd m d:Nat):Int))] w (Ret w (.string (itoaB ((Nat.lcm m d:Nat):Int)))):=by
 have:=mul_any (m:Int) ((d / Nat.gcd m d:Nat):Int) w E hm hd
 rwa [lcm_step] at this
theorem dlen_quot (d g K:Nat) (hK:0 < K) (hd:dlen (d:Int)≤K):dlen ((d / g:Nat):Int)≤K:=
 dlen_le _ K hK (by have:=dlen_lt _ K hd;rw [Int.natAbs_natCast] at this ⊢;exact Nat.lt_of_le_of_lt (Nat.div_le_self ..) this)
theorem it_0 : itoaB ((0:Nat):Int)=⟨#[48]⟩:=by decide +kernel
theorem it_1 : itoaB ((1:Nat):Int)=⟨#[49]⟩:=by decide +kernel
theorem prim_any (a b c:Rat) (nz:a≠0∨b≠0∨c≠0) (ra:RL a 200) (rb:RL b 200) (rc:RL c 200) (s1:RL (a*primF a b c) 200) (s2:RL (b*primF a b c) 200) (s3:RL (c*primF a b c) 200) (w:World) (R:EnvV w) :
   Calls Tryz.prog 95 #[.agg #[.string (ratB a),.string (ratB b),.string (ratB c)]] w (Ret w (.tuple #[.agg #[.string (ratB (a*primF a b c)),.string (ratB (b*primF a b c)),.string (ratB (c*primF a b c))],.int .i64 0])):=by
 have nF:RN (primF a b c) 600 200:=RN_prim nz (by decide) (by decide) ra rb rc
 have rF:RL (primF a b c) 10000:=nF.rl
 have kd:∀ n:Nat,dlen (n:Int)≤200→dlen (n:Int)≤40000:=fun n h=>Nat.le_trans h (by decide)
 have ga:dlen ((Nat.gcd 0 a.num.natAbs:Nat):Int)≤200:=dlen_gcd2 _ _ _ (by decide) (by decide +kernel) (by rw [dlen_abs];exact ra.1)
 have gb:dlen ((Nat.gcd (Nat.gcd 0 a.num.natAbs) b.num.natAbs:Nat):Int)≤200:=dlen_gcd2 _ _ _ (by decide) ga (by rw [dlen_abs];exact rb.1)
 have l1:dlen ((Nat.lcm 1 a.den:Nat):Int)≤1+200:=dlen_lcm _ _ _ _ (by decide) (by decide) a.den_pos (by decide +kernel) ra.2
 have p1:0 < Nat.lcm 1 a.den:=Nat.lcm_pos (by decide) a.den_pos
 have l2:dlen ((Nat.lcm (Nat.lcm 1 a.den) b.den:Nat):Int)≤1+200+200:=dlen_lcm _ _ _ _ (by decide) p1 b.den_pos l1 rb.2
 have p2:0 < Nat.lcm (Nat.lcm 1 a.den) b.den:=Nat.lcm_pos p1 b.den_pos
 have l3:dlen ((Nat.lcm (Nat.lcm (Nat.lcm 1 a.den) b.den) c.den:Nat):Int)≤1+200+200+200:=dlen_lcm _ _ _ _ (by decide) p2 c.den_pos l2 rc.2
 have gp:∀ m d:Nat,0 < d→0 < Nat.gcd m d:=fun m d h=>Nat.gcd_pos_of_pos_right _ h
 have gl:∀ m d:Nat,0 < d→dlen (d:Int)≤200→dlen ((Nat.gcd m d:Nat):Int)≤40000:=fun m d h0 h=>by
   have h2:=dlen_lt _ _ h
   rw [Int.natAbs_natCast] at h2
   exact Nat.le_trans (dlen_le _ 200 (by decide) (by rw [Int.natAbs_natCast];exact Nat.lt_of_le_of_lt (Nat.gcd_le_right _ h0) h2)) (by decide)
 have ql:∀ m d:Nat,dlen (d:Int)≤200→dlen ((d / Nat.gcd m d:Nat):Int)≤40000:=fun m d h=>Nat.le_trans (dlen_quot d _ 200 (by decide) h) (by decide)
 have eD:Nat.gcd (Nat.gcd (Nat.gcd 0 a.num.natAbs) b.num.natAbs) c.num.natAbs=primD a b c:=by rw [Nat.gcd_zero_left];rfl
 have eM:Nat.lcm (Nat.lcm (Nat.lcm 1 a.den) b.den) c.den=primM a b c:=by rw [Nat.lcm_one_left];rfl
 have hG0:CV 100 #[.string ⟨#[48]⟩,.string (itoaB a.num)] (.string (itoaB ((Nat.gcd 0 a.num.natAbs:Nat):Int))):=fun w R=>by
   have h:=i_gcdn 0 a.num (by decide +kernel) (Nat.le_trans ra.1 (by decide)) w R.env
   rwa [it_0] at h
 have hH0:CV 100 #[.string ⟨#[49]⟩,.string (itoaB (a.den:Int))] (.string (itoaB ((Nat.gcd 1 a.den:Nat):Int))):=fun w R=>by
   have h:=i_gcd 1 a.den (by decide +kernel) (kd _ ra.2) w R.env
   rwa [it_1] at h
 have hM0:CV 101 #[.string ⟨#[49]⟩,.string (itoaB ((a.den / Nat.gcd 1 a.den:Nat):Int))] (.string (itoaB ((Nat.lcm 1 a.den:Nat):Int))):=fun w R=>by
   have h:=i_mul 1 a.den (by decide +kernel) (ql _ _ ra.2) w R.env
   rwa [it_1] at h
 have hN:CV 126 #[.string (itoaB ((Nat.lcm (Nat.lcm (Nat.lcm 1 a.den) b.den) c.den:Nat):Int)),.string (itoaB ((Nat.gcd (Nat.gcd (Nat.gcd 0 a.num.natAbs) b.num.natAbs) c.num.natAbs:Nat):Int))] (.tuple #[.string (ratB (primF a b c)),.int .i64 0]):=fun w R=>by
   have h:=rnew_any (primM a b c:Int) (primD a b c:Int) w R.toEnvR (by rw [← eM];exact Nat.le_trans l3 (by decide)) (Nat.le_trans (dlen_gcd2 _ _ 200 (by decide) (dlen_gcd2 _ _ 200 (by decide) (by rw [dlen_abs];exact ra.1) (by rw [dlen_abs];exact rb.1)) (by rw [dlen_abs];exact rc.1)) (by decide)) (by have:=primD_pos a b c nz;omega)
   rw [eM,eD];exact h
 by_cases z0:a=0
 · by_cases z1:b=0
   · have z2:c≠0:=fun h=>nz.elim (fun k=>k z0) (fun k=>k.elim (fun k=>k z1) (fun k=>k h))
     exact prim_w2 _ _ _ _ _ _ _ _ _ _ _ _ _ _ _ _ _ _ _ _ _ _ _ _ _ _ _ _ ((ratB_eq_zero a).trans (decide_eq_true z0)) ((zero_iff _).2 z0) ((ratB_eq_zero b).trans (decide_eq_true z1)) ((zero_iff _).2 z1) ((ratB_eq_zero c).trans (decide_eq_false z2)) (fun h=>z2 ((zero_iff _).1 h)) (fun w R=>vcheck_ok a b c (RN.rl (K:=200) ra) (RN.rl (K:=200) rb) (RN.rl (K:=200) rc) w R.toEnvR) (fun w R=>rparts_any a w R.toEnvR (ra.mono (by decide))) hG0 hH0 (fun w R=>i_div a.den _ (gp _ _ a.den_pos) (kd _ ra.2) (gl _ _ a.den_pos ra.2) w R.env) hM0 (fun w R=>rparts_any b w R.toEnvR (rb.mono (by decide))) (fun w R=>i_gcdn _ b.num (kd _ ga) (Nat.le_trans rb.1 (by decide)) w R.env) (fun w R=>i_gcd _ b.den (Nat.le_trans l1 (by decide)) (kd _ rb.2) w R.env) (fun w R=>i_div b.den _ (gp _ _ b.den_pos) (kd _ rb.2) (gl _ _ b.den_pos rb.2) w R.env) (fun w R=>i_mul _ b.den (Nat.le_trans l1 (by decide)) (ql _ _ rb.2) w R.env) (fun w R=>rparts_any c w R.toEnvR (rc.mono (by decide))) (fun w R=>i_gcdn _ c.num (kd _ gb) (Nat.le_trans rc.1 (by decide)) w R.env) (fun w R=>i_gcd _ c.den (Nat.le_trans l2 (by decide)) (kd _ rc.2) w R.env) (fun w R=>i_div c.den _ (gp _ _ c.den_pos) (kd _ rc.2) (gl _ _ c.den_pos rc.2) w R.env) (fun w R=>i_mul _ c.den (Nat.le_trans l2 (by decide)) (ql _ _ rc.2) w R.env) hN (fun w R=>each_Mul a b c (primF a b c) (primF a b c) (primF a b c) (RN.rl (K:=10000) ra) (RN.rl (K:=10000) nF) (RN.rl (K:=10000) rb) (RN.rl (K:=10000) nF) (RN.rl (K:=10000) rc) (RN.rl (K:=10000) nF) w R.toEnvR) (fun w R=>result_V (a*primF a b c) (b*primF a b c) (c*primF a b c) (RN.rl (K:=200) s1) (RN.rl (K:=200) s2) (RN.rl (K:=200) s3) w R.toEnvR) w R
   · exact prim_w1 _ _ _ _ _ _ _ _ _ _ _ _ _ _ _ _ _ _ _ _ _ _ _ _ _ _ _ _ ((ratB_eq_zero a).trans (decide_eq_true z0)) ((zero_iff _).2 z0) ((ratB_eq_zero b).trans (decide_eq_false z1)) (fun h=>z1 ((zero_iff _).1 h)) (fun w R=>vcheck_ok a b c (RN.rl (K:=200) ra) (RN.rl (K:=200) rb) (RN.rl (K:=200) rc) w R.toEnvR) (fun w R=>rparts_any a w R.toEnvR (ra.mono (by decide))) hG0 hH0 (fun w R=>i_div a.den _ (gp _ _ a.den_pos) (kd _ ra.2) (gl _ _ a.den_pos ra.2) w R.env) hM0 (fun w R=>rparts_any b w R.toEnvR (rb.mono (by decide))) (fun w R=>i_gcdn _ b.num (kd _ ga) (Nat.le_trans rb.1 (by decide)) w R.env) (fun w R=>i_gcd _ b.den (Nat.le_trans l1 (by decide)) (kd _ rb.2) w R.env) (fun w R=>i_div b.den _ (gp _ _ b.den_pos) (kd _ rb.2) (gl _ _ b.den_pos rb.2) w R.env) (fun w R=>i_mul _ b.den (Nat.le_trans l1 (by decide)) (ql _ _ rb.2) w R.env) (fun w R=>rparts_any c w R.toEnvR (rc.mono (by decide))) (fun w R=>i_gcdn _ c.num (kd _ gb) (Nat.le_trans rc.1 (by decide)) w R.env) (fun w R=>i_gcd _ c.den (Nat.le_trans l2 (by decide)) (kd _ rc.2) w R.env) (fun w R=>i_div c.den _ (gp _ _ c.den_pos) (kd _ rc.2) (gl _ _ c.den_pos rc.2) w R.env) (fun w R=>i_mul _ c.den (Nat.le_trans l2 (by decide)) (ql _ _ rc.2) w R.env) hN (fun w R=>each_Mul a b c (primF a b c) (primF a b c) (primF a b c) (RN.rl (K:=10000) ra) (RN.rl (K:=10000) nF) (RN.rl (K:=10000) rb) (RN.rl (K:=10000) nF) (RN.rl (K:=10000) rc) (RN.rl (K:=10000) nF) w R.toEnvR) (fun w R=>result_V (a*primF a b c) (b*primF a b c) (c*primF a b c) (RN.rl (K:=200) s1) (RN.rl (K:=200) s2) (RN.rl (K:=200) s3) w R.toEnvR) w R
 · exact prim_w0 _ _ _ _ _ _ _ _ _ _ _ _ _ _ _ _ _ _ _ _ _ _ _ _ _ _ _ _ ((ratB_eq_zero a).trans (decide_eq_false z0)) (fun h=>z0 ((zero_iff _).1 h)) (fun w R=>vcheck_ok a b c (RN.rl (K:=200) ra) (RN.rl (K:=200) rb) (RN.rl (K:=200) rc) w R.toEnvR) (fun w R=>rparts_any a w R.toEnvR (ra.mono (by decide))) hG0 hH0 (fun w R=>i_div a.den _ (gp _ _ a.den_pos) (kd _ ra.2) (gl _ _ a.den_pos ra.2) w R.env) hM0 (fun w R=>rparts_any b w R.toEnvR (rb.mono (by decide))) (fun w R=>i_gcdn _ b.num (kd _ ga) (Nat.le_trans rb.1 (by decide)) w R.env) (fun w R=>i_gcd _ b.den (Nat.le_trans l1 (by decide)) (kd _ rb.2) w R.env) (fun w R=>i_div b.den _ (gp _ _ b.den_pos) (kd _ rb.2) (gl _ _ b.den_pos rb.2) w R.env) (fun w R=>i_mul _ b.den (Nat.le_trans l1 (by decide)) (ql _ _ rb.2) w R.env) (fun w R=>rparts_any c w R.toEnvR (rc.mono (by decide))) (fun w R=>i_gcdn _ c.num (kd _ gb) (Nat.le_trans rc.1 (by decide)) w R.env) (fun w R=>i_gcd _ c.den (Nat.le_trans l2 (by decide)) (kd _ rc.2) w R.env) (fun w R=>i_div c.den _ (gp _ _ c.den_pos) (kd _ rc.2) (gl _ _ c.den_pos rc.2) w R.env) (fun w R=>i_mul _ c.den (Nat.le_trans l2 (by decide)) (ql _ _ rc.2) w R.env) hN (fun w R=>each_Mul a b c (primF a b c) (primF a b c) (primF a b c) (RN.rl (K:=10000) ra) (RN.rl (K:=10000) nF) (RN.rl (K:=10000) rb) (RN.rl (K:=10000) nF) (RN.rl (K:=10000) rc) (RN.rl (K:=10000) nF) w R.toEnvR) (fun w R=>result_V (a*primF a b c) (b*primF a b c) (c*primF a b c) (RN.rl (K:=200) s1) (RN.rl (K:=200) s2) (RN.rl (K:=200) s3) w R.toEnvR) w R
end Go.Proofs.YtejfiegmdllfbaaGreatDoor.Kl
